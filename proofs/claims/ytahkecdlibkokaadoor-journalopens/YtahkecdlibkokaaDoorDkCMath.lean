/- What a crash leaves of each file. -/
import Derived.Test.YtahkecdlibkokaaDoorDkAMath
set_option linter.unusedVariables false
set_option maxRecDepth 100000
namespace DiskMath

def left (d : DS) (keep : Nat) : Nat → Nat
  | 0 => keep
  | k + 1 => left d keep k - stay d k (left d keep k)
def unsafeTo (d : DS) : Nat → Nat
  | 0 => 0
  | k + 1 => unsafeTo d k + ((d.F k).length - d.S k)
def keptTo (d : DS) (keep : Nat) : Nat → Nat
  | 0 => 0
  | k + 1 => keptTo d keep k + stay d k (left d keep k)
theorem crs_is (d : DS) (keep : Nat) : ∀ k, (crs d keep k).2 = left d keep k ∧ (∀ j, j < k → (crs d keep k).1.F j = (d.F j).take (d.S j + stay d j (left d keep j)) ∧ (crs d keep k).1.S j = d.S j + stay d j (left d keep j)) ∧ (∀ j, k ≤ j → (crs d keep k).1.F j = d.F j ∧ (crs d keep k).1.S j = d.S j)
  | 0 => ⟨rfl, fun j h => by omega, fun j _ => ⟨rfl, rfl⟩⟩
  | k + 1 => by
    obtain ⟨h1, h2, h3⟩ := crs_is d keep k
    have hk := h3 k (Nat.le_refl _)
    have hs : stay (crs d keep k).1 k (crs d keep k).2 = stay d k (left d keep k) := by unfold stay; rw [hk.1, hk.2, h1]
    have e1 : (crs d keep (k + 1)).1 = cr (crs d keep k).1 k (crs d keep k).2 := rfl
    refine ⟨?_, fun j hj => ?_, fun j hj => ?_⟩
    · show (crs d keep k).2 - stay (crs d keep k).1 k (crs d keep k).2 = left d keep k - stay d k (left d keep k)
      rw [hs, h1]
    · rw [e1]
      unfold cr
      by_cases e : j = k
      · subst e
        simp only [upd_same]
        rw [hs, hk.1, hk.2]
        exact ⟨rfl, rfl⟩
      · simp only [upd_other _ _ _ _ e]
        exact h2 j (by omega)
    · have e : j ≠ k := by omega
      rw [e1]
      unfold cr
      simp only [upd_other _ _ _ _ e]
      exact h3 j (by omega)
theorem crash_file (d : DS) (keep i : Nat) (hi : i < 4) : (crash d keep).F i = (d.F i).take (d.S i + stay d i (left d keep i)) ∧ (crash d keep).S i = d.S i + stay d i (left d keep i) := (crs_is d keep 4).2.1 i hi
theorem kept_is (d : DS) (keep : Nat) : ∀ k, keptTo d keep k + left d keep k = keep ∧ keptTo d keep k = min keep (unsafeTo d k)
  | 0 => by simp [keptTo, left, unsafeTo]
  | k + 1 => by
    obtain ⟨h1, h2⟩ := kept_is d keep k
    have e1 : keptTo d keep (k + 1) = keptTo d keep k + stay d k (left d keep k) := rfl
    have e2 : left d keep (k + 1) = left d keep k - stay d k (left d keep k) := rfl
    have e3 : unsafeTo d (k + 1) = unsafeTo d k + ((d.F k).length - d.S k) := rfl
    have e4 : stay d k (left d keep k) = min (left d keep k) ((d.F k).length - d.S k) := rfl
    rw [e1, e2, e3, e4]
    omega
theorem unsafe_le (d : DS) : ∀ k, unsafeTo d k ≤ usedTo d k
  | 0 => Nat.le_refl _
  | k + 1 => by
    have := unsafe_le d k
    unfold unsafeTo usedTo
    omega
/-- All that is told of a file behind a crash. -/
theorem crash_tells (d : DS) (h : Ok d) (keep i : Nat) (hi : i < 4) : ((crash d keep).F i).length ≤ (d.F i).length ∧ (d.F i).take ((crash d keep).F i).length = (crash d keep).F i ∧ d.S i ≤ ((crash d keep).F i).length ∧
    (crash d keep).S i = ((crash d keep).F i).length ∧ keptTo d keep (i + 1) + d.S i = keptTo d keep i + ((crash d keep).F i).length ∧ unsafeTo d (i + 1) + d.S i = unsafeTo d i + (d.F i).length := by
  obtain ⟨h1, h2⟩ := crash_file d keep i hi
  have h3 := stay_le d i (left d keep i) (h.safe i hi)
  have h4 := h.safe i hi
  have hl : ((crash d keep).F i).length = d.S i + stay d i (left d keep i) := by rw [h1, List.length_take]; omega
  refine ⟨by omega, ?_, by omega, by omega, ?_, ?_⟩
  · rw [hl, h1]
  · show keptTo d keep i + stay d i (left d keep i) + d.S i = _
    omega
  · show unsafeTo d i + ((d.F i).length - d.S i) + d.S i = _
    omega
theorem crash_twice (d : DS) (h : Ok d) (keep again i : Nat) (hi : i < 4) : (crash (crash d keep) again).F i = (crash d keep).F i ∧ (crash (crash d keep) again).S i = (crash d keep).S i := by
  have h1 := crash_tells d h keep i hi
  obtain ⟨h2, h3⟩ := crash_file (crash d keep) again i hi
  have h4 : stay (crash d keep) i (left (crash d keep) again i) = 0 := by unfold stay; omega
  rw [h2, h3, h4]
  refine ⟨?_, rfl⟩
  rw [Nat.add_zero, h1.2.2.2.1, List.take_length]
theorem kept_all (d : DS) (keep : Int) : (keptTo d keep.toNat 4 : Int) = min (max keep 0) (unsafeTo d 4 : Int) := by
  have := (kept_is d keep.toNat 4).2
  omega
theorem kept_le (d : DS) (h : Ok d) (keep k : Nat) (hk : k ≤ 4) : keptTo d keep k ≤ 1048576 ∧ unsafeTo d k ≤ 1048576 := by
  have h1 := (kept_is d keep k).2
  have h2 := unsafe_le d k
  have h3 := usedTo_le d k hk
  have h4 := h.room
  have h5 := h.most
  omega
end DiskMath
