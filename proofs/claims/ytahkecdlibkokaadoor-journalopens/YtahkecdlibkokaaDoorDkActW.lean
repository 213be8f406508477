/- The calls on a disk, whatever their arguments are; what stays as it was. -/
import Derived.Test.YtahkecdlibkokaaDoorDkCrashW
import Derived.Test.YtahkecdlibkokaaDoorDkReadW
import Derived.Test.YtahkecdlibkokaaDoorDkAMath
set_option linter.unusedVariables false
set_option maxRecDepth 100000
namespace Go.Proofs.YtahkecdlibkokaaDoor.Dk
open Go.RowKit
open DiskMath

/-- A disk none of whose blocks is among those of T; and those are as they were in w. -/
def DIn (T : Nat → Prop) (w : World) (b : Nat) (d : DS) (w' : World) : Prop :=
  ∃ V, PDisk w' b V d ∧ (∀ k, fp b V k → k < w.heap.size → ¬ T k) ∧ Chg (fun k => ¬ T k) w w'
theorem pok_din {T : Nat → Prop} {w w1 w2 : World} {b : Nat} {V : Nat → Value} {d' : DS} (hB : ∀ k, fp b V k → k < w.heap.size → ¬ T k) (hb : Chg (fun k => ¬ T k) w w1) (h : POk w1 b V d' w2) : DIn T w b d' w2 := by
  obtain ⟨V', hP, hc, hf⟩ := h
  refine ⟨V', hP, fun k hk hlt => ?_, hb.trans hc (fun k hk hfk => hB k hfk hk)⟩
  rcases hf k hk with h1 | h1
  · exact hB k h1 hlt
  · have := hb.size; omega
theorem din_below {T : Nat → Prop} {w w1 w2 : World} {b : Nat} {d : DS} (h : DIn T w b d w1) (hb : Below w1.heap.size w1 w2) : DIn T w b d w2 := by
  obtain ⟨V, hP, hB, h1⟩ := h
  exact ⟨V, pdisk_below hP hb, hB, h1.trans (chg_below (S := fun _ => False) hb) (fun _ _ h => h.elim)⟩
theorem din_of_dat {B : Nat} {w w1 : World} {b : Nat} {d : DS} (h : DAt B w b d w1) (hB : B ≤ w.heap.size) : DIn (fun k => k < B) w b d w1 := by
  obtain ⟨V, hP, hf, hb⟩ := h
  exact ⟨V, hP, fun k hk _ hlt => by have := hf k hk; omega, ⟨hb.os, hb.tape, hb.output, hb.size, fun k _ hn => hb.block k (Classical.not_not.1 hn)⟩⟩
theorem below_of_din {B : Nat} {w w1 : World} {b : Nat} {d : DS} (h : DIn (fun k => k < B) w b d w1) (hB : B ≤ w.heap.size) : Below B w w1 := by
  obtain ⟨V, _, _, hc⟩ := h
  exact ⟨hc.os, hc.tape, hc.output, hc.size, fun k hk => hc.block k (by omega) (fun hn => hn hk)⟩
theorem din_same {T : Nat → Prop} {w w1 w2 : World} {b : Nat} {d : DS} (h : DIn T w b d w1) (e : w2 = w1) : DIn T w b d w2 := by rw [e]; exact h
theorem din_drewN {T : Nat → Prop} {w w1 w2 : World} {b : Nat} {d : DS} (h : DIn T w b d w1) (e : ∃ q, w2 = w1.drewN q) : DIn T w b d w2 := by
  obtain ⟨q, rfl⟩ := e
  exact din_below h (below_drewN (Below.refl _ _) q)

theorem append_all {T : Nat → Prop} {w w1 : World} {b : Nat} {d : DS} (f : Int) (s : ByteArray) (hs : s.size ≤ 140737488355328) (hD : DIn T w b d w1) (hk : Ok d) :
    Calls Tryd.prog 40 #[.pointer (some ⟨b, 0, none⟩), .int .i64 f, .string s] w1 fun e w' => e = .returned (.int .i64 (aApp d f s.data.toList).2) ∧ DIn T w b (aApp d f s.data.toList).1 w' := by
  unfold aApp
  rw [size_data]
  by_cases h1 : bad f
  · rw [if_pos h1]
    exact (append_bad _ f s h1 w1).mono fun e w' ⟨k1, k2⟩ => ⟨k1, din_same hD k2⟩
  · rw [if_neg h1]
    unfold bad at h1
    obtain ⟨i, rfl⟩ := Int.eq_ofNat_of_zero_le (show 0 ≤ f by omega)
    rw [show ((i : Int)).toNat = i from rfl]
    obtain ⟨V, hP, hB, hb⟩ := hD
    by_cases h2 : d.R < used d + s.size
    · rw [if_pos h2]
      exact (append_full w1 b V d i s (by omega) hP hk hs h2).mono fun e w' ⟨k1, k2⟩ => ⟨k1, din_drewN ⟨V, hP, hB, hb⟩ k2⟩
    · rw [if_neg h2]
      exact (append_any w1 b V d i s (by omega) hP hk (by omega)).mono fun e w' ⟨k1, k2⟩ => ⟨k1, pok_din hB hb k2⟩
theorem sync_all {T : Nat → Prop} {w w1 : World} {b : Nat} {d : DS} (f : Int) (hD : DIn T w b d w1) :
    Calls Tryd.prog 41 #[.pointer (some ⟨b, 0, none⟩), .int .i64 f] w1 fun e w' => e = .returned (.int .i64 (aSyn d f).2) ∧ DIn T w b (aSyn d f).1 w' := by
  unfold aSyn
  by_cases h1 : bad f
  · rw [if_pos h1]
    exact (sync_bad _ f h1 w1).mono fun e w' ⟨k1, k2⟩ => ⟨k1, din_same hD k2⟩
  · rw [if_neg h1]
    unfold bad at h1
    obtain ⟨i, rfl⟩ := Int.eq_ofNat_of_zero_le (show 0 ≤ f by omega)
    obtain ⟨V, hP, hB, hb⟩ := hD
    exact (sync_any w1 b V d i (by omega) hP).mono fun e w' ⟨k1, k2⟩ => ⟨k1, pok_din hB hb k2⟩
theorem cut_all {T : Nat → Prop} {w w1 : World} {b : Nat} {d : DS} (f n : Int) (hD : DIn T w b d w1) (hk : Ok d) :
    Calls Tryd.prog 48 #[.pointer (some ⟨b, 0, none⟩), .int .i64 f, .int .i64 n] w1 fun e w' => e = .returned (.int .i64 (aCut d f n).2) ∧ DIn T w b (aCut d f n).1 w' := by
  unfold aCut
  by_cases h1 : bad f
  · rw [if_pos h1]
    exact (cut_bad _ f n h1 w1).mono fun e w' ⟨k1, k2⟩ => ⟨k1, din_same hD k2⟩
  · rw [if_neg h1]
    unfold bad at h1
    obtain ⟨i, rfl⟩ := Int.eq_ofNat_of_zero_le (show 0 ≤ f by omega)
    rw [show ((i : Int)).toNat = i from rfl]
    obtain ⟨V, hP, hB, hb⟩ := hD
    by_cases h2 : n < 0 ∨ ((d.F i).length : Int) < n
    · rw [if_pos h2]
      exact (cut_arg w1 b V d i n (by omega) hP hk h2).mono fun e w' ⟨k1, k2⟩ => ⟨k1, din_same ⟨V, hP, hB, hb⟩ k2⟩
    · rw [if_neg h2]
      obtain ⟨m, rfl⟩ := Int.eq_ofNat_of_zero_le (show 0 ≤ n by omega)
      exact (cut_any w1 b V d i m (by omega) hP hk (by omega)).mono fun e w' ⟨k1, k2⟩ => ⟨k1, pok_din hB hb k2⟩
theorem crash_all {T : Nat → Prop} {w w1 : World} {b : Nat} {d : DS} (n : Int) (hn : -9223372036854775808 ≤ n ∧ n ≤ 9223372036854775807) (hD : DIn T w b d w1) (hk : Ok d) :
    Calls Tryd.prog 22 #[.pointer (some ⟨b, 0, none⟩), .int .i64 n] w1 fun e w' => e = .returned (.tuple #[]) ∧ DIn T w b (crash d n.toNat) w' := by
  obtain ⟨V, hP, hB, hb⟩ := hD
  exact (crash_any w1 b V d n hP hk hn).mono fun e w' ⟨k1, k2⟩ => ⟨k1, pok_din hB hb k2⟩
theorem read_all {T : Nat → Prop} {w w1 : World} {b : Nat} {d : DS} (i : Nat) (hi : i < 4) (hD : DIn T w b d w1) (hk : Ok d) :
    Calls Tryd.prog 33 #[.pointer (some ⟨b, 0, none⟩), .int .i64 (i : Int)] w1 fun e w' => e = .returned (.tuple #[.string ⟨(d.F i).toArray⟩, .int .i64 0]) ∧ DIn T w b d w' :=
  (read_any w1 b _ d i hi hD.choose_spec.1 hk).mono fun e w' ⟨k1, k2⟩ => ⟨k1, din_below hD k2⟩
theorem size_all {T : Nat → Prop} {w w1 : World} {b : Nat} {d : DS} (i : Nat) (hi : i < 4) (hD : DIn T w b d w1) :
    Calls Tryd.prog 20 #[.pointer (some ⟨b, 0, none⟩), .int .i64 (i : Int)] w1 fun e w' => e = .returned (.tuple #[.int .i64 ((d.F i).length : Int), .int .i64 (d.S i : Int), .int .i64 0]) ∧ DIn T w b d w' :=
  (size_any w1 b _ d i hi hD.choose_spec.1).mono fun e w' ⟨k1, k2⟩ => ⟨k1, din_drewN hD k2⟩
theorem used_all {T : Nat → Prop} {w w1 : World} {b : Nat} {d : DS} (hD : DIn T w b d w1) (hk : Ok d) :
    Calls Tryd.prog 27 #[.pointer (some ⟨b, 0, none⟩)] w1 fun e w' => e = .returned (.int .i64 (used d : Int)) ∧ w' = w1 := used_any w1 b _ d hD.choose_spec.1 hk
end Go.Proofs.YtahkecdlibkokaaDoor.Dk