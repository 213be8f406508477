/- Lists of texts in memory; the walk of the laws' own 'same'. -/
import Derived.Test.YtaidoipjbgkgaabDoorLive
import Derived.Deep.QuietTactic
import Derived.BigQuiet
set_option linter.unusedVariables false
namespace Go.Proofs.YtaidoipjbgkgaabDoor
open Go.RowKit

/-- What an owned row looks like, empty or not. -/
theorem own_row {w : World} {B e n : Nat} {v : Value} {xs : List Value} (h : w.ownsRow B e 1 v n xs) : ∃ ao cap, v = .slice ao n cap ∧ n ≤ cap ∧
    ∀ j, j < n → ∃ g, ao = some ⟨g, 0, none⟩ ∧ B ≤ g ∧ g < w.heap.size ∧ w.cell? ⟨g, j, none⟩ = xs[j]? := by
  rcases h.2 with ⟨rfl, h0⟩ | ⟨g, cap, cur, rfl, hb, hg, hnc, hcm, hcs, htake⟩
  · obtain rfl : n = 0 := by omega
    exact ⟨none, 0, rfl, Nat.le_refl _, fun j hj => by omega⟩
  · exact ⟨some ⟨g, 0, none⟩, cap, rfl, hnc, fun j hj => ⟨g, rfl, hb, (Array.getElem?_eq_some_iff.1 hg).1, h.cellAt j (by omega)⟩⟩
/-- A slice value that leads to the texts xs. -/
def SRow (w : World) (v : Value) (xs : List (List UInt8)) : Prop := ∃ ao cap, v = .slice ao xs.length cap ∧ ∀ j, (h : j < xs.length) → ∃ g, ao = some ⟨g, 0, none⟩ ∧ w.cell? ⟨g, j, none⟩ = some (strV xs[j])
theorem srow_own {w : World} {B e : Nat} {v : Value} {xs : List (List UInt8)} (h : w.ownsRow B e 1 v xs.length (xs.map strV)) : SRow w v xs := by
  obtain ⟨ao, cap, rfl, _, hrow⟩ := own_row h
  refine ⟨ao, cap, rfl, fun j hj => ?_⟩
  obtain ⟨g, h1, _, _, h4⟩ := hrow j hj
  exact ⟨g, h1, by rw [h4]; simp [hj]⟩
theorem srow_below {w w' : World} {v : Value} {xs : List (List UInt8)} (h : SRow w v xs) (hb : Below w.heap.size w w') : SRow w' v xs := by
  obtain ⟨ao, cap, rfl, hrow⟩ := h
  refine ⟨ao, cap, rfl, fun j hj => ?_⟩
  obtain ⟨g, h1, h2⟩ := hrow j hj
  exact ⟨g, h1, by rw [hb.cell (p := ⟨g, j, none⟩) (block_lt_of_cell h2)]; exact h2⟩

set_option maxHeartbeats 1600000 in
theorem same_true (xs : List (List UInt8)) (hx : xs.length ≤ 140737488355328) (v v2 : Value) (w : World) (h1 : SRow w v xs) (h2 : SRow w v2 xs) :
    Calls Tryd.prog 13 #[v, v2] w fun e w' => e = .returned (.bool true) ∧ ∃ q, w' = w.drewN q := by
  obtain ⟨ao, cap, rfl, hrow⟩ := h1
  obtain ⟨bo, cap2, rfl, hrow2⟩ := h2
  have HR : Hid (∀ j, (h : j < xs.length) → ∃ g, ao = some ⟨g, 0, none⟩ ∧ w.cell? ⟨g, j, none⟩ = some (strV xs[j])) := hrow
  have HR2 : Hid (∀ j, (h : j < xs.length) → ∃ g, bo = some ⟨g, 0, none⟩ ∧ w.cell? ⟨g, j, none⟩ = some (strV xs[j])) := hrow2
  clear hrow hrow2
  go_enter Tryd.func13, Tryd.ntmps13
  go_wp2
  go_loopw [5] (fun i wr => ∃ k q : Nat, wr = w.drewN q ∧ k ≤ xs.length ∧ i = .int .i64 k) (fun i _ => xs.length - (intOf i).toNat)
  case atStart => exact ⟨0, 0, rfl, Nat.zero_le _, rfl⟩
  case round =>
    obtain ⟨k, q, rfl, hk, rfl⟩ := hrel
    by_cases hlt : k < xs.length
    · obtain ⟨g, rfl, hc1⟩ := HR.out k hlt
      obtain ⟨g2, rfl, hc2⟩ := HR2.out k hlt
      unfold strV at hc1 hc2
      generalize xs[k] = x at *
      generalize (ByteArray.mk x.toArray) = y at *
      clear HR HR2
      have i1 : (k : Int) < (xs.length : Int) := by omega
      go_wp2
      go_quiet (fail)
      go_wp2
      exact ⟨⟨k + 1, _, rfl, by omega, by go_num⟩, by simp [intOf]; omega⟩
    · clear HR HR2
      go_wp2
      go_ret
      exact ⟨rfl, q, rfl⟩

theorem runes_le : ∀ (l : List UInt8), ∀ r ∈ NameMath.runes l, r ≤ 1114111 := by
  apply NameMath.byRunes
  · intro r hr; cases hr
  · intro l h ih r hr
    rw [NameMath.runes_cons l h] at hr
    rcases List.mem_cons.1 hr with rfl | hr
    · exact NameMath.dec_max l
    · exact ih r hr
theorem runes_length : ∀ (l : List UInt8), (NameMath.runes l).length ≤ l.length := by
  apply NameMath.byRunes
  · exact Nat.le_refl _
  · intro l h ih
    rw [NameMath.runes_cons l h, List.length_cons]
    have := NameMath.dec_pos l
    have := NameMath.dec_le l h
    rw [List.length_drop] at ih
    omega

theorem wd_length : ∀ (ps : List (Nat × List UInt8)) (acc : List UInt8), (NameMath.wd ps acc).length ≤ ps.length + 1
  | [], acc => by unfold NameMath.wd; split <;> simp
  | p :: ps, acc => by
    have h1 := wd_length ps []
    have h2 := wd_length ps (acc ++ p.2)
    unfold NameMath.wd
    rw [List.length_cons]
    repeat' split
    all_goals try simp only [List.length_cons]
    all_goals omega
theorem words_length (l : List UInt8) : (NameMath.words l).length ≤ l.length + 1 := by
  have h1 := wd_length (NameMath.cut l) []
  have h2 := runes_length l
  have h3 : (NameMath.runes l).length = (NameMath.cut l).length := by unfold NameMath.runes; simp
  unfold NameMath.words
  omega

theorem srow_set {w : World} {v : Value} {xs : List (List UInt8)} (h : SRow w v xs) (p : Addr) (u : Value) (hne : ∀ g, v.ownBlock = some g → g ≠ p.block) : SRow (w.setCell p u) v xs := by
  obtain ⟨ao, cap, rfl, hrow⟩ := h
  refine ⟨ao, cap, rfl, fun j hj => ?_⟩
  obtain ⟨g, rfl, h2⟩ := hrow j hj
  refine ⟨g, rfl, ?_⟩
  rw [World.cell?_setCell_other w _ _ _ (fun e => hne g rfl (by rw [e]))]
  exact h2

end Go.Proofs.YtaidoipjbgkgaabDoor
