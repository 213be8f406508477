/- The walk of the law FrameScans. -/
import Derived.Test.YtpohggljdgjdfaaDoorLiveW
import Derived.Test.YtpohggljdgjdfaaDoorRefAllW
set_option linter.unusedVariables false
namespace Go.Proofs.YtpohggljdgjdfaaDoor
open Go.RowKit
open FrameMath (first scan used wrap)

/-- The n cells of a block are there, and may be written. -/
def Opn (w : World) (g n : Nat) : Prop := ∀ j, j < n → (∃ x, w.cell? ⟨g, j, none⟩ = some x) ∧ w.frozen? ⟨g, j, none⟩ = false
theorem opn_set {w : World} {g n : Nat} (h : Opn w g n) (k : Nat) (u : Value) : Opn (w.setCell ⟨g, k, none⟩ u) g n := fun j hj => by
  obtain ⟨⟨x, hx⟩, hf⟩ := h j hj
  refine ⟨?_, by rw [World.frozen?_setCell]; exact hf⟩
  by_cases e : k = j
  · subst e
    exact ⟨u, World.cell?_setCell_same' w _ _ (by rw [hx]; rfl)⟩
  · exact ⟨x, by rw [World.cell?_setCell_other w _ _ _ (fun h => e (congrArg Addr.off h))]; exact hx⟩
theorem opn_own {w w' : World} {B e n : Nat} {g cap : Nat} {xs : List Value} (h : w.ownsRow B e 1 (.slice (some ⟨g, 0, none⟩) n cap) n xs) (hb : Below w.heap.size w w') : Opn w' g n := fun j hj => by
  obtain ⟨g', cap', hv, hB, hlt, hnc, hcm, hc, hf⟩ := own_shape h (by omega)
  obtain ⟨rfl, rfl⟩ : g = g' ∧ cap = cap' := by simpa using hv
  have hl : xs.length = n := h.1.trans (Nat.mul_one n)
  refine ⟨⟨xs[j]'(by omega), ?_⟩, (hb.frozen (p := ⟨g, j, none⟩) hlt).trans (hf j)⟩
  rw [hb.cell (p := ⟨g, j, none⟩) hlt, hc j hj]
  exact List.getElem?_eq_getElem _
set_option maxHeartbeats 2000000 in
theorem frameScans_walk (s : ByteArray) (hs : s.size ≤ 1048576) (w : World) (hT : Tab w) :
    Calls Tryd.prog 4 #[.string s] w fun e w' => e = .returned (.bool true) ∧ Below w.heap.size w w' := by
  have c1 := fun w hT => scan_any s (by omega) w hT
  have c2 := fun w => refScan_any s (by omega) w
  unfold ScanV at c1
  have hlen := FrameMath.scan_length s.data.toList
  rw [size_data] at hlen
  generalize scan s.data.toList = xs at *
  generalize used xs = n at *
  have C1 : Hid (∀ w, Tab w → Calls Tryd.prog 12 #[.string s] w fun e w' => ∃ v, e = .returned (.tuple #[v, .int .i64 (n : Int)]) ∧ w'.ownsRow (w.heap.size + 3) 9 1 v xs.length (xs.map strV) ∧ Below w.heap.size w w') := c1
  have C2 : Hid (∀ w, Calls Tryd.prog 13 #[.string s] w fun e w' => ∃ v, e = .returned (.tuple #[v, .int .i64 (n : Int)]) ∧ w'.ownsRow w.heap.size 9 1 v xs.length (xs.map strV) ∧ Below w.heap.size w w') := c2
  have hx : xs.length ≤ 140737488355328 := by omega
  have HT : Hid (Tab w) := hT
  clear c1 c2 hT
  go_enter Tryd.func4, Tryd.ntmps4
  go_wp2_with fail
  refine (C1.out _ HT.out).mono ?_
  rintro e w1 ⟨v1, rfl, hown1, hb1⟩
  go_wp2_with fail
  refine (C2.out _).mono ?_
  rintro e w2 ⟨v2, rfl, hown2, hb2⟩
  have hb02 : Below w.heap.size w w2 := hb1.trans (hb2.mono hb1.size)
  have hs1 : SRow w2 v1 xs := srow_below (srow_own hown1) hb2
  have hs2 : SRow w2 v2 xs := srow_own hown2
  go_wp2_with fail
  refine (same_true xs hx v1 v2 w2 hs1 hs2).mono ?_
  rintro e w3 ⟨rfl, q, hw3⟩
  have hb23 : Below w2.heap.size w2 w3 := by rw [hw3]; exact below_drewN (Below.refl _ _) q
  have hb03 : Below w.heap.size w w3 := hb02.trans (hb23.mono hb02.size)
  have HS2 : Hid (SRow w3 v2 xs) := srow_below hs2 hb23
  obtain ⟨ao, cap, hv1, hc1, hr1⟩ := own_row hown1
  obtain ⟨g, hg⟩ : ∃ g : Nat, (∀ j, j < xs.length → ao = some ⟨g, 0, none⟩ ∧ w.heap.size ≤ g) ∧ Opn w3 g xs.length ∧ (∀ g', v2.ownBlock = some g' → xs.length = 0 ∨ g' ≠ g) := by
    by_cases h0 : xs.length = 0
    · exact ⟨0, fun j hj => by omega, fun j hj => by omega, fun g' h => Or.inl h0⟩
    · obtain ⟨g, cap', hv, hB, hlt, _, _, _, _⟩ := own_shape hown1 (by omega)
      rw [hv1] at hv
      obtain ⟨rfl, rfl⟩ : ao = some ⟨g, 0, none⟩ ∧ cap = cap' := by simpa using hv
      refine ⟨g, fun j hj => ⟨rfl, by omega⟩, opn_own (hv1 ▸ hown1) (hb2.trans (hb23.mono hb2.size)), fun g' h => Or.inr ?_⟩
      have := (hown2.lt g' h).1
      omega
  obtain ⟨hg1, hg2, hg3⟩ := hg
  have HG1 : Hid (∀ j, j < xs.length → ao = some ⟨g, 0, none⟩ ∧ w.heap.size ≤ g) := hg1
  have HG3 : Hid (∀ g', v2.ownBlock = some g' → xs.length = 0 ∨ g' ≠ g) := hg3
  subst hv1
  clear hown1 hown2 hb1 hb2 hs1 hs2 hw3 hb23 hb02 hr1 hg1 hg3
  go_wp2_with fail
  go_loopw [7] (fun i wr => ∃ k : Nat, k ≤ xs.length ∧ i = .int .i64 k ∧ Hid (Opn wr g xs.length) ∧ Hid (SRow wr v2 xs) ∧ Hid (Below w.heap.size w wr)) (fun i _ => xs.length - (intOf i).toNat)
  case atStart => exact ⟨0, Nat.zero_le _, rfl, hg2, HS2, hb03⟩
  case round =>
    obtain ⟨k, hk, rfl, HO, HS, HB⟩ := hrel
    clear hg2 HS2 hb03
    by_cases hlt : k < xs.length
    · obtain ⟨⟨x, hx1⟩, hf1⟩ := HO.out k hlt
      obtain ⟨rfl, hge⟩ := HG1.out k hlt
      have i1 : (k : Int) < (xs.length : Int) := by omega
      have HO' : Hid (Opn (wr.setCell ⟨g, k, none⟩ (.string ⟨#[120]⟩)) g xs.length) := opn_set HO.out k _
      have HS' : Hid (SRow (wr.setCell ⟨g, k, none⟩ (.string ⟨#[120]⟩)) v2 xs) := srow_set HS.out _ _ (fun g' h => by
        rcases HG3.out g' h with h | h
        · omega
        · exact h)
      have HB' : Hid (Below w.heap.size w (wr.setCell ⟨g, k, none⟩ (.string ⟨#[120]⟩))) := HB.out.setCell (p := ⟨g, k, none⟩) hge _
      clear HO HS HB
      go_wp2
      exact ⟨⟨k + 1, by omega, by go_num, HO', HS', HB'⟩, by simp [intOf]; omega⟩
    · go_wp2_with fail
      refine (C1.out _ (tab_below HT.out HB.out)).mono ?_
      rintro e w4 ⟨v4, rfl, hown4, hb4⟩
      have hs4 := srow_own hown4
      have hs2 := srow_below HS.out hb4
      have hb04 := HB.out.trans (hb4.mono HB.out.size)
      go_wp2_with fail
      refine (same_true xs hx v4 v2 w4 hs4 hs2).mono ?_
      rintro e w5 ⟨rfl, q, hw5⟩
      have hb5 : Below w.heap.size w w5 := by rw [hw5]; exact below_drewN hb04 q
      clear hw5 hown4 hb4 hs4 hs2
      go_wp2_with fail
      refine (live_any _ (tab_below HT.out hb5)).mono ?_
      rintro e w6 ⟨rfl, hb6⟩
      go_wp2_with fail
      go_ret
      exact ⟨rfl, hb5.trans (hb6.mono hb5.size)⟩
end Go.Proofs.YtpohggljdgjdfaaDoor
