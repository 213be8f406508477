/- The walk of the law PackTakes. -/
import Derived.Test.YtkljnihcjialaaaAllW
import Derived.Test.YtkljnihcjialaaaSameW
import Derived.Test.YtkljnihcjialaaaLiveW
set_option linter.unusedVariables false
namespace Go.Proofs.Ytkljnihcjialaaa
open Go.RowKit

set_option maxRecDepth 100000 in
set_option maxHeartbeats 4000000 in
theorem packTakes_walk (s : ByteArray) (at_ : Int) (hs : s.size ≤ 140737488355328) (hat : -9223372036854775808 ≤ at_ ∧ at_ ≤ 9223372036854775807) (w : World) :
    Calls Try.prog 6 #[.string s, .int .i64 at_] w fun e w' => e = .returned (.bool true) ∧ Below w.heap.size w w' := by
  obtain ⟨n, p1, e1, a1, a2⟩ := nums_all s at_ hs hat
  obtain ⟨t, p2, e2, b1, b2⟩ := texts_all s at_ hs hat
  obtain ⟨ws, p3, e3, hwl, c1, c2⟩ := lists_all s at_ hs hat
  have A1 : Hid (∀ w, Calls Try.prog 18 #[.string s, .int .i64 at_] w fun en w' => en = .returned (.tuple #[.int .i64 n, .int .i64 p1, .int .i64 e1]) ∧ w' = w) := a1
  have A2 : Hid (∀ w, Calls Try.prog 19 #[.string s, .int .i64 at_] w fun en w' => en = .returned (.tuple #[.int .i64 n, .int .i64 p1, .int .i64 e1]) ∧ w' = w) := a2
  have B1 : Hid (∀ w, Calls Try.prog 20 #[.string s, .int .i64 at_] w fun en w' => en = .returned (.tuple #[.string t, .int .i64 p2, .int .i64 e2]) ∧ w' = w) := b1
  have B2 : Hid (∀ w, Calls Try.prog 21 #[.string s, .int .i64 at_] w fun en w' => en = .returned (.tuple #[.string t, .int .i64 p2, .int .i64 e2]) ∧ w' = w) := b2
  have C1 : Hid (∀ w, Calls Try.prog 22 #[.string s, .int .i64 at_] w fun en w' => ∃ v, en = .returned (.tuple #[v, .int .i64 p3, .int .i64 e3]) ∧ w'.ownsRow w.heap.size 9 1 v ws.length (ws.map strV) ∧ Below w.heap.size w w') := c1
  have C2 : Hid (∀ w, Calls Try.prog 23 #[.string s, .int .i64 at_] w fun en w' => ∃ v, en = .returned (.tuple #[v, .int .i64 p3, .int .i64 e3]) ∧ w'.ownsRow w.heap.size 9 1 v ws.length (ws.map strV) ∧ Below w.heap.size w w') := c2
  have hwl' : ws.length ≤ 140737488355328 := by omega
  clear a1 a2 b1 b2 c1 c2 hat hs
  go_enter Try.func6, Try.ntmps6
  go_wp2_with fail
  refine (A1.out _).mono ?_
  rintro e u1 ⟨rfl, hu⟩
  rw [hu]; clear hu u1
  go_wp2_with fail
  refine (A2.out _).mono ?_
  rintro e u1 ⟨rfl, hu⟩
  rw [hu]; clear hu u1
  go_wp2_with fail
  refine (B1.out _).mono ?_
  rintro e u1 ⟨rfl, hu⟩
  rw [hu]; clear hu u1
  go_wp2_with fail
  refine (B2.out _).mono ?_
  rintro e u1 ⟨rfl, hu⟩
  rw [hu]; clear hu u1
  clear A1 A2 B1 B2
  go_wp2_with fail
  refine (C1.out _).mono ?_
  rintro e w1 ⟨v1, rfl, hown1, hb1⟩
  go_wp2_with fail
  refine (C2.out _).mono ?_
  rintro e w2 ⟨v2, rfl, hown2, hb2⟩
  have hs1 := srow_below (srow_own hown1) hb2
  have hs2 := srow_own hown2
  go_wp2_with fail
  refine (same_true ws hwl' v1 v2 w2 hs1 hs2).mono ?_
  rintro e w3 ⟨rfl, q, hw3⟩
  have hb3 : Below w2.heap.size w2 w3 := by rw [hw3]; exact below_drewN (Below.refl _ _) q
  have hs3 := srow_below hs2 hb3
  have hbw3 : Below w.heap.size w w3 := hb1.trans ((hb2.mono hb1.size).trans (hb3.mono (Nat.le_trans hb1.size hb2.size)))
  have hown13 : w3.ownsRow w.heap.size 9 1 v1 ws.length (ws.map strV) := own_below (own_below hown1 hb2) hb3
  have H1 : Hid (∀ g, v1.ownBlock = some g → w.heap.size ≤ g ∧ g < w1.heap.size) := fun g h => hown1.lt g h
  have H2 : Hid (∀ g, v2.ownBlock = some g → w1.heap.size ≤ g ∧ g < w2.heap.size) := fun g h => hown2.lt g h
  have HO13 : Hid (w3.ownsRow w.heap.size 9 1 v1 ws.length (ws.map strV)) := hown13
  have HS3 : Hid (SRow w3 v2 ws) := hs3
  have HB3 : Hid (Below w.heap.size w w3) := hbw3
  clear hw3 hown1 hown2 hown13 hs1 hs2 hs3 hb1 hb2 hb3 hbw3
  obtain ⟨a1, len1, cap1, hv1⟩ : ∃ a1 len1 cap1, v1 = .slice a1 len1 cap1 ∧ len1 = ws.length := by
    obtain ⟨ao, cap, h, _⟩ := own_row HO13.out
    exact ⟨ao, ws.length, cap, h, rfl⟩
  obtain ⟨rfl, rfl⟩ := hv1
  go_wp2_with fail
  go_loopw [23] (fun i wr => ∃ (k : Nat) (xs : List Value), k ≤ ws.length ∧ i = .int .i64 k ∧ wr.ownsRow w.heap.size 9 1 (.slice a1 ws.length cap1) ws.length xs ∧ Hid (SRow wr v2 ws) ∧ Below w.heap.size w wr) (fun i _ => ws.length - (intOf i).toNat)
  case atStart => exact ⟨0, _, Nat.zero_le _, rfl, HO13.out, HS3, HB3.out⟩
  case round =>
    obtain ⟨k, xs, hk, rfl, hown, HS, hbw⟩ := hrel
    by_cases hlt : k < ws.length
    · obtain ⟨g, cap, hv, hBg, hgl, hnc, hcm, hcell, hfro⟩ := own_shape hown (by omega)
      obtain ⟨rfl, rfl⟩ : a1 = some ⟨g, 0, none⟩ ∧ cap1 = cap := by simpa using hv
      have hf := hfro k
      have hst := hown.stored k (.string ⟨#[120]⟩)
      have hsr := srow_set HS.out ⟨g, k, none⟩ (.string ⟨#[120]⟩) (fun g2 h => by
        have := (H2.out g2 h).1
        have := (H1.out g rfl).2
        show g2 ≠ g
        omega)
      have hb' := hbw.setCell (p := ⟨g, k, none⟩) (by show w.heap.size ≤ g; omega) (.string ⟨#[120]⟩)
      have hce : ∃ u, wr.cell? ⟨g, k, none⟩ = some u := by
        rw [hcell k hlt]
        have : k < xs.length := by rw [hown.1]; omega
        exact ⟨xs[k], by simp [this]⟩
      obtain ⟨u, hu⟩ := hce
      have HST : Hid _ := hst.1
      have HSR : Hid (SRow (wr.setCell ⟨g, k, none⟩ (.string ⟨#[120]⟩)) v2 ws) := hsr
      have HBB : Hid _ := hb'
      clear hv hcell hfro hst hsr hb' hown hbw
      have i1 : (k : Int) < (ws.length : Int) := by omega
      go_wp2
      exact ⟨⟨k + 1, _, by omega, by go_num, HST.out, HSR, HBB.out⟩, by simp [intOf]; omega⟩
    · clear hown HO13 HS3 HB3
      go_wp2_with fail
      refine (C1.out _).mono ?_
      rintro e w5 ⟨v5, rfl, hown5, hb5⟩
      have hs5 := srow_own hown5
      have hs2' := srow_below HS.out hb5
      have hbw5 := hbw.trans (hb5.mono hbw.size)
      go_wp2_with fail
      refine (same_true ws hwl' v5 v2 w5 hs5 hs2').mono ?_
      rintro e w6 ⟨rfl, q2, hw6⟩
      have hb6 : Below w.heap.size w w6 := by rw [hw6]; exact below_drewN hbw5 q2
      clear hw6
      go_wp2_with fail
      refine (live_any _).mono ?_
      rintro e w7 ⟨rfl, hb7⟩
      go_wp2_with fail
      go_ret
      exact ⟨rfl, hb6.trans (hb7.mono hb6.size)⟩
end Go.Proofs.Ytkljnihcjialaaa
