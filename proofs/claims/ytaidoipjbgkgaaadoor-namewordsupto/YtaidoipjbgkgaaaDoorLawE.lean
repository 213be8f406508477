/- The walk of the law NameWords. -/
import Derived.Test.YtaidoipjbgkgaaaDoorSame
set_option linter.unusedVariables false
namespace Go.Proofs.YtaidoipjbgkgaaaDoor
open Go.RowKit

theorem wd_length : ∀ (ps : List (Nat × List UInt8)) (acc : List UInt8), (NameMath.wd ps acc).length ≤ ps.length + 1
  | [], acc => by unfold NameMath.wd; split <;> simp
  | p :: ps, acc => by
    have h1 := wd_length ps []
    have h2 := wd_length ps (acc ++ p.2)
    unfold NameMath.wd
    rw [List.length_cons]
    repeat' split
    all_goals try simp only [List.length_cons]
    all_goals omega
theorem words_length (l : List UInt8) : (NameMath.words l).length ≤ l.length + 1 := by
  have h1 := wd_length (NameMath.cut l) []
  have h2 := runes_length l
  have h3 : (NameMath.runes l).length = (NameMath.cut l).length := by unfold NameMath.runes; simp
  unfold NameMath.words
  omega

theorem srow_set {w : World} {v : Value} {xs : List (List UInt8)} (h : SRow w v xs) (p : Addr) (u : Value) (hne : ∀ g, v.ownBlock = some g → g ≠ p.block) : SRow (w.setCell p u) v xs := by
  obtain ⟨ao, cap, rfl, hrow⟩ := h
  refine ⟨ao, cap, rfl, fun j hj => ?_⟩
  obtain ⟨g, rfl, h2⟩ := hrow j hj
  refine ⟨g, rfl, ?_⟩
  rw [World.cell?_setCell_other w _ _ _ (fun e => hne g rfl (by rw [e]))]
  exact h2

set_option maxHeartbeats 2000000 in
theorem nameWords_walk (s : ByteArray) (hs : s.size ≤ 1048576) (w : World) (hT : Tabs w) :
    Calls Tryd.prog 7 #[.string s] w fun e w' => e = .returned (.bool true) ∧ Below w.heap.size w w' := by
  have hwl := words_length s.data.toList
  have hl : s.data.toList.length = s.size := Array.length_toList
  rw [hl] at hwl
  have c1 := fun w => words_any s hs w
  have c2 := fun w => refWords_any s hs w
  generalize NameMath.words s.data.toList = ws at *
  have C1 : Hid (∀ w, Calls Tryd.prog 18 #[.string s] w fun e w' => ∃ v, e = .returned v ∧ w'.ownsRow (w.heap.size + 1) 9 1 v ws.length (ws.map strV) ∧ Below w.heap.size w w') := c1
  have C2 : Hid (∀ w, Calls Tryd.prog 19 #[.string s] w fun e w' => ∃ v, e = .returned v ∧ w'.ownsRow w.heap.size 9 1 v ws.length (ws.map strV) ∧ Below w.heap.size w w') := c2
  have hwl' : ws.length ≤ 140737488355328 := by omega
  clear c1 c2 hl
  go_enter Tryd.func7, Tryd.ntmps7
  go_wp2_with fail
  refine (C1.out _).mono ?_
  rintro e w1 ⟨v1, rfl, hown1, hb1⟩
  go_wp2_with fail
  refine (C2.out _).mono ?_
  rintro e w2 ⟨v2, rfl, hown2, hb2⟩
  have hs1 := srow_below (srow_own hown1) hb2
  have hs2 := srow_own hown2
  go_wp2_with fail
  refine (same_true ws hwl' v1 v2 w2 hs1 hs2).mono ?_
  rintro e w3 ⟨rfl, q, hw3⟩
  have hb3 : Below w2.heap.size w2 w3 := by rw [hw3]; exact below_drewN (Below.refl _ _) q
  have hs3 := srow_below hs2 hb3
  have hbw3 : Below w.heap.size w w3 := hb1.trans ((hb2.mono hb1.size).trans (hb3.mono (Nat.le_trans hb1.size hb2.size)))
  -- the first answer's row, where it lies
  have hown13 : w3.ownsRow (w.heap.size + 1) 9 1 v1 ws.length (ws.map strV) := by
    refine hown1.kept (row := none) ?_ ?_
    · have hb13 : Below w1.heap.size w1 w3 := hb2.trans (hb3.mono hb2.size)
      exact ⟨hb13.os, hb13.tape, hb13.output, hb13.size, fun k hk _ => hb13.block k hk⟩
    · cases h : v1.ownBlock with
      | none => exact .inl rfl
      | some k => exact .inr (by simp)
  have H1 : Hid (∀ g, v1.ownBlock = some g → w.heap.size + 1 ≤ g ∧ g < w1.heap.size) := fun g h => hown1.lt g h
  have H2 : Hid (∀ g, v2.ownBlock = some g → w1.heap.size ≤ g ∧ g < w2.heap.size) := fun g h => hown2.lt g h
  have HO13 : Hid (w3.ownsRow (w.heap.size + 1) 9 1 v1 ws.length (ws.map strV)) := hown13
  have HS3 : Hid (SRow w3 v2 ws) := hs3
  have HB3 : Hid (Below w.heap.size w w3) := hbw3
  clear hw3 hown1 hown2 hown13 hs1 hs2 hs3 hb1 hb2 hb3 hbw3
  obtain ⟨a1, len1, cap1, hv1⟩ : ∃ a1 len1 cap1, v1 = .slice a1 len1 cap1 ∧ len1 = ws.length := by
    obtain ⟨ao, cap, h, _⟩ := own_row HO13.out
    exact ⟨ao, ws.length, cap, h, rfl⟩
  obtain ⟨rfl, rfl⟩ := hv1
  go_wp2_with fail
  go_loopw [5] (fun i wr => ∃ (k : Nat) (xs : List Value), k ≤ ws.length ∧ i = .int .i64 k ∧ wr.ownsRow (w.heap.size + 1) 9 1 (.slice a1 ws.length cap1) ws.length xs ∧ Hid (SRow wr v2 ws) ∧ Below w.heap.size w wr) (fun i _ => ws.length - (intOf i).toNat)
  case atStart => exact ⟨0, _, Nat.zero_le _, rfl, HO13.out, HS3, HB3.out⟩
  case round =>
    obtain ⟨k, xs, hk, rfl, hown, HS, hbw⟩ := hrel
    by_cases hlt : k < ws.length
    · obtain ⟨g, cap, hv, hBg, hgl, hnc, hcm, hcell, hfro⟩ := own_shape hown (by omega)
      obtain ⟨rfl, rfl⟩ : a1 = some ⟨g, 0, none⟩ ∧ cap1 = cap := by simpa using hv
      have hf := hfro k
      have hst := hown.stored k (.string ⟨#[120]⟩)
      have hsr := srow_set HS.out ⟨g, k, none⟩ (.string ⟨#[120]⟩) (fun g2 h => by
        have := (H2.out g2 h).1
        have := (H1.out g rfl).2
        show g2 ≠ g
        omega)
      have hb' := hbw.setCell (p := ⟨g, k, none⟩) (by show w.heap.size ≤ g; omega) (.string ⟨#[120]⟩)
      have hce : ∃ u, wr.cell? ⟨g, k, none⟩ = some u := by
        rw [hcell k hlt]
        have : k < xs.length := by rw [hown.1]; omega
        exact ⟨xs[k], by simp [this]⟩
      obtain ⟨u, hu⟩ := hce
      have HST : Hid _ := hst.1
      have HSR : Hid (SRow (wr.setCell ⟨g, k, none⟩ (.string ⟨#[120]⟩)) v2 ws) := hsr
      have HBB : Hid _ := hb'
      clear hv hcell hfro hst hsr hb' hown hbw
      have i1 : (k : Int) < (ws.length : Int) := by omega
      go_wp2
      exact ⟨⟨k + 1, _, by omega, by go_num, HST.out, HSR, HBB.out⟩, by simp [intOf]; omega⟩
    · clear hown HO13 HS3 HB3
      go_wp2_with fail
      refine (C1.out _).mono ?_
      rintro e w5 ⟨v5, rfl, hown5, hb5⟩
      have hs5 := srow_own hown5
      have hs2' := srow_below HS.out hb5
      have hbw5 := hbw.trans (hb5.mono hbw.size)
      go_wp2_with fail
      refine (same_true ws hwl' v5 v2 w5 hs5 hs2').mono ?_
      rintro e w6 ⟨rfl, q2, hw6⟩
      have hb6 : Below w.heap.size w w6 := by rw [hw6]; exact below_drewN hbw5 q2
      have hT6 := tabs_below hT hb6
      clear hw6
      go_wp2_with fail
      refine (live_any _ hT6).mono ?_
      rintro e w7 ⟨rfl, hb7⟩
      go_wp2_with fail
      go_ret
      exact ⟨rfl, hb6.trans (hb7.mono hb6.size)⟩
end Go.Proofs.YtaidoipjbgkgaaaDoor
