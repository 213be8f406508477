/- The document's Due, walked. -/
import Derived.Test.YteadnjagandkfaaRefM
set_option linter.unusedVariables false
set_option maxRecDepth 100000
namespace Go.Proofs.Yteadnjagandkfaa
open Go.RowKit
open WheelMath RetryMath
open Go.Maps (Keyed)

section
variable {B : Nat} {w wr : World} {x : Nat} {v : Value} {dl N : Int} {A : Ws} {tab : List Int} {rs : List Res}
theorem rDue_no (now : Int) (hno : ¬ Tick now) (q : Value) :
    Calls Try.prog 23 #[q, .int .i64 now] wr fun e w' => e = .returned (.tuple #[.slice none 0 0, .slice none 0 0]) ∧ w' = wr := by
  have C1 : Hid (Calls Try.prog 37 #[.int .i64 now] wr fun e w' => e = .returned (.bool false) ∧ w' = wr) := by
    have x := refTick_any now wr
    rw [decide_eq_false hno] at x
    exact x
  clear hno
  go_enter Try.func23, Try.ntmps23
  go_wp2_with fail
  refine C1.out.mono ?_
  rintro e w1 ⟨rfl, hw⟩
  rw [hw]
  clear hw w1
  go_wp2
  go_ret2
  exact ⟨rfl, rfl⟩
set_option maxHeartbeats 40000000 in
theorem rDue_yes (h : Has B w (XR x v dl A :: IRowR v tab :: rs) wr) (hA : AOk N A) (hN : N ≤ 17592186044416) (ht : may tab = true) (now : Int) (hn : Tick now) :
    Calls Try.prog 23 #[.pointer (some ⟨x, 0, none⟩), .int .i64 now] wr fun e w' => ∃ a1 c1 a2 c2, e = .returned (.tuple #[.slice a1 (dueL A now 60).length c1, .slice a2 (lateL A now 60).length c2]) ∧
      Has B w (XR x v dl (dueA tab now A) :: IRowR (.slice a1 (dueL A now 60).length c1) (dueL A now 60) :: IRowR (.slice a2 (lateL A now 60).length c2) (lateL A now 60) :: IRowR v tab :: rs) w' := by
  obtain ⟨i0, hi, hz0, hz1, hz2⟩ := info_parts infoI
  have C1 : Hid (Calls Try.prog 37 #[.int .i64 now] wr fun e w' => e = .returned (.bool true) ∧ w' = wr) := by
    have y := refTick_any now wr
    rw [decide_eq_true hn] at y
    exact y
  have hv : ∃ at_ ct, v = .slice at_ tab.length ct := by
    obtain ⟨ao, cap, rfl, _⟩ := own_form (h.own (t := 3) (size := 1) (v := v) (n := tab.length) (xs := tab.map fun n => .int .i64 n) (by simp))
    exact ⟨ao, cap, rfl⟩
  obtain ⟨at_, ct, rfl⟩ := hv
  have htl := (may_bounds ht).2.1
  have H0 : Hid (Has B w (XR x (.slice at_ tab.length ct) dl (dueTo tab now A 0) :: IRowR (.slice none 0 0) [] :: IRowR (.slice none 0 0) [] :: IRowR (.slice at_ tab.length ct) tab :: rs) wr) := by
    rw [dueTo_zero hA]
    exact ((h.nil 3 1).nil 3 1).perm (List.perm_middle (l₁ := [_, _]) (l₂ := _ :: rs))
  have HA : Hid (AOk N A) := hA
  have HT : Hid (may tab = true) := ht
  have HN : Hid (Tick now) := hn
  have CD : Hid (∀ wq rs' k, Has B w rs' wq → IRowR (.slice at_ tab.length ct) tab ∈ rs' → 0 ≤ k → k ≤ 9223372036854775807 → Calls Try.prog 12 #[.slice at_ tab.length ct, .int .i64 k] wq fun e w' => e = .returned (.tuple #[.int .i64 (dly tab k), .int .i64 0]) ∧ Below wq.heap.size wq w') := fun wq rs' k hq hm h0 h1 =>
    (refDelay_any hq _ tab (by omega) (hq.irow hm) k h1).mono (fun e w' ⟨_, _, k3, k4⟩ => ⟨k3 HT.out h0, k4⟩)
  clear h hA ht hn
  go_enter Try.func23, Try.ntmps23
  go_wp2_with fail
  refine C1.out.mono ?_
  rintro e w1 ⟨rfl, hw⟩
  rw [hw]
  clear hw w1 C1
  go_wp2_with fail
  go_loopw [6, 7, 8] (fun av lv iv wr => ∃ (k : Nat) (K L : List Int) (X : Ws) (a1 : Option Addr) (c1 : Nat) (a2 : Option Addr) (c2 : Nat), 1 ≤ k ∧ k ≤ 61 ∧ K.length ≤ k ∧ L.length ≤ k ∧ iv = .int .i64 (k : Int) ∧ av = .slice a1 K.length c1 ∧ lv = .slice a2 L.length c2 ∧ Hid (K = dueL A now (k - 1) ∧ L = lateL A now (k - 1) ∧ X = dueTo tab now A (k - 1)) ∧ Hid (Has B w (XR x (.slice at_ tab.length ct) dl X :: IRowR (.slice a1 K.length c1) K :: IRowR (.slice a2 L.length c2) L :: IRowR (.slice at_ tab.length ct) tab :: rs) wr)) (fun _ _ iv _ => 61 - (intOf iv).toNat)
  case atStart => exact ⟨1, [], [], _, none, 0, none, 0, by decide, by decide, by decide, by decide, rfl, rfl, rfl, ⟨rfl, rfl, rfl⟩, H0⟩
  case round =>
    obtain ⟨k, K, L, X, a1, c1, a2, c2, hk1, hk61, hKl, hLl, rfl, rfl, rfl, HQ0, H⟩ := hrel
    clear H0
    by_cases hlt : k ≤ 60
    · have hltI : (k : Int) ≤ 60 := by omega
      have hk61n : k < 61 := by omega
      have hk61i : (k : Int) < 61 := by omega
      have HEND : Hid (∀ (bd bl : Bool) (y2 : Option Wt), isDue A now (k : Int) = bd → isLate A now (k : Int) = bl → dueA tab now A (k : Int) = y2 → (K ++ (if bd then [(k : Int)] else []) = dueL A now (k + 1 - 1) ∧ L ++ (if bl then [(k : Int)] else []) = lateL A now (k + 1 - 1) ∧ upd X (k : Int) y2 = dueTo tab now A (k + 1 - 1))) := fun bd bl y2 h1 h2 h3 => by
        rw [HQ0.out.1, HQ0.out.2.1, HQ0.out.2.2, ← h1, ← h2, ← h3]
        exact ⟨(dueL_next hk1).symm, (lateL_next hk1).symm, (dueTo_next hk1).symm⟩
      have hXk : X (k : Int) = A (k : Int) := by rw [HQ0.out.2.2]; exact dueTo_at hk1
      obtain ⟨_, _, hc, _⟩ := H.out.xr List.mem_cons_self
      have cc : ∀ j, j < 5 → wr.cell? ⟨x, 2 + k * 5 + j, none⟩ = some (xcell (A (k : Int)) j) := fun j hj => by
        rw [hc k j hk61n hj, hXk]
      clear hc HQ0
      have HDS : Hid (Has B w (DS wr.heap.size (A (k : Int)) x (.slice at_ tab.length ct) dl X a1 c1 K a2 c2 L tab rs) (wr.alloc (.cells #[xcell (A (k : Int)) 0, xcell (A (k : Int)) 1, xcell (A (k : Int)) 2, xcell (A (k : Int)) 3, xcell (A (k : Int)) 4] 58))) := H.out.box [xcell (A (k : Int)) 0, xcell (A (k : Int)) 1, xcell (A (k : Int)) 2, xcell (A (k : Int)) 3, xcell (A (k : Int)) 4] 58
      have hisD : isDue A now (k : Int) = (match A (k : Int) with | some y => decide (y.again ≤ now) | none => false) := rfl
      have hisL : isLate A now (k : Int) = (match A (k : Int) with | some y => !y.told && decide (y.late ≤ now) | none => false) := rfl
      have hdA : dueA tab now A (k : Int) = (A (k : Int)).map (dueW tab now) := rfl
      have hbnd : ∀ y, A (k : Int) = some y → 0 ≤ y.tries ∧ y.tries ≤ N ∧ Tick y.again ∧ Tick y.late := fun y hy => by
        obtain ⟨_, _, b3, b4, b5, b6⟩ := HA.out _ _ hy
        exact ⟨b3, b4, b5, b6⟩
      generalize A (k : Int) = ya at *
      clear H
      have c0 : wr.cell? ⟨x, 2 + k * 5, none⟩ = some (xcell ya 0) := cc 0 (by decide)
      have c1' := cc 1 (by decide)
      have c2' := cc 2 (by decide)
      have c3' := cc 3 (by decide)
      have c4' := cc 4 (by decide)
      clear cc
      obtain ⟨w0, hw0⟩ : ∃ w0, w0 = wr.alloc (.cells #[xcell ya 0, xcell ya 1, xcell ya 2, xcell ya 3, xcell ya 4] 58) := ⟨_, rfl⟩
      rw [← hw0] at HDS
      obtain ⟨wb, hwb⟩ : ∃ wb, wb = wr.heap.size := ⟨_, rfl⟩
      rw [← hwb] at HDS
      cases ya with
      | none =>
        have HW : Hid (w0 = wr.alloc (.cells #[.bool false, .int .i64 0, .int .i64 0, .int .i64 0, .bool false] 58)) := hw0
        have HB : Hid (wb = wr.heap.size) := hwb
        have b0 : w0.cell? ⟨wb, 0, none⟩ = some (.bool false) := (HDS.out.dsCell 0 (by decide)).1
        simp only [xcell] at c0 c1' c2' c3' c4'
        have hD : isDue A now (k : Int) = false := hisD
        have hL : isLate A now (k : Int) = false := hisL
        have hE : dueA tab now A (k : Int) = none := hdA
        clear hw0 hwb hisD hisL hdA hbnd HA HT HN CD
        go_upto_region 9 with fail
        rw [← HW.out, ← HB.out]
        clear HW HB c0 c1' c2' c3' c4'
        have HB17 : Hid (Has B w (XR x (.slice at_ tab.length ct) dl (upd X (k : Int) (none)) :: IRowR (.slice a1 (K).length c1) (K) :: IRowR (.slice a2 (L).length c2) (L) :: IRowR (.slice at_ tab.length ct) tab :: rs) (put5 w0 x (2 + k * 5) (.bool false) (.int .i64 0) (.int .i64 0) (.int .i64 0) (.bool false)).drew) := HDS.out.dsBack k hk61n
        have HQ : Hid ((K) = dueL A now (k + 1 - 1) ∧ (L) = lateL A now (k + 1 - 1) ∧ upd X (k : Int) (none) = dueTo tab now A (k + 1 - 1)) := by
          have z := HEND.out false false _ hD hL hE
          have z2 : ((K) = dueL A now (k + 1 - 1) ∧ (L) = lateL A now (k + 1 - 1) ∧ upd X (k : Int) (none) = dueTo tab now A (k + 1 - 1)) := by simpa using z
          exact z2
        have HAt := HDS.out.atId k hk61n
        have p0 : w0.cell? ⟨wb, 0, none⟩ = some (.bool false) := HAt.b 0 (by decide)
        have p1 : w0.cell? ⟨wb, 1, none⟩ = some (.int .i64 0) := HAt.b 1 (by decide)
        have p2 : w0.cell? ⟨wb, 2, none⟩ = some (.int .i64 0) := HAt.b 2 (by decide)
        have p3 : w0.cell? ⟨wb, 3, none⟩ = some (.int .i64 0) := HAt.b 3 (by decide)
        have p4 : w0.cell? ⟨wb, 4, none⟩ = some (.bool false) := HAt.b 4 (by decide)
        have r0 : w0.cell? ⟨x, 2 + k * 5, none⟩ = some (xcell (X (k : Int)) 0) := HAt.c 0 (by decide)
        have r1 := HAt.c 1 (by decide)
        have r2 := HAt.c 2 (by decide)
        have r3 := HAt.c 3 (by decide)
        have r4 := HAt.c 4 (by decide)
        have s0 := HAt.f (2 + k * 5)
        have s1 := HAt.f (2 + k * 5 + 1)
        have s2 := HAt.f (2 + k * 5 + 2)
        have s3 := HAt.f (2 + k * 5 + 3)
        have s4 := HAt.f (2 + k * 5 + 4)
        clear HAt HDS HEND hXk hD hL hE
        go_wp2_with fail
        go_region_law (fail)
        all_goals go_wp2
        all_goals exact ⟨⟨k + 1, K, L, upd X (k : Int) (none), a1, c1, a2, c2, by omega, by omega, (by first | omega | (simp; omega)), (by first | omega | (simp; omega)), by go_num, (by first | rfl | simp), (by first | rfl | simp), HQ, HB17⟩, by simp [intOf]; omega⟩
      | some y =>
        obtain ⟨tr, ag, la, td⟩ := y
        obtain ⟨q1, q2, q3, q4⟩ := hbnd _ rfl
        simp only at q1 q2 q3 q4
        have HW : Hid (w0 = wr.alloc (.cells #[.bool true, .int .i64 tr, .int .i64 ag, .int .i64 la, .bool td] 58)) := hw0
        have HB : Hid (wb = wr.heap.size) := hwb
        have b0 : w0.cell? ⟨wb, 0, none⟩ = some (.bool true) := (HDS.out.dsCell 0 (by decide)).1
        have b2 : w0.cell? ⟨wb, 2, none⟩ = some (.int .i64 ag) := (HDS.out.dsCell 2 (by decide)).1
        simp only [xcell] at c0 c1' c2' c3' c4'
        have hD : isDue A now (k : Int) = decide (ag ≤ now) := hisD
        have hL : isLate A now (k : Int) = (!td && decide (la ≤ now)) := hisL
        have hE : dueA tab now A (k : Int) = some (dueW tab now ⟨tr, ag, la, td⟩) := hdA
        clear hw0 hwb hisD hisL hdA hbnd HA
        go_upto_region 9 with fail
        rw [← HW.out, ← HB.out]
        clear HW HB c0 c1' c2' c3' c4'
        by_cases hag : ag ≤ now
        · have dag : decide (ag ≤ now) = true := by simpa using hag
          have hown := (HDS.out.perm ds_again).own (t := 3) (size := 1) (v := .slice a1 K.length c1) (n := K.length) (xs := K.map fun n => .int .i64 n) List.mem_cons_self
          go_wp2_with (at_builtin; refine wpList_append_more _ rfl _ _ 22 rfl 0 3 i0 (.int .i64 0) 1 8 Try.underlying22 hi hz0 hz1 hz2 rfl (by decide) _ _ _ rfl (own_below hown ((Below.refl _ _).alloc (Nat.le_refl _) _)) ⟨_, 0, none⟩ 1 1 [.int .i64 (k : Int)] rfl rfl (one_new _ _ _) (one_int _) (by decide) (by unfold maxLen; omega) (by omega) ?_)
          intro g' cap' w3 ho3 hwh3 hch3
          have HG : Has B w (DS wb (some ⟨tr, ag, la, td⟩) x (.slice at_ tab.length ct) dl X (some ⟨g', 0, none⟩) cap' (K ++ [(k : Int)]) a2 c2 L tab rs) w3 := by
            have z := ((HDS.out.perm ds_again).below ((Below.refl _ _).alloc (Nat.le_refl _) (.cells #[.int .i64 (k : Int)] 3))).snoc ho3 (hwh3.imp id (fun e => by simpa using e)) hch3
            exact z.perm ds_again.symm
          have e1 : w3.cell? ⟨wb, 1, none⟩ = some (.int .i64 tr) := (HG.dsCell 1 (by decide)).1
          have g1 : w3.frozen? ⟨wb, 1, none⟩ = false := (HG.dsCell 1 (by decide)).2
          have hwt : IntKind.i64.wrap (tr + 1) = tr + 1 := by rw [IntKind.wrap_i64] <;> omega
          have HG4 : Has B w (DS wb (some ⟨tr + 1, ag, la, td⟩) x (.slice at_ tab.length ct) dl X (some ⟨g', 0, none⟩) cap' (K ++ [(k : Int)]) a2 c2 L tab rs) (w3.setCell ⟨wb, 1, none⟩ (.int .i64 (tr + 1))) := HG.dsPut 1 (by decide) (some ⟨tr + 1, ag, la, td⟩) _ rfl (fun j hj hne => by
            rcases (show j = 0 ∨ j = 2 ∨ j = 3 ∨ j = 4 by omega) with rfl | rfl | rfl | rfl <;> rfl)
          obtain ⟨w4, hw4⟩ : ∃ w4, w4 = w3.setCell ⟨wb, 1, none⟩ (.int .i64 (tr + 1)) := ⟨_, rfl⟩
          rw [← hw4] at HG4
          have HW4 : Hid (w4 = w3.setCell ⟨wb, 1, none⟩ (.int .i64 (tr + 1))) := hw4
          have HD4 : Hid (Has B w (DS wb (some ⟨tr + 1, ag, la, td⟩) x (.slice at_ tab.length ct) dl X (some ⟨g', 0, none⟩) cap' (K ++ [(k : Int)]) a2 c2 L tab rs) w4) := HG4
          have t1 : w4.cell? ⟨wb, 1, none⟩ = some (.int .i64 (tr + 1)) := (HG4.dsCell 1 (by decide)).1
          have x0 : w4.cell? ⟨x, 0, none⟩ = some (.slice at_ tab.length ct) := (HG4.xr (x := x) (v := .slice at_ tab.length ct) (dl := dl) (A := X) (by simp)).1
          have HC : Hid (∀ wq, Below w4.heap.size w4 wq → Calls Try.prog 12 #[.slice at_ tab.length ct, .int .i64 (tr + 1)] wq fun e w' => e = .returned (.tuple #[.int .i64 (dly tab (tr + 1)), .int .i64 0]) ∧ w'.cell? ⟨x, 0, none⟩ = some (.slice at_ tab.length ct) ∧ w'.cell? ⟨wb, 1, none⟩ = some (.int .i64 (tr + 1)) ∧ Hid (Has B w (DS wb (some ⟨tr + 1, ag, la, td⟩) x (.slice at_ tab.length ct) dl X (some ⟨g', 0, none⟩) cap' (K ++ [(k : Int)]) a2 c2 L tab rs) w')) := fun wq hq => by
            have hh := HD4.out.below hq
            refine (CD.out wq _ (tr + 1) hh (by simp) (by omega) (by omega)).mono ?_
            rintro e w' ⟨he, hb⟩
            have h2 := hh.below hb
            exact ⟨he, (h2.xr (x := x) (v := .slice at_ tab.length ct) (dl := dl) (A := X) (by simp)).1, (h2.dsCell 1 (by decide)).1, h2⟩
          have HBD : Hid (Below w4.heap.size w4 w4.drew) := (Below.refl _ _).drew
          have hdb := dly_bounds HT.out (tr + 1)
          have hlat := later_min HN.out (n := dly tab (tr + 1)) (by omega)
          have hE2 : dueA tab now A (k : Int) = some ⟨tr + 1, later now (dly tab (tr + 1)), la, td || decide (la ≤ now)⟩ := by
            rw [hE]
            unfold dueW
            simp only [if_pos hag]
          have hwn : IntKind.i64.wrap (now + dly tab (tr + 1)) = now + dly tab (tr + 1) := by have := HN.out; unfold Tick M at this; rw [IntKind.wrap_i64] <;> omega
          rw [dag] at hD
          clear hE hown ho3 hwh3 hch3 HG HG4 hw4 HDS b0 b2 CD HT HN HD4 hag
          go_upto_region 12 with fail
          rw [← HW4.out]
          clear HW4 e1 g1
          go_wp2_with fail
          go_region_held3 (fun w' => w'.cell? ⟨x, 0, none⟩ = some (.slice at_ tab.length ct) ∧ w'.cell? ⟨wb, 1, none⟩ = some (.int .i64 (tr + 1))) (go_keep) (first | (go_at_call 12; refine (HC.out _ HBD.out).mono ?_; rintro e w5 ⟨rfl, m0, m1, H5⟩))
          have e2 : w5.cell? ⟨wb, 2, none⟩ = some (.int .i64 ag) := (H5.out.dsCell 2 (by decide)).1
          have g2 : w5.frozen? ⟨wb, 2, none⟩ = false := (H5.out.dsCell 2 (by decide)).2
          have HDS : Hid (Has B w (DS wb (some ⟨tr + 1, later now (dly tab (tr + 1)), la, td⟩) x (.slice at_ tab.length ct) dl X (some ⟨g', 0, none⟩) cap' (K ++ [(k : Int)]) a2 c2 L tab rs) (w5.setCell ⟨wb, 2, none⟩ (.int .i64 (later now (dly tab (tr + 1)))))) := H5.out.dsPut 2 (by decide) (some ⟨tr + 1, later now (dly tab (tr + 1)), la, td⟩) _ rfl (fun j hj hne => by
            rcases (show j = 0 ∨ j = 1 ∨ j = 3 ∨ j = 4 by omega) with rfl | rfl | rfl | rfl <;> rfl)
          obtain ⟨w0, hw6⟩ : ∃ w0, w0 = w5.setCell ⟨wb, 2, none⟩ (.int .i64 (later now (dly tab (tr + 1)))) := ⟨_, rfl⟩
          rw [← hw6] at HDS
          have HW6 : Hid (w0 = w5.setCell ⟨wb, 2, none⟩ (.int .i64 (later now (dly tab (tr + 1))))) := hw6
          clear HC HBD H5 hw6 t1 x0 m0 m1
          generalize later now (dly tab (tr + 1)) = ag2 at *
          generalize dly tab (tr + 1) = dd at *
          go_upto_region 14 with fail
          rw [← HW6.out]
          clear HW6 e2 g2
          have b0 : w0.cell? ⟨wb, 0, none⟩ = some (.bool true) := (HDS.out.dsCell 0 (by decide)).1
          have b3 : w0.cell? ⟨wb, 3, none⟩ = some (.int .i64 la) := (HDS.out.dsCell 3 (by decide)).1
          have b4 : w0.cell? ⟨wb, 4, none⟩ = some (.bool td) := (HDS.out.dsCell 4 (by decide)).1
          cases td with
          | true =>
            have hL2 : isLate A now (k : Int) = false := hL
            have hE3 : dueA tab now A (k : Int) = some ⟨tr + 1, ag2, la, true⟩ := hE2
            clear hE2
            have HB17 : Hid (Has B w (XR x (.slice at_ tab.length ct) dl (upd X (k : Int) (some ⟨tr + 1, ag2, la, true⟩)) :: IRowR (.slice (some ⟨g', 0, none⟩) (K ++ [(k : Int)]).length cap') (K ++ [(k : Int)]) :: IRowR (.slice a2 (L).length c2) (L) :: IRowR (.slice at_ tab.length ct) tab :: rs) (put5 w0 x (2 + k * 5) (.bool true) (.int .i64 (tr + 1)) (.int .i64 ag2) (.int .i64 la) (.bool true)).drew) := HDS.out.dsBack k hk61n
            have HQ : Hid ((K ++ [(k : Int)]) = dueL A now (k + 1 - 1) ∧ (L) = lateL A now (k + 1 - 1) ∧ upd X (k : Int) (some ⟨tr + 1, ag2, la, true⟩) = dueTo tab now A (k + 1 - 1)) := by
              have z := HEND.out true false _ hD hL2 hE3
              have z2 : ((K ++ [(k : Int)]) = dueL A now (k + 1 - 1) ∧ (L) = lateL A now (k + 1 - 1) ∧ upd X (k : Int) (some ⟨tr + 1, ag2, la, true⟩) = dueTo tab now A (k + 1 - 1)) := by simpa using z
              exact z2
            have HAt := HDS.out.atId k hk61n
            have p0 : w0.cell? ⟨wb, 0, none⟩ = some (.bool true) := HAt.b 0 (by decide)
            have p1 : w0.cell? ⟨wb, 1, none⟩ = some (.int .i64 (tr + 1)) := HAt.b 1 (by decide)
            have p2 : w0.cell? ⟨wb, 2, none⟩ = some (.int .i64 ag2) := HAt.b 2 (by decide)
            have p3 : w0.cell? ⟨wb, 3, none⟩ = some (.int .i64 la) := HAt.b 3 (by decide)
            have p4 : w0.cell? ⟨wb, 4, none⟩ = some (.bool true) := HAt.b 4 (by decide)
            have r0 : w0.cell? ⟨x, 2 + k * 5, none⟩ = some (xcell (X (k : Int)) 0) := HAt.c 0 (by decide)
            have r1 := HAt.c 1 (by decide)
            have r2 := HAt.c 2 (by decide)
            have r3 := HAt.c 3 (by decide)
            have r4 := HAt.c 4 (by decide)
            have s0 := HAt.f (2 + k * 5)
            have s1 := HAt.f (2 + k * 5 + 1)
            have s2 := HAt.f (2 + k * 5 + 2)
            have s3 := HAt.f (2 + k * 5 + 3)
            have s4 := HAt.f (2 + k * 5 + 4)
            clear HAt HDS HEND hXk hD hL hE3
            go_wp2_with fail
            go_region_law (fail)
            all_goals go_wp2
            all_goals exact ⟨⟨k + 1, K ++ [(k : Int)], L, upd X (k : Int) (some ⟨tr + 1, ag2, la, true⟩), (some ⟨g', 0, none⟩), cap', a2, c2, by omega, by omega, (by first | omega | (simp; omega)), (by first | omega | (simp; omega)), by go_num, (by first | rfl | simp), (by first | rfl | simp), HQ, HB17⟩, by simp [intOf]; omega⟩
          | false =>
            by_cases hla : la ≤ now
            · have dla : decide (la ≤ now) = true := by simpa using hla
              rw [dla] at hL
              have hL2 : isLate A now (k : Int) = true := hL
              have hE3 : dueA tab now A (k : Int) = some ⟨tr + 1, ag2, la, true⟩ := by rw [hE2, dla]; rfl
              have hown := (HDS.out.perm ds_late).own (t := 3) (size := 1) (v := .slice a2 L.length c2) (n := L.length) (xs := L.map fun n => .int .i64 n) List.mem_cons_self
              clear hE2
              go_wp2_with (at_builtin; refine wpList_append_more _ rfl _ _ 22 rfl 0 3 i0 (.int .i64 0) 1 8 Try.underlying22 hi hz0 hz1 hz2 rfl (by decide) _ _ _ rfl (own_below hown ((Below.refl _ _).alloc (Nat.le_refl _) _)) ⟨_, 0, none⟩ 1 1 [.int .i64 (k : Int)] rfl rfl (one_new _ _ _) (one_int _) (by decide) (by unfold maxLen; omega) (by omega) ?_)
              intro gl capl w7 ho7 hwh7 hch7
              have HG7 : Has B w (DS wb (some ⟨tr + 1, ag2, la, false⟩) x (.slice at_ tab.length ct) dl X (some ⟨g', 0, none⟩) cap' (K ++ [(k : Int)]) (some ⟨gl, 0, none⟩) capl (L ++ [(k : Int)]) tab rs) w7 := by
                have z := ((HDS.out.perm ds_late).below ((Below.refl _ _).alloc (Nat.le_refl _) (.cells #[.int .i64 (k : Int)] 3))).snoc ho7 (hwh7.imp id (fun e => by simpa using e)) hch7
                exact z.perm ds_late.symm
              have e4 : w7.cell? ⟨wb, 4, none⟩ = some (.bool false) := (HG7.dsCell 4 (by decide)).1
              have g4 : w7.frozen? ⟨wb, 4, none⟩ = false := (HG7.dsCell 4 (by decide)).2
              have HG8 : Has B w (DS wb (some ⟨tr + 1, ag2, la, true⟩) x (.slice at_ tab.length ct) dl X (some ⟨g', 0, none⟩) cap' (K ++ [(k : Int)]) (some ⟨gl, 0, none⟩) capl (L ++ [(k : Int)]) tab rs) (w7.setCell ⟨wb, 4, none⟩ (.bool true)) := HG7.dsPut 4 (by decide) (some ⟨tr + 1, ag2, la, true⟩) _ rfl (fun j hj hne => by
                rcases (show j = 0 ∨ j = 1 ∨ j = 2 ∨ j = 3 by omega) with rfl | rfl | rfl | rfl <;> rfl)
              obtain ⟨w8, hw8⟩ : ∃ w8, w8 = w7.setCell ⟨wb, 4, none⟩ (.bool true) := ⟨_, rfl⟩
              rw [← hw8] at HG8
              have HW8 : Hid (w8 = w7.setCell ⟨wb, 4, none⟩ (.bool true)) := hw8
              clear HDS hown ho7 hwh7 hch7 HG7 hw8 b0 b3 b4
              have HDS : Hid (Has B w (DS wb (some ⟨tr + 1, ag2, la, true⟩) x (.slice at_ tab.length ct) dl X (some ⟨g', 0, none⟩) cap' (K ++ [(k : Int)]) (some ⟨gl, 0, none⟩) capl (L ++ [(k : Int)]) tab rs) w8) := HG8
              clear HG8
              go_upto_region 17 with fail
              rw [← HW8.out]
              clear HW8 e4 g4
              have HB17 : Hid (Has B w (XR x (.slice at_ tab.length ct) dl (upd X (k : Int) (some ⟨tr + 1, ag2, la, true⟩)) :: IRowR (.slice (some ⟨g', 0, none⟩) (K ++ [(k : Int)]).length cap') (K ++ [(k : Int)]) :: IRowR (.slice (some ⟨gl, 0, none⟩) (L ++ [(k : Int)]).length capl) (L ++ [(k : Int)]) :: IRowR (.slice at_ tab.length ct) tab :: rs) (put5 w8 x (2 + k * 5) (.bool true) (.int .i64 (tr + 1)) (.int .i64 ag2) (.int .i64 la) (.bool true)).drew) := HDS.out.dsBack k hk61n
              have HQ : Hid ((K ++ [(k : Int)]) = dueL A now (k + 1 - 1) ∧ (L ++ [(k : Int)]) = lateL A now (k + 1 - 1) ∧ upd X (k : Int) (some ⟨tr + 1, ag2, la, true⟩) = dueTo tab now A (k + 1 - 1)) := by
                have z := HEND.out true true _ hD hL2 hE3
                have z2 : ((K ++ [(k : Int)]) = dueL A now (k + 1 - 1) ∧ (L ++ [(k : Int)]) = lateL A now (k + 1 - 1) ∧ upd X (k : Int) (some ⟨tr + 1, ag2, la, true⟩) = dueTo tab now A (k + 1 - 1)) := by simpa using z
                exact z2
              have HAt := HDS.out.atId k hk61n
              have p0 : w8.cell? ⟨wb, 0, none⟩ = some (.bool true) := HAt.b 0 (by decide)
              have p1 : w8.cell? ⟨wb, 1, none⟩ = some (.int .i64 (tr + 1)) := HAt.b 1 (by decide)
              have p2 : w8.cell? ⟨wb, 2, none⟩ = some (.int .i64 ag2) := HAt.b 2 (by decide)
              have p3 : w8.cell? ⟨wb, 3, none⟩ = some (.int .i64 la) := HAt.b 3 (by decide)
              have p4 : w8.cell? ⟨wb, 4, none⟩ = some (.bool true) := HAt.b 4 (by decide)
              have r0 : w8.cell? ⟨x, 2 + k * 5, none⟩ = some (xcell (X (k : Int)) 0) := HAt.c 0 (by decide)
              have r1 := HAt.c 1 (by decide)
              have r2 := HAt.c 2 (by decide)
              have r3 := HAt.c 3 (by decide)
              have r4 := HAt.c 4 (by decide)
              have s0 := HAt.f (2 + k * 5)
              have s1 := HAt.f (2 + k * 5 + 1)
              have s2 := HAt.f (2 + k * 5 + 2)
              have s3 := HAt.f (2 + k * 5 + 3)
              have s4 := HAt.f (2 + k * 5 + 4)
              clear HAt HDS HEND hXk hD hL hE3
              go_wp2_with fail
              go_region_law (fail)
              all_goals go_wp2
              all_goals exact ⟨⟨k + 1, K ++ [(k : Int)], L ++ [(k : Int)], upd X (k : Int) (some ⟨tr + 1, ag2, la, true⟩), (some ⟨g', 0, none⟩), cap', (some ⟨gl, 0, none⟩), capl, by omega, by omega, (by first | omega | (simp; omega)), (by first | omega | (simp; omega)), by go_num, (by first | rfl | simp), (by first | rfl | simp), HQ, HB17⟩, by simp [intOf]; omega⟩
            · have dla : decide (la ≤ now) = false := by simpa using hla
              rw [dla] at hL
              have hL2 : isLate A now (k : Int) = false := hL
              have hE3 : dueA tab now A (k : Int) = some ⟨tr + 1, ag2, la, false⟩ := by rw [hE2, dla]; rfl
              clear hE2
              have HB17 : Hid (Has B w (XR x (.slice at_ tab.length ct) dl (upd X (k : Int) (some ⟨tr + 1, ag2, la, false⟩)) :: IRowR (.slice (some ⟨g', 0, none⟩) (K ++ [(k : Int)]).length cap') (K ++ [(k : Int)]) :: IRowR (.slice a2 (L).length c2) (L) :: IRowR (.slice at_ tab.length ct) tab :: rs) (put5 w0 x (2 + k * 5) (.bool true) (.int .i64 (tr + 1)) (.int .i64 ag2) (.int .i64 la) (.bool false)).drew) := HDS.out.dsBack k hk61n
              have HQ : Hid ((K ++ [(k : Int)]) = dueL A now (k + 1 - 1) ∧ (L) = lateL A now (k + 1 - 1) ∧ upd X (k : Int) (some ⟨tr + 1, ag2, la, false⟩) = dueTo tab now A (k + 1 - 1)) := by
                have z := HEND.out true false _ hD hL2 hE3
                have z2 : ((K ++ [(k : Int)]) = dueL A now (k + 1 - 1) ∧ (L) = lateL A now (k + 1 - 1) ∧ upd X (k : Int) (some ⟨tr + 1, ag2, la, false⟩) = dueTo tab now A (k + 1 - 1)) := by simpa using z
                exact z2
              have HAt := HDS.out.atId k hk61n
              have p0 : w0.cell? ⟨wb, 0, none⟩ = some (.bool true) := HAt.b 0 (by decide)
              have p1 : w0.cell? ⟨wb, 1, none⟩ = some (.int .i64 (tr + 1)) := HAt.b 1 (by decide)
              have p2 : w0.cell? ⟨wb, 2, none⟩ = some (.int .i64 ag2) := HAt.b 2 (by decide)
              have p3 : w0.cell? ⟨wb, 3, none⟩ = some (.int .i64 la) := HAt.b 3 (by decide)
              have p4 : w0.cell? ⟨wb, 4, none⟩ = some (.bool false) := HAt.b 4 (by decide)
              have r0 : w0.cell? ⟨x, 2 + k * 5, none⟩ = some (xcell (X (k : Int)) 0) := HAt.c 0 (by decide)
              have r1 := HAt.c 1 (by decide)
              have r2 := HAt.c 2 (by decide)
              have r3 := HAt.c 3 (by decide)
              have r4 := HAt.c 4 (by decide)
              have s0 := HAt.f (2 + k * 5)
              have s1 := HAt.f (2 + k * 5 + 1)
              have s2 := HAt.f (2 + k * 5 + 2)
              have s3 := HAt.f (2 + k * 5 + 3)
              have s4 := HAt.f (2 + k * 5 + 4)
              clear HAt HDS HEND hXk hD hL hE3
              go_wp2_with fail
              go_region_law (fail)
              all_goals go_wp2
              all_goals exact ⟨⟨k + 1, K ++ [(k : Int)], L, upd X (k : Int) (some ⟨tr + 1, ag2, la, false⟩), (some ⟨g', 0, none⟩), cap', a2, c2, by omega, by omega, (by first | omega | (simp; omega)), (by first | omega | (simp; omega)), by go_num, (by first | rfl | simp), (by first | rfl | simp), HQ, HB17⟩, by simp [intOf]; omega⟩
        · have dag : decide (ag ≤ now) = false := by simpa using hag
          rw [dag] at hD
          have hE2 : dueA tab now A (k : Int) = some ⟨tr, ag, la, td || decide (la ≤ now)⟩ := by
            rw [hE]
            unfold dueW
            simp only [if_neg hag]
          clear hE CD HT HN
          have b0 : w0.cell? ⟨wb, 0, none⟩ = some (.bool true) := (HDS.out.dsCell 0 (by decide)).1
          have b3 : w0.cell? ⟨wb, 3, none⟩ = some (.int .i64 la) := (HDS.out.dsCell 3 (by decide)).1
          have b4 : w0.cell? ⟨wb, 4, none⟩ = some (.bool td) := (HDS.out.dsCell 4 (by decide)).1
          cases td with
          | true =>
            have hL2 : isLate A now (k : Int) = false := hL
            have hE3 : dueA tab now A (k : Int) = some ⟨tr, ag, la, true⟩ := hE2
            clear hE2
            have HB17 : Hid (Has B w (XR x (.slice at_ tab.length ct) dl (upd X (k : Int) (some ⟨tr, ag, la, true⟩)) :: IRowR (.slice a1 (K).length c1) (K) :: IRowR (.slice a2 (L).length c2) (L) :: IRowR (.slice at_ tab.length ct) tab :: rs) (put5 w0 x (2 + k * 5) (.bool true) (.int .i64 tr) (.int .i64 ag) (.int .i64 la) (.bool true)).drew) := HDS.out.dsBack k hk61n
            have HQ : Hid ((K) = dueL A now (k + 1 - 1) ∧ (L) = lateL A now (k + 1 - 1) ∧ upd X (k : Int) (some ⟨tr, ag, la, true⟩) = dueTo tab now A (k + 1 - 1)) := by
              have z := HEND.out false false _ hD hL2 hE3
              have z2 : ((K) = dueL A now (k + 1 - 1) ∧ (L) = lateL A now (k + 1 - 1) ∧ upd X (k : Int) (some ⟨tr, ag, la, true⟩) = dueTo tab now A (k + 1 - 1)) := by simpa using z
              exact z2
            have HAt := HDS.out.atId k hk61n
            have p0 : w0.cell? ⟨wb, 0, none⟩ = some (.bool true) := HAt.b 0 (by decide)
            have p1 : w0.cell? ⟨wb, 1, none⟩ = some (.int .i64 tr) := HAt.b 1 (by decide)
            have p2 : w0.cell? ⟨wb, 2, none⟩ = some (.int .i64 ag) := HAt.b 2 (by decide)
            have p3 : w0.cell? ⟨wb, 3, none⟩ = some (.int .i64 la) := HAt.b 3 (by decide)
            have p4 : w0.cell? ⟨wb, 4, none⟩ = some (.bool true) := HAt.b 4 (by decide)
            have r0 : w0.cell? ⟨x, 2 + k * 5, none⟩ = some (xcell (X (k : Int)) 0) := HAt.c 0 (by decide)
            have r1 := HAt.c 1 (by decide)
            have r2 := HAt.c 2 (by decide)
            have r3 := HAt.c 3 (by decide)
            have r4 := HAt.c 4 (by decide)
            have s0 := HAt.f (2 + k * 5)
            have s1 := HAt.f (2 + k * 5 + 1)
            have s2 := HAt.f (2 + k * 5 + 2)
            have s3 := HAt.f (2 + k * 5 + 3)
            have s4 := HAt.f (2 + k * 5 + 4)
            clear HAt HDS HEND hXk hD hL hE3
            go_wp2_with fail
            go_region_law (fail)
            all_goals go_wp2
            all_goals exact ⟨⟨k + 1, K, L, upd X (k : Int) (some ⟨tr, ag, la, true⟩), a1, c1, a2, c2, by omega, by omega, (by first | omega | (simp; omega)), (by first | omega | (simp; omega)), by go_num, (by first | rfl | simp), (by first | rfl | simp), HQ, HB17⟩, by simp [intOf]; omega⟩
          | false =>
            by_cases hla : la ≤ now
            · have dla : decide (la ≤ now) = true := by simpa using hla
              rw [dla] at hL
              have hL2 : isLate A now (k : Int) = true := hL
              have hE3 : dueA tab now A (k : Int) = some ⟨tr, ag, la, true⟩ := by rw [hE2, dla]; rfl
              have hown := (HDS.out.perm ds_late).own (t := 3) (size := 1) (v := .slice a2 L.length c2) (n := L.length) (xs := L.map fun n => .int .i64 n) List.mem_cons_self
              clear hE2
              go_wp2_with (at_builtin; refine wpList_append_more _ rfl _ _ 22 rfl 0 3 i0 (.int .i64 0) 1 8 Try.underlying22 hi hz0 hz1 hz2 rfl (by decide) _ _ _ rfl (own_below hown ((Below.refl _ _).alloc (Nat.le_refl _) _)) ⟨_, 0, none⟩ 1 1 [.int .i64 (k : Int)] rfl rfl (one_new _ _ _) (one_int _) (by decide) (by unfold maxLen; omega) (by omega) ?_)
              intro gl capl w7 ho7 hwh7 hch7
              have HG7 : Has B w (DS wb (some ⟨tr, ag, la, false⟩) x (.slice at_ tab.length ct) dl X a1 c1 (K) (some ⟨gl, 0, none⟩) capl (L ++ [(k : Int)]) tab rs) w7 := by
                have z := ((HDS.out.perm ds_late).below ((Below.refl _ _).alloc (Nat.le_refl _) (.cells #[.int .i64 (k : Int)] 3))).snoc ho7 (hwh7.imp id (fun e => by simpa using e)) hch7
                exact z.perm ds_late.symm
              have e4 : w7.cell? ⟨wb, 4, none⟩ = some (.bool false) := (HG7.dsCell 4 (by decide)).1
              have g4 : w7.frozen? ⟨wb, 4, none⟩ = false := (HG7.dsCell 4 (by decide)).2
              have HG8 : Has B w (DS wb (some ⟨tr, ag, la, true⟩) x (.slice at_ tab.length ct) dl X a1 c1 (K) (some ⟨gl, 0, none⟩) capl (L ++ [(k : Int)]) tab rs) (w7.setCell ⟨wb, 4, none⟩ (.bool true)) := HG7.dsPut 4 (by decide) (some ⟨tr, ag, la, true⟩) _ rfl (fun j hj hne => by
                rcases (show j = 0 ∨ j = 1 ∨ j = 2 ∨ j = 3 by omega) with rfl | rfl | rfl | rfl <;> rfl)
              obtain ⟨w8, hw8⟩ : ∃ w8, w8 = w7.setCell ⟨wb, 4, none⟩ (.bool true) := ⟨_, rfl⟩
              rw [← hw8] at HG8
              have HW8 : Hid (w8 = w7.setCell ⟨wb, 4, none⟩ (.bool true)) := hw8
              clear HDS hown ho7 hwh7 hch7 HG7 hw8 b0 b3 b4
              have HDS : Hid (Has B w (DS wb (some ⟨tr, ag, la, true⟩) x (.slice at_ tab.length ct) dl X a1 c1 (K) (some ⟨gl, 0, none⟩) capl (L ++ [(k : Int)]) tab rs) w8) := HG8
              clear HG8
              go_upto_region 17 with fail
              rw [← HW8.out]
              clear HW8 e4 g4
              have HB17 : Hid (Has B w (XR x (.slice at_ tab.length ct) dl (upd X (k : Int) (some ⟨tr, ag, la, true⟩)) :: IRowR (.slice a1 (K).length c1) (K) :: IRowR (.slice (some ⟨gl, 0, none⟩) (L ++ [(k : Int)]).length capl) (L ++ [(k : Int)]) :: IRowR (.slice at_ tab.length ct) tab :: rs) (put5 w8 x (2 + k * 5) (.bool true) (.int .i64 tr) (.int .i64 ag) (.int .i64 la) (.bool true)).drew) := HDS.out.dsBack k hk61n
              have HQ : Hid ((K) = dueL A now (k + 1 - 1) ∧ (L ++ [(k : Int)]) = lateL A now (k + 1 - 1) ∧ upd X (k : Int) (some ⟨tr, ag, la, true⟩) = dueTo tab now A (k + 1 - 1)) := by
                have z := HEND.out false true _ hD hL2 hE3
                have z2 : ((K) = dueL A now (k + 1 - 1) ∧ (L ++ [(k : Int)]) = lateL A now (k + 1 - 1) ∧ upd X (k : Int) (some ⟨tr, ag, la, true⟩) = dueTo tab now A (k + 1 - 1)) := by simpa using z
                exact z2
              have HAt := HDS.out.atId k hk61n
              have p0 : w8.cell? ⟨wb, 0, none⟩ = some (.bool true) := HAt.b 0 (by decide)
              have p1 : w8.cell? ⟨wb, 1, none⟩ = some (.int .i64 tr) := HAt.b 1 (by decide)
              have p2 : w8.cell? ⟨wb, 2, none⟩ = some (.int .i64 ag) := HAt.b 2 (by decide)
              have p3 : w8.cell? ⟨wb, 3, none⟩ = some (.int .i64 la) := HAt.b 3 (by decide)
              have p4 : w8.cell? ⟨wb, 4, none⟩ = some (.bool true) := HAt.b 4 (by decide)
              have r0 : w8.cell? ⟨x, 2 + k * 5, none⟩ = some (xcell (X (k : Int)) 0) := HAt.c 0 (by decide)
              have r1 := HAt.c 1 (by decide)
              have r2 := HAt.c 2 (by decide)
              have r3 := HAt.c 3 (by decide)
              have r4 := HAt.c 4 (by decide)
              have s0 := HAt.f (2 + k * 5)
              have s1 := HAt.f (2 + k * 5 + 1)
              have s2 := HAt.f (2 + k * 5 + 2)
              have s3 := HAt.f (2 + k * 5 + 3)
              have s4 := HAt.f (2 + k * 5 + 4)
              clear HAt HDS HEND hXk hD hL hE3
              go_wp2_with fail
              go_region_law (fail)
              all_goals go_wp2
              all_goals exact ⟨⟨k + 1, K, L ++ [(k : Int)], upd X (k : Int) (some ⟨tr, ag, la, true⟩), a1, c1, (some ⟨gl, 0, none⟩), capl, by omega, by omega, (by first | omega | (simp; omega)), (by first | omega | (simp; omega)), by go_num, (by first | rfl | simp), (by first | rfl | simp), HQ, HB17⟩, by simp [intOf]; omega⟩
            · have dla : decide (la ≤ now) = false := by simpa using hla
              rw [dla] at hL
              have hL2 : isLate A now (k : Int) = false := hL
              have hE3 : dueA tab now A (k : Int) = some ⟨tr, ag, la, false⟩ := by rw [hE2, dla]; rfl
              clear hE2
              have HB17 : Hid (Has B w (XR x (.slice at_ tab.length ct) dl (upd X (k : Int) (some ⟨tr, ag, la, false⟩)) :: IRowR (.slice a1 (K).length c1) (K) :: IRowR (.slice a2 (L).length c2) (L) :: IRowR (.slice at_ tab.length ct) tab :: rs) (put5 w0 x (2 + k * 5) (.bool true) (.int .i64 tr) (.int .i64 ag) (.int .i64 la) (.bool false)).drew) := HDS.out.dsBack k hk61n
              have HQ : Hid ((K) = dueL A now (k + 1 - 1) ∧ (L) = lateL A now (k + 1 - 1) ∧ upd X (k : Int) (some ⟨tr, ag, la, false⟩) = dueTo tab now A (k + 1 - 1)) := by
                have z := HEND.out false false _ hD hL2 hE3
                have z2 : ((K) = dueL A now (k + 1 - 1) ∧ (L) = lateL A now (k + 1 - 1) ∧ upd X (k : Int) (some ⟨tr, ag, la, false⟩) = dueTo tab now A (k + 1 - 1)) := by simpa using z
                exact z2
              have HAt := HDS.out.atId k hk61n
              have p0 : w0.cell? ⟨wb, 0, none⟩ = some (.bool true) := HAt.b 0 (by decide)
              have p1 : w0.cell? ⟨wb, 1, none⟩ = some (.int .i64 tr) := HAt.b 1 (by decide)
              have p2 : w0.cell? ⟨wb, 2, none⟩ = some (.int .i64 ag) := HAt.b 2 (by decide)
              have p3 : w0.cell? ⟨wb, 3, none⟩ = some (.int .i64 la) := HAt.b 3 (by decide)
              have p4 : w0.cell? ⟨wb, 4, none⟩ = some (.bool false) := HAt.b 4 (by decide)
              have r0 : w0.cell? ⟨x, 2 + k * 5, none⟩ = some (xcell (X (k : Int)) 0) := HAt.c 0 (by decide)
              have r1 := HAt.c 1 (by decide)
              have r2 := HAt.c 2 (by decide)
              have r3 := HAt.c 3 (by decide)
              have r4 := HAt.c 4 (by decide)
              have s0 := HAt.f (2 + k * 5)
              have s1 := HAt.f (2 + k * 5 + 1)
              have s2 := HAt.f (2 + k * 5 + 2)
              have s3 := HAt.f (2 + k * 5 + 3)
              have s4 := HAt.f (2 + k * 5 + 4)
              clear HAt HDS HEND hXk hD hL hE3
              go_wp2_with fail
              go_region_law (fail)
              all_goals go_wp2
              all_goals exact ⟨⟨k + 1, K, L, upd X (k : Int) (some ⟨tr, ag, la, false⟩), a1, c1, a2, c2, by omega, by omega, (by first | omega | (simp; omega)), (by first | omega | (simp; omega)), by go_num, (by first | rfl | simp), (by first | rfl | simp), HQ, HB17⟩, by simp [intOf]; omega⟩
    · have hltI : ¬ (k : Int) ≤ 60 := by omega
      obtain rfl : k = 61 := by omega
      obtain ⟨e1, e2, e3⟩ := HQ0.out
      have hh := H.out
      rw [e3, show (61 : Nat) - 1 = 60 from rfl, dueTo_all HA.out, e1, e2] at hh
      have HF : Hid (Has B w (XR x (.slice at_ tab.length ct) dl (dueA tab now A) :: IRowR (.slice a1 (dueL A now 60).length c1) (dueL A now 60) :: IRowR (.slice a2 (lateL A now 60).length c2) (lateL A now 60) :: IRowR (.slice at_ tab.length ct) tab :: rs) wr) := hh
      have l1 : K.length = (dueL A now 60).length := by rw [e1]
      have l2 : L.length = (lateL A now 60).length := by rw [e2]
      rw [l1, l2]
      clear HQ0 H hh e1 e2 e3 HA HT HN CD l1 l2 hKl hLl
      go_wp2_with fail
      go_ret2
      exact ⟨a1, c1, a2, c2, rfl, HF.out⟩
end
end Go.Proofs.Yteadnjagandkfaa
