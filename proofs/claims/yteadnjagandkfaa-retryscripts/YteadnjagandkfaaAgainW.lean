/- The law RetryAgain, walked. -/
import Derived.Test.YteadnjagandkfaaOneW
set_option linter.unusedVariables false
set_option maxRecDepth 100000
namespace Go.Proofs.Yteadnjagandkfaa
open Go.RowKit
open WheelMath RetryMath
open Go.Maps (Keyed)

/-- A slice value that leads to the bools xs. -/
def BRow (w : World) (v : Value) (xs : List Bool) : Prop := ∃ ao cap, v = .slice ao xs.length cap ∧ xs.length ≤ cap ∧ ∀ j, (h : j < xs.length) → ∃ g o, ao = some ⟨g, o, none⟩ ∧ g < w.heap.size ∧ w.cell? ⟨g, o + j, none⟩ = some (.bool xs[j])
/-- The table's number at a place, as the law reads it. -/
theorem tab_cell {w : World} {ao : Option Addr} {cap : Nat} {tab : List Int} (h : IRow w (.slice ao tab.length cap) tab) (hm : may tab = true) (n : Nat) : ∃ (m : Nat) (g o : Nat), ao = some ⟨g, o, none⟩ ∧ m < tab.length ∧ (m : Int) = min (n : Int) ((tab.length : Int) - 1) ∧ w.cell? ⟨g, o + m, none⟩ = some (.int .i64 (dly tab (n : Int))) := by
  obtain ⟨hl1, _, _⟩ := may_bounds hm
  obtain ⟨_, _, e, _, _, hr⟩ := h
  cases e
  have hml : min n (tab.length - 1) < tab.length := by omega
  obtain ⟨g, o, hg, _, hc⟩ := hr _ hml
  refine ⟨min n (tab.length - 1), g, o, hg, hml, by omega, ?_⟩
  rw [hc]
  unfold dly
  rw [Int.toNat_natCast, List.getD_eq_getElem?_getD, List.getElem?_eq_getElem hml]
  rfl
set_option maxHeartbeats 16000000 in
theorem again_walk (v : Value) (raw : List Int) (hl : raw.length ≤ 140737488355328) (hz : ∀ x ∈ raw, I64 x) (dl0 id0 : Int) (hd0 : I64 dl0) (hi0 : I64 id0) (mv : Value) (moves : List Bool) (hml : moves.length ≤ 140737488355328) (w : World) (hr : IRow w v raw) (hmr : BRow w mv moves) :
    Calls Try.prog 6 #[v, .int .i64 dl0, .int .i64 id0, mv] w fun e w' => e = .returned (.bool true) ∧ Below w.heap.size w w' := by
  have hp1 := pick_lt dl0 60 (by decide)
  have hp2 := pick_lt id0 60 (by decide)
  have CF : Hid (Calls Try.prog 13 #[v] w fun e w' => ∃ tab ao cap, may tab = true ∧ e = .returned (.slice ao tab.length cap) ∧ Has w.heap.size w (IRowR (.slice ao tab.length cap) tab :: []) w') := fit_any (Has.start w) v raw hl hz hr
  have CP1 : Hid (∀ wq, Calls Try.prog 14 #[.int .i64 dl0, .int .i64 60] wq fun e w' => e = .returned (.int .i64 (pick dl0 60 : Int)) ∧ w' = wq) := fun wq => pick_any dl0 60 (by decide) (by decide) hd0 wq
  have CP2 : Hid (∀ wq, Calls Try.prog 14 #[.int .i64 id0, .int .i64 60] wq fun e w' => e = .returned (.int .i64 (pick id0 60 : Int)) ∧ w' = wq) := fun wq => pick_any id0 60 (by decide) (by decide) hi0 wq
  have hw1 : IntKind.i64.wrap (1 + (pick dl0 60 : Int)) = 1 + (pick dl0 60 : Int) := by rw [IntKind.wrap_i64] <;> omega
  have hw2 : IntKind.i64.wrap (1 + (pick id0 60 : Int)) = 1 + (pick id0 60 : Int) := by rw [IntKind.wrap_i64] <;> omega
  obtain ⟨ar, cr, rfl, _⟩ := hr
  have HMR : Hid (BRow w mv moves) := hmr
  obtain ⟨am, cm, rfl, hcm, _⟩ := hmr
  clear hz hd0 hi0
  go_enter Try.func6, Try.ntmps6
  go_wp2_with fail
  refine CF.out.mono ?_
  rintro e w1 ⟨tab, at_, ct, hmay, rfl, h1⟩
  have HM : Hid (may tab = true) := hmay
  have H1 : Hid (Has w.heap.size w [IRowR (.slice at_ tab.length ct) tab] w1) := h1
  have hl8 : tab.length ≤ 8 := (may_bounds hmay).2.1
  have hl1 : 1 ≤ tab.length := (may_bounds hmay).1
  clear CF h1 hmay
  go_wp2_with fail
  refine (CP1.out _).mono ?_
  rintro e w2 ⟨rfl, hw⟩
  rw [hw]
  clear hw w2 CP1
  go_wp2_with fail
  refine (CP2.out _).mono ?_
  rintro e w2 ⟨rfl, hw⟩
  rw [hw]
  clear hw w2 CP2
  go_wp2_with fail
  obtain ⟨dl, hdl⟩ : ∃ dl, dl = 1 + (pick dl0 60 : Int) := ⟨_, rfl⟩
  obtain ⟨id, hid⟩ : ∃ id, id = 1 + (pick id0 60 : Int) := ⟨_, rfl⟩
  have hdb : 1 ≤ dl ∧ dl ≤ 60 := by omega
  have hib : 1 ≤ id ∧ id ≤ 60 := by omega
  have CN : Hid (Calls Try.prog 8 #[.slice at_ tab.length ct, .int .i64 dl] w1 fun e w' => ∃ q, e = .returned (.tuple #[.pointer (some ⟨q, 0, none⟩), .int .i64 0]) ∧ Hid (Has w.heap.size w (RtR q tab dl 0 none0 :: [IRowR (.slice at_ tab.length ct) tab]) w')) :=
    pNew_yes H1.out _ tab (by omega) (H1.out.irow List.mem_cons_self) dl HM.out hdb.1 (by omega)
  have CB : Hid (∀ q wq, Has w.heap.size w (RtR q tab dl 0 none0 :: [IRowR (.slice at_ tab.length ct) tab]) wq → Calls Try.prog 16 #[.pointer (some ⟨q, 0, none⟩), .int .i64 id, .int .i64 0] wq fun e w' => e = .returned (.int .i64 0) ∧ Hid (Has w.heap.size w (RtR q tab dl 1 (one id (wt 0 (dly tab 0) dl 1)) :: [IRowR (.slice at_ tab.length ct) tab]) w')) := fun q wq hq =>
    begin_one hq HM.out hdb.1 (by omega) (by decide) (by decide) hib.1 hib.2
  have CD : Hid (∀ q wq (k tr : Nat) nx, k ≤ 100 → (k : Int) ≤ nx → Has w.heap.size w (RtR q tab dl (2 * k) (one id (wt tr nx dl k)) :: [IRowR (.slice at_ tab.length ct) tab]) wq → Calls Try.prog 22 #[.pointer (some ⟨q, 0, none⟩), .int .i64 (k : Int)] wq fun e w' => ∃ ai ci aj cj n1 n2 l1 l2, n1 ≤ 1 ∧ n2 ≤ 1 ∧ e = .returned (.tuple #[.slice ai n1 ci, .slice aj n2 cj]) ∧ Hid (l1.length ≤ 1 ∧ l2.length ≤ 1 ∧ decide (id ∈ l1) = ((k : Int) == nx) ∧ decide (id ∈ l2) = ((k : Int) == dl)) ∧
      Hid (Has w.heap.size w (RtR q tab dl (2 * k + 1) (one id (dueW tab k (wt tr nx dl k))) :: IRowR (.slice aj n2 cj) l2 :: IRowR (.slice ai n1 ci) l1 :: [IRowR (.slice at_ tab.length ct) tab]) w')) := fun q wq k tr nx hk hx hq =>
    due_one hq HM.out (by omega) (by omega) hib.1 hib.2 ⟨by omega, by unfold M; omega⟩ hx
  have CM : Hid (∀ q wq (k : Nat) tr nx, k ≤ 100 → Has w.heap.size w (RtR q tab dl (2 * k + 1) (one id (wt tr nx dl (k + 1))) :: [IRowR (.slice at_ tab.length ct) tab]) wq → Calls Try.prog 18 #[.pointer (some ⟨q, 0, none⟩), .int .i64 id, .int .i64 (k : Int)] wq fun e w' => e = .returned (.int .i64 0) ∧ Hid (Has w.heap.size w (RtR q tab dl (2 * (k + 1 : Nat)) (one id (wt (0 : Nat) (k + dly tab 0) dl (k + 1 : Nat))) :: [IRowR (.slice at_ tab.length ct) tab]) w')) := fun q wq k tr nx hk hq => by
    have x := moved_one hq HM.out (by omega) (by omega) hib.1 hib.2 (t := (k : Int)) ⟨by omega, by unfold M; omega⟩
    have hb := dly_bounds HM.out 0
    rw [later_small (by omega) (by omega) (by omega) (by omega)] at x
    rw [show (2 : Int) * (k : Int) + 1 + 1 = 2 * ((k + 1 : Nat) : Int) by omega, show (k : Int) + 1 = ((k + 1 : Nat) : Int) by omega] at x
    exact x
  have CS1 : Hid (∀ q wq N x, Has w.heap.size w (RtR q tab dl N (one id x) :: [IRowR (.slice at_ tab.length ct) tab]) wq → Calls Try.prog 20 #[.pointer (some ⟨q, 0, none⟩), .int .i64 id] wq fun e w' => e = .returned (.int .i64 0) ∧ Hid (Has w.heap.size w (RtR q tab dl N none0 :: [IRowR (.slice at_ tab.length ct) tab]) w')) := fun q wq N x hq => stop_one hq ⟨by omega, by omega⟩
  have CS2 : Hid (∀ q wq N, Has w.heap.size w (RtR q tab dl N none0 :: [IRowR (.slice at_ tab.length ct) tab]) wq → Calls Try.prog 20 #[.pointer (some ⟨q, 0, none⟩), .int .i64 id] wq fun e w' => e = .returned (.int .i64 1) ∧ Hid (Below w.heap.size w w')) := fun q wq N hq => (stop_none0 hq ⟨by omega, by omega⟩).mono (fun e w' ⟨he, hh⟩ => ⟨he, hh.bel⟩)
  have CH : Hid (∀ wq rs a l, Has w.heap.size w rs wq → IRowR a l ∈ rs → l.length ≤ 1 → Calls Try.prog 25 #[a, .int .i64 id] wq fun e w' => e = .returned (.bool (decide (id ∈ l))) ∧ Hid (Has w.heap.size w rs w')) := fun wq rs a l hq hm hl => hasH hq hm (by omega) id
  rw [← hdl, ← hid]
  clear hdl hid hw1 hw2 hp1 hp2
  refine CN.out.mono ?_
  rintro e w2 ⟨q, rfl, h2⟩
  have D1 := CB.out q w2 h2.out
  clear CN CB h2 H1
  go_wp2_with fail
  refine D1.mono ?_
  rintro e w3 ⟨rfl, h3⟩
  have H3 : Hid (Has w.heap.size w (RtR q tab dl 2 (one id (wt 0 (dly tab 0) dl 1)) :: [IRowR (.slice at_ tab.length ct) tab]) w3) := h3.out.rtTo (by decide)
  obtain ⟨g, o, rfl, c0⟩ : ∃ g o, at_ = some ⟨g, o, none⟩ ∧ w3.cell? ⟨g, o, none⟩ = some (.int .i64 (dly tab 0)) := by
    obtain ⟨m, g, o, hg, _, hm, hc⟩ := tab_cell (h3.out.irow (v := .slice at_ tab.length ct) (xs := tab) (by simp)) HM.out 0
    obtain rfl : m = 0 := by omega
    exact ⟨g, o, hg, hc⟩
  have hlI : (0 : Int) < (tab.length : Int) := by omega
  have hb0 := dly_bounds HM.out 0
  have HC0 : Hid (∀ wq rs, Has w.heap.size w rs wq → IRowR (.slice (some ⟨g, o, none⟩) tab.length ct) tab ∈ rs → wq.cell? ⟨g, o, none⟩ = some (.int .i64 (dly tab 0))) := fun wq rs hq hm => by
    obtain ⟨m, g', o', hg, _, hm0, hc⟩ := tab_cell (hq.irow hm) HM.out 0
    cases hg
    obtain rfl : m = 0 := by omega
    exact hc
  clear D1 h3
  go_wp2_with fail
  go_loopw [12, 13, 14] (fun tv nv iv wq => ∃ (k tr : Nat) (nx : Int), k ≤ 101 ∧ tr ≤ k ∧ (k : Int) ≤ nx ∧ nx ≤ 1101 ∧ tv = .int .i64 (tr : Int) ∧ nv = .int .i64 nx ∧ iv = .int .i64 (k : Int) ∧ Hid (Has w.heap.size w (RtR q tab dl (2 * (k : Int)) (one id (wt tr nx dl k)) :: [IRowR (.slice (some ⟨g, o, none⟩) tab.length ct) tab]) wq)) (fun _ _ iv _ => 101 - (intOf iv).toNat)
  case atStart => exact ⟨1, 0, dly tab 0, by decide, by decide, hb0.1, by omega, rfl, rfl, rfl, H3⟩
  case round =>
    obtain ⟨k, tr, nx, hk, htr, hkx, hnx, rfl, rfl, rfl, H⟩ := hrel
    clear H3 c0
    by_cases hlt : k ≤ 100
    · have hltI : (k : Int) ≤ 100 := by omega
      have D1 := CD.out q wr k tr nx hlt hkx H.out
      clear CD CS1 CS2 H
      go_wp2_with fail
      refine D1.mono ?_
      rintro e w4 ⟨ai, ci, aj, cj, n1, n2, l1, l2, hn1, hn2, rfl, HL, H4⟩
      clear D1
      have D2 := CH.out w4 _ (.slice ai n1 ci) l1 H4.out (by simp) HL.out.1
      have D3 : Hid (∀ wq, Has w.heap.size w (RtR q tab dl (2 * k + 1) (one id (dueW tab k (wt tr nx dl k))) :: IRowR (.slice aj n2 cj) l2 :: IRowR (.slice ai n1 ci) l1 :: [IRowR (.slice (some ⟨g, o, none⟩) tab.length ct) tab]) wq → Calls Try.prog 25 #[.slice aj n2 cj, .int .i64 id] wq fun e w' => e = .returned (.bool ((k : Int) == dl)) ∧ Hid (Has w.heap.size w (RtR q tab dl (2 * k + 1) (one id (dueW tab k (wt tr nx dl k))) :: [IRowR (.slice (some ⟨g, o, none⟩) tab.length ct) tab]) w')) := fun wq hq => by
        have x := CH.out wq _ (.slice aj n2 cj) l2 hq (by simp) HL.out.2.1
        rw [HL.out.2.2.2] at x
        exact x.mono (fun e w' ⟨he, hh⟩ => ⟨he, (hh.out.perm ((List.perm_middle (l₁ := [_, _]) (l₂ := [_])).trans (List.perm_middle (l₁ := [_, _]) (l₂ := [_])))).drop.drop⟩)
      rw [HL.out.2.2.1] at D2
      clear HL CH
      obtain ⟨b2, hb2⟩ : ∃ b2, b2 = ((k : Int) == dl) := ⟨_, rfl⟩
      rw [← hb2] at D3
      have hb3 : ((k : Int) == dl) = b2 := hb2.symm
      clear hb2
      have e1 : ¬ (1 : Int) < (n1 : Int) := by omega
      have e2 : ¬ (1 : Int) < (n2 : Int) := by omega
      have e3 : decide ((1 : Int) < (n1 : Int)) = false := by simpa using e1
      have e4 : decide ((1 : Int) < (n2 : Int)) = false := by simpa using e2
      by_cases hkn : (k : Int) = nx
      · subst hkn
        have hbb : ((k : Int) == (k : Int)) = true := by simp
        rw [hbb] at D2
        clear hbb
        go_wp2_with fail
        refine D2.mono ?_
        rintro e w5 ⟨rfl, h5⟩
        have D4 := D3.out w5 h5.out
        clear D2 D3 h5
        go_wp2_with fail
        refine D4.mono ?_
        rintro e w6 ⟨rfl, h6⟩
        clear D4
        have hd := dly_bounds HM.out ((tr : Int) + 1)
        have h6' := h6.out
        rw [dueW_yes, later_small (by omega) (by omega) (by omega) (by omega)] at h6'
        have H6 : Hid (Has w.heap.size w (RtR q tab dl (2 * k + 1) (one id (wt ((tr : Int) + 1) (k + dly tab ((tr : Int) + 1)) dl (k + 1))) :: [IRowR (.slice (some ⟨g, o, none⟩) tab.length ct) tab]) w6) := h6'
        obtain ⟨m, g', o', hg, hml2, hmn, c6⟩ := tab_cell (H6.out.irow (v := .slice (some ⟨g, o, none⟩) tab.length ct) (xs := tab) (by simp)) HM.out (tr + 1)
        cases hg
        rw [show ((tr + 1 : Nat) : Int) = (tr : Int) + 1 by omega] at c6 hmn
        have hmn2 : min ((tr : Int) + 1) ((tab.length : Int) - 1) = (m : Int) := hmn.symm
        have hwl : IntKind.i64.wrap ((tab.length : Int) - 1) = (tab.length : Int) - 1 := by rw [IntKind.wrap_i64] <;> omega
        have hmI : (m : Int) < (tab.length : Int) := by omega
        have HE : Hid (∀ wq, Has w.heap.size w (RtR q tab dl (2 * k + 1) (one id (wt ((tr : Int) + 1) (k + dly tab ((tr : Int) + 1)) dl (k + 1))) :: [IRowR (.slice (some ⟨g, o, none⟩) tab.length ct) tab]) wq → Has w.heap.size w (RtR q tab dl (2 * ((k + 1 : Nat) : Int)) (one id (wt ((tr + 1 : Nat) : Int) (k + dly tab ((tr : Int) + 1)) dl (k + 1 : Nat))) :: [IRowR (.slice (some ⟨g, o, none⟩) tab.length ct) tab]) wq) := fun wq hq => by
          have y := hq.rtTo (M := 2 * ((k + 1 : Nat) : Int)) (by omega)
          rw [show ((tr + 1 : Nat) : Int) = (tr : Int) + 1 by omega, show ((k + 1 : Nat) : Int) = (k : Int) + 1 by omega]
          rw [show ((k + 1 : Nat) : Int) = (k : Int) + 1 by omega] at y
          exact y
        clear h6 h6' hmn
        generalize dly tab ((tr : Int) + 1) = d at *
        by_cases hmo : k < moves.length
        · have hmoI : (k : Int) < (moves.length : Int) := by omega
          obtain ⟨_, _, e9, _, hmr⟩ := HMR.out
          cases e9
          obtain ⟨gm, om, rfl, hgm, cm0⟩ := hmr k hmo
          have cm6 : w6.cell? ⟨gm, om + k, none⟩ = some (.bool moves[k]) := (H6.out.bel.cell (p := ⟨gm, om + k, none⟩) hgm).trans cm0
          clear hmr cm0
          generalize moves[k] = mk at *
          cases mk with
          | true =>
            have D7 := CM.out q w6 k _ _ hlt H6.out
            clear CM H6
            go_wp2_with fail
            refine D7.mono ?_
            rintro e w7 ⟨rfl, h7⟩
            have c7 : w7.cell? ⟨g, o, none⟩ = some (.int .i64 (dly tab 0)) := HC0.out _ _ h7.out (by simp)
            have hk0 : IntKind.i64.wrap ((k : Int) + dly tab 0) = (k : Int) + dly tab 0 := by rw [IntKind.wrap_i64] <;> omega
            clear D7 HC0
            go_wp2_with fail
            exact ⟨⟨k + 1, 0, _, by omega, by omega, by omega, by omega, rfl, rfl, by go_num, h7⟩, by simp [intOf]; omega⟩
          | false =>
            clear CM HC0
            go_wp2_with fail
            exact ⟨⟨k + 1, tr + 1, _, by omega, by omega, by omega, by omega, by go_num, rfl, by go_num, HE.out _ H6.out⟩, by simp [intOf]; omega⟩
        · have hmoI : ¬ (k : Int) < (moves.length : Int) := by omega
          clear CM HC0
          go_wp2_with fail
          exact ⟨⟨k + 1, tr + 1, _, by omega, by omega, by omega, by omega, by go_num, rfl, by go_num, HE.out _ H6.out⟩, by simp [intOf]; omega⟩
      · have hx2 : (k : Int) < nx := by omega
        have hbb : ((k : Int) == nx) = false := by simpa using hkn
        rw [hbb] at D2
        go_wp2_with fail
        refine D2.mono ?_
        rintro e w5 ⟨rfl, h5⟩
        have D4 := D3.out w5 h5.out
        clear D2 D3 h5
        go_wp2_with fail
        refine D4.mono ?_
        rintro e w6 ⟨rfl, h6⟩
        clear D4
        have h6' := h6.out
        rw [dueW_no hx2] at h6'
        have H6 : Hid (Has w.heap.size w (RtR q tab dl (2 * k + 1) (one id (wt (tr : Int) nx dl (k + 1))) :: [IRowR (.slice (some ⟨g, o, none⟩) tab.length ct) tab]) w6) := h6'
        have HE : Hid (∀ wq, Has w.heap.size w (RtR q tab dl (2 * k + 1) (one id (wt (tr : Int) nx dl (k + 1))) :: [IRowR (.slice (some ⟨g, o, none⟩) tab.length ct) tab]) wq → Has w.heap.size w (RtR q tab dl (2 * ((k + 1 : Nat) : Int)) (one id (wt (tr : Int) nx dl (k + 1 : Nat))) :: [IRowR (.slice (some ⟨g, o, none⟩) tab.length ct) tab]) wq) := fun wq hq => by
          have y := hq.rtTo (M := 2 * ((k + 1 : Nat) : Int)) (by omega)
          rw [show ((k + 1 : Nat) : Int) = (k : Int) + 1 by omega] at y ⊢
          exact y
        clear h6 h6'
        by_cases hmo : k < moves.length
        · have hmoI : (k : Int) < (moves.length : Int) := by omega
          obtain ⟨_, _, e9, _, hmr⟩ := HMR.out
          cases e9
          obtain ⟨gm, om, rfl, hgm, cm0⟩ := hmr k hmo
          have cm6 : w6.cell? ⟨gm, om + k, none⟩ = some (.bool moves[k]) := (H6.out.bel.cell (p := ⟨gm, om + k, none⟩) hgm).trans cm0
          clear hmr cm0
          generalize moves[k] = mk at *
          cases mk with
          | true =>
            have D7 := CM.out q w6 k _ _ hlt H6.out
            clear CM H6
            go_wp2_with fail
            refine D7.mono ?_
            rintro e w7 ⟨rfl, h7⟩
            have c7 : w7.cell? ⟨g, o, none⟩ = some (.int .i64 (dly tab 0)) := HC0.out _ _ h7.out (by simp)
            have hk0 : IntKind.i64.wrap ((k : Int) + dly tab 0) = (k : Int) + dly tab 0 := by rw [IntKind.wrap_i64] <;> omega
            clear D7 HC0
            go_wp2_with fail
            exact ⟨⟨k + 1, 0, _, by omega, by omega, by omega, by omega, rfl, rfl, by go_num, h7⟩, by simp [intOf]; omega⟩
          | false =>
            clear CM HC0
            go_wp2_with fail
            exact ⟨⟨k + 1, tr, _, by omega, by omega, by omega, by omega, rfl, rfl, by go_num, HE.out _ H6.out⟩, by simp [intOf]; omega⟩
        · have hmoI : ¬ (k : Int) < (moves.length : Int) := by omega
          clear CM HC0
          go_wp2_with fail
          exact ⟨⟨k + 1, tr, _, by omega, by omega, by omega, by omega, rfl, rfl, by go_num, HE.out _ H6.out⟩, by simp [intOf]; omega⟩
    · have hltI : ¬ (k : Int) ≤ 100 := by omega
      have D1 := CS1.out q wr _ _ H.out
      clear CD CM CH CS1 H HC0
      go_wp2_with fail
      refine D1.mono ?_
      rintro e w4 ⟨rfl, h4⟩
      have D2 := CS2.out q w4 _ h4.out
      clear D1 CS2 h4
      go_wp2_with fail
      refine D2.mono ?_
      rintro e w5 ⟨rfl, h5⟩
      clear D2
      go_wp2
      go_ret
      exact ⟨rfl, h5.out⟩
end Go.Proofs.Yteadnjagandkfaa
