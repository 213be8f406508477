/- The law RetryScripts, walked. -/
import Derived.Test.YteadnjagandkfaaDuoW
set_option linter.unusedVariables false
set_option maxRecDepth 100000
namespace Go.Proofs.Yteadnjagandkfaa
open Go.RowKit
open WheelMath RetryMath
open Go.Maps (Keyed)

theorem tw_cells {B : Nat} {w wr : World} {q x : Nat} {xv : Value} {tab : List Int} {dl N : Int} {ob : Nat} {u0 u1 u2 : Value} {f g : Nat} {args args2 : Array Value} (h : Twice B w q x xv tab dl N [BlockR ob [u0, u1, u2]] f args g args2 wr) :
    ∃ c : Int, Hid (Calls Try.prog f args wr fun e w' => e = .returned (.int .i64 c) ∧ w'.cell? ⟨ob, 1, none⟩ = some u1 ∧ w'.cell? ⟨ob, 2, none⟩ = some u2 ∧ Hid (Calls Try.prog g args2 w' fun e w'' => e = .returned (.int .i64 c) ∧ w''.cell? ⟨ob, 1, none⟩ = some u1 ∧ w''.cell? ⟨ob, 2, none⟩ = some u2 ∧ Hid (∃ A', Has B w (Both q x xv tab dl (N + 1) A' []) w''))) := by
  obtain ⟨c, hc⟩ := h
  refine ⟨c, hc.mono fun e w' ⟨he, ⟨rs', hh⟩, h2⟩ => ⟨he, (hh.cell (q := ob) (vs := [u0, u1, u2]) (by simp) 1 _ rfl).1, (hh.cell (q := ob) (vs := [u0, u1, u2]) (by simp) 2 _ rfl).1, ?_⟩⟩
  refine h2.out.mono fun e w'' ⟨he, ⟨rs'', h3⟩, h4⟩ => ⟨he, (h3.cell (q := ob) (vs := [u0, u1, u2]) (by simp) 1 _ rfl).1, (h3.cell (q := ob) (vs := [u0, u1, u2]) (by simp) 2 _ rfl).1, ?_⟩
  obtain ⟨A', h5⟩ := h4.out
  exact ⟨A', (h5.perm bo_perm.symm).drop⟩
set_option maxHeartbeats 16000000 in
theorem scripts_walk (v : Value) (raw : List Int) (hl : raw.length ≤ 140737488355328) (hz : ∀ x ∈ raw, I64 x) (dl0 : Int) (hd0 : I64 dl0) (ov : Value) (L : List Op) (hol : L.length ≤ 5864062014806) (hok : ∀ o ∈ L, OpOk o) (w : World) (hr : IRow w v raw) (hor : ORow w ov L) :
    Calls Try.prog 5 #[v, .int .i64 dl0, ov] w fun e w' => e = .returned (.bool true) ∧ Below w.heap.size w w' := by
  have hp1 := pick_lt dl0 100 (by decide)
  have CF : Hid (Calls Try.prog 13 #[v] w fun e w' => ∃ tab ao cap, may tab = true ∧ e = .returned (.slice ao tab.length cap) ∧ Has w.heap.size w (IRowR (.slice ao tab.length cap) tab :: []) w') := fit_any (Has.start w) v raw hl hz hr
  have CP1 : Hid (∀ wq, Calls Try.prog 14 #[.int .i64 dl0, .int .i64 100] wq fun e w' => e = .returned (.int .i64 (pick dl0 100 : Int)) ∧ w' = wq) := fun wq => pick_any dl0 100 (by decide) (by decide) hd0 wq
  obtain ⟨dl, hdl⟩ : ∃ dl, dl = 1 + (pick dl0 100 : Int) := ⟨_, rfl⟩
  have hdb : 1 ≤ dl ∧ dl ≤ 100 := by omega
  have hw1 : IntKind.i64.wrap (1 + (pick dl0 100 : Int)) = 1 + (pick dl0 100 : Int) := by rw [IntKind.wrap_i64] <;> omega
  have CN1 : Hid (∀ wq tab at_ ct, may tab = true → Has w.heap.size w (IRowR (.slice at_ tab.length ct) tab :: []) wq → Calls Try.prog 8 #[.slice at_ tab.length ct, .int .i64 (1 + (pick dl0 100 : Int))] wq fun e w' => ∃ q, e = .returned (.tuple #[.pointer (some ⟨q, 0, none⟩), .int .i64 0]) ∧ Hid (Has w.heap.size w (RtR q tab dl 0 none0 :: [IRowR (.slice at_ tab.length ct) tab]) w')) := fun wq tab at_ ct hm hq => by
    rw [← hdl]
    exact pNew_yes hq _ tab (by have := (may_bounds hm).2.1; omega) (hq.irow List.mem_cons_self) dl hm hdb.1 (by omega)
  have CN2 : Hid (∀ wq q tab at_ ct, may tab = true → Has w.heap.size w (RtR q tab dl 0 none0 :: [IRowR (.slice at_ tab.length ct) tab]) wq → Calls Try.prog 9 #[.slice at_ tab.length ct, .int .i64 (1 + (pick dl0 100 : Int))] wq fun e w' => ∃ x, e = .returned (.tuple #[.pointer (some ⟨x, 0, none⟩), .int .i64 0]) ∧ Hid (∃ xv, Has w.heap.size w (IRowR (.slice at_ tab.length ct) tab :: Both q x xv tab dl ((0 : Nat) : Int) none0 []) w')) := fun wq q tab at_ ct hm hq => by
    rw [← hdl]
    refine (rNew_yes hq (by have := (may_bounds hm).2.1; omega) (hq.irow (by simp)) hm hdb.1 (by omega)).mono ?_
    rintro e w' ⟨x, ao, cap, he, hh⟩
    refine ⟨x, he, .slice ao tab.length cap, ?_⟩
    have p4 : ∀ (a b c d : Res), [a, b, c, d].Perm [d, c, a, b] := fun a b c d => by
      have h1 : [a, b, c, d].Perm [d, a, b, c] := List.perm_middle (l₁ := [a, b, c]) (l₂ := []) (a := d)
      have h2 : [a, b, c].Perm [c, a, b] := List.perm_middle (l₁ := [a, b]) (l₂ := []) (a := c)
      exact h1.trans (h2.cons d)
    exact hh.perm (p4 _ _ _ _)
  have CL : Hid (∀ rs wq, Has w.heap.size w rs wq → Calls Try.prog 10 #[] wq fun e w' => e = .returned (.bool true) ∧ Hid (Has w.heap.size w rs w')) := fun rs wq hq => live_any hq
  have CFi : Hid (∀ rs wq u l, Has w.heap.size w (IRowR u l :: rs) wq → l.length ≤ 60 → Calls Try.prog 15 #[u] wq fun e w' => e = .returned (.tuple #[]) ∧ Hid (Has w.heap.size w rs w')) := fun rs wq u l hq hn => filledH hq (by omega)
  have CS : Hid (∀ rs wq a b l, Has w.heap.size w rs wq → IRowR a l ∈ rs → IRowR b l ∈ rs → l.length ≤ 60 → Calls Try.prog 24 #[a, b] wq fun e w' => e = .returned (.bool true) ∧ Hid (Has w.heap.size w rs w')) := fun rs wq a b l hq ha hb hn => sameH hq ha hb (by omega)
  obtain ⟨ar, cr, rfl, _⟩ := hr
  have HOR : Hid (ORow w ov L) := hor
  obtain ⟨am, cm, rfl, hcm, _⟩ := hor
  have HOK : Hid (∀ j, (h : j < L.length) → OpOk L[j]) := fun j h => hok _ (List.getElem_mem h)
  have HDB : Hid (1 ≤ dl ∧ dl ≤ 1073741824) := ⟨hdb.1, by omega⟩
  clear hz hd0 hok hdl
  go_enter Try.func5, Try.ntmps5
  go_wp2_with fail
  refine CF.out.mono ?_
  rintro e w1 ⟨tab, at_, ct, hmay, rfl, h1⟩
  have HM : Hid (may tab = true) := hmay
  have hl8 : tab.length ≤ 8 := (may_bounds hmay).2.1
  have D1 := CN1.out w1 tab at_ ct hmay h1
  clear CF h1 CN1 hmay
  go_wp2_with fail
  refine (CP1.out _).mono ?_
  rintro e w2 ⟨rfl, hw⟩
  rw [hw]
  clear hw w2
  go_wp2_with fail
  refine D1.mono ?_
  rintro e w2 ⟨q, rfl, h2⟩
  have D2 := CN2.out w2 q tab at_ ct HM.out h2.out
  clear D1 CN2 h2
  go_wp2_with fail
  refine (CP1.out _).mono ?_
  rintro e w3 ⟨rfl, hw⟩
  rw [hw]
  clear hw w3 CP1
  go_wp2_with fail
  refine D2.mono ?_
  rintro e w3 ⟨x, rfl, h3⟩
  obtain ⟨xv, h3⟩ := h3.out
  have D3 := CL.out _ _ h3
  clear D2 CL h3
  go_wp2_with fail
  refine D3.mono ?_
  rintro e w4 ⟨rfl, h4⟩
  have D4 := CFi.out _ _ _ _ h4.out (by omega)
  clear D3 h4
  go_wp2_with fail
  refine D4.mono ?_
  rintro e w5 ⟨rfl, H5⟩
  clear D4
  go_wp2_with fail
  go_loopw [12] (fun iv wq => ∃ (i : Nat) (A : Ws), i ≤ L.length ∧ iv = .int .i64 (i : Int) ∧ Hid (Has w.heap.size w (Both q x xv tab dl (i : Int) A []) wq)) (fun iv _ => L.length - (intOf iv).toNat)
  case atStart => exact ⟨0, none0, Nat.zero_le _, rfl, H5⟩
  case round =>
    obtain ⟨i, A, hi, rfl, H⟩ := hrel
    clear H5
    by_cases hlt : i < L.length
    · have hltI : (i : Int) < (L.length : Int) := by omega
      obtain ⟨_, _, e9, _, _, hmr⟩ := HOR.out
      cases e9
      obtain ⟨gm, om, rfl, hgm, k0, k1, k2⟩ := hmr i hlt
      obtain ⟨z0, z1, z2⟩ := HOK.out i hlt
      have m0 : wr.cell? ⟨gm, om + i * 3, none⟩ = some (.int .i64 L[i].Do) := (H.out.bel.cell (p := ⟨gm, om + i * 3, none⟩) hgm).trans k0
      have m1 : wr.cell? ⟨gm, om + i * 3 + 1, none⟩ = some (.int .i64 L[i].Id) := (H.out.bel.cell (p := ⟨gm, om + i * 3 + 1, none⟩) hgm).trans k1
      have m2 : wr.cell? ⟨gm, om + i * 3 + 2, none⟩ = some (.int .i64 L[i].At) := (H.out.bel.cell (p := ⟨gm, om + i * 3 + 2, none⟩) hgm).trans k2
      clear hmr k0 k1 k2 HOR HOK
      generalize L[i].Do = oD at *
      generalize L[i].Id = oI at *
      generalize L[i].At = oA at *
      have h0 : Has w.heap.size w (Both q x xv tab dl (i : Int) A [BlockR wr.heap.size [.int .i64 oD, .int .i64 oI, .int .i64 oA]]) (wr.alloc (.cells #[.int .i64 oD, .int .i64 oI, .int .i64 oA] 39)) := (H.out.box [.int .i64 oD, .int .i64 oI, .int .i64 oA] 39).perm bo_perm
      obtain ⟨w0, hw0⟩ : ∃ w0, w0 = wr.alloc (.cells #[.int .i64 oD, .int .i64 oI, .int .i64 oA] 39) := ⟨_, rfl⟩
      obtain ⟨ob, hob⟩ : ∃ ob, ob = wr.heap.size := ⟨_, rfl⟩
      rw [← hw0, ← hob] at h0
      have HW0 : Hid (w0 = wr.alloc (.cells #[.int .i64 oD, .int .i64 oI, .int .i64 oA] 39)) := hw0
      have HOB : Hid (ob = wr.heap.size) := hob
      have H0 : Hid (Has w.heap.size w (Both q x xv tab dl (i : Int) A [BlockR ob [.int .i64 oD, .int .i64 oI, .int .i64 oA]]) w0) := h0
      have n0 : w0.cell? ⟨ob, 0, none⟩ = some (.int .i64 oD) := (h0.cell (q := ob) (vs := [.int .i64 oD, .int .i64 oI, .int .i64 oA]) (by simp) 0 _ rfl).1
      have n1 : w0.cell? ⟨ob, 1, none⟩ = some (.int .i64 oI) := (h0.cell (q := ob) (vs := [.int .i64 oD, .int .i64 oI, .int .i64 oA]) (by simp) 1 _ rfl).1
      have n2 : w0.cell? ⟨ob, 2, none⟩ = some (.int .i64 oA) := (h0.cell (q := ob) (vs := [.int .i64 oD, .int .i64 oI, .int .i64 oA]) (by simp) 2 _ rfl).1
      clear hw0 hob H h0
      go_upto_region 11 with fail
      rw [← HW0.out, ← HOB.out]
      clear HW0 HOB m0 m1 m2
      by_cases hd0 : oD = 0
      · subst hd0
        as_aux_lemma =>
        obtain ⟨c, C1⟩ := tw_cells (two_begin (H0.out.below (Below.refl _ _).drew) HM.out HDB.out.1 HDB.out.2 (by omega) (by omega) oI oA z1)
        clear H0 CS CFi
        go_wp2_with fail
        go_region_held3 (fun w' => w'.cell? ⟨ob, 1, none⟩ = some (.int .i64 oI) ∧ w'.cell? ⟨ob, 2, none⟩ = some (.int .i64 oA)) (go_keep) (first | (go_at_call 17; refine HC2.out.mono ?_; rintro e w6 ⟨rfl, p1, p2, HE⟩) | (go_at_call 16; refine C1.out.mono ?_; rintro e w5 ⟨rfl, m1, m2, HC2⟩))
        obtain ⟨A', h6⟩ := HE.out
        have H6 : Hid (Has w.heap.size w (Both q x xv tab dl ((i + 1 : Nat) : Int) A' []) w6) := h6
        clear HE h6
        go_wp2_with fail
        exact ⟨⟨i + 1, A', by omega, by go_num, H6⟩, by simp [intOf]; omega⟩
      by_cases hd1 : oD = 1
      · subst hd1
        as_aux_lemma =>
        obtain ⟨c, C1⟩ := tw_cells (two_moved (H0.out.below (Below.refl _ _).drew) HM.out (by omega) (by omega) oI oA z1)
        clear H0 CS CFi
        go_wp2_with fail
        go_region_held3 (fun w' => w'.cell? ⟨ob, 1, none⟩ = some (.int .i64 oI) ∧ w'.cell? ⟨ob, 2, none⟩ = some (.int .i64 oA)) (go_keep) (first | (go_at_call 19; refine HC2.out.mono ?_; rintro e w6 ⟨rfl, p1, p2, HE⟩) | (go_at_call 18; refine C1.out.mono ?_; rintro e w5 ⟨rfl, m1, m2, HC2⟩))
        obtain ⟨A', h6⟩ := HE.out
        have H6 : Hid (Has w.heap.size w (Both q x xv tab dl ((i + 1 : Nat) : Int) A' []) w6) := h6
        clear HE h6
        go_wp2_with fail
        exact ⟨⟨i + 1, A', by omega, by go_num, H6⟩, by simp [intOf]; omega⟩
      by_cases hd2 : oD = 2
      · subst hd2
        as_aux_lemma =>
        obtain ⟨c, C1⟩ := tw_cells (two_stop (H0.out.below (Below.refl _ _).drew) oI z1)
        clear H0 CS CFi
        go_wp2_with fail
        go_region_held3 (fun w' => w'.cell? ⟨ob, 1, none⟩ = some (.int .i64 oI) ∧ w'.cell? ⟨ob, 2, none⟩ = some (.int .i64 oA)) (go_keep) (first | (go_at_call 21; refine HC2.out.mono ?_; rintro e w6 ⟨rfl, p1, p2, HE⟩) | (go_at_call 20; refine C1.out.mono ?_; rintro e w5 ⟨rfl, m1, m2, HC2⟩))
        obtain ⟨A', h6⟩ := HE.out
        have H6 : Hid (Has w.heap.size w (Both q x xv tab dl ((i + 1 : Nat) : Int) A' []) w6) := h6
        clear HE h6
        go_wp2_with fail
        exact ⟨⟨i + 1, A', by omega, by go_num, H6⟩, by simp [intOf]; omega⟩
      have e0 : (oD == 0) = false := by simpa using hd0
      have e1 : (oD == 1) = false := by simpa using hd1
      have e2 : (oD == 2) = false := by simpa using hd2
      by_cases hd3 : oD = 3
      · subst hd3
        as_aux_lemma =>
        have C1 := two_due H0.out HM.out (by omega) (by omega) oA
        clear H0 n1 e0 e1 e2 hd0 hd1 hd2
        go_wp2_with fail
        refine C1.mono ?_
        rintro e w5 ⟨a1, c1, a2, c2, q1, q2, rfl, ⟨rs', hx⟩, C2⟩
        have n2' : w5.cell? ⟨ob, 2, none⟩ = some (.int .i64 oA) := (hx.cell (q := ob) (vs := [.int .i64 3, .int .i64 oI, .int .i64 oA]) (by simp) 2 _ rfl).1
        clear C1 hx n2
        go_wp2_with fail
        refine C2.out.mono ?_
        rintro e w6 ⟨a3, c3, a4, c4, rfl, _, HE⟩
        obtain ⟨D, Lt, A', hD, hLt, h6⟩ := HE.out
        have C3 := CS.out _ _ (.slice a1 q1 c1) (.slice a3 q1 c3) D h6 (by simp) (by simp) hD
        have HD : Hid (D.length ≤ 60 ∧ Lt.length ≤ 60) := ⟨hD, hLt⟩
        clear C2 HE h6 hD hLt n2'
        go_wp2_with fail
        refine C3.mono ?_
        rintro e w7 ⟨rfl, h7⟩
        have C4 := CS.out _ _ (.slice a2 q2 c2) (.slice a4 q2 c4) Lt h7.out (by simp) (by simp) HD.out.2
        clear C3 h7 CS
        go_wp2_with fail
        refine C4.mono ?_
        rintro e w8 ⟨rfl, h8⟩
        have C5 := CFi.out _ _ _ _ h8.out HD.out.1
        clear C4 h8
        go_wp2_with fail
        refine C5.mono ?_
        rintro e w9 ⟨rfl, h9⟩
        have C6 := CFi.out _ _ _ _ h9.out HD.out.2
        clear C5 h9 CFi
        go_wp2_with fail
        refine C6.mono ?_
        rintro e wz ⟨rfl, hz⟩
        have HZ : Hid (Has w.heap.size w (Both q x xv tab dl ((i + 1 : Nat) : Int) A' []) wz) := (hz.out.drop.drop.perm bo_perm.symm).drop
        clear C6 hz HD
        go_wp2_with fail
        exact ⟨⟨i + 1, A', by omega, by go_num, HZ⟩, by simp [intOf]; omega⟩
      · as_aux_lemma =>
        have e3 : (oD == 3) = false := by simpa using hd3
        have HZ : Hid (Has w.heap.size w (Both q x xv tab dl ((i + 1 : Nat) : Int) A []) w0) := by
          have y := ((H0.out.perm bo_perm.symm).drop).rtMore
          exact y
        clear H0 n1 n2 CS CFi hd0 hd1 hd2 hd3
        go_wp2_with fail
        exact ⟨⟨i + 1, A, by omega, by go_num, HZ⟩, by simp [intOf]; omega⟩
    · as_aux_lemma =>
      have hltI : ¬ (i : Int) < (L.length : Int) := by omega
      have C1 := two_due H.out HM.out (by omega) (by omega) 1073741824
      clear H HOR HOK CFi
      go_wp2_with fail
      refine C1.mono ?_
      rintro e w5 ⟨a1, c1, a2, c2, q1, q2, rfl, _, C2⟩
      clear C1
      go_wp2_with fail
      refine C2.out.mono ?_
      rintro e w6 ⟨a3, c3, a4, c4, rfl, _, HE⟩
      obtain ⟨D, Lt, A', hD, hLt, h6⟩ := HE.out
      have C3 := CS.out _ _ (.slice a1 q1 c1) (.slice a3 q1 c3) D h6 (by simp) (by simp) hD
      clear C2 HE h6 hD
      go_wp2_with fail
      refine C3.mono ?_
      rintro e w7 ⟨rfl, h7⟩
      have C4 := CS.out _ _ (.slice a2 q2 c2) (.slice a4 q2 c4) Lt h7.out (by simp) (by simp) hLt
      clear C3 h7 CS hLt
      go_wp2_with fail
      refine C4.mono ?_
      rintro e w8 ⟨rfl, h8⟩
      have HB : Hid (Below w.heap.size w w8) := h8.out.bel
      clear C4 h8
      go_wp2_with fail
      go_ret
      exact ⟨rfl, HB.out⟩
end Go.Proofs.Yteadnjagandkfaa
