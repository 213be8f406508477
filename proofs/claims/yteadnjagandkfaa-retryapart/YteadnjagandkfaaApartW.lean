/- The law RetryApart, walked. -/
import Derived.Test.YteadnjagandkfaaPairW
set_option linter.unusedVariables false
set_option maxRecDepth 100000
namespace Go.Proofs.Yteadnjagandkfaa
open Go.RowKit
open WheelMath RetryMath
open Go.Maps (Keyed)

set_option maxHeartbeats 16000000 in
theorem apart_walk (v : Value) (raw : List Int) (hl : raw.length ≤ 140737488355328) (hz : ∀ x ∈ raw, I64 x) (dl0 id0 : Int) (hd0 : I64 dl0) (hi0 : I64 id0) (ov : Value) (L : List Op) (hol : L.length ≤ 5864062014806) (hok : ∀ o ∈ L, OpOk o) (w : World) (hr : IRow w v raw) (hor : ORow w ov L) :
    Calls Try.prog 7 #[v, .int .i64 dl0, .int .i64 id0, ov] w fun e w' => e = .returned (.bool true) ∧ Below w.heap.size w w' := by
  have hp1 := pick_lt dl0 60 (by decide)
  have hp2 := pick_lt id0 4 (by decide)
  have CF : Hid (Calls Try.prog 13 #[v] w fun e w' => ∃ tab ao cap, may tab = true ∧ e = .returned (.slice ao tab.length cap) ∧ Has w.heap.size w (IRowR (.slice ao tab.length cap) tab :: []) w') := fit_any (Has.start w) v raw hl hz hr
  have CP1 : Hid (∀ wq, Calls Try.prog 14 #[.int .i64 dl0, .int .i64 60] wq fun e w' => e = .returned (.int .i64 (pick dl0 60 : Int)) ∧ w' = wq) := fun wq => pick_any dl0 60 (by decide) (by decide) hd0 wq
  have CP2 : Hid (∀ wq, Calls Try.prog 14 #[.int .i64 id0, .int .i64 4] wq fun e w' => e = .returned (.int .i64 (pick id0 4 : Int)) ∧ w' = wq) := fun wq => pick_any id0 4 (by decide) (by decide) hi0 wq
  have hw1 : IntKind.i64.wrap (1 + (pick dl0 60 : Int)) = 1 + (pick dl0 60 : Int) := by rw [IntKind.wrap_i64] <;> omega
  have hw2 : IntKind.i64.wrap (1 + (pick id0 4 : Int)) = 1 + (pick id0 4 : Int) := by rw [IntKind.wrap_i64] <;> omega
  obtain ⟨ar, cr, rfl, _⟩ := hr
  have HOR : Hid (ORow w ov L) := hor
  obtain ⟨am, cm, rfl, hcm, _⟩ := hor
  have HOK : Hid (∀ j, (h : j < L.length) → OpOk L[j]) := fun j h => hok _ (List.getElem_mem h)
  clear hz hd0 hi0 hok
  go_enter Try.func7, Try.ntmps7
  go_wp2_with fail
  refine CF.out.mono ?_
  rintro e w1 ⟨tab, at_, ct, hmay, rfl, h1⟩
  have HM : Hid (may tab = true) := hmay
  have H1 : Hid (Has w.heap.size w [IRowR (.slice at_ tab.length ct) tab] w1) := h1
  have hl8 : tab.length ≤ 8 := (may_bounds hmay).2.1
  clear CF h1 hmay
  go_wp2_with fail
  refine (CP1.out _).mono ?_
  rintro e w2 ⟨rfl, hw⟩
  rw [hw]
  clear hw w2 CP1
  go_wp2_with fail
  refine (CP2.out _).mono ?_
  rintro e w2 ⟨rfl, hw⟩
  rw [hw]
  clear hw w2 CP2
  go_wp2_with fail
  obtain ⟨dl, hdl⟩ : ∃ dl, dl = 1 + (pick dl0 60 : Int) := ⟨_, rfl⟩
  obtain ⟨id, hid⟩ : ∃ id, id = 1 + (pick id0 4 : Int) := ⟨_, rfl⟩
  have hdb : 1 ≤ dl ∧ dl ≤ 60 := by omega
  have hib : 1 ≤ id ∧ id ≤ 4 := by omega
  have CN1 : Hid (Calls Try.prog 8 #[.slice at_ tab.length ct, .int .i64 dl] w1 fun e w' => ∃ q, e = .returned (.tuple #[.pointer (some ⟨q, 0, none⟩), .int .i64 0]) ∧ Hid (Has w.heap.size w (RtR q tab dl 0 none0 :: [IRowR (.slice at_ tab.length ct) tab]) w')) :=
    pNew_yes H1.out _ tab (by omega) (H1.out.irow List.mem_cons_self) dl HM.out hdb.1 (by omega)
  have CN2 : Hid (∀ q wq, Has w.heap.size w (RtR q tab dl 0 none0 :: [IRowR (.slice at_ tab.length ct) tab]) wq → Calls Try.prog 8 #[.slice at_ tab.length ct, .int .i64 dl] wq fun e w' => ∃ s, e = .returned (.tuple #[.pointer (some ⟨s, 0, none⟩), .int .i64 0]) ∧ Hid (Has w.heap.size w (Two q s tab dl ((0 : Nat) : Int) none0 id [IRowR (.slice at_ tab.length ct) tab]) w')) := fun q wq hq =>
    (pNew_yes hq _ tab (by omega) (hq.irow (by simp)) dl HM.out hdb.1 (by omega)).mono (fun e w' ⟨s, he, hh⟩ => ⟨s, he, by
      have x := hh.perm (List.Perm.swap _ _ _)
      have e1 : restr none0 id = none0 := restr_none id
      show Has w.heap.size w (RtR q tab dl 0 none0 :: RtR s tab dl 0 (restr none0 id) :: [IRowR (.slice at_ tab.length ct) tab]) w'
      rw [e1]
      exact x⟩)
  have CL : Hid (∀ rs wq, Has w.heap.size w rs wq → Calls Try.prog 10 #[] wq fun e w' => e = .returned (.bool true) ∧ Hid (Has w.heap.size w rs w')) := fun rs wq hq => live_any hq
  have hIb : I64 id := ⟨by omega, by omega⟩
  have HIB : Hid (1 ≤ id ∧ id ≤ 60 ∧ I64 id) := ⟨hib.1, by omega, hIb⟩
  have HDB : Hid (1 ≤ dl ∧ dl ≤ 1073741824) := ⟨hdb.1, by omega⟩
  rw [← hdl, ← hid]
  clear hdl hid hw1 hw2 hp1 hp2 hIb
  refine CN1.out.mono ?_
  rintro e w2 ⟨q, rfl, h2⟩
  have D1 := CN2.out q w2 h2.out
  clear CN1 CN2 h2 H1
  go_wp2_with fail
  refine D1.mono ?_
  rintro e w3 ⟨s, rfl, h3⟩
  have D2 := CL.out _ w3 h3.out
  clear D1 h3 CL
  go_wp2_with fail
  refine D2.mono ?_
  rintro e w4 ⟨rfl, H4⟩
  clear D2
  go_wp2_with fail
  go_loopw [14, 15] (fun nv iv wq => ∃ (i nw : Nat) (A : Ws), i ≤ L.length ∧ nw ≤ 4 * i ∧ nv = .int .i64 (nw : Int) ∧ iv = .int .i64 (i : Int) ∧ Hid (Has w.heap.size w (Two q s tab dl (i : Int) A id [IRowR (.slice at_ tab.length ct) tab]) wq)) (fun _ iv _ => L.length - (intOf iv).toNat)
  case atStart => exact ⟨0, 0, none0, Nat.zero_le _, Nat.le_refl _, rfl, rfl, H4⟩
  case round =>
    obtain ⟨i, nw, A, hi, hnw, rfl, rfl, H⟩ := hrel
    clear H4
    by_cases hlt : i < L.length
    · have hltI : (i : Int) < (L.length : Int) := by omega
      obtain ⟨_, _, e9, _, _, hmr⟩ := HOR.out
      cases e9
      obtain ⟨gm, om, rfl, hgm, k0, k1, k2⟩ := hmr i hlt
      obtain ⟨z0, z1, z2⟩ := HOK.out i hlt
      have m0 : wr.cell? ⟨gm, om + i * 3, none⟩ = some (.int .i64 L[i].Do) := (H.out.bel.cell (p := ⟨gm, om + i * 3, none⟩) hgm).trans k0
      have m1 : wr.cell? ⟨gm, om + i * 3 + 1, none⟩ = some (.int .i64 L[i].Id) := (H.out.bel.cell (p := ⟨gm, om + i * 3 + 1, none⟩) hgm).trans k1
      have m2 : wr.cell? ⟨gm, om + i * 3 + 2, none⟩ = some (.int .i64 L[i].At) := (H.out.bel.cell (p := ⟨gm, om + i * 3 + 2, none⟩) hgm).trans k2
      have CQ : Hid (∀ c (n : Nat), I64 c → 1 ≤ n → n ≤ 5 → ∀ wq, Calls Try.prog 14 #[.int .i64 c, .int .i64 (n : Int)] wq fun e w' => e = .returned (.int .i64 (pick c n : Int)) ∧ w' = wq) := fun c n hc h1 h5 wq => pick_any c n h1 (by omega) hc wq
      have Q0 : Hid (∀ wq, Calls Try.prog 14 #[.int .i64 L[i].Do, .int .i64 4] wq fun e w' => e = .returned (.int .i64 (pick L[i].Do 4 : Int)) ∧ w' = wq) := CQ.out _ 4 z0 (by decide) (by decide)
      have Q1 : Hid (∀ wq, Calls Try.prog 14 #[.int .i64 L[i].Id, .int .i64 4] wq fun e w' => e = .returned (.int .i64 (pick L[i].Id 4 : Int)) ∧ w' = wq) := CQ.out _ 4 z1 (by decide) (by decide)
      have Q2 : Hid (∀ wq, Calls Try.prog 14 #[.int .i64 L[i].At, .int .i64 5] wq fun e w' => e = .returned (.int .i64 (pick L[i].At 5 : Int)) ∧ w' = wq) := CQ.out _ 5 z2 (by decide) (by decide)
      have b0 := pick_lt L[i].Do 4 (by decide)
      have b1 := pick_lt L[i].Id 4 (by decide)
      have b2 := pick_lt L[i].At 5 (by decide)
      clear hmr k0 k1 k2 z0 z1 z2 CQ HOR HOK
      generalize L[i].Do = oD at *
      generalize L[i].Id = oI at *
      generalize L[i].At = oA at *
      generalize pick oD 4 = pd at *
      generalize pick oI 4 = pi at *
      generalize pick oA 5 = pa at *
      obtain ⟨w0, hw0⟩ : ∃ w0, w0 = wr.alloc (.cells #[.int .i64 oD, .int .i64 oI, .int .i64 oA] 39) := ⟨_, rfl⟩
      have HW0 : Hid (w0 = wr.alloc (.cells #[.int .i64 oD, .int .i64 oI, .int .i64 oA] 39)) := hw0
      have H0 : Hid (Has w.heap.size w (Two q s tab dl (i : Int) A id [IRowR (.slice at_ tab.length ct) tab]) w0) := by
        rw [hw0]
        exact H.out.below ((Below.refl _ _).alloc (Nat.le_refl _) _)
      obtain ⟨ob, hob⟩ : ∃ ob, ob = wr.heap.size := ⟨_, rfl⟩
      have HOB : Hid (ob = wr.heap.size) := hob
      have n0 : w0.cell? ⟨ob, 0, none⟩ = some (.int .i64 oD) := by rw [hw0, hob]; exact World.cell?_alloc_new wr #[_, _, _] _ 0
      have n1 : w0.cell? ⟨ob, 1, none⟩ = some (.int .i64 oI) := by rw [hw0, hob]; exact World.cell?_alloc_new wr #[_, _, _] _ 1
      have n2 : w0.cell? ⟨ob, 2, none⟩ = some (.int .i64 oA) := by rw [hw0, hob]; exact World.cell?_alloc_new wr #[_, _, _] _ 2
      obtain ⟨kk, hkk⟩ : ∃ kk : Int, kk = 1 + (pi : Int) := ⟨_, rfl⟩
      have hkb : 1 ≤ kk ∧ kk ≤ 4 := by omega
      have hwk : IntKind.i64.wrap (1 + (pi : Int)) = 1 + (pi : Int) := by rw [IntKind.wrap_i64] <;> omega
      clear hw0 hob H
      go_wp2_with fail
      rw [← HW0.out, ← HOB.out]
      clear HW0 HOB m0 m1 m2
      go_wp2_with fail
      refine (Q1.out _).mono ?_
      rintro e w5 ⟨rfl, hw⟩
      rw [hw]
      clear hw w5 Q1
      go_wp2_with fail
      refine (Q0.out _).mono ?_
      rintro e w5 ⟨rfl, hw⟩
      rw [hw]
      clear hw w5 Q0
      rw [← hkk]
      clear hkk hwk b1 n0 n1
      have hk64 : I64 kk := ⟨by omega, by omega⟩
      rcases (show pd = 0 ∨ pd = 1 ∨ pd = 2 ∨ pd = 3 by omega) with rfl | rfl | rfl | rfl
      · as_aux_lemma =>
        clear Q2 b2 n2
        by_cases hki : kk = id
        · subst hki
          obtain ⟨c, C1⟩ := b_yes H0.out HM.out HDB.out.1 HDB.out.2 (by omega) (by omega) (nw : Int) HIB.out.2.2
          clear H0
          go_wp2_with fail
          refine C1.mono ?_
          rintro e w5 ⟨rfl, C2⟩
          clear C1
          go_wp2_with fail
          refine C2.out.mono ?_
          rintro e w6 ⟨rfl, HE⟩
          obtain ⟨A', h6⟩ := HE.out
          have H6 : Hid (Has w.heap.size w (Two q s tab dl ((i + 1 : Nat) : Int) A' kk [IRowR (.slice at_ tab.length ct) tab]) w6) := h6
          clear C2 HE h6
          go_wp2_with fail
          exact ⟨⟨i + 1, nw, A', by omega, by omega, rfl, by go_num, H6⟩, by simp [intOf]; omega⟩
        · have C1 := b_no H0.out HM.out HDB.out.1 HDB.out.2 (by omega) (by omega) kk (nw : Int) hk64 hki
          have hkf : (kk == id) = false := by simpa using hki
          clear H0
          go_wp2_with fail
          refine C1.mono ?_
          rintro e w5 ⟨c, rfl, HE⟩
          obtain ⟨A', h6⟩ := HE.out
          have H6 : Hid (Has w.heap.size w (Two q s tab dl ((i + 1 : Nat) : Int) A' id [IRowR (.slice at_ tab.length ct) tab]) w5) := h6
          clear C1 HE h6
          go_wp2_with fail
          exact ⟨⟨i + 1, nw, A', by omega, by omega, rfl, by go_num, H6⟩, by simp [intOf]; omega⟩
      · as_aux_lemma =>
        clear Q2 b2 n2
        by_cases hki : kk = id
        · subst hki
          obtain ⟨c, C1⟩ := m_yes H0.out HM.out (by omega) (by omega) (nw : Int) HIB.out.2.2
          clear H0
          go_wp2_with fail
          refine C1.mono ?_
          rintro e w5 ⟨rfl, C2⟩
          clear C1
          go_wp2_with fail
          refine C2.out.mono ?_
          rintro e w6 ⟨rfl, HE⟩
          obtain ⟨A', h6⟩ := HE.out
          have H6 : Hid (Has w.heap.size w (Two q s tab dl ((i + 1 : Nat) : Int) A' kk [IRowR (.slice at_ tab.length ct) tab]) w6) := h6
          clear C2 HE h6
          go_wp2_with fail
          exact ⟨⟨i + 1, nw, A', by omega, by omega, rfl, by go_num, H6⟩, by simp [intOf]; omega⟩
        · have C1 := m_no H0.out HM.out (by omega) (by omega) kk (nw : Int) hk64 hki
          have hkf : (kk == id) = false := by simpa using hki
          clear H0
          go_wp2_with fail
          refine C1.mono ?_
          rintro e w5 ⟨c, rfl, HE⟩
          obtain ⟨A', h6⟩ := HE.out
          have H6 : Hid (Has w.heap.size w (Two q s tab dl ((i + 1 : Nat) : Int) A' id [IRowR (.slice at_ tab.length ct) tab]) w5) := h6
          clear C1 HE h6
          go_wp2_with fail
          exact ⟨⟨i + 1, nw, A', by omega, by omega, rfl, by go_num, H6⟩, by simp [intOf]; omega⟩
      · as_aux_lemma =>
        clear Q2 b2 n2
        by_cases hki : kk = id
        · subst hki
          obtain ⟨c, C1⟩ := s_yes H0.out HIB.out.2.2
          clear H0
          go_wp2_with fail
          refine C1.mono ?_
          rintro e w5 ⟨rfl, C2⟩
          clear C1
          go_wp2_with fail
          refine C2.out.mono ?_
          rintro e w6 ⟨rfl, HE⟩
          obtain ⟨A', h6⟩ := HE.out
          have H6 : Hid (Has w.heap.size w (Two q s tab dl ((i + 1 : Nat) : Int) A' kk [IRowR (.slice at_ tab.length ct) tab]) w6) := h6
          clear C2 HE h6
          go_wp2_with fail
          exact ⟨⟨i + 1, nw, A', by omega, by omega, rfl, by go_num, H6⟩, by simp [intOf]; omega⟩
        · have C1 := s_no H0.out kk hk64 hki
          have hkf : (kk == id) = false := by simpa using hki
          clear H0
          go_wp2_with fail
          refine C1.mono ?_
          rintro e w5 ⟨c, rfl, HE⟩
          obtain ⟨A', h6⟩ := HE.out
          have H6 : Hid (Has w.heap.size w (Two q s tab dl ((i + 1 : Nat) : Int) A' id [IRowR (.slice at_ tab.length ct) tab]) w5) := h6
          clear C1 HE h6
          go_wp2_with fail
          exact ⟨⟨i + 1, nw, A', by omega, by omega, rfl, by go_num, H6⟩, by simp [intOf]; omega⟩
      · as_aux_lemma =>
        have hwn : IntKind.i64.wrap ((nw : Int) + (pa : Int)) = (nw : Int) + (pa : Int) := by rw [IntKind.wrap_i64] <;> omega
        go_wp2_with fail
        refine (Q2.out _).mono ?_
        rintro e w5 ⟨rfl, hw⟩
        rw [hw]
        clear hw w5 Q2 n2
        have C1 := d_both H0.out HM.out (by omega) (by omega) ((nw : Int) + (pa : Int)) HIB.out.1 HIB.out.2.1
        clear H0
        go_wp2_with fail
        refine C1.mono ?_
        rintro e w5 ⟨aa, ca, na, ab, cb, nb, rfl, C2⟩
        clear C1
        go_wp2_with fail
        refine C2.out.mono ?_
        rintro e w6 ⟨ac, cc, nc, ad, cd, nd, b1, b2, hnc, hnd, rfl, HE⟩
        obtain ⟨la, lb, lc, ld, A', q1, q2, q3, q4, r1, r2, r3, r4, h6⟩ := HE.out
        have H6 : Hid (Has w.heap.size w (IRowR (.slice aa na ca) la :: IRowR (.slice ab nb cb) lb :: IRowR (.slice ac nc cc) lc :: IRowR (.slice ad nd cd) ld :: Two q s tab dl ((i + 1 : Nat) : Int) A' id [IRowR (.slice at_ tab.length ct) tab]) w6) := h6
        have C3 := hasH H6.out (a := .slice aa na ca) (l := la) (by simp) (by omega) id
        have C4 : Hid (∀ wq, Has w.heap.size w (IRowR (.slice aa na ca) la :: IRowR (.slice ab nb cb) lb :: IRowR (.slice ac nc cc) lc :: IRowR (.slice ad nd cd) ld :: Two q s tab dl ((i + 1 : Nat) : Int) A' id [IRowR (.slice at_ tab.length ct) tab]) wq → Calls Try.prog 25 #[.slice ac nc cc, .int .i64 id] wq fun e w' => e = .returned (.bool b1) ∧ Hid (Has w.heap.size w (IRowR (.slice aa na ca) la :: IRowR (.slice ab nb cb) lb :: IRowR (.slice ac nc cc) lc :: IRowR (.slice ad nd cd) ld :: Two q s tab dl ((i + 1 : Nat) : Int) A' id [IRowR (.slice at_ tab.length ct) tab]) w')) := fun wq hq => by
          have x := hasH hq (a := .slice ac nc cc) (l := lc) (by simp) (by omega) id
          rw [r2] at x
          exact x
        have C5 : Hid (∀ wq, Has w.heap.size w (IRowR (.slice aa na ca) la :: IRowR (.slice ab nb cb) lb :: IRowR (.slice ac nc cc) lc :: IRowR (.slice ad nd cd) ld :: Two q s tab dl ((i + 1 : Nat) : Int) A' id [IRowR (.slice at_ tab.length ct) tab]) wq → Calls Try.prog 25 #[.slice ab nb cb, .int .i64 id] wq fun e w' => e = .returned (.bool b2) ∧ Hid (Has w.heap.size w (IRowR (.slice aa na ca) la :: IRowR (.slice ab nb cb) lb :: IRowR (.slice ac nc cc) lc :: IRowR (.slice ad nd cd) ld :: Two q s tab dl ((i + 1 : Nat) : Int) A' id [IRowR (.slice at_ tab.length ct) tab]) w')) := fun wq hq => by
          have x := hasH hq (a := .slice ab nb cb) (l := lb) (by simp) (by omega) id
          rw [r3] at x
          exact x
        have C6 : Hid (∀ wq, Has w.heap.size w (IRowR (.slice aa na ca) la :: IRowR (.slice ab nb cb) lb :: IRowR (.slice ac nc cc) lc :: IRowR (.slice ad nd cd) ld :: Two q s tab dl ((i + 1 : Nat) : Int) A' id [IRowR (.slice at_ tab.length ct) tab]) wq → Calls Try.prog 25 #[.slice ad nd cd, .int .i64 id] wq fun e w' => e = .returned (.bool b2) ∧ Hid (Has w.heap.size w (Two q s tab dl ((i + 1 : Nat) : Int) A' id [IRowR (.slice at_ tab.length ct) tab]) w')) := fun wq hq => by
          have x := hasH hq (a := .slice ad nd cd) (l := ld) (by simp) (by omega) id
          rw [r4] at x
          exact x.mono (fun e w' ⟨he, hh⟩ => ⟨he, hh.drop.drop.drop.drop⟩)
        rw [r1] at C3
        have e1 : ¬ (1 : Int) < (nc : Int) := by omega
        have e2 : ¬ (1 : Int) < (nd : Int) := by omega
        have e3 : decide ((1 : Int) < (nc : Int)) = false := by simpa using e1
        have e4 : decide ((1 : Int) < (nd : Int)) = false := by simpa using e2
        clear C2 HE h6 H6 q1 q2 q3 q4 r1 r2 r3 r4
        go_wp2_with fail
        refine C3.mono ?_
        rintro e w7 ⟨rfl, h7⟩
        have D4 := C4.out w7 h7
        clear C3 C4 h7
        go_wp2_with fail
        refine D4.mono ?_
        rintro e w8 ⟨rfl, h8⟩
        have D5 := C5.out w8 h8.out
        clear D4 C5 h8
        go_wp2_with fail
        refine D5.mono ?_
        rintro e w9 ⟨rfl, h9⟩
        have D6 := C6.out w9 h9.out
        clear D5 C6 h9
        go_wp2_with fail
        refine D6.mono ?_
        rintro e wz ⟨rfl, hz⟩
        clear D6
        by_cases hki : kk = id
        · subst hki
          go_wp2_with fail
          exact ⟨⟨i + 1, nw + pa, A', by omega, by omega, by go_num, by go_num, hz⟩, by simp [intOf]; omega⟩
        · have hkf : (kk == id) = false := by simpa using hki
          go_wp2_with fail
          exact ⟨⟨i + 1, nw + pa, A', by omega, by omega, by go_num, by go_num, hz⟩, by simp [intOf]; omega⟩
    · have hltI : ¬ (i : Int) < (L.length : Int) := by omega
      have HB : Hid (Below w.heap.size w wr) := H.out.bel
      clear H HOR HOK
      go_wp2_with fail
      go_ret
      exact ⟨rfl, HB.out⟩
end Go.Proofs.Yteadnjagandkfaa
