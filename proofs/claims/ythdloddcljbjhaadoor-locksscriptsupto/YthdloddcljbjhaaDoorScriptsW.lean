/- The walk of the law LocksScripts. -/
import Derived.Test.YthdloddcljbjhaaDoorDuoW
import Derived.Test.YthdloddcljbjhaaDoorLawP
set_option linter.unusedVariables false
set_option maxRecDepth 100000
namespace Go.Proofs.YthdloddcljbjhaaDoor
open Go.RowKit CheckMath

theorem drop_all {w : World} {tb n : Nat} {T : Hd} {xb : Nat} {v : Value} {L : List Lk} {wq : World} : ∀ {rs : List Res}, Has w.heap.size w (St tb n T xb v L rs) wq → Has w.heap.size w (St tb n T xb v L []) wq
  | [], h => h
  | r :: rs, h => drop_all (h.perm st_perm.symm).drop
theorem st_swap {tb n : Nat} {T : Hd} {xb : Nat} {v : Value} {L : List Lk} {a b : Res} {rs : List Res} : (St tb n T xb v L (a :: b :: rs)).Perm (St tb n T xb v L (b :: a :: rs)) := ((List.Perm.swap _ _ _).cons _ |>.cons _ |>.cons _)
/-- A table beside a row of keys. -/
theorem st_take {tb n : Nat} {T : Hd} {xb : Nat} {v : Value} {L : List Lk} {r : Res} {rs : List Res} : (St tb n T xb v L (r :: rs)).Perm (TabR tb n T :: r :: BlockR xb [v] :: LR v L :: rs) := ((List.perm_middle (l₁ := [BlockR xb [v], LR v L]) (l₂ := rs) (a := r)).cons _)
theorem Has.st_cell {w : World} {tb n : Nat} {T : Hd} {xb : Nat} {v : Value} {L : List Lk} {rs : List Res} {wq : World} {q : Nat} {vs : List Value} (h : Has w.heap.size w (St tb n T xb v L rs) wq) (hm : BlockR q vs ∈ rs) (j : Nat) (u : Value) (hu : vs[j]? = some u) : wq.cell? ⟨q, j, none⟩ = some u := h.bcell (by simp [hm]) j u hu
set_option maxHeartbeats 32000000 in
theorem scripts_walk {w : World} (hS : ∀ rs, Sorts w.heap.size w rs SortTo) (sv : Value) (l : List LOp) (hr : ORow w sv l) (hsum : 3 + tot l ≤ 1048576) :
    Calls Tryd.prog 3 #[sv] w fun e w' => e = .returned (.bool true) ∧ Below w.heap.size w w' := by
  have C0 : Hid (Calls Tryd.prog 7 #[] w fun e w' => ∃ tb, e = .returned (.pointer (some ⟨tb, 0, none⟩)) ∧ Hid (Has w.heap.size w [TabR tb 3 T0] w')) := begun_any hS
  have HS : Hid (∀ rs, Sorts w.heap.size w rs SortTo) := hS
  obtain ⟨ao, cap, rfl, hcap, h0, hlen, hrow⟩ := hr
  have HR : Hid (∀ j, j < l.length → ∃ g o kv, ao = some ⟨g, o, none⟩ ∧ g < w.heap.size ∧ w.cell? ⟨g, o + j * 3, none⟩ = some (.int .i64 (onth l j).Do) ∧ w.cell? ⟨g, o + j * 3 + 1, none⟩ = some (.int .i64 (onth l j).inst) ∧ w.cell? ⟨g, o + j * 3 + 2, none⟩ = some kv ∧
    KRow w kv (onth l j).keys ∧ (∀ s, s ∈ (onth l j).keys → s.size ≤ 1048576) ∧ -9223372036854775808 ≤ (onth l j).inst ∧ (onth l j).inst ≤ 9223372036854775807) := hrow
  have HT : Hid (∀ j, tot (l.take j) ≤ tot l) := tot_le l
  have HT2 : Hid (∀ j, j < l.length → tot (l.take (j + 1)) = tot (l.take j) + (onth l j).keys.length) := tot_take l
  generalize hm : tot l = m at *
  clear hrow h0 hS hm
  go_enter Tryd.func3, Tryd.ntmps3
  go_wp2_with fail
  refine C0.out.mono ?_
  rintro e w1 ⟨tb, rfl, h1⟩
  have D0 := twin_any h1.out
  clear C0
  go_wp2_with fail
  refine D0.mono ?_
  rintro e w2 ⟨xb, v0, rfl, h2⟩
  have H2 : Hid (Has w.heap.size w (St tb 3 T0 xb v0 L0 []) w2) := h2.perm (st_ref (rs := [])).symm
  clear D0 h1 h2
  go_wp2_with fail
  go_loopw [5] (fun iv wr => ∃ (j : Nat) (T : Hd) (n : Nat) (v : Value) (L : List Lk), j ≤ l.length ∧ iv = .int .i64 (j : Int) ∧ Hid (Names T) ∧ Hid (Like T L) ∧ n ≤ 3 + tot (l.take j) ∧ L.length ≤ 3 + tot (l.take j) ∧ Hid (Has w.heap.size w (St tb n T xb v L []) wr)) (fun iv _ => l.length - (intOf iv).toNat)
  case atStart => exact ⟨0, T0, 3, v0, L0, Nat.zero_le _, rfl, tk0.1, like0, Nat.le_add_right _ _, Nat.le_trans len0 (Nat.le_add_right _ _), H2⟩
  case round =>
    as_aux_lemma =>
    obtain ⟨j, T, n, v, L, hj, rfl, HN, HL, hn, hll, HH⟩ := hrel
    clear H2
    by_cases hlt : j < l.length
    · as_aux_lemma =>
      have hltI : (j : Int) < (l.length : Int) := by omega
      obtain ⟨g, o, kv, rfl, hg, d0, d1, d2, hkr, hks, hi1, hi2⟩ := HR.out j hlt
      have hle := HT.out j
      have hle2 := HT.out (j + 1)
      have ht2 := HT2.out j hlt
      have hbw := HH.out.bel
      have c0 := (hbw.cell (p := ⟨g, o + j * 3, none⟩) hg).trans d0
      have c1 := (hbw.cell (p := ⟨g, o + j * 3 + 1, none⟩) hg).trans d1
      have c2 := (hbw.cell (p := ⟨g, o + j * 3 + 2, none⟩) hg).trans d2
      have HKS : Hid (∀ s, s ∈ (onth l j).keys → s.size ≤ 1048576) := hks
      have HKR0 : Hid (∀ wq, Below w.heap.size w wq → KRow wq kv (onth l j).keys) := fun wq hb => hkr.below hb
      clear d0 d1 d2 hbw HT2 HR HT hks
      obtain ⟨ko, kc, rfl, -⟩ := hkr
      generalize (onth l j).Do = D at *
      generalize (onth l j).inst = I at *
      generalize (onth l j).keys = ks at *
      have HKR : Hid (∀ {rs : List Res} (wq : World), Has w.heap.size w rs wq → KRow wq (.slice ko ks.length kc) ks) := fun wq h => HKR0.out wq h.bel
      have HA : Hid (Has w.heap.size w (St tb n T xb v L [BlockR wr.heap.size [.int .i64 D, .int .i64 I, .slice ko ks.length kc]]) (wr.alloc (.cells #[.int .i64 D, .int .i64 I, .slice ko ks.length kc] 29))) := (HH.out.box [.int .i64 D, .int .i64 I, .slice ko ks.length kc] 29).perm st_perm
      have HBX : Hid (∀ {rs : List Res} (wq : World), Hid (Has w.heap.size w rs wq) → BlockR wr.heap.size [.int .i64 D, .int .i64 I, .slice ko ks.length kc] ∈ rs → wq.cell? ⟨wr.heap.size, 0, none⟩ = some (.int .i64 D) ∧ wq.cell? ⟨wr.heap.size, 1, none⟩ = some (.int .i64 I) ∧ wq.cell? ⟨wr.heap.size, 2, none⟩ = some (.slice ko ks.length kc)) := fun wq h hm => ⟨h.out.bcell hm 0 _ rfl, h.out.bcell hm 1 _ rfl, h.out.bcell hm 2 _ rfl⟩
      clear HH HKR0
      go_upto_region 9 with fail
      clear c0 c1 c2
      obtain ⟨ea0, ea1, ea2⟩ := HBX.out _ HA (by simp)
      generalize (wr.alloc (.cells #[.int .i64 D, .int .i64 I, .slice ko ks.length kc] 29)) = wa at *
      generalize wr.heap.size = ob at *
      by_cases h0 : D = 0
      · as_aux_lemma =>
        have hD0 : (D == 0) = true := by simpa using h0
        have CC : Hid (Calls Tryd.prog 9 #[.slice ko ks.length kc] wa fun e w' => ∃ u, e = .returned u ∧ Hid (Has w.heap.size w (St tb n T xb v L (KR u ks :: [BlockR ob [.int .i64 D, .int .i64 I, .slice ko ks.length kc]])) w')) := (copied_any HA.out _ ks (HKR.out wa HA.out) (by omega)).mono (fun e w' ⟨u, he, hh⟩ => ⟨u, he, hh.perm st_perm⟩)
        clear h0
        go_wp2_with fail
        refine CC.out.mono ?_
        rintro e w3 ⟨u, rfl, H3⟩
        clear CC HA ea0 ea1 ea2
        obtain ⟨ea0, ea1, ea2⟩ := HBX.out _ H3 (by simp)
        have D1 := pTake_any (H3.out.perm st_take) I (by omega) HKS.out (by omega) (by omega)
        go_wp2_with fail
        refine D1.mono ?_
        rintro e w4 ⟨n2, rfl, hn2, h4⟩
        have H4 : Hid (Has w.heap.size w (St tb n2 (afterT T I ks) xb v L (KR u ks :: [BlockR ob [.int .i64 D, .int .i64 I, .slice ko ks.length kc]])) w4) := h4.perm st_take.symm
        clear D1 h4 H3 ea0 ea1 ea2
        obtain ⟨ea0, ea1, ea2⟩ := HBX.out _ H4 (by simp)
        have D2 := rTake_any (H4.out.perm st_ref) I (by omega) (.slice ko ks.length kc) ks HKS.out (like_small HL.out HN.out) (fun wq u L' hq => HKR.out wq hq) (by omega)
        rw [HL.out.eq] at D2
        have HN2 : Hid (Names (afterT T I ks)) := names_after HN.out I ks HKS.out
        have HL2 : Hid (Like (afterT T I ks) (afterL L I ks)) := HL.out.after HN.out I ks HKS.out
        have hl2 : (afterL L I ks).length ≤ L.length + ks.length := afterL_len L I ks
        generalize afterT T I ks = T2 at *
        generalize ansS T I ks = s at *
        generalize ansB T I ks = b at *
        generalize afterL L I ks = L2 at *
        go_wp2_with fail
        refine D2.mono ?_
        rintro e w5 ⟨v2, rfl, h5⟩
        have H5 : Hid (Has w.heap.size w (St tb n2 T2 xb v2 L2 (KR u ks :: [BlockR ob [.int .i64 D, .int .i64 I, .slice ko ks.length kc]])) w5) := h5.perm st_ref.symm
        clear D2 h5 H4 ea0 ea1 ea2
        obtain ⟨ea0, ea1, ea2⟩ := HBX.out _ H5 (by simp)
        have CM : Hid (Calls Tryd.prog 12 #[u, .slice ko ks.length kc] w5 fun e w' => e = .returned (.bool true) ∧ Hid (Has w.heap.size w (St tb n2 T2 xb v2 L2 (KR u ks :: [BlockR ob [.int .i64 D, .int .i64 I, .slice ko ks.length kc]])) w')) := (same_any u _ ks w5 (H5.out.rowK (v := u) (l := ks) (by simp) (by omega) (fun s hm => by have := HKS.out s hm; omega)) (HKR.out w5 H5.out)).mono (fun e w' ⟨he, hb⟩ => ⟨he, H5.out.below hb⟩)
        go_wp2_with fail
        refine CM.out.mono ?_
        rintro e w6 ⟨rfl, H6⟩
        have D3 := fillP H6.out (by omega)
        clear CM H5 ea0 ea1 ea2
        go_wp2_with fail
        refine D3.mono ?_
        rintro e w7 ⟨rfl, HA⟩
        clear D3 H6
        obtain ⟨eb0, eb1, eb2⟩ := HBX.out _ HA (by simp)
        have D1 := heldP HS.out HA.out I (by omega) HN2.out
        go_wp2_with fail
        refine D1.mono ?_
        rintro e wb ⟨K, kx, HK, hkl, rfl, HB1⟩
        obtain ⟨eb0, eb1, eb2⟩ := HBX.out _ HB1 (by simp)
        have D2 := heldR HB1.out HL2.out I K HK.out (by omega)
        clear D1 HA
        go_wp2_with fail
        refine D2.mono ?_
        rintro e wc ⟨ux, rfl, HB2⟩
        have D3 := sameP (a := kx) (b := ux) (K := K) HB2.out (by simp) (by simp) (by omega) (held_small HN2.out HK.out)
        clear D2 HB1 eb0 eb1 eb2
        go_wp2_with fail
        refine D3.mono ?_
        rintro e wd ⟨rfl, HB3⟩
        have D4 := fillP (HB3.out.perm st_swap) (by omega)
        clear D3 HB2 HB3
        go_wp2_with fail
        refine D4.mono ?_
        rintro e we ⟨rfl, HC1⟩
        have D5 := heldP HS.out HC1.out 900001 (by omega) HN2.out
        clear D4 HK
        go_wp2_with fail
        refine D5.mono ?_
        rintro e wf ⟨K1, k1, HK1, hkl1, rfl, HC2⟩
        have D6 := heldR HC2.out HL2.out 900001 K1 HK1.out (by omega)
        clear D5 HC1
        go_wp2_with fail
        refine D6.mono ?_
        rintro e wg ⟨u1, rfl, HC3⟩
        have D7 := sameP (a := k1) (b := u1) (K := K1) HC3.out (by simp) (by simp) (by omega) (held_small HN2.out HK1.out)
        clear D6 HC2
        go_wp2_with fail
        refine D7.mono ?_
        rintro e wh ⟨rfl, HC4⟩
        have D8 := heldP HS.out HC4.out 900002 (by omega) HN2.out
        clear D7 HC3 HK1
        go_wp2_with fail
        refine D8.mono ?_
        rintro e wi ⟨K3, k3, HK3, hkl3, rfl, HC5⟩
        have D9 := heldR HC5.out HL2.out 900002 K3 HK3.out (by omega)
        clear D8 HC4
        go_wp2_with fail
        refine D9.mono ?_
        rintro e wj ⟨u3, rfl, HC6⟩
        have D10 := sameP (a := k3) (b := u3) (K := K3) HC6.out (by simp) (by simp) (by omega) (held_small HN2.out HK3.out)
        clear D9 HC5
        go_wp2_with fail
        refine D10.mono ?_
        rintro e wk ⟨rfl, HC7⟩
        have HZ : Hid (Has w.heap.size w (St tb n2 T2 xb v2 L2 []) wk) := drop_all HC7.out
        clear D10 HC6 HC7
        go_wp2_with fail
        exact ⟨⟨j + 1, T2, n2, v2, L2, by omega, by go_num, HN2, HL2, by omega, by omega, HZ⟩, by simp [intOf]; omega⟩
      · have hD0 : (D == 0) = false := by simpa using h0
        by_cases h1 : D = 1
        · as_aux_lemma =>
          have hD1 : (D == 1) = true := by simpa using h1
          have HL2 : Hid (Like (dropped T I) (leftL L I)) := HL.out.drop I
          have HN2 : Hid (Names (dropped T I)) := names_dropped HN.out I
          have hl2 : (leftL L I).length ≤ L.length := by unfold leftL; exact List.length_filter_le _ _
          have CD : Hid (∀ wq, Hid (Has w.heap.size w (St tb n T xb v L [BlockR ob [.int .i64 D, .int .i64 I, .slice ko ks.length kc]]) wq) → Calls Tryd.prog 14 #[.pointer (some ⟨tb, 0, none⟩), .int .i64 I] wq fun e w' => e = .returned (.int .i64 ((L.length : Int) - ((leftL L I).length : Int))) ∧ w'.cell? ⟨ob, 1, none⟩ = some (.int .i64 I) ∧ Hid (Has w.heap.size w (St tb n (dropped T I) xb v L [BlockR ob [.int .i64 D, .int .i64 I, .slice ko ks.length kc]]) w')) := fun wq hq => by
            refine (drop_in _ wq I (by omega) hq.out).mono ?_
            rintro e w' ⟨Kd, rfl, hkd, hh⟩
            exact ⟨by rw [HL.out.count I hkd.out.1 hkd.out.2], (HBX.out w' hh (by simp)).2.1, hh⟩
          have CR : Hid (∀ wq, Hid (Has w.heap.size w (St tb n (dropped T I) xb v L [BlockR ob [.int .i64 D, .int .i64 I, .slice ko ks.length kc]]) wq) → Calls Tryd.prog 15 #[.pointer (some ⟨xb, 0, none⟩), .int .i64 I] wq fun e w' => ∃ v2, e = .returned (.int .i64 ((L.length : Int) - ((leftL L I).length : Int))) ∧ w'.cell? ⟨ob, 1, none⟩ = some (.int .i64 I) ∧ Hid (Has w.heap.size w (St tb n (dropped T I) xb v2 (leftL L I) [BlockR ob [.int .i64 D, .int .i64 I, .slice ko ks.length kc]]) w')) := fun wq hq => by
            refine (rDrop_any (hq.out.perm st_ref) I (by omega)).mono ?_
            rintro e w' ⟨v2, rfl, hh⟩
            have hh2 : Has w.heap.size w (St tb n (dropped T I) xb v2 (leftL L I) [BlockR ob [.int .i64 D, .int .i64 I, .slice ko ks.length kc]]) w' := hh.perm st_ref.symm
            exact ⟨v2, rfl, (HBX.out w' hh2 (by simp)).2.1, hh2⟩
          have HA2 : Hid (Has w.heap.size w (St tb n T xb v L [BlockR ob [.int .i64 D, .int .i64 I, .slice ko ks.length kc]]) wa.drew) := HA.out.below (Below.refl _ _).drew
          clear h0 h1 HA
          generalize (L.length : Int) - ((leftL L I).length : Int) = ct at *
          generalize dropped T I = T2 at *
          generalize leftL L I = L2 at *
          go_wp2_with fail
          go_region_held3 (fun w' => w'.cell? ⟨ob, 1, none⟩ = some (.int .i64 I)) (go_keep) (first | (go_at_call 14; refine (CD.out _ HA2).mono ?_; rintro e w3 ⟨rfl, m1, H3⟩) | (go_at_call 15; refine (CR.out _ H3).mono ?_; rintro e w4 ⟨v2, rfl, m2, HA⟩))
          clear CD CR ea0 ea1 ea2 HA2
          obtain ⟨eb0, eb1, eb2⟩ := HBX.out _ HA (by simp)
          have D1 := heldP HS.out HA.out I (by omega) HN2.out
          go_wp2_with fail
          refine D1.mono ?_
          rintro e wb ⟨K, kx, HK, hkl, rfl, HB1⟩
          obtain ⟨eb0, eb1, eb2⟩ := HBX.out _ HB1 (by simp)
          have D2 := heldR HB1.out HL2.out I K HK.out (by omega)
          clear D1 HA
          go_wp2_with fail
          refine D2.mono ?_
          rintro e wc ⟨ux, rfl, HB2⟩
          have D3 := sameP (a := kx) (b := ux) (K := K) HB2.out (by simp) (by simp) (by omega) (held_small HN2.out HK.out)
          clear D2 HB1 eb0 eb1 eb2
          go_wp2_with fail
          refine D3.mono ?_
          rintro e wd ⟨rfl, HB3⟩
          have D4 := fillP (HB3.out.perm st_swap) (by omega)
          clear D3 HB2 HB3
          go_wp2_with fail
          refine D4.mono ?_
          rintro e we ⟨rfl, HC1⟩
          have D5 := heldP HS.out HC1.out 900001 (by omega) HN2.out
          clear D4 HK
          go_wp2_with fail
          refine D5.mono ?_
          rintro e wf ⟨K1, k1, HK1, hkl1, rfl, HC2⟩
          have D6 := heldR HC2.out HL2.out 900001 K1 HK1.out (by omega)
          clear D5 HC1
          go_wp2_with fail
          refine D6.mono ?_
          rintro e wg ⟨u1, rfl, HC3⟩
          have D7 := sameP (a := k1) (b := u1) (K := K1) HC3.out (by simp) (by simp) (by omega) (held_small HN2.out HK1.out)
          clear D6 HC2
          go_wp2_with fail
          refine D7.mono ?_
          rintro e wh ⟨rfl, HC4⟩
          have D8 := heldP HS.out HC4.out 900002 (by omega) HN2.out
          clear D7 HC3 HK1
          go_wp2_with fail
          refine D8.mono ?_
          rintro e wi ⟨K3, k3, HK3, hkl3, rfl, HC5⟩
          have D9 := heldR HC5.out HL2.out 900002 K3 HK3.out (by omega)
          clear D8 HC4
          go_wp2_with fail
          refine D9.mono ?_
          rintro e wj ⟨u3, rfl, HC6⟩
          have D10 := sameP (a := k3) (b := u3) (K := K3) HC6.out (by simp) (by simp) (by omega) (held_small HN2.out HK3.out)
          clear D9 HC5
          go_wp2_with fail
          refine D10.mono ?_
          rintro e wk ⟨rfl, HC7⟩
          have HZ : Hid (Has w.heap.size w (St tb n T2 xb v2 L2 []) wk) := drop_all HC7.out
          clear D10 HC6 HC7
          go_wp2_with fail
          exact ⟨⟨j + 1, T2, n, v2, L2, by omega, by go_num, HN2, HL2, by omega, by omega, HZ⟩, by simp [intOf]; omega⟩
        · have hD1 : (D == 1) = false := by simpa using h1
          by_cases h2 : D = 2
          · as_aux_lemma =>
            have hD2 : (D == 2) = true := by simpa using h2
            clear h0 h1 h2 ea1 ea2
            go_wp2_with fail
            go_loopw [12] (fun pv wq => ∃ k : Nat, k ≤ ks.length ∧ pv = .int .i64 (k : Int) ∧ Hid (Has w.heap.size w (St tb n T xb v L [BlockR ob [.int .i64 D, .int .i64 I, .slice ko ks.length kc]]) wq)) (fun pv _ => ks.length - (intOf pv).toNat)
            case atStart => exact ⟨0, Nat.zero_le _, rfl, HA⟩
            case round =>
              obtain ⟨k, hk, rfl, HB⟩ := hrel
              clear HA ea0
              obtain ⟨ea0, ea1, ea2⟩ := HBX.out _ HB (by simp)
              by_cases hk2 : k < ks.length
              · as_aux_lemma =>
                have hkI : (k : Int) < (ks.length : Int) := by omega
                obtain ⟨kg, kq, rfl, hkg, dk⟩ := krow_cell (HKR.out _ HB.out) k hk2
                have hsz := HKS.out _ (keyAt_mem hk2)
                have HBD : Hid (∀ m, Has w.heap.size w (St tb n T xb v L [BlockR ob [.int .i64 D, .int .i64 I, .slice (some ⟨kg, kq, none⟩) ks.length kc]]) (World.drewN _ m)) := fun m => HB.out.below (below_drewN (Below.refl _ _) m)
                have Q1 := fun m => holder_any (tb := tb) (n := n) (T := T) (HBD.out m) (by simp) (keyAt ks k) hsz
                have Q2 := fun m => rHolder_any (tb := xb) (v := v) (L := L) (HBD.out m) (by simp) (by simp) (keyAt ks k)
                rw [HL.out.eq] at Q2
                have QQ1 : Hid _ := Q1
                have QQ2 : Hid _ := Q2
                clear Q1 Q2 hsz HB ea0 ea1
                generalize T (keyAt ks k) = t at *
                generalize keyAt ks k = s at *
                go_wp2_with fail
                go_quiet (first | (go_at_call 16; exact Calls.quiet_of_same (QQ1.out _)) | (go_at_call 17; exact Calls.quiet_of_same (QQ2.out _)))
                clear QQ1 QQ2
                go_wp2_with fail
                exact ⟨⟨k + 1, by omega, by go_num, HBD.out _⟩, by simp [intOf]; omega⟩
              · as_aux_lemma =>
                have hkI : ¬ (k : Int) < (ks.length : Int) := by omega
                have HA : Hid _ := HB.out
                clear HB
                obtain ⟨eb0, eb1, eb2⟩ := HBX.out _ HA (by simp)
                have D1 := heldP HS.out HA.out I (by omega) HN.out
                go_wp2_with fail
                refine D1.mono ?_
                rintro e wb ⟨K, kx, HK, hkl, rfl, HB1⟩
                obtain ⟨eb0, eb1, eb2⟩ := HBX.out _ HB1 (by simp)
                have D2 := heldR HB1.out HL.out I K HK.out (by omega)
                clear D1 HA
                go_wp2_with fail
                refine D2.mono ?_
                rintro e wc ⟨ux, rfl, HB2⟩
                have D3 := sameP (a := kx) (b := ux) (K := K) HB2.out (by simp) (by simp) (by omega) (held_small HN.out HK.out)
                clear D2 HB1 eb0 eb1 eb2
                go_wp2_with fail
                refine D3.mono ?_
                rintro e wd ⟨rfl, HB3⟩
                have D4 := fillP (HB3.out.perm st_swap) (by omega)
                clear D3 HB2 HB3
                go_wp2_with fail
                refine D4.mono ?_
                rintro e we ⟨rfl, HC1⟩
                have D5 := heldP HS.out HC1.out 900001 (by omega) HN.out
                clear D4 HK
                go_wp2_with fail
                refine D5.mono ?_
                rintro e wf ⟨K1, k1, HK1, hkl1, rfl, HC2⟩
                have D6 := heldR HC2.out HL.out 900001 K1 HK1.out (by omega)
                clear D5 HC1
                go_wp2_with fail
                refine D6.mono ?_
                rintro e wg ⟨u1, rfl, HC3⟩
                have D7 := sameP (a := k1) (b := u1) (K := K1) HC3.out (by simp) (by simp) (by omega) (held_small HN.out HK1.out)
                clear D6 HC2
                go_wp2_with fail
                refine D7.mono ?_
                rintro e wh ⟨rfl, HC4⟩
                have D8 := heldP HS.out HC4.out 900002 (by omega) HN.out
                clear D7 HC3 HK1
                go_wp2_with fail
                refine D8.mono ?_
                rintro e wi ⟨K3, k3, HK3, hkl3, rfl, HC5⟩
                have D9 := heldR HC5.out HL.out 900002 K3 HK3.out (by omega)
                clear D8 HC4
                go_wp2_with fail
                refine D9.mono ?_
                rintro e wj ⟨u3, rfl, HC6⟩
                have D10 := sameP (a := k3) (b := u3) (K := K3) HC6.out (by simp) (by simp) (by omega) (held_small HN.out HK3.out)
                clear D9 HC5
                go_wp2_with fail
                refine D10.mono ?_
                rintro e wk ⟨rfl, HC7⟩
                have HZ : Hid (Has w.heap.size w (St tb n T xb v L []) wk) := drop_all HC7.out
                clear D10 HC6 HC7
                go_wp2_with fail
                exact ⟨⟨j + 1, T, n, v, L, by omega, by go_num, HN, HL, by omega, by omega, HZ⟩, by simp [intOf]; omega⟩
          · as_aux_lemma =>
            have hD2 : (D == 2) = false := by simpa using h2
            clear h0 h1 h2 ea1 ea2
            obtain ⟨eb0, eb1, eb2⟩ := HBX.out _ HA (by simp)
            have D1 := heldP HS.out HA.out I (by omega) HN.out
            go_wp2_with fail
            refine D1.mono ?_
            rintro e wb ⟨K, kx, HK, hkl, rfl, HB1⟩
            obtain ⟨eb0, eb1, eb2⟩ := HBX.out _ HB1 (by simp)
            have D2 := heldR HB1.out HL.out I K HK.out (by omega)
            clear D1 HA
            go_wp2_with fail
            refine D2.mono ?_
            rintro e wc ⟨ux, rfl, HB2⟩
            have D3 := sameP (a := kx) (b := ux) (K := K) HB2.out (by simp) (by simp) (by omega) (held_small HN.out HK.out)
            clear D2 HB1 eb0 eb1 eb2
            go_wp2_with fail
            refine D3.mono ?_
            rintro e wd ⟨rfl, HB3⟩
            have D4 := fillP (HB3.out.perm st_swap) (by omega)
            clear D3 HB2 HB3
            go_wp2_with fail
            refine D4.mono ?_
            rintro e we ⟨rfl, HC1⟩
            have D5 := heldP HS.out HC1.out 900001 (by omega) HN.out
            clear D4 HK
            go_wp2_with fail
            refine D5.mono ?_
            rintro e wf ⟨K1, k1, HK1, hkl1, rfl, HC2⟩
            have D6 := heldR HC2.out HL.out 900001 K1 HK1.out (by omega)
            clear D5 HC1
            go_wp2_with fail
            refine D6.mono ?_
            rintro e wg ⟨u1, rfl, HC3⟩
            have D7 := sameP (a := k1) (b := u1) (K := K1) HC3.out (by simp) (by simp) (by omega) (held_small HN.out HK1.out)
            clear D6 HC2
            go_wp2_with fail
            refine D7.mono ?_
            rintro e wh ⟨rfl, HC4⟩
            have D8 := heldP HS.out HC4.out 900002 (by omega) HN.out
            clear D7 HC3 HK1
            go_wp2_with fail
            refine D8.mono ?_
            rintro e wi ⟨K3, k3, HK3, hkl3, rfl, HC5⟩
            have D9 := heldR HC5.out HL.out 900002 K3 HK3.out (by omega)
            clear D8 HC4
            go_wp2_with fail
            refine D9.mono ?_
            rintro e wj ⟨u3, rfl, HC6⟩
            have D10 := sameP (a := k3) (b := u3) (K := K3) HC6.out (by simp) (by simp) (by omega) (held_small HN.out HK3.out)
            clear D9 HC5
            go_wp2_with fail
            refine D10.mono ?_
            rintro e wk ⟨rfl, HC7⟩
            have HZ : Hid (Has w.heap.size w (St tb n T xb v L []) wk) := drop_all HC7.out
            clear D10 HC6 HC7
            go_wp2_with fail
            exact ⟨⟨j + 1, T, n, v, L, by omega, by go_num, HN, HL, by omega, by omega, HZ⟩, by simp [intOf]; omega⟩
    · as_aux_lemma =>
      have hltI : ¬ (j : Int) < (l.length : Int) := by omega
      clear HR HT HT2 HN HL
      go_wp2_with fail
      go_ret
      exact ⟨rfl, HH.out.bel⟩
end Go.Proofs.YthdloddcljbjhaaDoor
