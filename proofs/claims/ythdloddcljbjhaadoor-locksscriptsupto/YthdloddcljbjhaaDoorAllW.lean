/- The walk of the law LocksAll. -/
import Derived.Test.YthdloddcljbjhaaDoorBackW
set_option linter.unusedVariables false
set_option maxRecDepth 100000
namespace Go.Proofs.YthdloddcljbjhaaDoor
open Go.RowKit CheckMath

theorem krow_cell {w : World} {ao : Option Addr} {cap : Nat} {l : List ByteArray} (h : KRow w (.slice ao l.length cap) l) : ∀ j, j < l.length → ∃ g o, ao = some ⟨g, o, none⟩ ∧ g < w.heap.size ∧ w.cell? ⟨g, o + j, none⟩ = some (.string (keyAt l j)) := by
  obtain ⟨a2, c2, e, hc, hn, ⟨hl, hs⟩, hr⟩ := h
  injection e with e1 _ e3
  subst e1 e3
  exact hr
theorem Has.own_slice {B : Nat} {w wr : World} {rs : List Res} {v : Value} {l : List ByteArray} (h : Has B w rs wr) (hm : KR v l ∈ rs) : ∃ ao cap, v = .slice ao l.length cap := by
  obtain ⟨ao, cap, hv, -⟩ := own_form (h.ownK hm)
  exact ⟨ao, cap, hv⟩
theorem empty_list : (⟨#[]⟩ : ByteArray).toList = [] := by unfold ByteArray.toList ByteArray.toList.loop; simp; intro h; exact absurd h (by decide)
set_option maxHeartbeats 16000000 in
theorem all_walk {w : World} (hS : ∀ rs, Sorts w.heap.size w rs SortTo) (sv : Value) (l : List LOp) (hr : ORow w sv l) (I : Int) (hI : -9223372036854775808 ≤ I ∧ I ≤ 9223372036854775807)
    (kv : Value) (keys : List ByteArray) (hk : KRow w kv keys) (hks : ∀ s, s ∈ keys → s.size ≤ 1048576) (hsum : 3 + tot l + keys.length ≤ 1048576) :
    Calls Tryd.prog 4 #[sv, .int .i64 I, kv] w fun e w' => e = .returned (.bool true) ∧ Below w.heap.size w w' := by
  have C0 : Hid (Calls Tryd.prog 20 #[sv] w fun e w' => ∃ tb T n, e = .returned (.pointer (some ⟨tb, 0, none⟩)) ∧ Hid (Tk T) ∧ n + keys.length ≤ 1048576 ∧ Hid (Has w.heap.size w [TabR tb n T] w')) := (plays_any hS sv l hr (by omega)).mono (fun e w' ⟨tb, T, n, he, hT, hn, hh⟩ => ⟨tb, T, n, he, hT, by omega, hh⟩)
  have CS : Hid (∀ wq, Calls Tryd.prog 21 #[.int .i64 I] wq fun e w' => e = .returned (.int .i64 (smallZ I)) ∧ w' = wq) := fun wq => small_any _ hI wq
  have HS : Hid (∀ rs, Sorts w.heap.size w rs SortTo) := hS
  have hsr := smallZ_range I
  generalize smallZ I = si at *
  obtain ⟨ao, cap, rfl, -⟩ := hr
  have HKR : Hid (∀ wq, Below w.heap.size w wq → KRow wq kv keys) := fun wq hb => hk.below hb
  obtain ⟨ko, kc, rfl, -, -, ⟨hkl, -⟩, hkrow⟩ := hk
  have HKC : Hid (∀ j, j < keys.length → ∃ g o, ko = some ⟨g, o, none⟩ ∧ g < w.heap.size ∧ w.cell? ⟨g, o + j, none⟩ = some (.string (keyAt keys j))) := hkrow
  have HKS : Hid (∀ s, s ∈ keys → s.size ≤ 1048576) := hks
  clear hS hsum hI hkrow hks
  go_enter Tryd.func4, Tryd.ntmps4
  go_wp2_with fail
  refine C0.out.mono ?_
  rintro e w1 ⟨tb, T, n, rfl, hT, hn, h1⟩
  clear C0
  go_wp2_with fail
  refine (CS.out _).mono ?_
  rintro e w2 ⟨rfl, hw⟩
  rw [hw]
  clear hw w2 CS
  have D2 := whole_any HS.out [] w1 (by omega) hT.out h1.out
  go_wp2_with fail
  refine D2.mono ?_
  rintro e w3 ⟨out, v8, hW, rfl, h3⟩
  have HW : Hid (WholeOf T n out) := hW
  have D3 := held_in HS.out _ w3 si (by omega) hT.out (h3.perm (List.Perm.swap _ _ _))
  clear D2 hW h3 h1
  go_wp2_with fail
  refine D3.mono ?_
  rintro e w4 ⟨K, v10, HK, hKl, rfl, h4⟩
  have D4 := copied_any h4.out _ keys (HKR.out w4 h4.out.bel) (by omega)
  clear D3 h4
  go_wp2_with fail
  refine D4.mono ?_
  rintro e w5 ⟨u, rfl, h5⟩
  have h5b := h5.perm (perm3 _ _ _ _)
  have D5 := take_copy h5b si hsr.1 (by omega) HKS.out (by omega) (by omega)
  clear D4 h5
  go_wp2_with fail
  refine D5.mono ?_
  rintro e w6 ⟨T2, n2, s, b, rfl, hTo, h6⟩
  have HTo : Hid (TakeTo T n si keys T2 n2 s b) := hTo
  obtain ⟨hT2, hn2⟩ := hTo.tk hT.out hsr HKS.out
  have HT2 : Hid (Tk T2) := hT2
  have h6b := h6.perm (List.Perm.swap _ _ _)
  have D6 := whole_any HS.out _ w6 (by omega) hT2 (h6b.drop)
  clear D5 h5b hTo hT2 h6 h6b
  go_wp2_with fail
  refine D6.mono ?_
  rintro e w7 ⟨out2, v13, hW2, rfl, h7⟩
  have HW2 : Hid (WholeOf T2 n2 out2) := hW2
  have H7 : Hid (Has w.heap.size w [KR v13 out2, TabR tb n2 T2, KR v10 K, KR v8 out] w7) := h7
  clear D6 hW2 h7
  cases b with
  | false =>
    rcases HTo.out with ⟨hb, _⟩ | ⟨_, rfl, rfl, hs⟩
    · cases hb
    · have e2 := HW2.out.uniq HW.out
      subst e2
      have D7 := same_in (u := v8) (v := v13) (K := out2) H7.out (by simp) (by simp) (by have := HW.out.len (by omega); omega) (HW.out.small hT.out.1)
      clear HTo HW HW2
      by_cases e0 : s = ⟨#[]⟩
      · subst e0
        go_wp2_with fail
        refine D7.mono ?_
        rintro e w8 ⟨rfl, h8⟩
        clear D7
        go_wp2_with fail
        go_ret
        exact ⟨rfl, h8.out.bel⟩
      · have hse : (s.toList == (⟨#[]⟩ : ByteArray).toList) = false := txt_ne e0
        have hse1 : (s.toList == []) = false := by rw [← empty_list]; exact hse
        obtain ⟨hm, ht0, hti⟩ := hs.resolve_left e0
        have DH : Hid (∀ wq, Hid (Has w.heap.size w [KR v13 out2, TabR tb n2 T2, KR v10 K, KR v8 out2] wq) → Calls Tryd.prog 23 #[.slice ko keys.length kc, .string s] wq fun e w' => e = .returned (.bool true) ∧ w' = wq) := fun wq hq => by
          have x := has_any _ keys s wq (HKR.out wq hq.out.bel)
          rw [decide_eq_true hm] at x
          exact x
        have DR : Hid (∀ wq, Hid (Has w.heap.size w [KR v13 out2, TabR tb n2 T2, KR v10 K, KR v8 out2] wq) → Calls Tryd.prog 16 #[.pointer (some ⟨tb, 0, none⟩), .string s] wq fun e w' => e = .returned (.int .i64 (T2 s)) ∧ w' = wq) := fun wq hq => holder_any (tb := tb) (n := n2) (T := T2) hq.out (by simp) s (hT.out.1 s ht0).2
        generalize T2 s = ts at *
        have q1 : (ts != 0) = true := by simpa using ht0
        have q2 : (ts != si) = true := by simpa using hti
        clear hm ht0 hti hs e0 HKR HKC HKS
        go_wp2_with fail
        refine D7.mono ?_
        rintro e w8 ⟨rfl, h8⟩
        clear D7
        go_wp2_with fail
        refine (DH.out _ h8).mono ?_
        rintro e w9 ⟨rfl, hw⟩
        rw [hw]
        clear hw w9
        go_wp2_with fail
        refine (DR.out _ h8).mono ?_
        rintro e w9 ⟨rfl, hw⟩
        rw [hw]
        clear hw w9
        go_wp2_with fail
        refine (DR.out _ h8).mono ?_
        rintro e w9 ⟨rfl, hw⟩
        rw [hw]
        clear hw w9
        go_wp2_with fail
        go_ret
        exact ⟨rfl, h8.out.bel⟩
  | true =>
    rcases HTo.out with ⟨_, rfl, _, hf, hT2e, _⟩ | ⟨hb, _⟩
    · have D7 := held_in HS.out _ w7 si (by omega) HT2.out (H7.out.drop)
      clear HTo H7 HW HW2
      go_wp2_with fail
      refine D7.mono ?_
      rintro e w8 ⟨K2, v15, HK2, hKl2, rfl, h8⟩
      have HSS := held_small HT2.out.1 HK2.out
      have HSK := held_small hT.out.1 HK.out
      obtain ⟨ao1, cap1, hv1⟩ := h8.out.own_slice (v := v15) (l := K2) (by simp)
      obtain ⟨ao2, cap2, hv2⟩ := h8.out.own_slice (v := v10) (l := K) (by simp)
      have R1 := h8.out.rowK (v := v15) (l := K2) (by simp) (by omega) HSS
      have R2 := h8.out.rowK (v := v10) (l := K) (by simp) (by omega) HSK
      subst hv1 hv2
      have HR1 : Hid (KRow w8 (.slice ao1 K2.length cap1) K2) := R1
      have HR2 : Hid (KRow w8 (.slice ao2 K.length cap2) K) := R2
      have M1 : Hid (∀ k, k < keys.length → T2 (keyAt keys k) = si ∧ keyAt keys k ∈ K2 ∧ (keyAt keys k).size ≤ 1048576) := fun k hk => by
        have hm := keyAt_mem hk
        have e1 : T2 (keyAt keys k) = si := by rw [hT2e, took_at, if_pos hm]
        exact ⟨e1, (HK2.out.2 _).2 ⟨by omega, e1⟩, HKS.out _ hm⟩
      have M2 : Hid (∀ k, k < K.length → keyAt K k ∈ K2) := fun k hk => by
        have hm := (HK.out.2 _).1 (keyAt_mem hk)
        refine (HK2.out.2 _).2 ?_
        have e1 : T2 (keyAt K k) = si := by
          rw [hT2e, took_at]
          by_cases h : keyAt K k ∈ keys
          · rw [if_pos h]
          · rw [if_neg h]; exact hm.2
        exact ⟨by omega, e1⟩
      have M3 : Hid (∀ k, k < K2.length → keyAt K2 k ∉ K → keyAt K2 k ∈ keys) := fun k hk hn => by
        have hm := (HK2.out.2 _).1 (keyAt_mem hk)
        apply Classical.byContradiction
        intro h
        rw [hT2e, took_at, if_neg h] at hm
        exact hn ((HK.out.2 _).2 hm)
      have HBL : Hid (Below w.heap.size w w8) := h8.out.bel
      have HHo : Hid (∀ k, k < keys.length → Calls Tryd.prog 16 #[.pointer (some ⟨tb, 0, none⟩), .string (keyAt keys k)] w8 fun e w' => e = .returned (.int .i64 si) ∧ w' = w8) := fun k hk => by
        have x := holder_any (tb := tb) (n := n2) (T := T2) h8.out (by simp) (keyAt keys k) (M1.out k hk).2.2
        rw [(M1.out k hk).1] at x
        exact x
      have HHas : Hid (∀ (a : Option Addr) (c : Nat) (xs : List ByteArray) (s : ByteArray), KRow w8 (.slice a xs.length c) xs → ∀ r, decide (s ∈ xs) = r → Calls Tryd.prog 23 #[.slice a xs.length c, .string s] w8 fun e w' => e = .returned (.bool r) ∧ w' = w8) := fun a c xs s h r hr => by
        rw [← hr]; exact has_any _ xs s w8 h
      have HKW : Hid (KRow w8 (.slice ko keys.length kc) keys) := HKR.out _ HBL.out
      clear D7 R1 R2 HSS HSK hT2e HT2 hT HK HK2 HKR HKC HKS hf HS h8
      go_wp2_with fail
      go_loop [16] (fun kv => ∃ k : Nat, k ≤ keys.length ∧ kv = .int .i64 (k : Int)) (fun kv => keys.length - (intOf kv).toNat)
      case atStart => exact ⟨0, Nat.zero_le _, rfl⟩
      case round =>
        obtain ⟨k, hk, rfl⟩ := hrel
        by_cases hlt : k < keys.length
        · have hltJ : (k : Int) < (keys.length : Int) := by omega
          obtain ⟨g, o, rfl, hg, c0⟩ := krow_cell HKW.out k hlt
          have D8 := HHo.out k hlt
          have D9 := HHas.out ao1 cap1 K2 (keyAt keys k) HR1.out true (decide_eq_true (M1.out k hlt).2.1)
          clear M1 M2 M3 HHo HHas HR1 HR2 HKW
          generalize keyAt keys k = z at *
          go_wp2_with fail
          refine D8.mono ?_
          rintro e w9 ⟨rfl, hw⟩
          rw [hw]
          clear hw w9 D8
          go_wp2_with fail
          refine D9.mono ?_
          rintro e w9 ⟨rfl, hw⟩
          rw [hw]
          clear hw w9 D9
          go_wp2_with fail
          exact ⟨⟨k + 1, by omega, by go_num⟩, by simp [intOf]; omega⟩
        · have hltJ : ¬ (k : Int) < (keys.length : Int) := by omega
          clear M1 HHo
          go_wp2_with fail
          go_loop [17] (fun kv => ∃ k : Nat, k ≤ K.length ∧ kv = .int .i64 (k : Int)) (fun kv => K.length - (intOf kv).toNat)
          case atStart => exact ⟨0, Nat.zero_le _, rfl⟩
          case round =>
            obtain ⟨k, hk, rfl⟩ := hrel
            by_cases hlt : k < K.length
            · have hltJ : (k : Int) < (K.length : Int) := by omega
              obtain ⟨g, o, rfl, hg, c0⟩ := krow_cell HR2.out k hlt
              have D9 := HHas.out ao1 cap1 K2 (keyAt K k) HR1.out true (decide_eq_true (M2.out k hlt))
              clear M2 M3 HHas HR1 HR2 HKW
              generalize keyAt K k = z at *
              go_wp2_with fail
              refine D9.mono ?_
              rintro e w9 ⟨rfl, hw⟩
              rw [hw]
              clear hw w9 D9
              go_wp2_with fail
              exact ⟨⟨k + 1, by omega, by go_num⟩, by simp [intOf]; omega⟩
            · have hltJ : ¬ (k : Int) < (K.length : Int) := by omega
              clear M2
              go_wp2_with fail
              go_loop [18] (fun kv => ∃ k : Nat, k ≤ K2.length ∧ kv = .int .i64 (k : Int)) (fun kv => K2.length - (intOf kv).toNat)
              case atStart => exact ⟨0, Nat.zero_le _, rfl⟩
              case round =>
                obtain ⟨k, hk, rfl⟩ := hrel
                by_cases hlt : k < K2.length
                · have hltJ : (k : Int) < (K2.length : Int) := by omega
                  obtain ⟨g, o, rfl, hg, c0⟩ := krow_cell HR1.out k hlt
                  by_cases hm : keyAt K2 k ∈ K
                  · have D9 := HHas.out ao2 cap2 K (keyAt K2 k) HR2.out true (decide_eq_true hm)
                    clear M3 HHas HR1 HR2 HKW hm
                    generalize keyAt K2 k = z at *
                    go_wp2_with fail
                    refine D9.mono ?_
                    rintro e w9 ⟨rfl, hw⟩
                    rw [hw]
                    clear hw w9 D9
                    go_wp2_with fail
                    exact ⟨⟨k + 1, by omega, by go_num⟩, by simp [intOf]; omega⟩
                  · have D9 := HHas.out ao2 cap2 K (keyAt K2 k) HR2.out false (decide_eq_false hm)
                    have D10 := HHas.out ko kc keys (keyAt K2 k) HKW.out true (decide_eq_true (M3.out k hlt hm))
                    clear M3 HHas HR1 HR2 HKW hm
                    generalize keyAt K2 k = z at *
                    go_wp2_with fail
                    refine D9.mono ?_
                    rintro e w9 ⟨rfl, hw⟩
                    rw [hw]
                    clear hw w9 D9
                    go_wp2_with fail
                    refine D10.mono ?_
                    rintro e w9 ⟨rfl, hw⟩
                    rw [hw]
                    clear hw w9 D10
                    go_wp2_with fail
                    exact ⟨⟨k + 1, by omega, by go_num⟩, by simp [intOf]; omega⟩
                · have hltJ : ¬ (k : Int) < (K2.length : Int) := by omega
                  clear M3 HHas HR1 HR2 HKW
                  go_wp2_with fail
                  go_ret
                  exact ⟨rfl, HBL.out⟩
    · cases hb
end Go.Proofs.YthdloddcljbjhaaDoor
