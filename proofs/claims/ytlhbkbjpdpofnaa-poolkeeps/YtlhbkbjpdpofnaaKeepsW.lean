/- The walk of the law PoolKeeps. -/
import Derived.Test.YtlhbkbjpdpofnaaCountW
set_option linter.unusedVariables false
set_option maxRecDepth 100000
namespace Go.Proofs.Ytlhbkbjpdpofnaa
open Go.RowKit

theorem aAdd_case (room : Int) (l : List Txt) (s : Txt) : ((aAdd room l s).2 ≠ 0 ∧ (aAdd room l s).1 = l) ∨ ((aAdd room l s).2 = 0 ∧ (aAdd room l s).1 = l ++ [s]) := by
  unfold aAdd
  split
  · exact Or.inl ⟨by simp, rfl⟩
  · exact Or.inr ⟨rfl, rfl⟩
theorem aSend_case (room : Int) (l : List Txt) (s : Txt) : ((aSend room l s).2 ≠ 0 ∧ (aSend room l s).1 = l) ∨ ((aSend room l s).2 = 0 ∧ (aSend room l s).1 = l ++ [s]) := by
  unfold aSend
  split
  · exact Or.inl ⟨by simp, rfl⟩
  · exact aAdd_case _ _ _
theorem aTake_case (l : List Txt) (i : Int) : (aTake l i = (l, ⟨#[]⟩, 91)) ∨ ∃ (n : Nat) (h : n < l.length), i = (n : Int) ∧ aTake l i = (l.eraseIdx n, l[n], 0) := by
  unfold aTake
  by_cases h : i < 0 ∨ (l.length : Int) ≤ i
  · rw [if_pos h]; exact Or.inl rfl
  · rw [if_neg h]
    obtain ⟨n, rfl⟩ := Int.eq_ofNat_of_zero_le (show 0 ≤ i by omega)
    have hn : n < l.length := by omega
    refine Or.inr ⟨n, hn, rfl, ?_⟩
    rw [Int.toNat_natCast, List.getD_eq_getElem?_getD, List.getElem?_eq_getElem hn, Option.getD_some]
theorem aDouble_case (room : Int) (l : List Txt) (i : Int) : ((aDouble room l i).2 ≠ 0 ∧ (aDouble room l i).1 = l) ∨ ∃ (n : Nat) (h : n < l.length), i = (n : Int) ∧ (aDouble room l i).2 = 0 ∧ (aDouble room l i).1 = l ++ [l[n]] := by
  unfold aDouble
  by_cases h : i < 0 ∨ (l.length : Int) ≤ i
  · rw [if_pos h]; exact Or.inl ⟨by simp, rfl⟩
  · rw [if_neg h]
    obtain ⟨n, rfl⟩ := Int.eq_ofNat_of_zero_le (show 0 ≤ i by omega)
    have hn : n < l.length := by omega
    rw [Int.toNat_natCast, List.getD_eq_getElem?_getD, List.getElem?_eq_getElem hn, Option.getD_some]
    rcases aAdd_case room l l[n] with k | k
    · exact Or.inl k
    · exact Or.inr ⟨n, hn, rfl, k⟩
theorem perm_a (a b c d e : Res) : [a, b, c, d, e].Perm [d, a, b, c, e] := List.perm_middle (l₁ := [a, b, c]) (l₂ := [e])
theorem perm_b (a b c d e : Res) : [d, a, b, c, e].Perm [a, d, e, b, c] := (List.Perm.swap _ _ _).trans (((List.perm_middle (l₁ := [b, c]) (l₂ := [])).cons d).cons a)
theorem perm_c (a b c d e : Res) : [a, b, c, d, e].Perm [e, a, b, c, d] := List.perm_middle (l₁ := [a, b, c, d]) (l₂ := [])
theorem perm_d (a b c d e : Res) : [e, a, b, c, d].Perm [a, d, e, b, c] := ((perm_c a b c d e).symm).trans (((List.perm_append_comm (l₁ := [b, c]) (l₂ := [d, e]))).cons a)
theorem perm_e (a b c d e : Res) : [a, b, c, d, e].Perm [a, d, e, b, c] := ((List.perm_append_comm (l₁ := [b, c]) (l₂ := [d, e]))).cons a
theorem Has.dropAll {B : Nat} {w wr : World} {rs : List Res} : ∀ {ds : List Res}, Has B w (ds ++ rs) wr → Has B w rs wr
  | [], h => h
  | d :: ds, h => Has.dropAll (ds := ds) (Has.drop h)
set_option maxHeartbeats 4000000 in
theorem poolKeeps_walk (room : Int) (hrm : -9223372036854775808 ≤ room ∧ room ≤ 9223372036854775807) (v : Value) (os : List Op) (hx : os.length * 32 ≤ 140737488351232) (hok : ∀ o ∈ os, OpOk o) (w : World) (hO : ORow w v os) :
    Calls Try.prog 5 #[.int .i64 room, v] w fun e w' => e = .returned (.bool true) ∧ Below w.heap.size w w' := by
  obtain ⟨i0, hi, hz0, hz1, hz2⟩ := info_parts infoS
  have CP : Hid (Calls Try.prog 12 #[.int .i64 room, .int .i64 200] w fun e w' => e = .returned (.int .i64 (pick room 200 : Int)) ∧ w' = w) := pick_any room 200 (by decide) (by decide) hrm w
  have hpl := pick_lt room 200 (by decide)
  generalize pick room 200 = R at *
  have C1 : Hid (Calls Try.prog 7 #[.int .i64 (1 + (R : Int))] w fun e w' => ∃ b, e = .returned (.tuple #[.pointer (some ⟨b, 0, none⟩), .int .i64 0]) ∧ Hid (Has w.heap.size w [PoolR b (1 + (R : Int)) []] w')) := (Has.start w).new (by omega) (by omega)
  have CL : Hid (∀ b w1, Hid (Has w.heap.size w [PoolR b (1 + (R : Int)) []] w1) → Calls Try.prog 11 #[] w1 fun e w' => e = .returned (.bool true) ∧ Hid (Has w.heap.size w [PoolR b (1 + (R : Int)) []] w')) := fun b w1 h => (live_any w1).mono fun e w' ⟨h1, h2⟩ => ⟨h1, h.out.below h2⟩
  have HO : Hid (ORow w v os) := hO
  have HOK : Hid (∀ o ∈ os, OpOk o) := hok
  obtain ⟨ao, cap, rfl, _⟩ := hO
  clear hok
  go_enter Try.func5, Try.ntmps5
  go_wp2_with fail
  refine CP.out.mono ?_
  rintro e w1 ⟨rfl, hw⟩
  rw [hw]; clear hw w1 CP
  go_wp2_with fail
  refine C1.out.mono ?_
  rintro e w1 ⟨b, rfl, d1⟩
  clear C1
  go_wp2_with fail
  refine (CL.out _ _ d1).mono ?_
  rintro e w2 ⟨rfl, d2⟩
  have HS0 : Hid (Has w.heap.size w [PoolR b (1 + (R : Int)) [], RowR (.slice none 0 0) [], RowR (.slice none 0 0) []] w2) := by
    have h1 := d2.out.add (new := [RowR (.slice none 0 0) []]) (Below.refl _ _) (Hold.one ⟨World.ownsRow_nil _ _ _ _, rfl⟩) (fun k hk => by cases hk)
    have h2 := h1.add (new := [RowR (.slice none 0 0) []]) (Below.refl _ _) (Hold.one ⟨World.ownsRow_nil _ _ _ _, rfl⟩) (fun k hk => by cases hk)
    exact h2.perm (((List.Perm.swap _ _ _).cons _).trans (List.Perm.swap _ _ _))
  clear d1 d2 CL
  go_wp2_with fail
  go_loopw [7, 8, 9] (fun vi vo i wr => ∃ (k : Nat) (ia : Option Addr) (ic : Nat) (oa : Option Addr) (oc : Nat) (l xs ys : List Txt), k ≤ os.length ∧ i = .int .i64 (k : Int) ∧ vi = .slice ia xs.length ic ∧ vo = .slice oa ys.length oc ∧ l.length ≤ 1 + R ∧ xs.length ≤ k ∧ Hid (Kept l xs ys) ∧
    Hid (Has w.heap.size w [PoolR b (1 + (R : Int)) l, RowR (.slice ia xs.length ic) xs, RowR (.slice oa ys.length oc) ys] wr)) (fun _ _ i _ => os.length - (intOf i).toNat)
  case atStart => exact ⟨0, none, 0, none, 0, [], [], [], Nat.zero_le _, rfl, rfl, rfl, Nat.zero_le _, Nat.zero_le _, List.Perm.refl _, HS0⟩
  case round =>
    obtain ⟨k, ia, ic, oa, oc, l, xs, ys, hk, rfl, rfl, rfl, hl, hxl, HK, HS⟩ := hrel
    clear HS0
    by_cases hlt : k < os.length
    · obtain ⟨_, _, he, _, _, hrow⟩ := HO.out
      cases he
      obtain ⟨g, o, rfl, hgl, c0, c1, c2⟩ := hrow k hlt
      have hcell : ∀ x, wr.cell? ⟨g, x, none⟩ = w.cell? ⟨g, x, none⟩ := fun x => HS.out.bel.cell (p := ⟨g, x, none⟩) hgl
      have e0 := (hcell _).trans c0
      have e1 := (hcell _).trans c1
      have e2 := (hcell _).trans c2
      obtain ⟨o1, o2⟩ := HOK.out _ (List.getElem_mem hlt)
      generalize os[k].Do = D at *
      generalize os[k].N = N at *
      generalize os[k].S = s at *
      have i1 : (k : Int) < (os.length : Int) := by omega
      have hylen := HK.out.len
      have hbq : Hid (Has w.heap.size w [BlockR wr.heap.size [.int .i64 D, .int .i64 N, .string s], PoolR b (1 + (R : Int)) l, RowR (.slice ia xs.length ic) xs, RowR (.slice oa ys.length oc) ys] (wr.alloc (.cells #[.int .i64 D, .int .i64 N, .string s] 38))) :=
        HS.out.add (new := [BlockR wr.heap.size [.int .i64 D, .int .i64 N, .string s]]) ((Below.refl _ _).alloc (Nat.le_refl _) _) (Hold.one (block_new wr [.int .i64 D, .int .i64 N, .string s] 38)) (fun k hk => by rw [hk]; exact Nat.le_refl _)
      have CB : Hid (Calls Try.prog 10 #[.pointer (some ⟨b, 0, none⟩)] (wr.alloc (.cells #[.int .i64 D, .int .i64 N, .string s] 38)) fun e w' => ∃ ba bc, e = .returned (.slice ba l.length bc) ∧ Hid (Has w.heap.size w [PoolR b (1 + (R : Int)) l, RowR (.slice ba l.length bc) l, BlockR wr.heap.size [.int .i64 D, .int .i64 N, .string s], RowR (.slice ia xs.length ic) xs, RowR (.slice oa ys.length oc) ys] w')) :=
        ((hbq.out.perm (List.Perm.swap _ _ _)).all (by omega)).mono fun e w' ⟨v, k1, k2⟩ => by
          obtain ⟨ba, bc, rfl, _⟩ := own_form (k2.row (v := v) (l := l) (by simp))
          exact ⟨ba, bc, k1, k2.perm (List.Perm.swap _ _ _)⟩
      obtain ⟨Q, hQ⟩ : ∃ Q, Q = wr.heap.size := ⟨_, rfl⟩
      have HQ : Hid (Q = wr.heap.size) := hQ
      rw [← hQ] at CB
      have HCL : Hid (∀ w2 rs, Has w.heap.size w rs w2 → BlockR Q [.int .i64 D, .int .i64 N, .string s] ∈ rs → w2.cell? ⟨Q, 0, none⟩ = some (.int .i64 D) ∧ w2.cell? ⟨Q, 1, none⟩ = some (.int .i64 N) ∧ w2.cell? ⟨Q, 2, none⟩ = some (.string s)) := fun w2 rs h hm => by
        obtain ⟨F, ⟨h1, _⟩, _⟩ := h.get hm
        exact ⟨(h1 0 _ rfl).1, (h1 1 _ rfl).1, (h1 2 _ rfl).1⟩
      clear hcell c0 c1 c2 hrow hbq hQ
      go_wp2_with fail
      rw [← HQ.out]
      refine CB.out.mono ?_
      rintro e w2 ⟨ba, bc, rfl, HS2⟩
      obtain ⟨u0, u1, u2⟩ := HCL.out _ _ HS2.out (by simp)
      clear CB HS e0 e1 e2 HQ
      by_cases D0 : D = 0
      · subst D0
        have C : Hid (Calls Try.prog 17 #[.pointer (some ⟨b, 0, none⟩), .string s] w2 fun e w' => e = .returned (.int .i64 (aSend (1 + (R : Int)) l s).2) ∧ Has w.heap.size w [PoolR b (1 + (R : Int)) (aSend (1 + (R : Int)) l s).1, RowR (.slice ba l.length bc) l, BlockR Q [.int .i64 0, .int .i64 N, .string s], RowR (.slice ia xs.length ic) xs, RowR (.slice oa ys.length oc) ys] w') := HS2.out.send (by omega) (by omega) s
        have hcase : ((aSend (1 + (R : Int)) l s).2 ≠ 0 ∧ (aSend (1 + (R : Int)) l s).1 = l) ∨ ((aSend (1 + (R : Int)) l s).2 = 0 ∧ (aSend (1 + (R : Int)) l s).1 = l ++ [s]) := aSend_case _ _ _
        have hl2 : ((aSend (1 + (R : Int)) l s).1.length : Int) ≤ 1 + (R : Int) := aSend_len (by omega) s
        generalize (aSend (1 + (R : Int)) l s).1 = L at *
        generalize (aSend (1 + (R : Int)) l s).2 = er at *
        replace hl2 : L.length ≤ 1 + R := by omega
        clear HS2
        rcases hcase with ⟨h1, rfl⟩ | ⟨rfl, hL⟩
        · have d1 : decide (er = 0) = false := by simpa using h1
          have d2 : (er == 0) = false := by simpa using h1
          go_wp2_with fail
          refine C.out.mono ?_
          rintro e w3 ⟨rfl, hs3⟩
          have HT : Hid (Has w.heap.size w (PoolR b (1 + (R : Int)) L :: RowR (.slice ia xs.length ic) xs :: RowR (.slice oa ys.length oc) ys :: [RowR (.slice ba L.length bc) L, BlockR Q [.int .i64 0, .int .i64 N, .string s]]) w3) := hs3.perm ((List.perm_append_comm (l₁ := [RowR (.slice ba L.length bc) L, BlockR Q [.int .i64 0, .int .i64 N, .string s]]) (l₂ := [RowR (.slice ia xs.length ic) xs, RowR (.slice oa ys.length oc) ys])).cons _)
          have HK2 : Hid (Kept L xs ys) := HK
          have HXL : Hid (xs.length = xs.length) := rfl
          have HYL : Hid (ys.length = ys.length) := rfl
          clear hs3 C u0 u1 u2 HK HCL
          have CA : Hid (Calls Try.prog 10 #[.pointer (some ⟨b, 0, none⟩)] w3 fun e w' => ∃ la lc, e = .returned (.slice la L.length lc) ∧ Hid (Has w.heap.size w (RowR (.slice la L.length lc) L :: PoolR b (1 + (R : Int)) L :: RowR (.slice (ia) (xs.length) ic) (xs) :: RowR (.slice (oa) (ys.length) oc) (ys) :: [RowR (.slice ba L.length bc) L, BlockR Q [.int .i64 0, .int .i64 N, .string s]]) w')) := (HT.out.all (by omega)).mono fun e w' ⟨v, k1, k2⟩ => by
            obtain ⟨la, lc, rfl, _⟩ := own_form (k2.row (v := v) (l := L) (by simp))
            exact ⟨la, lc, k1, k2⟩
          have hlen2 := HK2.out.len
          have q1 : (L.length : Int) = (xs.length : Nat) - (ys.length : Nat) := by omega
          have q2 : ¬ (L.length : Int) > (1 + (R : Int)) := by omega
          have q3 : decide ((1 + (R : Int)) < (L.length : Int)) = false := by simp; omega
          have hL9 : L.length ≤ 200 := by omega
          have hxx : xs.length ≤ 4398046510976 := by omega
          clear HT
          go_wp2_with fail
          refine CA.out.mono ?_
          rintro e wA ⟨la, lc, rfl, HA⟩
          clear CA
          go_wp2_with fail
          have CC : Hid (∀ q n sz, Calls Try.prog 20 #[.slice la L.length lc, .string sz] (wA.drewN (q + n)) fun e w' => e = .returned (.int .i64 (cnt L sz : Int)) ∧ w' = wA.drewN (q + n)) := fun q n sz => count_any _ L (by omega) sz _ (srow_below (srow_own (HA.out.row (by simp))) (Nat.le_refl _) (below_drewN (Below.refl _ _) (q + n)))
          have CX : Hid (∀ q n sz, Calls Try.prog 20 #[(.slice (ia) (xs.length) ic), .string sz] (wA.drewN (q + n)) fun e w' => e = .returned (.int .i64 (cnt (xs) sz : Int)) ∧ w' = wA.drewN (q + n)) := fun q n sz => count_any _ (xs) (by omega) sz _ (srow_below (srow_own (HA.out.row (by simp))) (Nat.le_refl _) (below_drewN (Below.refl _ _) (q + n)))
          have CY : Hid (∀ q n sz, Calls Try.prog 20 #[(.slice (oa) (ys.length) oc), .string sz] (wA.drewN (q + n)) fun e w' => e = .returned (.int .i64 (cnt (ys) sz : Int)) ∧ w' = wA.drewN (q + n)) := fun q n sz => count_any _ (ys) (by omega) sz _ (srow_below (srow_own (HA.out.row (by simp))) (Nat.le_refl _) (below_drewN (Below.refl _ _) (q + n)))
          have HLC : Hid (∀ j, (hj : j < L.length) → ∃ g o, la = some ⟨g, o, none⟩ ∧ wA.cell? ⟨g, o + j, none⟩ = some (.string L[j])) := fun j hj => by
            obtain ⟨_, _, he, _, _, hr⟩ := srow_own (HA.out.row (v := .slice la L.length lc) (l := L) (by simp))
            cases he
            obtain ⟨g, o, h1, _, h3⟩ := hr j hj
            exact ⟨g, o, h1, h3⟩
          have HEND : Hid (∀ q, Has w.heap.size w [PoolR b (1 + (R : Int)) L, RowR (.slice (ia) (xs.length) ic) (xs), RowR (.slice (oa) (ys.length) oc) (ys)] (wA.drewN q)) := fun q => by
            have h1 := HA.out.drop.below (below_drewN (Below.refl _ _) q)
            have h2 : Has w.heap.size w ([RowR (.slice ba L.length bc) L, BlockR Q [.int .i64 0, .int .i64 N, .string s]] ++ [PoolR b (1 + (R : Int)) L, RowR (.slice (ia) (xs.length) ic) (xs), RowR (.slice (oa) (ys.length) oc) (ys)]) (wA.drewN q) := h1.perm (List.perm_append_comm (l₁ := [PoolR b (1 + (R : Int)) L, RowR (.slice (ia) (xs.length) ic) (xs), RowR (.slice (oa) (ys.length) oc) (ys)]))
            exact h2.dropAll
          clear HA
          go_loopw [15] (fun i wr => ∃ (j q : Nat), j ≤ L.length ∧ i = .int .i64 (j : Int) ∧ wr = wA.drewN q) (fun i _ => L.length - (intOf i).toNat)
          case atStart => exact ⟨0, 0, Nat.zero_le _, rfl, rfl⟩
          case round =>
            obtain ⟨j, q, hj, rfl, rfl⟩ := hrel
            by_cases hjl : j < L.length
            · obtain ⟨gl, ol, rfl, cj⟩ := HLC.out j hjl
              have hkc := HK2.out.cnt L[j]
              have b1 := cnt_len L L[j]
              have b2 := cnt_len (xs) L[j]
              have b3 := cnt_len (ys) L[j]
              generalize L[j] = sj at *
              have DC : Hid (∀ n, Calls Try.prog 20 #[.slice (some ⟨gl, ol, none⟩) L.length lc, .string sj] (wA.drewN (q + n)) fun e w' => e = .returned (.int .i64 (cnt L sj : Int)) ∧ w' = wA.drewN (q + n)) := fun n => CC.out q n sj
              have DX : Hid (∀ n, Calls Try.prog 20 #[(.slice (ia) (xs.length) ic), .string sj] (wA.drewN (q + n)) fun e w' => e = .returned (.int .i64 (cnt (xs) sj : Int)) ∧ w' = wA.drewN (q + n)) := fun n => CX.out q n sj
              have DY : Hid (∀ n, Calls Try.prog 20 #[(.slice (oa) (ys.length) oc), .string sj] (wA.drewN (q + n)) fun e w' => e = .returned (.int .i64 (cnt (ys) sj : Int)) ∧ w' = wA.drewN (q + n)) := fun n => CY.out q n sj
              generalize cnt L sj = n1 at *
              generalize cnt (xs) sj = n2 at *
              generalize cnt (ys) sj = n3 at *
              have z1 : (n1 : Int) = (n2 : Int) - (n3 : Int) := by omega
              have z2 : (j : Int) < (L.length : Int) := by omega
              clear CC CX CY HLC HEND hkc
              go_wp2_with fail
              go_quiet (first | (with_reducible refine (DC.out _).mono ?_; exact fun e w' h => ⟨h.1, _, h.2⟩) | (with_reducible refine (DX.out _).mono ?_; exact fun e w' h => ⟨h.1, _, h.2⟩) | (with_reducible refine (DY.out _).mono ?_; exact fun e w' h => ⟨h.1, _, h.2⟩))
              go_wp2
              exact ⟨⟨j + 1, _, by omega, by go_num, rfl⟩, by simp [intOf]; omega⟩
            · have z2 : ¬ (j : Int) < (L.length : Int) := by omega
              have HE : Hid (Has w.heap.size w [PoolR b (1 + (R : Int)) L, RowR (.slice (ia) (xs.length) ic) (xs), RowR (.slice (oa) (ys.length) oc) (ys)] (wA.drewN q)) := HEND.out q
              clear CC CX CY HLC HEND
              go_wp2
              exact ⟨⟨k + 1, ia, ic, oa, oc, L, xs, ys, by omega, by go_num, rfl, rfl, hl2, by omega, HK2, by exact HE⟩, by simp [intOf]; omega⟩
        · have HK2 : Hid (Kept L (xs ++ [s]) ys) := by rw [hL]; exact HK.out.add s
          go_wp2_with fail
          refine C.out.mono ?_
          rintro e w3 ⟨rfl, hs3⟩
          obtain ⟨_, _, e3⟩ := HCL.out _ _ hs3 (by simp)
          have HS3 : Hid (Has w.heap.size w [RowR (.slice ia xs.length ic) xs, PoolR b (1 + (R : Int)) L, RowR (.slice ba l.length bc) l, BlockR Q [.int .i64 0, .int .i64 N, .string s], RowR (.slice oa ys.length oc) ys] w3) := hs3.perm (perm_a _ _ _ _ _)
          have hown : Hid (w3.ownsRow 0 9 1 (.slice ia xs.length ic) xs.length (sv xs)) := hs3.row (by simp)
          clear hs3 C u0 u1 u2 HK HCL
          go_wp2_with (at_builtin; refine wpList_append_more _ rfl _ _ 30 rfl 0 9 i0 (.string ⟨#[]⟩) 1 16 Try.underlying30 hi hz0 hz1 hz2 rfl (by decide) _ xs.length (sv xs) rfl (hown.out.alloc _) ⟨_, 0, none⟩ 1 1 [.string s] rfl rfl (one_new _ _ _) (one_str _) (by decide) (by unfold maxLen; omega) (by omega) ?_)
          intro g' cap' w4 hown2 hwh hch
          have HT : Hid (Has w.heap.size w (PoolR b (1 + (R : Int)) L :: RowR (.slice (some ⟨g', 0, none⟩) (xs.length + 1) cap') (xs ++ [s]) :: RowR (.slice oa ys.length oc) ys :: [RowR (.slice ba l.length bc) l, BlockR Q [.int .i64 0, .int .i64 N, .string s]]) w4) := (HS3.out.push hown2 hwh hch).perm (perm_b _ _ _ _ _)
          have HXL : Hid ((xs ++ [s]).length = xs.length + 1) := List.length_append
          have HYL : Hid (ys.length = ys.length) := rfl
          clear hown hown2 hwh hch HS3 hL e3
          have CA : Hid (Calls Try.prog 10 #[.pointer (some ⟨b, 0, none⟩)] w4 fun e w' => ∃ la lc, e = .returned (.slice la L.length lc) ∧ Hid (Has w.heap.size w (RowR (.slice la L.length lc) L :: PoolR b (1 + (R : Int)) L :: RowR (.slice (some ⟨g', 0, none⟩) (xs.length + 1) cap') (xs ++ [s]) :: RowR (.slice (oa) (ys.length) oc) (ys) :: [RowR (.slice ba l.length bc) l, BlockR Q [.int .i64 0, .int .i64 N, .string s]]) w')) := (HT.out.all (by omega)).mono fun e w' ⟨v, k1, k2⟩ => by
            obtain ⟨la, lc, rfl, _⟩ := own_form (k2.row (v := v) (l := L) (by simp))
            exact ⟨la, lc, k1, k2⟩
          have hlen2 := HK2.out.len
          rw [HXL.out] at hlen2
          have q1 : (L.length : Int) = (xs.length + 1 : Nat) - (ys.length : Nat) := by omega
          have q2 : ¬ (L.length : Int) > (1 + (R : Int)) := by omega
          have q3 : decide ((1 + (R : Int)) < (L.length : Int)) = false := by simp; omega
          have hL9 : L.length ≤ 200 := by omega
          have hxx : xs.length + 1 ≤ 4398046510976 := by omega
          clear HT
          go_wp2_with fail
          refine CA.out.mono ?_
          rintro e wA ⟨la, lc, rfl, HA⟩
          clear CA
          go_wp2_with fail
          have CC : Hid (∀ q n sz, Calls Try.prog 20 #[.slice la L.length lc, .string sz] (wA.drewN (q + n)) fun e w' => e = .returned (.int .i64 (cnt L sz : Int)) ∧ w' = wA.drewN (q + n)) := fun q n sz => count_any _ L (by omega) sz _ (srow_below (srow_own (HA.out.row (by simp))) (Nat.le_refl _) (below_drewN (Below.refl _ _) (q + n)))
          have CX : Hid (∀ q n sz, Calls Try.prog 20 #[(.slice (some ⟨g', 0, none⟩) (xs.length + 1) cap'), .string sz] (wA.drewN (q + n)) fun e w' => e = .returned (.int .i64 (cnt (xs ++ [s]) sz : Int)) ∧ w' = wA.drewN (q + n)) := fun q n sz => count_any _ (xs ++ [s]) (by rw [HXL.out]; omega) sz _ (srow_below (srow_own (HA.out.row (by simp))) (Nat.le_refl _) (below_drewN (Below.refl _ _) (q + n)))
          have CY : Hid (∀ q n sz, Calls Try.prog 20 #[(.slice (oa) (ys.length) oc), .string sz] (wA.drewN (q + n)) fun e w' => e = .returned (.int .i64 (cnt (ys) sz : Int)) ∧ w' = wA.drewN (q + n)) := fun q n sz => count_any _ (ys) (by omega) sz _ (srow_below (srow_own (HA.out.row (by simp))) (Nat.le_refl _) (below_drewN (Below.refl _ _) (q + n)))
          have HLC : Hid (∀ j, (hj : j < L.length) → ∃ g o, la = some ⟨g, o, none⟩ ∧ wA.cell? ⟨g, o + j, none⟩ = some (.string L[j])) := fun j hj => by
            obtain ⟨_, _, he, _, _, hr⟩ := srow_own (HA.out.row (v := .slice la L.length lc) (l := L) (by simp))
            cases he
            obtain ⟨g, o, h1, _, h3⟩ := hr j hj
            exact ⟨g, o, h1, h3⟩
          have HEND : Hid (∀ q, Has w.heap.size w [PoolR b (1 + (R : Int)) L, RowR (.slice (some ⟨g', 0, none⟩) (xs.length + 1) cap') (xs ++ [s]), RowR (.slice (oa) (ys.length) oc) (ys)] (wA.drewN q)) := fun q => by
            have h1 := HA.out.drop.below (below_drewN (Below.refl _ _) q)
            have h2 : Has w.heap.size w ([RowR (.slice ba l.length bc) l, BlockR Q [.int .i64 0, .int .i64 N, .string s]] ++ [PoolR b (1 + (R : Int)) L, RowR (.slice (some ⟨g', 0, none⟩) (xs.length + 1) cap') (xs ++ [s]), RowR (.slice (oa) (ys.length) oc) (ys)]) (wA.drewN q) := h1.perm (List.perm_append_comm (l₁ := [PoolR b (1 + (R : Int)) L, RowR (.slice (some ⟨g', 0, none⟩) (xs.length + 1) cap') (xs ++ [s]), RowR (.slice (oa) (ys.length) oc) (ys)]))
            exact h2.dropAll
          clear HA
          go_loopw [15] (fun i wr => ∃ (j q : Nat), j ≤ L.length ∧ i = .int .i64 (j : Int) ∧ wr = wA.drewN q) (fun i _ => L.length - (intOf i).toNat)
          case atStart => exact ⟨0, 0, Nat.zero_le _, rfl, rfl⟩
          case round =>
            obtain ⟨j, q, hj, rfl, rfl⟩ := hrel
            by_cases hjl : j < L.length
            · obtain ⟨gl, ol, rfl, cj⟩ := HLC.out j hjl
              have hkc := HK2.out.cnt L[j]
              have b1 := cnt_len L L[j]
              have b2 := cnt_len (xs ++ [s]) L[j]
              have b3 := cnt_len (ys) L[j]
              rw [HXL.out] at b2
              generalize L[j] = sj at *
              have DC : Hid (∀ n, Calls Try.prog 20 #[.slice (some ⟨gl, ol, none⟩) L.length lc, .string sj] (wA.drewN (q + n)) fun e w' => e = .returned (.int .i64 (cnt L sj : Int)) ∧ w' = wA.drewN (q + n)) := fun n => CC.out q n sj
              have DX : Hid (∀ n, Calls Try.prog 20 #[(.slice (some ⟨g', 0, none⟩) (xs.length + 1) cap'), .string sj] (wA.drewN (q + n)) fun e w' => e = .returned (.int .i64 (cnt (xs ++ [s]) sj : Int)) ∧ w' = wA.drewN (q + n)) := fun n => CX.out q n sj
              have DY : Hid (∀ n, Calls Try.prog 20 #[(.slice (oa) (ys.length) oc), .string sj] (wA.drewN (q + n)) fun e w' => e = .returned (.int .i64 (cnt (ys) sj : Int)) ∧ w' = wA.drewN (q + n)) := fun n => CY.out q n sj
              generalize cnt L sj = n1 at *
              generalize cnt (xs ++ [s]) sj = n2 at *
              generalize cnt (ys) sj = n3 at *
              have z1 : (n1 : Int) = (n2 : Int) - (n3 : Int) := by omega
              have z2 : (j : Int) < (L.length : Int) := by omega
              clear CC CX CY HLC HEND hkc
              go_wp2_with fail
              go_quiet (first | (with_reducible refine (DC.out _).mono ?_; exact fun e w' h => ⟨h.1, _, h.2⟩) | (with_reducible refine (DX.out _).mono ?_; exact fun e w' h => ⟨h.1, _, h.2⟩) | (with_reducible refine (DY.out _).mono ?_; exact fun e w' h => ⟨h.1, _, h.2⟩))
              go_wp2
              exact ⟨⟨j + 1, _, by omega, by go_num, rfl⟩, by simp [intOf]; omega⟩
            · have z2 : ¬ (j : Int) < (L.length : Int) := by omega
              have HE : Hid (Has w.heap.size w [PoolR b (1 + (R : Int)) L, RowR (.slice (some ⟨g', 0, none⟩) (xs.length + 1) cap') (xs ++ [s]), RowR (.slice (oa) (ys.length) oc) (ys)] (wA.drewN q)) := HEND.out q
              clear CC CX CY HLC HEND
              go_wp2
              exact ⟨⟨k + 1, some ⟨g', 0, none⟩, cap', oa, oc, L, xs ++ [s], ys, by omega, by go_num, by rw [HXL.out], rfl, hl2, by rw [HXL.out]; omega, HK2, by rw [HXL.out]; exact HE⟩, by simp [intOf]; omega⟩
      · have D0' : decide (D = 0) = false := by simpa using D0
        have D0'' : (D == 0) = false := by simpa using D0
        by_cases D1 : D = 1
        · subst D1
          have C : Hid (Calls Try.prog 18 #[.pointer (some ⟨b, 0, none⟩), .int .i64 N] w2 fun e w' => e = .returned (.tuple #[.string (aTake l N).2.1, .int .i64 (aTake l N).2.2]) ∧ Has w.heap.size w [PoolR b (1 + (R : Int)) (aTake l N).1, RowR (.slice ba l.length bc) l, BlockR Q [.int .i64 1, .int .i64 N, .string s], RowR (.slice ia xs.length ic) xs, RowR (.slice oa ys.length oc) ys] w') := HS2.out.take (by omega) N
          clear HS2
          rcases aTake_case l N with he | ⟨n, hn, rfl, he⟩
          · rw [he] at C
            clear he
            go_wp2_with fail
            refine C.out.mono ?_
            rintro e w3 ⟨rfl, hs3⟩
            obtain ⟨L, hL⟩ : ∃ L, L = l := ⟨_, rfl⟩
            subst hL
            have HT : Hid (Has w.heap.size w (PoolR b (1 + (R : Int)) L :: RowR (.slice ia xs.length ic) xs :: RowR (.slice oa ys.length oc) ys :: [RowR (.slice ba L.length bc) L, BlockR Q [.int .i64 1, .int .i64 N, .string s]]) w3) := hs3.perm (perm_e _ _ _ _ _)
            have HK2 : Hid (Kept L xs ys) := HK
            have HXL : Hid (xs.length = xs.length) := rfl
            have HYL : Hid (ys.length = ys.length) := rfl
            have hl2 : L.length ≤ 1 + R := hl
            clear hs3 C u0 u1 u2 HK HCL
            have CA : Hid (Calls Try.prog 10 #[.pointer (some ⟨b, 0, none⟩)] w3 fun e w' => ∃ la lc, e = .returned (.slice la L.length lc) ∧ Hid (Has w.heap.size w (RowR (.slice la L.length lc) L :: PoolR b (1 + (R : Int)) L :: RowR (.slice (ia) (xs.length) ic) (xs) :: RowR (.slice (oa) (ys.length) oc) (ys) :: [RowR (.slice ba L.length bc) L, BlockR Q [.int .i64 1, .int .i64 N, .string s]]) w')) := (HT.out.all (by omega)).mono fun e w' ⟨v, k1, k2⟩ => by
              obtain ⟨la, lc, rfl, _⟩ := own_form (k2.row (v := v) (l := L) (by simp))
              exact ⟨la, lc, k1, k2⟩
            have hlen2 := HK2.out.len
            have q1 : (L.length : Int) = (xs.length : Nat) - (ys.length : Nat) := by omega
            have q2 : ¬ (L.length : Int) > (1 + (R : Int)) := by omega
            have q3 : decide ((1 + (R : Int)) < (L.length : Int)) = false := by simp; omega
            have hL9 : L.length ≤ 200 := by omega
            have hxx : xs.length ≤ 4398046510976 := by omega
            clear HT
            go_wp2_with fail
            refine CA.out.mono ?_
            rintro e wA ⟨la, lc, rfl, HA⟩
            clear CA
            go_wp2_with fail
            have CC : Hid (∀ q n sz, Calls Try.prog 20 #[.slice la L.length lc, .string sz] (wA.drewN (q + n)) fun e w' => e = .returned (.int .i64 (cnt L sz : Int)) ∧ w' = wA.drewN (q + n)) := fun q n sz => count_any _ L (by omega) sz _ (srow_below (srow_own (HA.out.row (by simp))) (Nat.le_refl _) (below_drewN (Below.refl _ _) (q + n)))
            have CX : Hid (∀ q n sz, Calls Try.prog 20 #[(.slice (ia) (xs.length) ic), .string sz] (wA.drewN (q + n)) fun e w' => e = .returned (.int .i64 (cnt (xs) sz : Int)) ∧ w' = wA.drewN (q + n)) := fun q n sz => count_any _ (xs) (by omega) sz _ (srow_below (srow_own (HA.out.row (by simp))) (Nat.le_refl _) (below_drewN (Below.refl _ _) (q + n)))
            have CY : Hid (∀ q n sz, Calls Try.prog 20 #[(.slice (oa) (ys.length) oc), .string sz] (wA.drewN (q + n)) fun e w' => e = .returned (.int .i64 (cnt (ys) sz : Int)) ∧ w' = wA.drewN (q + n)) := fun q n sz => count_any _ (ys) (by omega) sz _ (srow_below (srow_own (HA.out.row (by simp))) (Nat.le_refl _) (below_drewN (Below.refl _ _) (q + n)))
            have HLC : Hid (∀ j, (hj : j < L.length) → ∃ g o, la = some ⟨g, o, none⟩ ∧ wA.cell? ⟨g, o + j, none⟩ = some (.string L[j])) := fun j hj => by
              obtain ⟨_, _, he, _, _, hr⟩ := srow_own (HA.out.row (v := .slice la L.length lc) (l := L) (by simp))
              cases he
              obtain ⟨g, o, h1, _, h3⟩ := hr j hj
              exact ⟨g, o, h1, h3⟩
            have HEND : Hid (∀ q, Has w.heap.size w [PoolR b (1 + (R : Int)) L, RowR (.slice (ia) (xs.length) ic) (xs), RowR (.slice (oa) (ys.length) oc) (ys)] (wA.drewN q)) := fun q => by
              have h1 := HA.out.drop.below (below_drewN (Below.refl _ _) q)
              have h2 : Has w.heap.size w ([RowR (.slice ba L.length bc) L, BlockR Q [.int .i64 1, .int .i64 N, .string s]] ++ [PoolR b (1 + (R : Int)) L, RowR (.slice (ia) (xs.length) ic) (xs), RowR (.slice (oa) (ys.length) oc) (ys)]) (wA.drewN q) := h1.perm (List.perm_append_comm (l₁ := [PoolR b (1 + (R : Int)) L, RowR (.slice (ia) (xs.length) ic) (xs), RowR (.slice (oa) (ys.length) oc) (ys)]))
              exact h2.dropAll
            clear HA
            go_loopw [15] (fun i wr => ∃ (j q : Nat), j ≤ L.length ∧ i = .int .i64 (j : Int) ∧ wr = wA.drewN q) (fun i _ => L.length - (intOf i).toNat)
            case atStart => exact ⟨0, 0, Nat.zero_le _, rfl, rfl⟩
            case round =>
              obtain ⟨j, q, hj, rfl, rfl⟩ := hrel
              by_cases hjl : j < L.length
              · obtain ⟨gl, ol, rfl, cj⟩ := HLC.out j hjl
                have hkc := HK2.out.cnt L[j]
                have b1 := cnt_len L L[j]
                have b2 := cnt_len (xs) L[j]
                have b3 := cnt_len (ys) L[j]
                generalize L[j] = sj at *
                have DC : Hid (∀ n, Calls Try.prog 20 #[.slice (some ⟨gl, ol, none⟩) L.length lc, .string sj] (wA.drewN (q + n)) fun e w' => e = .returned (.int .i64 (cnt L sj : Int)) ∧ w' = wA.drewN (q + n)) := fun n => CC.out q n sj
                have DX : Hid (∀ n, Calls Try.prog 20 #[(.slice (ia) (xs.length) ic), .string sj] (wA.drewN (q + n)) fun e w' => e = .returned (.int .i64 (cnt (xs) sj : Int)) ∧ w' = wA.drewN (q + n)) := fun n => CX.out q n sj
                have DY : Hid (∀ n, Calls Try.prog 20 #[(.slice (oa) (ys.length) oc), .string sj] (wA.drewN (q + n)) fun e w' => e = .returned (.int .i64 (cnt (ys) sj : Int)) ∧ w' = wA.drewN (q + n)) := fun n => CY.out q n sj
                generalize cnt L sj = n1 at *
                generalize cnt (xs) sj = n2 at *
                generalize cnt (ys) sj = n3 at *
                have z1 : (n1 : Int) = (n2 : Int) - (n3 : Int) := by omega
                have z2 : (j : Int) < (L.length : Int) := by omega
                clear CC CX CY HLC HEND hkc
                go_wp2_with fail
                go_quiet (first | (with_reducible refine (DC.out _).mono ?_; exact fun e w' h => ⟨h.1, _, h.2⟩) | (with_reducible refine (DX.out _).mono ?_; exact fun e w' h => ⟨h.1, _, h.2⟩) | (with_reducible refine (DY.out _).mono ?_; exact fun e w' h => ⟨h.1, _, h.2⟩))
                go_wp2
                exact ⟨⟨j + 1, _, by omega, by go_num, rfl⟩, by simp [intOf]; omega⟩
              · have z2 : ¬ (j : Int) < (L.length : Int) := by omega
                have HE : Hid (Has w.heap.size w [PoolR b (1 + (R : Int)) L, RowR (.slice (ia) (xs.length) ic) (xs), RowR (.slice (oa) (ys.length) oc) (ys)] (wA.drewN q)) := HEND.out q
                clear CC CX CY HLC HEND
                go_wp2
                exact ⟨⟨k + 1, ia, ic, oa, oc, L, xs, ys, by omega, by go_num, rfl, rfl, hl2, by omega, HK2, by exact HE⟩, by simp [intOf]; omega⟩
          · rw [he] at C
            have HK2 : Hid (Kept (l.eraseIdx n) xs (ys ++ [l[n]])) := HK.out.take n hn
            have hl2 : (l.eraseIdx n).length ≤ 1 + R := by have := List.length_eraseIdx_le l n; omega
            generalize l[n] = tk at *
            generalize l.eraseIdx n = L at *
            clear he
            go_wp2_with fail
            refine C.out.mono ?_
            rintro e w3 ⟨rfl, hs3⟩
            have HS3 : Hid (Has w.heap.size w [RowR (.slice oa ys.length oc) ys, PoolR b (1 + (R : Int)) L, RowR (.slice ba l.length bc) l, BlockR Q [.int .i64 1, .int .i64 (n : Int), .string s], RowR (.slice ia xs.length ic) xs] w3) := hs3.perm (perm_c _ _ _ _ _)
            have hown : Hid (w3.ownsRow 0 9 1 (.slice oa ys.length oc) ys.length (sv ys)) := hs3.row (by simp)
            clear hs3 C u0 u1 u2 HK HCL
            go_wp2_with (at_builtin; refine wpList_append_more _ rfl _ _ 30 rfl 0 9 i0 (.string ⟨#[]⟩) 1 16 Try.underlying30 hi hz0 hz1 hz2 rfl (by decide) _ ys.length (sv ys) rfl (hown.out.alloc _) ⟨_, 0, none⟩ 1 1 [.string tk] rfl rfl (one_new _ _ _) (one_str _) (by decide) (by unfold maxLen; omega) (by omega) ?_)
            intro g' cap' w4 hown2 hwh hch
            have HT : Hid (Has w.heap.size w (PoolR b (1 + (R : Int)) L :: RowR (.slice ia xs.length ic) xs :: RowR (.slice (some ⟨g', 0, none⟩) (ys.length + 1) cap') (ys ++ [tk]) :: [RowR (.slice ba l.length bc) l, BlockR Q [.int .i64 1, .int .i64 (n : Int), .string s]]) w4) := (HS3.out.push hown2 hwh hch).perm (perm_d _ _ _ _ _)
            have HXL : Hid (xs.length = xs.length) := rfl
            have HYL : Hid ((ys ++ [tk]).length = ys.length + 1) := List.length_append
            clear hown hown2 hwh hch HS3
            have CA : Hid (Calls Try.prog 10 #[.pointer (some ⟨b, 0, none⟩)] w4 fun e w' => ∃ la lc, e = .returned (.slice la L.length lc) ∧ Hid (Has w.heap.size w (RowR (.slice la L.length lc) L :: PoolR b (1 + (R : Int)) L :: RowR (.slice (ia) (xs.length) ic) (xs) :: RowR (.slice (some ⟨g', 0, none⟩) (ys.length + 1) cap') (ys ++ [tk]) :: [RowR (.slice ba l.length bc) l, BlockR Q [.int .i64 1, .int .i64 (n : Int), .string s]]) w')) := (HT.out.all (by omega)).mono fun e w' ⟨v, k1, k2⟩ => by
              obtain ⟨la, lc, rfl, _⟩ := own_form (k2.row (v := v) (l := L) (by simp))
              exact ⟨la, lc, k1, k2⟩
            have hlen2 := HK2.out.len
            rw [HYL.out] at hlen2
            have q1 : (L.length : Int) = (xs.length : Nat) - (ys.length + 1 : Nat) := by omega
            have q2 : ¬ (L.length : Int) > (1 + (R : Int)) := by omega
            have q3 : decide ((1 + (R : Int)) < (L.length : Int)) = false := by simp; omega
            have hL9 : L.length ≤ 200 := by omega
            have hxx : xs.length ≤ 4398046510976 := by omega
            clear HT
            go_wp2_with fail
            refine CA.out.mono ?_
            rintro e wA ⟨la, lc, rfl, HA⟩
            clear CA
            go_wp2_with fail
            have CC : Hid (∀ q n sz, Calls Try.prog 20 #[.slice la L.length lc, .string sz] (wA.drewN (q + n)) fun e w' => e = .returned (.int .i64 (cnt L sz : Int)) ∧ w' = wA.drewN (q + n)) := fun q n sz => count_any _ L (by omega) sz _ (srow_below (srow_own (HA.out.row (by simp))) (Nat.le_refl _) (below_drewN (Below.refl _ _) (q + n)))
            have CX : Hid (∀ q n sz, Calls Try.prog 20 #[(.slice (ia) (xs.length) ic), .string sz] (wA.drewN (q + n)) fun e w' => e = .returned (.int .i64 (cnt (xs) sz : Int)) ∧ w' = wA.drewN (q + n)) := fun q n sz => count_any _ (xs) (by omega) sz _ (srow_below (srow_own (HA.out.row (by simp))) (Nat.le_refl _) (below_drewN (Below.refl _ _) (q + n)))
            have CY : Hid (∀ q n sz, Calls Try.prog 20 #[(.slice (some ⟨g', 0, none⟩) (ys.length + 1) cap'), .string sz] (wA.drewN (q + n)) fun e w' => e = .returned (.int .i64 (cnt (ys ++ [tk]) sz : Int)) ∧ w' = wA.drewN (q + n)) := fun q n sz => count_any _ (ys ++ [tk]) (by rw [HYL.out]; omega) sz _ (srow_below (srow_own (HA.out.row (by simp))) (Nat.le_refl _) (below_drewN (Below.refl _ _) (q + n)))
            have HLC : Hid (∀ j, (hj : j < L.length) → ∃ g o, la = some ⟨g, o, none⟩ ∧ wA.cell? ⟨g, o + j, none⟩ = some (.string L[j])) := fun j hj => by
              obtain ⟨_, _, he, _, _, hr⟩ := srow_own (HA.out.row (v := .slice la L.length lc) (l := L) (by simp))
              cases he
              obtain ⟨g, o, h1, _, h3⟩ := hr j hj
              exact ⟨g, o, h1, h3⟩
            have HEND : Hid (∀ q, Has w.heap.size w [PoolR b (1 + (R : Int)) L, RowR (.slice (ia) (xs.length) ic) (xs), RowR (.slice (some ⟨g', 0, none⟩) (ys.length + 1) cap') (ys ++ [tk])] (wA.drewN q)) := fun q => by
              have h1 := HA.out.drop.below (below_drewN (Below.refl _ _) q)
              have h2 : Has w.heap.size w ([RowR (.slice ba l.length bc) l, BlockR Q [.int .i64 1, .int .i64 (n : Int), .string s]] ++ [PoolR b (1 + (R : Int)) L, RowR (.slice (ia) (xs.length) ic) (xs), RowR (.slice (some ⟨g', 0, none⟩) (ys.length + 1) cap') (ys ++ [tk])]) (wA.drewN q) := h1.perm (List.perm_append_comm (l₁ := [PoolR b (1 + (R : Int)) L, RowR (.slice (ia) (xs.length) ic) (xs), RowR (.slice (some ⟨g', 0, none⟩) (ys.length + 1) cap') (ys ++ [tk])]))
              exact h2.dropAll
            clear HA
            go_loopw [15] (fun i wr => ∃ (j q : Nat), j ≤ L.length ∧ i = .int .i64 (j : Int) ∧ wr = wA.drewN q) (fun i _ => L.length - (intOf i).toNat)
            case atStart => exact ⟨0, 0, Nat.zero_le _, rfl, rfl⟩
            case round =>
              obtain ⟨j, q, hj, rfl, rfl⟩ := hrel
              by_cases hjl : j < L.length
              · obtain ⟨gl, ol, rfl, cj⟩ := HLC.out j hjl
                have hkc := HK2.out.cnt L[j]
                have b1 := cnt_len L L[j]
                have b2 := cnt_len (xs) L[j]
                have b3 := cnt_len (ys ++ [tk]) L[j]
                rw [HYL.out] at b3
                generalize L[j] = sj at *
                have DC : Hid (∀ n, Calls Try.prog 20 #[.slice (some ⟨gl, ol, none⟩) L.length lc, .string sj] (wA.drewN (q + n)) fun e w' => e = .returned (.int .i64 (cnt L sj : Int)) ∧ w' = wA.drewN (q + n)) := fun n => CC.out q n sj
                have DX : Hid (∀ n, Calls Try.prog 20 #[(.slice (ia) (xs.length) ic), .string sj] (wA.drewN (q + n)) fun e w' => e = .returned (.int .i64 (cnt (xs) sj : Int)) ∧ w' = wA.drewN (q + n)) := fun n => CX.out q n sj
                have DY : Hid (∀ n, Calls Try.prog 20 #[(.slice (some ⟨g', 0, none⟩) (ys.length + 1) cap'), .string sj] (wA.drewN (q + n)) fun e w' => e = .returned (.int .i64 (cnt (ys ++ [tk]) sj : Int)) ∧ w' = wA.drewN (q + n)) := fun n => CY.out q n sj
                generalize cnt L sj = n1 at *
                generalize cnt (xs) sj = n2 at *
                generalize cnt (ys ++ [tk]) sj = n3 at *
                have z1 : (n1 : Int) = (n2 : Int) - (n3 : Int) := by omega
                have z2 : (j : Int) < (L.length : Int) := by omega
                clear CC CX CY HLC HEND hkc
                go_wp2_with fail
                go_quiet (first | (with_reducible refine (DC.out _).mono ?_; exact fun e w' h => ⟨h.1, _, h.2⟩) | (with_reducible refine (DX.out _).mono ?_; exact fun e w' h => ⟨h.1, _, h.2⟩) | (with_reducible refine (DY.out _).mono ?_; exact fun e w' h => ⟨h.1, _, h.2⟩))
                go_wp2
                exact ⟨⟨j + 1, _, by omega, by go_num, rfl⟩, by simp [intOf]; omega⟩
              · have z2 : ¬ (j : Int) < (L.length : Int) := by omega
                have HE : Hid (Has w.heap.size w [PoolR b (1 + (R : Int)) L, RowR (.slice (ia) (xs.length) ic) (xs), RowR (.slice (some ⟨g', 0, none⟩) (ys.length + 1) cap') (ys ++ [tk])] (wA.drewN q)) := HEND.out q
                clear CC CX CY HLC HEND
                go_wp2
                exact ⟨⟨k + 1, ia, ic, some ⟨g', 0, none⟩, cap', L, xs, ys ++ [tk], by omega, by go_num, rfl, by rw [HYL.out], hl2, by omega, HK2, by rw [HYL.out]; exact HE⟩, by simp [intOf]; omega⟩
        · have D1' : decide (D = 1) = false := by simpa using D1
          have D1'' : (D == 1) = false := by simpa using D1
          by_cases D2 : D = 2
          · subst D2
            have C : Hid (Calls Try.prog 19 #[.pointer (some ⟨b, 0, none⟩), .int .i64 N] w2 fun e w' => e = .returned (.int .i64 (aDouble (1 + (R : Int)) l N).2) ∧ Has w.heap.size w [PoolR b (1 + (R : Int)) (aDouble (1 + (R : Int)) l N).1, RowR (.slice ba l.length bc) l, BlockR Q [.int .i64 2, .int .i64 N, .string s], RowR (.slice ia xs.length ic) xs, RowR (.slice oa ys.length oc) ys] w') := HS2.out.double (by omega) (by omega) N
            have hl2 : ((aDouble (1 + (R : Int)) l N).1.length : Int) ≤ 1 + (R : Int) := aDouble_len (by omega) N
            have hcase := aDouble_case (1 + (R : Int)) l N
            generalize (aDouble (1 + (R : Int)) l N).1 = L at *
            generalize (aDouble (1 + (R : Int)) l N).2 = er at *
            replace hl2 : L.length ≤ 1 + R := by omega
            clear HS2
            rcases hcase with ⟨h1, rfl⟩ | ⟨n, hn, rfl, rfl, hL⟩
            · have d1 : decide (er = 0) = false := by simpa using h1
              have d2 : (er == 0) = false := by simpa using h1
              go_wp2_with fail
              refine C.out.mono ?_
              rintro e w3 ⟨rfl, hs3⟩
              have HT : Hid (Has w.heap.size w (PoolR b (1 + (R : Int)) L :: RowR (.slice ia xs.length ic) xs :: RowR (.slice oa ys.length oc) ys :: [RowR (.slice ba L.length bc) L, BlockR Q [.int .i64 2, .int .i64 N, .string s]]) w3) := hs3.perm (perm_e _ _ _ _ _)
              have HK2 : Hid (Kept L xs ys) := HK
              have HXL : Hid (xs.length = xs.length) := rfl
              have HYL : Hid (ys.length = ys.length) := rfl
              clear hs3 C u0 u1 u2 HK HCL
              have CA : Hid (Calls Try.prog 10 #[.pointer (some ⟨b, 0, none⟩)] w3 fun e w' => ∃ la lc, e = .returned (.slice la L.length lc) ∧ Hid (Has w.heap.size w (RowR (.slice la L.length lc) L :: PoolR b (1 + (R : Int)) L :: RowR (.slice (ia) (xs.length) ic) (xs) :: RowR (.slice (oa) (ys.length) oc) (ys) :: [RowR (.slice ba L.length bc) L, BlockR Q [.int .i64 2, .int .i64 N, .string s]]) w')) := (HT.out.all (by omega)).mono fun e w' ⟨v, k1, k2⟩ => by
                obtain ⟨la, lc, rfl, _⟩ := own_form (k2.row (v := v) (l := L) (by simp))
                exact ⟨la, lc, k1, k2⟩
              have hlen2 := HK2.out.len
              have q1 : (L.length : Int) = (xs.length : Nat) - (ys.length : Nat) := by omega
              have q2 : ¬ (L.length : Int) > (1 + (R : Int)) := by omega
              have q3 : decide ((1 + (R : Int)) < (L.length : Int)) = false := by simp; omega
              have hL9 : L.length ≤ 200 := by omega
              have hxx : xs.length ≤ 4398046510976 := by omega
              clear HT
              go_wp2_with fail
              refine CA.out.mono ?_
              rintro e wA ⟨la, lc, rfl, HA⟩
              clear CA
              go_wp2_with fail
              have CC : Hid (∀ q n sz, Calls Try.prog 20 #[.slice la L.length lc, .string sz] (wA.drewN (q + n)) fun e w' => e = .returned (.int .i64 (cnt L sz : Int)) ∧ w' = wA.drewN (q + n)) := fun q n sz => count_any _ L (by omega) sz _ (srow_below (srow_own (HA.out.row (by simp))) (Nat.le_refl _) (below_drewN (Below.refl _ _) (q + n)))
              have CX : Hid (∀ q n sz, Calls Try.prog 20 #[(.slice (ia) (xs.length) ic), .string sz] (wA.drewN (q + n)) fun e w' => e = .returned (.int .i64 (cnt (xs) sz : Int)) ∧ w' = wA.drewN (q + n)) := fun q n sz => count_any _ (xs) (by omega) sz _ (srow_below (srow_own (HA.out.row (by simp))) (Nat.le_refl _) (below_drewN (Below.refl _ _) (q + n)))
              have CY : Hid (∀ q n sz, Calls Try.prog 20 #[(.slice (oa) (ys.length) oc), .string sz] (wA.drewN (q + n)) fun e w' => e = .returned (.int .i64 (cnt (ys) sz : Int)) ∧ w' = wA.drewN (q + n)) := fun q n sz => count_any _ (ys) (by omega) sz _ (srow_below (srow_own (HA.out.row (by simp))) (Nat.le_refl _) (below_drewN (Below.refl _ _) (q + n)))
              have HLC : Hid (∀ j, (hj : j < L.length) → ∃ g o, la = some ⟨g, o, none⟩ ∧ wA.cell? ⟨g, o + j, none⟩ = some (.string L[j])) := fun j hj => by
                obtain ⟨_, _, he, _, _, hr⟩ := srow_own (HA.out.row (v := .slice la L.length lc) (l := L) (by simp))
                cases he
                obtain ⟨g, o, h1, _, h3⟩ := hr j hj
                exact ⟨g, o, h1, h3⟩
              have HEND : Hid (∀ q, Has w.heap.size w [PoolR b (1 + (R : Int)) L, RowR (.slice (ia) (xs.length) ic) (xs), RowR (.slice (oa) (ys.length) oc) (ys)] (wA.drewN q)) := fun q => by
                have h1 := HA.out.drop.below (below_drewN (Below.refl _ _) q)
                have h2 : Has w.heap.size w ([RowR (.slice ba L.length bc) L, BlockR Q [.int .i64 2, .int .i64 N, .string s]] ++ [PoolR b (1 + (R : Int)) L, RowR (.slice (ia) (xs.length) ic) (xs), RowR (.slice (oa) (ys.length) oc) (ys)]) (wA.drewN q) := h1.perm (List.perm_append_comm (l₁ := [PoolR b (1 + (R : Int)) L, RowR (.slice (ia) (xs.length) ic) (xs), RowR (.slice (oa) (ys.length) oc) (ys)]))
                exact h2.dropAll
              clear HA
              go_loopw [15] (fun i wr => ∃ (j q : Nat), j ≤ L.length ∧ i = .int .i64 (j : Int) ∧ wr = wA.drewN q) (fun i _ => L.length - (intOf i).toNat)
              case atStart => exact ⟨0, 0, Nat.zero_le _, rfl, rfl⟩
              case round =>
                obtain ⟨j, q, hj, rfl, rfl⟩ := hrel
                by_cases hjl : j < L.length
                · obtain ⟨gl, ol, rfl, cj⟩ := HLC.out j hjl
                  have hkc := HK2.out.cnt L[j]
                  have b1 := cnt_len L L[j]
                  have b2 := cnt_len (xs) L[j]
                  have b3 := cnt_len (ys) L[j]
                  generalize L[j] = sj at *
                  have DC : Hid (∀ n, Calls Try.prog 20 #[.slice (some ⟨gl, ol, none⟩) L.length lc, .string sj] (wA.drewN (q + n)) fun e w' => e = .returned (.int .i64 (cnt L sj : Int)) ∧ w' = wA.drewN (q + n)) := fun n => CC.out q n sj
                  have DX : Hid (∀ n, Calls Try.prog 20 #[(.slice (ia) (xs.length) ic), .string sj] (wA.drewN (q + n)) fun e w' => e = .returned (.int .i64 (cnt (xs) sj : Int)) ∧ w' = wA.drewN (q + n)) := fun n => CX.out q n sj
                  have DY : Hid (∀ n, Calls Try.prog 20 #[(.slice (oa) (ys.length) oc), .string sj] (wA.drewN (q + n)) fun e w' => e = .returned (.int .i64 (cnt (ys) sj : Int)) ∧ w' = wA.drewN (q + n)) := fun n => CY.out q n sj
                  generalize cnt L sj = n1 at *
                  generalize cnt (xs) sj = n2 at *
                  generalize cnt (ys) sj = n3 at *
                  have z1 : (n1 : Int) = (n2 : Int) - (n3 : Int) := by omega
                  have z2 : (j : Int) < (L.length : Int) := by omega
                  clear CC CX CY HLC HEND hkc
                  go_wp2_with fail
                  go_quiet (first | (with_reducible refine (DC.out _).mono ?_; exact fun e w' h => ⟨h.1, _, h.2⟩) | (with_reducible refine (DX.out _).mono ?_; exact fun e w' h => ⟨h.1, _, h.2⟩) | (with_reducible refine (DY.out _).mono ?_; exact fun e w' h => ⟨h.1, _, h.2⟩))
                  go_wp2
                  exact ⟨⟨j + 1, _, by omega, by go_num, rfl⟩, by simp [intOf]; omega⟩
                · have z2 : ¬ (j : Int) < (L.length : Int) := by omega
                  have HE : Hid (Has w.heap.size w [PoolR b (1 + (R : Int)) L, RowR (.slice (ia) (xs.length) ic) (xs), RowR (.slice (oa) (ys.length) oc) (ys)] (wA.drewN q)) := HEND.out q
                  clear CC CX CY HLC HEND
                  go_wp2
                  exact ⟨⟨k + 1, ia, ic, oa, oc, L, xs, ys, by omega, by go_num, rfl, rfl, hl2, by omega, HK2, by exact HE⟩, by simp [intOf]; omega⟩
            · have HK2 : Hid (Kept L (xs ++ [l[n]]) ys) := by rw [hL]; exact HK.out.add _
              have HBC : Hid (∀ w3 rs, Has w.heap.size w rs w3 → RowR (.slice ba l.length bc) l ∈ rs → ∃ g o, ba = some ⟨g, o, none⟩ ∧ w3.cell? ⟨g, o + n, none⟩ = some (.string l[n])) := fun w3 rs h hm => by
                obtain ⟨_, _, he, _, _, hr⟩ := srow_own (h.row hm)
                cases he
                obtain ⟨g, o, h1, _, h3⟩ := hr n hn
                exact ⟨g, o, h1, h3⟩
              generalize l[n] = tk at *
              have n1 : (n : Int) < (l.length : Int) := by omega
              have n2 : ¬ l.length ≤ n := by omega
              have n3 : decide (l.length ≤ n) = false := by simpa using n2
              have n4 : decide ((l.length : Int) ≤ (n : Int)) = false := by simp; omega
              clear hL
              go_wp2_with fail
              refine C.out.mono ?_
              rintro e w3 ⟨rfl, hs3⟩
              obtain ⟨gb, ob, rfl, cb⟩ := HBC.out _ _ hs3 (by simp)
              obtain ⟨_, e3, _⟩ := HCL.out _ _ hs3 (by simp)
              have HS3 : Hid (Has w.heap.size w [RowR (.slice ia xs.length ic) xs, PoolR b (1 + (R : Int)) L, RowR (.slice (some ⟨gb, ob, none⟩) l.length bc) l, BlockR Q [.int .i64 2, .int .i64 (n : Int), .string s], RowR (.slice oa ys.length oc) ys] w3) := hs3.perm (perm_a _ _ _ _ _)
              have hown : Hid (w3.ownsRow 0 9 1 (.slice ia xs.length ic) xs.length (sv xs)) := hs3.row (by simp)
              clear hs3 C u0 u1 u2 HK HCL HBC
              go_wp2_with (at_builtin; refine wpList_append_more _ rfl _ _ 30 rfl 0 9 i0 (.string ⟨#[]⟩) 1 16 Try.underlying30 hi hz0 hz1 hz2 rfl (by decide) _ xs.length (sv xs) rfl (hown.out.alloc _) ⟨_, 0, none⟩ 1 1 [.string tk] rfl rfl (one_new _ _ _) (one_str _) (by decide) (by unfold maxLen; omega) (by omega) ?_)
              intro g' cap' w4 hown2 hwh hch
              have HT : Hid (Has w.heap.size w (PoolR b (1 + (R : Int)) L :: RowR (.slice (some ⟨g', 0, none⟩) (xs.length + 1) cap') (xs ++ [tk]) :: RowR (.slice oa ys.length oc) ys :: [RowR (.slice (some ⟨gb, ob, none⟩) l.length bc) l, BlockR Q [.int .i64 2, .int .i64 (n : Int), .string s]]) w4) := (HS3.out.push hown2 hwh hch).perm (perm_b _ _ _ _ _)
              have HXL : Hid ((xs ++ [tk]).length = xs.length + 1) := List.length_append
              have HYL : Hid (ys.length = ys.length) := rfl
              clear hown hown2 hwh hch HS3 e3 cb
              have CA : Hid (Calls Try.prog 10 #[.pointer (some ⟨b, 0, none⟩)] w4 fun e w' => ∃ la lc, e = .returned (.slice la L.length lc) ∧ Hid (Has w.heap.size w (RowR (.slice la L.length lc) L :: PoolR b (1 + (R : Int)) L :: RowR (.slice (some ⟨g', 0, none⟩) (xs.length + 1) cap') (xs ++ [tk]) :: RowR (.slice (oa) (ys.length) oc) (ys) :: [RowR (.slice (some ⟨gb, ob, none⟩) l.length bc) l, BlockR Q [.int .i64 2, .int .i64 (n : Int), .string s]]) w')) := (HT.out.all (by omega)).mono fun e w' ⟨v, k1, k2⟩ => by
                obtain ⟨la, lc, rfl, _⟩ := own_form (k2.row (v := v) (l := L) (by simp))
                exact ⟨la, lc, k1, k2⟩
              have hlen2 := HK2.out.len
              rw [HXL.out] at hlen2
              have q1 : (L.length : Int) = (xs.length + 1 : Nat) - (ys.length : Nat) := by omega
              have q2 : ¬ (L.length : Int) > (1 + (R : Int)) := by omega
              have q3 : decide ((1 + (R : Int)) < (L.length : Int)) = false := by simp; omega
              have hL9 : L.length ≤ 200 := by omega
              have hxx : xs.length + 1 ≤ 4398046510976 := by omega
              clear HT
              go_wp2_with fail
              refine CA.out.mono ?_
              rintro e wA ⟨la, lc, rfl, HA⟩
              clear CA
              go_wp2_with fail
              have CC : Hid (∀ q n sz, Calls Try.prog 20 #[.slice la L.length lc, .string sz] (wA.drewN (q + n)) fun e w' => e = .returned (.int .i64 (cnt L sz : Int)) ∧ w' = wA.drewN (q + n)) := fun q n sz => count_any _ L (by omega) sz _ (srow_below (srow_own (HA.out.row (by simp))) (Nat.le_refl _) (below_drewN (Below.refl _ _) (q + n)))
              have CX : Hid (∀ q n sz, Calls Try.prog 20 #[(.slice (some ⟨g', 0, none⟩) (xs.length + 1) cap'), .string sz] (wA.drewN (q + n)) fun e w' => e = .returned (.int .i64 (cnt (xs ++ [tk]) sz : Int)) ∧ w' = wA.drewN (q + n)) := fun q n sz => count_any _ (xs ++ [tk]) (by rw [HXL.out]; omega) sz _ (srow_below (srow_own (HA.out.row (by simp))) (Nat.le_refl _) (below_drewN (Below.refl _ _) (q + n)))
              have CY : Hid (∀ q n sz, Calls Try.prog 20 #[(.slice (oa) (ys.length) oc), .string sz] (wA.drewN (q + n)) fun e w' => e = .returned (.int .i64 (cnt (ys) sz : Int)) ∧ w' = wA.drewN (q + n)) := fun q n sz => count_any _ (ys) (by omega) sz _ (srow_below (srow_own (HA.out.row (by simp))) (Nat.le_refl _) (below_drewN (Below.refl _ _) (q + n)))
              have HLC : Hid (∀ j, (hj : j < L.length) → ∃ g o, la = some ⟨g, o, none⟩ ∧ wA.cell? ⟨g, o + j, none⟩ = some (.string L[j])) := fun j hj => by
                obtain ⟨_, _, he, _, _, hr⟩ := srow_own (HA.out.row (v := .slice la L.length lc) (l := L) (by simp))
                cases he
                obtain ⟨g, o, h1, _, h3⟩ := hr j hj
                exact ⟨g, o, h1, h3⟩
              have HEND : Hid (∀ q, Has w.heap.size w [PoolR b (1 + (R : Int)) L, RowR (.slice (some ⟨g', 0, none⟩) (xs.length + 1) cap') (xs ++ [tk]), RowR (.slice (oa) (ys.length) oc) (ys)] (wA.drewN q)) := fun q => by
                have h1 := HA.out.drop.below (below_drewN (Below.refl _ _) q)
                have h2 : Has w.heap.size w ([RowR (.slice (some ⟨gb, ob, none⟩) l.length bc) l, BlockR Q [.int .i64 2, .int .i64 (n : Int), .string s]] ++ [PoolR b (1 + (R : Int)) L, RowR (.slice (some ⟨g', 0, none⟩) (xs.length + 1) cap') (xs ++ [tk]), RowR (.slice (oa) (ys.length) oc) (ys)]) (wA.drewN q) := h1.perm (List.perm_append_comm (l₁ := [PoolR b (1 + (R : Int)) L, RowR (.slice (some ⟨g', 0, none⟩) (xs.length + 1) cap') (xs ++ [tk]), RowR (.slice (oa) (ys.length) oc) (ys)]))
                exact h2.dropAll
              clear HA
              go_loopw [15] (fun i wr => ∃ (j q : Nat), j ≤ L.length ∧ i = .int .i64 (j : Int) ∧ wr = wA.drewN q) (fun i _ => L.length - (intOf i).toNat)
              case atStart => exact ⟨0, 0, Nat.zero_le _, rfl, rfl⟩
              case round =>
                obtain ⟨j, q, hj, rfl, rfl⟩ := hrel
                by_cases hjl : j < L.length
                · obtain ⟨gl, ol, rfl, cj⟩ := HLC.out j hjl
                  have hkc := HK2.out.cnt L[j]
                  have b1 := cnt_len L L[j]
                  have b2 := cnt_len (xs ++ [tk]) L[j]
                  have b3 := cnt_len (ys) L[j]
                  rw [HXL.out] at b2
                  generalize L[j] = sj at *
                  have DC : Hid (∀ n, Calls Try.prog 20 #[.slice (some ⟨gl, ol, none⟩) L.length lc, .string sj] (wA.drewN (q + n)) fun e w' => e = .returned (.int .i64 (cnt L sj : Int)) ∧ w' = wA.drewN (q + n)) := fun n => CC.out q n sj
                  have DX : Hid (∀ n, Calls Try.prog 20 #[(.slice (some ⟨g', 0, none⟩) (xs.length + 1) cap'), .string sj] (wA.drewN (q + n)) fun e w' => e = .returned (.int .i64 (cnt (xs ++ [tk]) sj : Int)) ∧ w' = wA.drewN (q + n)) := fun n => CX.out q n sj
                  have DY : Hid (∀ n, Calls Try.prog 20 #[(.slice (oa) (ys.length) oc), .string sj] (wA.drewN (q + n)) fun e w' => e = .returned (.int .i64 (cnt (ys) sj : Int)) ∧ w' = wA.drewN (q + n)) := fun n => CY.out q n sj
                  generalize cnt L sj = n1 at *
                  generalize cnt (xs ++ [tk]) sj = n2 at *
                  generalize cnt (ys) sj = n3 at *
                  have z1 : (n1 : Int) = (n2 : Int) - (n3 : Int) := by omega
                  have z2 : (j : Int) < (L.length : Int) := by omega
                  clear CC CX CY HLC HEND hkc
                  go_wp2_with fail
                  go_quiet (first | (with_reducible refine (DC.out _).mono ?_; exact fun e w' h => ⟨h.1, _, h.2⟩) | (with_reducible refine (DX.out _).mono ?_; exact fun e w' h => ⟨h.1, _, h.2⟩) | (with_reducible refine (DY.out _).mono ?_; exact fun e w' h => ⟨h.1, _, h.2⟩))
                  go_wp2
                  exact ⟨⟨j + 1, _, by omega, by go_num, rfl⟩, by simp [intOf]; omega⟩
                · have z2 : ¬ (j : Int) < (L.length : Int) := by omega
                  have HE : Hid (Has w.heap.size w [PoolR b (1 + (R : Int)) L, RowR (.slice (some ⟨g', 0, none⟩) (xs.length + 1) cap') (xs ++ [tk]), RowR (.slice (oa) (ys.length) oc) (ys)] (wA.drewN q)) := HEND.out q
                  clear CC CX CY HLC HEND
                  go_wp2
                  exact ⟨⟨k + 1, some ⟨g', 0, none⟩, cap', oa, oc, L, xs ++ [tk], ys, by omega, by go_num, by rw [HXL.out], rfl, hl2, by rw [HXL.out]; omega, HK2, by rw [HXL.out]; exact HE⟩, by simp [intOf]; omega⟩
          · have D2' : decide (D = 2) = false := by simpa using D2
            have D2'' : (D == 2) = false := by simpa using D2
            obtain ⟨L, hL⟩ : ∃ L, L = l := ⟨_, rfl⟩
            subst hL
            have HT : Hid (Has w.heap.size w (PoolR b (1 + (R : Int)) L :: RowR (.slice ia xs.length ic) xs :: RowR (.slice oa ys.length oc) ys :: [RowR (.slice ba L.length bc) L, BlockR Q [.int .i64 D, .int .i64 N, .string s]]) w2) := HS2.out.perm (perm_e _ _ _ _ _)
            have HK2 : Hid (Kept L xs ys) := HK
            have HXL : Hid (xs.length = xs.length) := rfl
            have HYL : Hid (ys.length = ys.length) := rfl
            have hl2 : L.length ≤ 1 + R := hl
            clear HS2 HK HCL
            have CA : Hid (Calls Try.prog 10 #[.pointer (some ⟨b, 0, none⟩)] w2 fun e w' => ∃ la lc, e = .returned (.slice la L.length lc) ∧ Hid (Has w.heap.size w (RowR (.slice la L.length lc) L :: PoolR b (1 + (R : Int)) L :: RowR (.slice (ia) (xs.length) ic) (xs) :: RowR (.slice (oa) (ys.length) oc) (ys) :: [RowR (.slice ba L.length bc) L, BlockR Q [.int .i64 D, .int .i64 N, .string s]]) w')) := (HT.out.all (by omega)).mono fun e w' ⟨v, k1, k2⟩ => by
              obtain ⟨la, lc, rfl, _⟩ := own_form (k2.row (v := v) (l := L) (by simp))
              exact ⟨la, lc, k1, k2⟩
            have hlen2 := HK2.out.len
            have q1 : (L.length : Int) = (xs.length : Nat) - (ys.length : Nat) := by omega
            have q2 : ¬ (L.length : Int) > (1 + (R : Int)) := by omega
            have q3 : decide ((1 + (R : Int)) < (L.length : Int)) = false := by simp; omega
            have hL9 : L.length ≤ 200 := by omega
            have hxx : xs.length ≤ 4398046510976 := by omega
            clear HT
            go_wp2_with fail
            refine CA.out.mono ?_
            rintro e wA ⟨la, lc, rfl, HA⟩
            clear CA
            go_wp2_with fail
            have CC : Hid (∀ q n sz, Calls Try.prog 20 #[.slice la L.length lc, .string sz] (wA.drewN (q + n)) fun e w' => e = .returned (.int .i64 (cnt L sz : Int)) ∧ w' = wA.drewN (q + n)) := fun q n sz => count_any _ L (by omega) sz _ (srow_below (srow_own (HA.out.row (by simp))) (Nat.le_refl _) (below_drewN (Below.refl _ _) (q + n)))
            have CX : Hid (∀ q n sz, Calls Try.prog 20 #[(.slice (ia) (xs.length) ic), .string sz] (wA.drewN (q + n)) fun e w' => e = .returned (.int .i64 (cnt (xs) sz : Int)) ∧ w' = wA.drewN (q + n)) := fun q n sz => count_any _ (xs) (by omega) sz _ (srow_below (srow_own (HA.out.row (by simp))) (Nat.le_refl _) (below_drewN (Below.refl _ _) (q + n)))
            have CY : Hid (∀ q n sz, Calls Try.prog 20 #[(.slice (oa) (ys.length) oc), .string sz] (wA.drewN (q + n)) fun e w' => e = .returned (.int .i64 (cnt (ys) sz : Int)) ∧ w' = wA.drewN (q + n)) := fun q n sz => count_any _ (ys) (by omega) sz _ (srow_below (srow_own (HA.out.row (by simp))) (Nat.le_refl _) (below_drewN (Below.refl _ _) (q + n)))
            have HLC : Hid (∀ j, (hj : j < L.length) → ∃ g o, la = some ⟨g, o, none⟩ ∧ wA.cell? ⟨g, o + j, none⟩ = some (.string L[j])) := fun j hj => by
              obtain ⟨_, _, he, _, _, hr⟩ := srow_own (HA.out.row (v := .slice la L.length lc) (l := L) (by simp))
              cases he
              obtain ⟨g, o, h1, _, h3⟩ := hr j hj
              exact ⟨g, o, h1, h3⟩
            have HEND : Hid (∀ q, Has w.heap.size w [PoolR b (1 + (R : Int)) L, RowR (.slice (ia) (xs.length) ic) (xs), RowR (.slice (oa) (ys.length) oc) (ys)] (wA.drewN q)) := fun q => by
              have h1 := HA.out.drop.below (below_drewN (Below.refl _ _) q)
              have h2 : Has w.heap.size w ([RowR (.slice ba L.length bc) L, BlockR Q [.int .i64 D, .int .i64 N, .string s]] ++ [PoolR b (1 + (R : Int)) L, RowR (.slice (ia) (xs.length) ic) (xs), RowR (.slice (oa) (ys.length) oc) (ys)]) (wA.drewN q) := h1.perm (List.perm_append_comm (l₁ := [PoolR b (1 + (R : Int)) L, RowR (.slice (ia) (xs.length) ic) (xs), RowR (.slice (oa) (ys.length) oc) (ys)]))
              exact h2.dropAll
            clear HA
            go_loopw [15] (fun i wr => ∃ (j q : Nat), j ≤ L.length ∧ i = .int .i64 (j : Int) ∧ wr = wA.drewN q) (fun i _ => L.length - (intOf i).toNat)
            case atStart => exact ⟨0, 0, Nat.zero_le _, rfl, rfl⟩
            case round =>
              obtain ⟨j, q, hj, rfl, rfl⟩ := hrel
              by_cases hjl : j < L.length
              · obtain ⟨gl, ol, rfl, cj⟩ := HLC.out j hjl
                have hkc := HK2.out.cnt L[j]
                have b1 := cnt_len L L[j]
                have b2 := cnt_len (xs) L[j]
                have b3 := cnt_len (ys) L[j]
                generalize L[j] = sj at *
                have DC : Hid (∀ n, Calls Try.prog 20 #[.slice (some ⟨gl, ol, none⟩) L.length lc, .string sj] (wA.drewN (q + n)) fun e w' => e = .returned (.int .i64 (cnt L sj : Int)) ∧ w' = wA.drewN (q + n)) := fun n => CC.out q n sj
                have DX : Hid (∀ n, Calls Try.prog 20 #[(.slice (ia) (xs.length) ic), .string sj] (wA.drewN (q + n)) fun e w' => e = .returned (.int .i64 (cnt (xs) sj : Int)) ∧ w' = wA.drewN (q + n)) := fun n => CX.out q n sj
                have DY : Hid (∀ n, Calls Try.prog 20 #[(.slice (oa) (ys.length) oc), .string sj] (wA.drewN (q + n)) fun e w' => e = .returned (.int .i64 (cnt (ys) sj : Int)) ∧ w' = wA.drewN (q + n)) := fun n => CY.out q n sj
                generalize cnt L sj = n1 at *
                generalize cnt (xs) sj = n2 at *
                generalize cnt (ys) sj = n3 at *
                have z1 : (n1 : Int) = (n2 : Int) - (n3 : Int) := by omega
                have z2 : (j : Int) < (L.length : Int) := by omega
                clear CC CX CY HLC HEND hkc
                go_wp2_with fail
                go_quiet (first | (with_reducible refine (DC.out _).mono ?_; exact fun e w' h => ⟨h.1, _, h.2⟩) | (with_reducible refine (DX.out _).mono ?_; exact fun e w' h => ⟨h.1, _, h.2⟩) | (with_reducible refine (DY.out _).mono ?_; exact fun e w' h => ⟨h.1, _, h.2⟩))
                go_wp2
                exact ⟨⟨j + 1, _, by omega, by go_num, rfl⟩, by simp [intOf]; omega⟩
              · have z2 : ¬ (j : Int) < (L.length : Int) := by omega
                have HE : Hid (Has w.heap.size w [PoolR b (1 + (R : Int)) L, RowR (.slice (ia) (xs.length) ic) (xs), RowR (.slice (oa) (ys.length) oc) (ys)] (wA.drewN q)) := HEND.out q
                clear CC CX CY HLC HEND
                go_wp2
                exact ⟨⟨k + 1, ia, ic, oa, oc, L, xs, ys, by omega, by go_num, rfl, rfl, hl2, by omega, HK2, by exact HE⟩, by simp [intOf]; omega⟩
    · obtain rfl : k = os.length := by omega
      have HB : Hid (Below w.heap.size w wr) := HS.out.bel
      clear HS HK HO HOK
      go_wp2
      go_ret
      exact ⟨rfl, HB.out⟩
end Go.Proofs.Ytlhbkbjpdpofnaa
