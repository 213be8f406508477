/- The document's New and Drop; filled. -/
import Derived.Test.YthdloddcljbjhaaDoorRefC
import Derived.Test.YthdloddcljbjhaaDoorLawB
set_option linter.unusedVariables false
set_option maxRecDepth 100000
namespace Go.Proofs.YthdloddcljbjhaaDoor
open Go.RowKit CheckMath

theorem perm3' {α} (a b c : α) (l : List α) : (a :: b :: c :: l).Perm (c :: a :: b :: l) := (List.perm_middle (l₁ := [a, b]) (l₂ := l) (a := c))
/-- A cell of a block written anew. -/
theorem Has.put {B : Nat} {w wr : World} {q : Nat} {vs : List Value} {rs : List Res} (h : Has B w (BlockR q vs :: rs) wr) (j : Nat) (hj : j < vs.length) (u : Value) : Has B w (BlockR q (vs.set j u) :: rs) (wr.setCell ⟨q, j, none⟩ u) := by
  refine h.turn (new := [BlockR q (vs.set j u)]) ?_
  rintro F ⟨h1, h2, rfl⟩
  refine ⟨_, Hold.one ⟨fun i x hx => ?_, by simpa using h2, rfl⟩, chg_set wr ⟨q, j, none⟩ u, fun k hk => Or.inl hk⟩
  have hil : i < vs.length := by have := (List.getElem?_eq_some_iff.1 hx).1; simpa using this
  refine ⟨?_, by rw [World.frozen?_setCell]; exact (h1 i _ (List.getElem?_eq_getElem hil)).2⟩
  by_cases e : i = j
  · subst e
    rw [World.cell?_setCell_same _ _ _ (h1 i _ (List.getElem?_eq_getElem hil)).1]
    rw [List.getElem?_set_self hil] at hx
    exact hx
  · rw [World.cell?_setCell_other _ _ _ _ (fun h => e (by injection h with _ h2; exact h2.symm))]
    rw [List.getElem?_set_ne (fun h => e h.symm)] at hx
    exact (h1 i x hx).1
theorem Has.bfree {B : Nat} {w wr : World} {q : Nat} {vs : List Value} {rs : List Res} (h : Has B w rs wr) (hm : BlockR q vs ∈ rs) (j : Nat) (u : Value) (hu : vs[j]? = some u) : wr.frozen? ⟨q, j, none⟩ = false := by
  obtain ⟨F, ⟨h1, _⟩, _⟩ := h.get hm
  exact (h1 j u hu).2
theorem rNew_any {B : Nat} {w wr : World} {rs : List Res} (h : Has B w rs wr) : Calls Tryd.prog 25 #[] wr fun e w' => ∃ tb, e = .returned (.pointer (some ⟨tb, 0, none⟩)) ∧ Has B w (BlockR tb [.slice none 0 0] :: LR (.slice none 0 0) [] :: rs) w' := by
  have H0 : Hid (Has B w (LR (.slice none 0 0) [] :: rs) wr) := h.add (new := [LR (.slice none 0 0) []]) (Below.refl _ _) (Hold.one ⟨World.ownsRow_nil _ _ _ _, rfl⟩) (fun k hk => by cases hk)
  have H1 : Hid (Has B w (BlockR wr.heap.size [.slice none 0 0] :: LR (.slice none 0 0) [] :: rs) (wr.alloc (.cells #[.slice none 0 0] 52))) := H0.out.box [.slice none 0 0] _
  clear h H0
  go_enter Tryd.func25, Tryd.ntmps25
  go_wp2_with fail
  go_ret
  exact ⟨_, rfl, H1.out⟩
set_option maxHeartbeats 4000000 in
theorem rDrop_any {B : Nat} {w wr0 : World} {rs : List Res} {tb : Nat} {v : Value} {L : List Lk} (h : Has B w (BlockR tb [v] :: LR v L :: rs) wr0) (i : Int) (hn : L.length ≤ 1048576) :
    Calls Tryd.prog 15 #[.pointer (some ⟨tb, 0, none⟩), .int .i64 i] wr0 fun e w' => ∃ u, e = .returned (.int .i64 ((L.length : Int) - ((leftL L i).length : Int))) ∧ Has B w (BlockR tb [u] :: LR u (leftL L i) :: rs) w' := by
  have HH0 : Hid (Has B w (LR (.slice none 0 0) (leftL (L.take 0) i) :: BlockR tb [v] :: LR v L :: rs) wr0) := h.add (new := [LR (.slice none 0 0) []]) (Below.refl _ _) (Hold.one ⟨World.ownsRow_nil _ _ _ _, rfl⟩) (fun k hk => by cases hk)
  obtain ⟨i0, hi, hz0, hz1, hz2⟩ := info_parts infoL
  have c0 := h.bcell (q := tb) (vs := [v]) List.mem_cons_self 0 _ rfl
  obtain ⟨ao, cap, rfl, hlen, -⟩ := h.lrow (v := v) (L := L) (by simp)
  clear h
  go_enter Tryd.func15, Tryd.ntmps15
  go_wp2_with fail
  go_loopw [5, 6] (fun u iv wr => ∃ k : Nat, k ≤ L.length ∧ iv = .int .i64 (k : Int) ∧ Hid (Has B w (LR u (leftL (L.take k) i) :: BlockR tb [.slice ao L.length cap] :: LR (.slice ao L.length cap) L :: rs) wr)) (fun _ iv _ => L.length - (intOf iv).toNat)
  case atStart => exact ⟨0, Nat.zero_le _, rfl, HH0⟩
  case round =>
    obtain ⟨k, hk, rfl, HH⟩ := hrel
    clear HH0 c0
    have c0 := HH.out.bcell (q := tb) (vs := [.slice ao L.length cap]) (by simp) 0 _ rfl
    by_cases hlt : k < L.length
    · have hltI : (k : Int) < (L.length : Int) := by omega
      obtain ⟨ao2, cap2, ea, -, hrow⟩ := HH.out.lrow (v := .slice ao L.length cap) (L := L) (by simp)
      injection ea with e1 _ e2
      subst e1 e2
      obtain ⟨g, rfl, hg, d0, d1⟩ := hrow k hlt
      clear hrow
      have hkl := leftL_len L i k
      obtain ⟨u1, u2, hu, -⟩ := own_form (HH.out.ownL (v := _) (L := leftL (L.take k) i) List.mem_cons_self)
      by_cases hs : (lkAt L k).2 ≠ i
      · have HE : Hid (leftL (L.take (k + 1)) i = leftL (L.take k) i ++ [lkAt L k]) := leftL_yes L i k hlt hs
        clear hg
        generalize lkAt L k = x at *
        obtain ⟨s, x2⟩ := x
        dsimp only at d0 d1 hs
        have hs1 : (x2 != i) = true := by simpa using hs
        obtain ⟨K, hK⟩ : ∃ K, leftL (L.take k) i = K := ⟨_, rfl⟩
        rw [hK] at HH HE hkl hu
        subst hu
        clear hK hs
        have H2 : Hid (Has B w (LR _ K :: BlockR tb [.slice (some ⟨g, 0, none⟩) L.length cap] :: LR (.slice (some ⟨g, 0, none⟩) L.length cap) L :: rs) (wr.alloc (.cells #[.string s, .int .i64 x2] 55))) := HH.out.below ((Below.refl _ _).alloc (Nat.le_refl _) _)
        have HO : Hid ((wr.alloc (.cells #[.string s, .int .i64 x2] 55)).ownsRow 0 55 2 _ K.length (lcells K)) := H2.out.ownL List.mem_cons_self
        go_wp2_with (at_builtin; refine wpList_append_more _ rfl _ _ 50 rfl 0 55 i0 (.agg #[.string ⟨#[]⟩, .int .i64 0]) 2 24 Tryd.underlying50 hi hz0 hz1 hz2 rfl (by decide) (.slice u1 K.length u2) K.length (lcells K) rfl HO.out ⟨_, 0, none⟩ 1 1 [.string s, .int .i64 x2] rfl rfl (two_new _ _ _ _) (two_one _ _) (by decide) (by unfold maxLen; omega) (by omega) ?_)
        intro g6 c6 w6 hown6 hwh6 hch6
        have H6 : Hid (Has B w (LR (.slice (some ⟨g6, 0, none⟩) (K ++ [(s, x2)]).length c6) (K ++ [(s, x2)]) :: BlockR tb [.slice (some ⟨g, 0, none⟩) L.length cap] :: LR (.slice (some ⟨g, 0, none⟩) L.length cap) L :: rs) w6) := H2.out.growL (by rw [lcells_append, List.length_append]; simpa [lcells, lcell] using hown6) (fun g' hg' => by
          have e : g6 = g' := by simpa [Value.ownBlock] using hg'
          rw [← e, World.size_alloc]; exact hwh6) hch6
        have hlen2 : (K ++ [(s, x2)]).length = K.length + 1 := by simp
        have HN : Hid (Has B w (LR (.slice (some ⟨g6, 0, none⟩) (K.length + 1) c6) (leftL (L.take (k + 1)) i) :: BlockR tb [.slice (some ⟨g, 0, none⟩) L.length cap] :: LR (.slice (some ⟨g, 0, none⟩) L.length cap) L :: rs) w6) := by
          show Has B w _ w6
          rw [HE.out, ← hlen2]; exact H6.out
        clear H2 HO hown6 hwh6 hch6 HH H6 HE hlen2 d0 d1 c0
        go_wp2_with fail
        exact ⟨⟨k + 1, by omega, by go_num, HN⟩, by simp [intOf]; omega⟩
      · have hs2 : (lkAt L k).2 = i := Classical.not_not.1 hs
        have x := HH.out
        rw [← leftL_no L i k hlt hs2] at x
        have HN : Hid _ := x
        clear x
        clear HH hg hu hkl hs
        generalize lkAt L k = x at *
        obtain ⟨s, x2⟩ := x
        dsimp only at d0 d1 hs2
        have hs1 : (x2 != i) = false := by simpa using hs2
        clear hs2
        go_wp2_with fail
        exact ⟨⟨k + 1, by omega, by go_num, HN⟩, by simp [intOf]; omega⟩
    · have hltI : ¬ (k : Int) < (L.length : Int) := by omega
      have x := HH.out
      rw [show k = L.length by omega, List.take_length] at x
      obtain ⟨u1, u2, hu, -⟩ := own_form (x.ownL (v := _) (L := leftL L i) List.mem_cons_self)
      have hll : (leftL L i).length ≤ L.length := by unfold leftL; exact List.length_filter_le _ _
      have hfz := x.bfree (q := tb) (vs := [.slice ao L.length cap]) (by simp) 0 _ rfl
      subst hu
      have HN : Hid (Has B w (BlockR tb [.slice u1 (leftL L i).length u2] :: LR (.slice u1 (leftL L i).length u2) (leftL L i) :: rs) (wr.setCell ⟨tb, 0, none⟩ (.slice u1 (leftL L i).length u2))) :=
        (((x.perm (List.Perm.swap _ _ _)).put 0 (by simp) (.slice u1 (leftL L i).length u2)).perm (perm3' _ _ _ _)).drop
      clear x HH
      go_wp2_with fail
      go_ret
      exact ⟨rfl, _, HN.out⟩
end Go.Proofs.YthdloddcljbjhaaDoor
