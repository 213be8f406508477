/- The document's Held. -/
import Derived.Test.YthdloddcljbjhaaDoorRefA
set_option linter.unusedVariables false
set_option maxRecDepth 100000
namespace Go.Proofs.YthdloddcljbjhaaDoor
open Go.RowKit CheckMath

/-- What one has, by the row. -/
def heldL (L : List Lk) (i : Int) : List ByteArray := (L.filter fun x => decide (x.2 = i)).map (·.1)
theorem heldL_yes (L : List Lk) (i : Int) (k : Nat) (hk : k < L.length) (h : (lkAt L k).2 = i) : heldL (L.take (k + 1)) i = heldL (L.take k) i ++ [(lkAt L k).1] := by
  unfold heldL
  rw [List.take_succ_eq_append_getElem hk, List.filter_append, List.map_append]
  have e : lkAt L k = L[k] := by simp [lkAt, List.getD, hk]
  rw [e] at h ⊢
  simp [h]
theorem heldL_no (L : List Lk) (i : Int) (k : Nat) (hk : k < L.length) (h : (lkAt L k).2 ≠ i) : heldL (L.take (k + 1)) i = heldL (L.take k) i := by
  unfold heldL
  rw [List.take_succ_eq_append_getElem hk, List.filter_append, List.map_append]
  have e : lkAt L k = L[k] := by simp [lkAt, List.getD, hk]
  rw [e] at h
  simp [h]
theorem heldL_len (L : List Lk) (i : Int) (k : Nat) : (heldL (L.take k) i).length ≤ k := by
  unfold heldL
  rw [List.length_map]
  exact Nat.le_trans (List.length_filter_le _ _) (by rw [List.length_take]; omega)
set_option maxHeartbeats 2000000 in
theorem rHeld_any {B : Nat} {w wr0 : World} {rs : List Res} {tb : Nat} {v : Value} {L : List Lk} (h : Has B w (BlockR tb [v] :: LR v L :: rs) wr0) (i : Int) (hn : L.length ≤ 1048576) :
    Calls Tryd.prog 19 #[.pointer (some ⟨tb, 0, none⟩), .int .i64 i] wr0 fun e w' => ∃ u, e = .returned u ∧ Has B w (KR u (heldL L i) :: BlockR tb [v] :: LR v L :: rs) w' := by
  have HH0 : Hid (Has B w (KR (.slice none 0 0) (heldL (L.take 0) i) :: BlockR tb [v] :: LR v L :: rs) wr0) := h.add (new := [KR (.slice none 0 0) []]) (Below.refl _ _) (Hold.one ⟨World.ownsRow_nil _ _ _ _, rfl⟩) (fun k hk => by cases hk)
  have HL : Hid (∀ wq rs, Has B w (KR (.slice none 0 0) [] :: BlockR tb [v] :: LR v L :: rs) wq → True) := fun _ _ _ => trivial
  obtain ⟨i0, hi, hz0, hz1, hz2⟩ := info_parts infoS
  have c0 := h.bcell (q := tb) (vs := [v]) List.mem_cons_self 0 _ rfl
  obtain ⟨ao, cap, rfl, hlen, -⟩ := h.lrow (v := v) (L := L) (by simp)
  clear h HL
  go_enter Tryd.func19, Tryd.ntmps19
  go_wp2_with fail
  go_loopw [5, 6] (fun u iv wr => ∃ k : Nat, k ≤ L.length ∧ iv = .int .i64 (k : Int) ∧ Hid (Has B w (KR u (heldL (L.take k) i) :: BlockR tb [.slice ao L.length cap] :: LR (.slice ao L.length cap) L :: rs) wr)) (fun _ iv _ => L.length - (intOf iv).toNat)
  case atStart => exact ⟨0, Nat.zero_le _, rfl, HH0⟩
  case round =>
    obtain ⟨k, hk, rfl, HH⟩ := hrel
    clear HH0 c0
    have c0 := HH.out.bcell (q := tb) (vs := [.slice ao L.length cap]) (by simp) 0 _ rfl
    by_cases hlt : k < L.length
    · have hltI : (k : Int) < (L.length : Int) := by omega
      obtain ⟨ao2, cap2, ea, -, hrow⟩ := HH.out.lrow (v := .slice ao L.length cap) (L := L) (by simp)
      injection ea with e1 _ e2
      subst e1 e2
      obtain ⟨g, rfl, hg, d0, d1⟩ := hrow k hlt
      clear hrow
      have hkl := heldL_len L i k
      obtain ⟨u1, u2, hu, -⟩ := own_form (HH.out.ownK (v := _) (l := heldL (L.take k) i) List.mem_cons_self)
      by_cases hs : (lkAt L k).2 = i
      · have HE : Hid (heldL (L.take (k + 1)) i = heldL (L.take k) i ++ [(lkAt L k).1]) := heldL_yes L i k hlt hs
        clear hg
        generalize lkAt L k = x at *
        obtain ⟨s, x2⟩ := x
        dsimp only at d0 d1 hs
        subst hs
        subst hu
        obtain ⟨K, hK⟩ : ∃ K, heldL (L.take k) x2 = K := ⟨_, rfl⟩
        rw [hK] at HH HE hkl
        rw [hK]
        clear hK
        rcases u1 with _ | ag
        all_goals (
          have H2 : Hid (Has B w (KR _ K :: BlockR tb [.slice (some ⟨g, 0, none⟩) L.length cap] :: LR (.slice (some ⟨g, 0, none⟩) L.length cap) L :: rs) (wr.alloc (.cells #[.string s] 9))) := HH.out.below ((Below.refl _ _).alloc (Nat.le_refl _) _)
          have HO : Hid ((wr.alloc (.cells #[.string s] 9)).ownsRow 0 9 1 _ K.length (K.map fun s => .string s)) := H2.out.ownK List.mem_cons_self
          go_wp2_with (at_builtin; refine wpList_append_more _ rfl _ _ 27 rfl 0 9 i0 (.string ⟨#[]⟩) 1 16 Tryd.underlying27 hi hz0 hz1 hz2 rfl (by decide) (.slice _ K.length u2) K.length (K.map fun s => .string s) rfl HO.out ⟨_, 0, none⟩ 1 1 [.string s] rfl rfl (one_new _ _ _) (one_str _) (by decide) (by unfold maxLen; omega) (by omega) ?_)
          intro g6 c6 w6 hown6 hwh6 hch6
          have H6 : Hid (Has B w (KR (.slice (some ⟨g6, 0, none⟩) (K ++ [s]).length c6) (K ++ [s]) :: BlockR tb [.slice (some ⟨g, 0, none⟩) L.length cap] :: LR (.slice (some ⟨g, 0, none⟩) L.length cap) L :: rs) w6) := H2.out.growK (by rw [List.map_append, List.length_append]; simpa using hown6) (fun g' hg' => by
            have e : g6 = g' := by simpa [Value.ownBlock] using hg'
            rw [← e, World.size_alloc]; exact hwh6) hch6
          have hlen2 : (K ++ [s]).length = K.length + 1 := by simp
          have HN : Hid (Has B w (KR (.slice (some ⟨g6, 0, none⟩) (K.length + 1) c6) (heldL (L.take (k + 1)) x2) :: BlockR tb [.slice (some ⟨g, 0, none⟩) L.length cap] :: LR (.slice (some ⟨g, 0, none⟩) L.length cap) L :: rs) w6) := by
            rw [HE.out, ← hlen2]; exact H6.out
          clear H2 HO hown6 hwh6 hch6 HH H6 HE hlen2 d0 d1 c0
          go_wp2_with fail
          exact ⟨⟨k + 1, by omega, by go_num, HN⟩, by simp [intOf]; omega⟩)
      · have x := HH.out
        rw [← heldL_no L i k hlt hs] at x
        have HN : Hid _ := x
        clear x
        clear HH hg hu hkl
        generalize lkAt L k = x at *
        obtain ⟨s, x2⟩ := x
        dsimp only at d0 d1 hs
        go_wp2_with fail
        exact ⟨⟨k + 1, by omega, by go_num, HN⟩, by simp [intOf]; omega⟩
    · have hltI : ¬ (k : Int) < (L.length : Int) := by omega
      have x := HH.out
      rw [show k = L.length by omega, List.take_length] at x
      have HN : Hid _ := x
      clear x
      clear HH
      go_wp2_with fail
      go_ret
      exact ⟨_, rfl, HN.out⟩
end Go.Proofs.YthdloddcljbjhaaDoor
