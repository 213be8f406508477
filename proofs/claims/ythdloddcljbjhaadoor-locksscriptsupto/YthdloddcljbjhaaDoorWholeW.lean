/- The walk of whole: what the instances 1 to 6 have, in one row. -/
import Derived.Test.YthdloddcljbjhaaDoorApartW
set_option linter.unusedVariables false
set_option maxRecDepth 100000
namespace Go.Proofs.YthdloddcljbjhaaDoor
open Go.RowKit CheckMath

def bar : ByteArray := ⟨#[124]⟩
def cat (Ks : Nat → List ByteArray) : Nat → List ByteArray
  | 0 => []
  | k + 1 => cat Ks k ++ bar :: Ks (k + 1)
theorem cat_congr {Ks Ks' : Nat → List ByteArray} : ∀ k, (∀ i, 1 ≤ i → i ≤ k → Ks i = Ks' i) → cat Ks k = cat Ks' k
  | 0, _ => rfl
  | k + 1, h => by
    unfold cat
    rw [cat_congr k (fun i h1 h2 => h i h1 (by omega)), h (k + 1) (by omega) (by omega)]
theorem cat_len {Ks : Nat → List ByteArray} {n : Nat} : ∀ k, (∀ i, 1 ≤ i → i ≤ k → (Ks i).length ≤ n) → (cat Ks k).length ≤ k * (n + 1)
  | 0, _ => Nat.zero_le _
  | k + 1, h => by
    unfold cat
    rw [List.length_append, List.length_cons]
    have := cat_len k (fun i h1 h2 => h i h1 (by omega))
    have := h (k + 1) (by omega) (by omega)
    rw [Nat.succ_mul]
    omega
theorem cat_small {Ks : Nat → List ByteArray} : ∀ k, (∀ i, 1 ≤ i → i ≤ k → ∀ s, s ∈ Ks i → s.size ≤ 140737488355328) → ∀ s, s ∈ cat Ks k → s.size ≤ 140737488355328
  | 0, _, s, hs => by cases hs
  | k + 1, h, s, hs => by
    unfold cat at hs
    rcases List.mem_append.1 hs with h1 | h1
    · exact cat_small k (fun i a b => h i a (by omega)) s h1
    · rcases List.mem_cons.1 h1 with rfl | h1
      · decide
      · exact h (k + 1) (by omega) (by omega) s h1
/-- What the instances 1 to 6 have. -/
def WholeOf (T : Hd) (n : Nat) (out : List ByteArray) : Prop := ∃ Ks : Nat → List ByteArray, (∀ i : Nat, 1 ≤ i → i ≤ 6 → HeldOf T (i : Int) (Ks i) ∧ (Ks i).length ≤ n) ∧ out = cat Ks 6
theorem WholeOf.uniq {T : Hd} {n n' : Nat} {a b : List ByteArray} (h : WholeOf T n a) (h' : WholeOf T n' b) : a = b := by
  obtain ⟨Ks, h1, rfl⟩ := h
  obtain ⟨Ks', h2, rfl⟩ := h'
  exact cat_congr 6 (fun i a b => (h1 i a b).1.uniq (h2 i a b).1)
theorem WholeOf.len {T : Hd} {n : Nat} {a : List ByteArray} (h : WholeOf T n a) (hn : n ≤ 1048576) : a.length ≤ 6291462 := by
  obtain ⟨Ks, h1, rfl⟩ := h
  have := cat_len (Ks := Ks) (n := n) 6 (fun i a b => (h1 i a b).2)
  omega
theorem WholeOf.small {T : Hd} {n : Nat} {a : List ByteArray} (h : WholeOf T n a) (hT : Names T) : ∀ s, s ∈ a → s.size ≤ 140737488355328 := by
  obtain ⟨Ks, h1, rfl⟩ := h
  exact cat_small 6 (fun i a b => held_small hT (h1 i a b).1)
def upK (Ks : Nat → List ByteArray) (i : Nat) (K : List ByteArray) : Nat → List ByteArray := fun j => if j = i then K else Ks j
theorem cat_up (Ks : Nat → List ByteArray) (i : Nat) (K : List ByteArray) : cat (upK Ks (i + 1) K) (i + 1) = cat Ks i ++ [bar] ++ K := by
  show cat (upK Ks (i + 1) K) i ++ bar :: upK Ks (i + 1) K (i + 1) = _
  rw [cat_congr (Ks := upK Ks (i + 1) K) (Ks' := Ks) i (fun j a b => by unfold upK; rw [if_neg (by omega)])]
  unfold upK
  simp
theorem perm3 {α} (a b c : α) (l : List α) : (a :: b :: c :: l).Perm (c :: a :: b :: l) := (List.perm_middle (l₁ := [a, b]) (l₂ := l) (a := c))
set_option maxHeartbeats 8000000 in
theorem whole_any {w : World} (hS : ∀ rs, Sorts w.heap.size w rs SortTo) {tb n : Nat} {T : Hd} (rs : List Res) (wq : World) (hn : n ≤ 1048576) (hT : Tk T) (h : Has w.heap.size w (TabR tb n T :: rs) wq) :
    Calls Tryd.prog 22 #[.pointer (some ⟨tb, 0, none⟩)] wq fun e w' => ∃ (out : List ByteArray) (v : Value), WholeOf T n out ∧ e = .returned (.tuple #[v, .bool true]) ∧ Has w.heap.size w (KR v out :: TabR tb n T :: rs) w' := by
  have HS : Hid (∀ rs, Sorts w.heap.size w rs SortTo) := hS
  have HK : Hid (Tk T) := hT
  have H0 : Hid (Has w.heap.size w (TabR tb n T :: KR (.slice none 0 0) (cat (fun _ => []) 0) :: rs) wq) := (h.add (new := [KR (.slice none 0 0) []]) (Below.refl _ _) (Hold.one ⟨World.ownsRow_nil _ _ _ _, rfl⟩) (fun k hk => by cases hk)).perm (List.Perm.swap _ _ _)
  obtain ⟨i0, hi, hz0, hz1, hz2⟩ := info_parts infoS
  clear h hS hT
  go_enter Tryd.func22, Tryd.ntmps22
  go_wp2_with fail
  go_loopw [4, 5] (fun u iv wr => ∃ (i : Nat) (Ks : Nat → List ByteArray), i ≤ 6 ∧ iv = .int .i64 ((i : Int) + 1) ∧ Hid (∀ j : Nat, 1 ≤ j → j ≤ i → HeldOf T (j : Int) (Ks j) ∧ (Ks j).length ≤ n) ∧ Hid (Has w.heap.size w (TabR tb n T :: KR u (cat Ks i) :: rs) wr)) (fun _ iv _ => 7 - (intOf iv).toNat)
  case atStart => exact ⟨0, _, by decide, rfl, fun j a b => by omega, H0⟩
  case round =>
    obtain ⟨i, Ks, hi6, rfl, HP, HH⟩ := hrel
    clear H0
    by_cases hlt : i < 6
    · have hltI : (i : Int) + 1 ≤ 6 := by omega
      have D1 := held_in HS.out _ wr ((i : Int) + 1) hn HK.out HH.out
      have hcl := cat_len (Ks := Ks) (n := n) i (fun j a b => (HP.out j a b).2)
      have hcl2 : (cat Ks i).length ≤ 6291462 := Nat.le_trans hcl (Nat.le_trans (Nat.mul_le_mul (show i ≤ 6 by omega) (show n + 1 ≤ 1048577 by omega)) (by decide))
      have HCU : Hid (∀ K, cat (upK Ks (i + 1) K) (i + 1) = cat Ks i ++ [bar] ++ K) := cat_up Ks i
      have HPU : Hid (∀ K, HeldOf T ((i : Int) + 1) K → K.length ≤ n → ∀ j : Nat, 1 ≤ j → j ≤ i + 1 → HeldOf T (j : Int) (upK Ks (i + 1) K j) ∧ (upK Ks (i + 1) K j).length ≤ n) := fun K hK hl j a b => by
        unfold upK
        by_cases e : j = i + 1
        · rw [if_pos e, e]
          exact ⟨by rw [Int.natCast_add]; exact hK, hl⟩
        · rw [if_neg e]
          exact HP.out j a (by omega)
      clear HP hcl
      generalize cat Ks i = L at *
      go_wp2_with fail
      refine D1.mono ?_
      rintro e w3 ⟨K, v6, HK6, hkl, rfl, HH3⟩
      have H2 : Hid (Has w.heap.size w (KR _ L :: KR v6 K :: TabR tb n T :: rs) (w3.alloc (.cells #[.string ⟨#[124]⟩] 9))) := (HH3.out.below ((Below.refl _ _).alloc (Nat.le_refl _) _)).perm (perm3 _ _ _ _)
      have HO : Hid ((w3.alloc (.cells #[.string ⟨#[124]⟩] 9)).ownsRow 0 9 1 _ L.length (L.map fun s => .string s)) := H2.out.ownK List.mem_cons_self
      obtain ⟨uo, uc, hu, -⟩ := own_form HO.out
      subst hu
      clear D1 HH HH3
      go_wp2_with (at_builtin; refine wpList_append_more _ rfl _ _ 27 rfl 0 9 i0 (.string ⟨#[]⟩) 1 16 Tryd.underlying27 hi hz0 hz1 hz2 rfl (by decide) (.slice uo L.length uc) L.length (L.map fun s => .string s) rfl HO.out ⟨_, 0, none⟩ 1 1 [.string ⟨#[124]⟩] rfl rfl (one_new _ _ _) (one_str _) (by decide) (by unfold maxLen; omega) (by omega) ?_)
      intro g6 c6 w6 hown6 hwh6 hch6
      have H6 : Hid (Has w.heap.size w (KR (.slice (some ⟨g6, 0, none⟩) (L ++ [bar]).length c6) (L ++ [bar]) :: KR v6 K :: TabR tb n T :: rs) w6) := H2.out.growK (by rw [List.map_append, List.length_append]; simpa [bar] using hown6) (fun g' hg' => by
        have e : g6 = g' := by simpa [Value.ownBlock] using hg'
        rw [← e, World.size_alloc]; exact hwh6) hch6
      have hlen2 : (L ++ [bar]).length = L.length + 1 := by simp
      have HKA : Hid (∀ k, k < K.length → T (keyAt K k) = (i : Int) + 1 ∧ (keyAt K k).size ≤ 1048576) := fun k hk => by
        have x := (HK6.out.2 _).1 (keyAt_mem hk)
        exact ⟨x.2, (HK.out.1 _ x.1).2⟩
      have HPK := HPU.out K HK6.out hkl
      have HCK := HCU.out K
      have HPK2 : Hid (∀ j : Nat, 1 ≤ j → j ≤ i + 1 → HeldOf T (j : Int) (upK Ks (i + 1) K j) ∧ (upK Ks (i + 1) K j).length ≤ n) := HPK
      have HCK2 : Hid (cat (upK Ks (i + 1) K) (i + 1) = L ++ [bar] ++ K) := HCK
      have hsz := held_small HK.out.1 HK6.out
      have HSZ : Hid (∀ s, s ∈ K → s.size ≤ 140737488355328) := hsz
      obtain ⟨ao6, cap6, hv6, -⟩ := own_form (H6.out.ownK (v := v6) (l := K) (by simp))
      subst hv6
      rw [hlen2] at H6
      clear H2 HO hown6 hwh6 hch6 HPU HCU HPK HCK hsz HK6 hlen2
      generalize upK Ks (i + 1) K = Ks2 at *
      have hL1 : (L ++ [bar]).length = L.length + 1 := by simp
      generalize L ++ [bar] = L1 at *
      generalize L.length = m at *
      go_wp2_with fail
      have H7 : Hid (Has w.heap.size w (KR (.slice (some ⟨g6, 0, none⟩) (m + 1) c6) (L1 ++ K.take 0) :: KR (.slice ao6 K.length cap6) K :: TabR tb n T :: rs) w6) := by
        rw [List.take_zero, List.append_nil]; exact H6.out
      clear H6
      go_loopw [4, 7] (fun u kv wr => ∃ k : Nat, k ≤ K.length ∧ kv = .int .i64 (k : Int) ∧ Hid (Has w.heap.size w (KR u (L1 ++ K.take k) :: KR (.slice ao6 K.length cap6) K :: TabR tb n T :: rs) wr)) (fun _ kv _ => K.length - (intOf kv).toNat)
      case atStart => exact ⟨0, Nat.zero_le _, rfl, H7⟩
      case round =>
        obtain ⟨k, hk, rfl, HH⟩ := hrel
        clear H7
        by_cases hkl2 : k < K.length
        · have hltJ : (k : Int) < (K.length : Int) := by omega
          obtain ⟨ao9, cap9, ev, _, _, _, hrow⟩ := HH.out.rowK (v := .slice ao6 K.length cap6) (l := K) (by simp) (by omega) HSZ.out
          injection ev with ev1 _ ev3
          subst ev1 ev3
          obtain ⟨g, o, rfl, hg, c0⟩ := hrow k hkl2
          have D5 := holder_any (tb := tb) (n := n) (T := T) HH.out (by simp) (keyAt K k) (HKA.out k hkl2).2
          rw [(HKA.out k hkl2).1] at D5
          have HL9 : Hid ((L1 ++ K.take k).length = m + 1 + k) := by
            show (L1 ++ K.take k).length = m + 1 + k
            rw [List.length_append, hL1, List.length_take]; omega
          have HE : Hid (L1 ++ K.take (k + 1) = (L1 ++ K.take k) ++ [keyAt K k]) := by
            have e3 : keyAt K k = K[k] := by simp [keyAt, List.getD, hkl2]
            show L1 ++ K.take (k + 1) = (L1 ++ K.take k) ++ [keyAt K k]
            rw [e3, List.take_succ_eq_append_getElem hkl2, List.append_assoc]
          clear hrow
          generalize keyAt K k = s at *
          have H2 : Hid (Has w.heap.size w (KR _ (L1 ++ K.take k) :: KR (.slice (some ⟨g, o, none⟩) K.length cap6) K :: TabR tb n T :: rs) (wr.alloc (.cells #[.string s] 9))) := HH.out.below ((Below.refl _ _).alloc (Nat.le_refl _) _)
          generalize L1 ++ K.take k = L2 at *
          have HO : Hid ((wr.alloc (.cells #[.string s] 9)).ownsRow 0 9 1 _ L2.length (L2.map fun s => .string s)) := H2.out.ownK List.mem_cons_self
          obtain ⟨uo, uc, hu, -⟩ := own_form HO.out
          subst hu
          clear HH HPK2 HCK2 HKA HSZ
          go_wp2_with fail
          refine D5.mono ?_
          rintro e w7 ⟨rfl, hw⟩
          rw [hw]
          clear hw w7 D5
          go_wp2_with (at_builtin; refine wpList_append_more _ rfl _ _ 27 rfl 0 9 i0 (.string ⟨#[]⟩) 1 16 Tryd.underlying27 hi hz0 hz1 hz2 rfl (by decide) (.slice uo L2.length uc) L2.length (L2.map fun s => .string s) rfl HO.out ⟨_, 0, none⟩ 1 1 [.string s] rfl rfl (one_new _ _ _) (one_str _) (by decide) (by have := HL9.out; unfold maxLen; omega) (by have := HL9.out; omega) ?_)
          intro g7 c7 w8 hown7 hwh7 hch7
          have H8 : Hid (Has w.heap.size w (KR (.slice (some ⟨g7, 0, none⟩) (L2 ++ [s]).length c7) (L2 ++ [s]) :: KR (.slice (some ⟨g, o, none⟩) K.length cap6) K :: TabR tb n T :: rs) w8) := H2.out.growK (by rw [List.map_append, List.length_append]; simpa using hown7) (fun g' hg' => by
            have e : g7 = g' := by simpa [Value.ownBlock] using hg'
            rw [← e, World.size_alloc]; exact hwh7) hch7
          have hlen3 : (L2 ++ [s]).length = L2.length + 1 := by simp
          rw [hlen3, ← HE.out] at H8
          clear H2 HO hown7 hwh7 hch7 hlen3 HE c0
          go_wp2_with fail
          exact ⟨⟨k + 1, by omega, by go_num, H8⟩, by simp [intOf]; omega⟩
        · have hltJ : ¬ (k : Int) < (K.length : Int) := by omega
          have x := HH.out
          rw [show k = K.length by omega, List.take_length, ← HCK2.out] at x
          have H8 : Hid _ := (x.perm (List.Perm.swap _ _ _)).drop.perm (List.Perm.swap _ _ _)
          clear x
          clear HH HCK2 HKA HSZ
          go_wp2_with fail
          exact ⟨⟨i + 1, Ks2, by omega, by go_num, HPK2, H8⟩, by simp [intOf]; omega⟩
    · have hltI : ¬ (i : Int) + 1 ≤ 6 := by omega
      have e6 : i = 6 := by omega
      subst e6
      go_wp2_with fail
      go_ret2
      exact ⟨_, ⟨Ks, HP.out, rfl⟩, _, rfl, HH.out.perm (List.Perm.swap _ _ _)⟩
end Go.Proofs.YthdloddcljbjhaaDoor
