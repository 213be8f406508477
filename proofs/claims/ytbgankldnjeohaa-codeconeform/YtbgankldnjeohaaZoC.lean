/- The texts NtVal, NtGet, OfR, OfE, OfL, one behind the other. -/
import Derived.Test.YtbgankldnjeohaaZoB
import Derived.Test.YtbgankldnjeohaaEvVal
import Derived.Test.YtbgankldnjeohaaNotesW
/- A note that may be: its form, and that it is read back. -/
set_option linter.unusedVariables false
set_option linter.unusedSimpArgs false
set_option maxRecDepth 100000
namespace Go.Proofs.Ytbgankldnjeohaa.Pl
open Go.RowKit Go.Proofs.Ytbgankldnjeohaa

/-- A text that begins with l is read as this note, up to the end of l. -/
def RdN (l : List UInt8) (vals : List Value) : Prop := ∀ (S : ByteArray) (r : List UInt8), S.size ≤ 4611686018427387904 → S.data.toList = l ++ r → ∀ (B : Nat) (w : World) (rs : List Res) (wr : World) (q : Nat), Has B w (RdR q S 1 :: rs) wr →
  Calls Try.prog 34 #[.pointer (some ⟨q, 0, none⟩)] wr fun e w' => e = .returned (.agg vals.toArray) ∧ Has B w (RdR q S l.length :: rs) w'
theorem nums_one {a : Nat} (ha : a < 128) : numsL [a] = [UInt8.ofNat a] := by unfold numsL; simp [PackMath.num_lt a ha]
theorem nums_four {a b c d : Nat} (ha : a < 128) (hb : b < 128) (hc : c < 128) (hd : d < 128) : numsL [a, b, c, d] = [UInt8.ofNat a, UInt8.ofNat b, UInt8.ofNat c, UInt8.ofNat d] := by
  unfold numsL
  simp [PackMath.num_lt a ha, PackMath.num_lt b hb, PackMath.num_lt c hc, PackMath.num_lt d hd]
theorem size_len (S : ByteArray) : S.size = S.data.toList.length := (Array.length_toList).symm
theorem rdN1 (X : ByteArray) (hX : X.size ≤ 2000) : RdN (78 :: (numsL [1] ++ PackMath.txt X.data.toList)) (vF 1 0 0 0 0 0 ⟨#[]⟩ ⟨#[]⟩ 0 X) := by
  intro S r hS he B w rs wr q h
  rw [nums_one (by omega)] at he ⊢
  have e1 : S.data.toList = 78 :: UInt8.ofNat 1 :: (PackMath.txt X.data.toList ++ r) := by rw [he]; simp
  have hz := size_len S
  rw [e1] at hz
  simp only [List.length_cons, List.length_append] at hz
  have x := noteR1 (nX := (PackMath.txt X.data.toList).length) (X := X) hS h (by rw [e1]; exact tn_one (by omega) _) (by omega) (by rw [e1]; exact PackMath.tt_txt _ r (by rw [size_data]; exact hX)) (by omega)
  have e2 : (78 :: ([UInt8.ofNat 1] ++ PackMath.txt X.data.toList)).length = 2 + (PackMath.txt X.data.toList).length := by simp; omega
  rw [e2]
  exact x
theorem rdN2 (i v : Nat) (K M : ByteArray) (hi : i < 128) (hv : v < 128) (hK : K.size ≤ 2000) (hM : M.size ≤ 2000) : RdN (78 :: (numsL [2, i] ++ (PackMath.txt K.data.toList ++ (PackMath.txt M.data.toList ++ numsL [v])))) (vF 2 i 0 0 0 0 K M v ⟨#[]⟩) := by
  intro S r hS he B w rs wr q h
  rw [nums_one hv, nums_two (by omega) hi] at he ⊢
  have e1 : S.data.toList = 78 :: UInt8.ofNat 2 :: UInt8.ofNat i :: (PackMath.txt K.data.toList ++ (PackMath.txt M.data.toList ++ (UInt8.ofNat v :: r))) := by rw [he]; simp
  have hz := size_len S
  rw [e1] at hz
  simp only [List.length_cons, List.length_append] at hz
  have d1 : S.data.toList.drop (3 + (PackMath.txt K.data.toList).length) = PackMath.txt M.data.toList ++ (UInt8.ofNat v :: r) := by
    rw [← List.drop_drop, e1]
    show List.drop _ (PackMath.txt K.data.toList ++ _) = _
    rw [List.drop_left]
  have d2 : S.data.toList.drop (3 + (PackMath.txt K.data.toList).length + (PackMath.txt M.data.toList).length) = UInt8.ofNat v :: r := by
    rw [← List.drop_drop, d1, List.drop_left]
  have x := noteR2 (i := i) (v := v) (nK := (PackMath.txt K.data.toList).length) (nM := (PackMath.txt M.data.toList).length) (K := K) (M := M) hS h (by rw [e1]; exact tn_one (by omega) _) (by omega) (by rw [e1]; exact tn_one hi _) (by omega) (by rw [e1]; exact PackMath.tt_txt _ _ (by rw [size_data]; exact hK)) (by omega)
    (by rw [d1]; exact PackMath.tt_txt _ _ (by rw [size_data]; exact hM)) (by omega) (by rw [d2]; exact tn_one hv _) (by omega)
  have e2 : (78 :: ([UInt8.ofNat 2, UInt8.ofNat i] ++ (PackMath.txt K.data.toList ++ (PackMath.txt M.data.toList ++ [UInt8.ofNat v])))).length = 3 + (PackMath.txt K.data.toList).length + (PackMath.txt M.data.toList).length + 1 := by simp; omega
  rw [e2]
  exact x
theorem rdN3 (i : Nat) (hi : i < 128) : RdN (78 :: numsL [3, i]) (vF 3 i 0 0 0 0 ⟨#[]⟩ ⟨#[]⟩ 0 ⟨#[]⟩) := by
  intro S r hS he B w rs wr q h
  rw [nums_two (by omega) hi] at he ⊢
  have e1 : S.data.toList = 78 :: UInt8.ofNat 3 :: UInt8.ofNat i :: r := by rw [he]; simp
  have hz := size_len S
  rw [e1] at hz
  simp only [List.length_cons] at hz
  exact noteR3 (i := i) hS h (by rw [e1]; exact tn_one (by omega) _) (by omega) (by rw [e1]; exact tn_one hi _) (by omega)
theorem rdN4 (i : Nat) (hi : i < 128) : RdN (78 :: numsL [4, i]) (vF 4 i 0 0 0 0 ⟨#[]⟩ ⟨#[]⟩ 0 ⟨#[]⟩) := by
  intro S r hS he B w rs wr q h
  rw [nums_two (by omega) hi] at he ⊢
  have e1 : S.data.toList = 78 :: UInt8.ofNat 4 :: UInt8.ofNat i :: r := by rw [he]; simp
  have hz := size_len S
  rw [e1] at hz
  simp only [List.length_cons] at hz
  exact noteR4 (i := i) hS h (by rw [e1]; exact tn_one (by omega) _) (by omega) (by rw [e1]; exact tn_one hi _) (by omega)
theorem rdN5 (i s : Nat) (hi : i < 128) (hs : s < 128) : RdN (78 :: numsL [5, i, s]) (vF 5 i s 0 0 0 ⟨#[]⟩ ⟨#[]⟩ 0 ⟨#[]⟩) := by
  intro S r hS he B w rs wr q h
  rw [nums_three (by omega) hi hs] at he ⊢
  have e1 : S.data.toList = 78 :: UInt8.ofNat 5 :: UInt8.ofNat i :: UInt8.ofNat s :: r := by rw [he]; simp
  have hz := size_len S
  rw [e1] at hz
  simp only [List.length_cons] at hz
  exact noteR5 (i := i) (s := s) hS h (by rw [e1]; exact tn_one (by omega) _) (by omega) (by rw [e1]; exact tn_one hi _) (by omega) (by rw [e1]; exact tn_one hs _) (by omega)
theorem rdN6 (i s t : Nat) (hi : i < 128) (hs : s < 128) (ht : t < 128) : RdN (78 :: numsL [6, i, s, t]) (vF 6 i s t 0 0 ⟨#[]⟩ ⟨#[]⟩ 0 ⟨#[]⟩) := by
  intro S r hS he B w rs wr q h
  rw [nums_four (by omega) hi hs ht] at he ⊢
  have e1 : S.data.toList = 78 :: UInt8.ofNat 6 :: UInt8.ofNat i :: UInt8.ofNat s :: UInt8.ofNat t :: r := by rw [he]; simp
  have hz := size_len S
  rw [e1] at hz
  simp only [List.length_cons] at hz
  exact noteR6 (i := i) (s := s) (t := t) hS h (by rw [e1]; exact tn_one (by omega) _) (by omega) (by rw [e1]; exact tn_one hi _) (by omega) (by rw [e1]; exact tn_one hs _) (by omega) (by rw [e1]; exact tn_one ht _) (by omega)
theorem rdN7 (i : Nat) (hi : i < 128) : RdN (78 :: numsL [7, i]) (vF 7 i 0 0 0 0 ⟨#[]⟩ ⟨#[]⟩ 0 ⟨#[]⟩) := by
  intro S r hS he B w rs wr q h
  rw [nums_two (by omega) hi] at he ⊢
  have e1 : S.data.toList = 78 :: UInt8.ofNat 7 :: UInt8.ofNat i :: r := by rw [he]; simp
  have hz := size_len S
  rw [e1] at hz
  simp only [List.length_cons] at hz
  exact noteR7 (i := i) hS h (by rw [e1]; exact tn_one (by omega) _) (by omega) (by rw [e1]; exact tn_one hi _) (by omega)
theorem rdN8 (i p : Nat) (hi : i < 128) (hp : p < 128) : RdN (78 :: numsL [8, i, p]) (vF 8 i 0 0 p 0 ⟨#[]⟩ ⟨#[]⟩ 0 ⟨#[]⟩) := by
  intro S r hS he B w rs wr q h
  rw [nums_three (by omega) hi hp] at he ⊢
  have e1 : S.data.toList = 78 :: UInt8.ofNat 8 :: UInt8.ofNat i :: UInt8.ofNat p :: r := by rw [he]; simp
  have hz := size_len S
  rw [e1] at hz
  simp only [List.length_cons] at hz
  exact noteR8 (i := i) (p := p) hS h (by rw [e1]; exact tn_one (by omega) _) (by omega) (by rw [e1]; exact tn_one hi _) (by omega) (by rw [e1]; exact tn_one hp _) (by omega)
theorem rdN9 (i t c : Nat) (hi : i < 128) (ht : t < 128) (hc : c < 128) : RdN (78 :: numsL [9, i, t, c]) (vF 9 i 0 t 0 c ⟨#[]⟩ ⟨#[]⟩ 0 ⟨#[]⟩) := by
  intro S r hS he B w rs wr q h
  rw [nums_four (by omega) hi ht hc] at he ⊢
  have e1 : S.data.toList = 78 :: UInt8.ofNat 9 :: UInt8.ofNat i :: UInt8.ofNat t :: UInt8.ofNat c :: r := by rw [he]; simp
  have hz := size_len S
  rw [e1] at hz
  simp only [List.length_cons] at hz
  exact noteR9 (i := i) (t := t) (c := c) hS h (by rw [e1]; exact tn_one (by omega) _) (by omega) (by rw [e1]; exact tn_one hi _) (by omega) (by rw [e1]; exact tn_one ht _) (by omega) (by rw [e1]; exact tn_one hc _) (by omega)
/-- What a note that may be is: its form l, and that it is read back. -/
def GoodN (k i s t p c : Int) (K M : ByteArray) (v : Int) (X : ByteArray) (l : List UInt8) : Prop :=
  (∀ w, Calls Try.prog 12 #[.agg #[.int .i64 k, .int .i64 i, .int .i64 s, .int .i64 t, .int .i64 p, .int .i64 c, .string K, .string M, .int .i64 v, .string X]] w fun e w' => e = .returned (.tuple #[bstr l, .int .i64 0]) ∧ Below w.heap.size w w') ∧
  (∀ w, Calls Try.prog 91 #[.agg #[.int .i64 k, .int .i64 i, .int .i64 s, .int .i64 t, .int .i64 p, .int .i64 c, .string K, .string M, .int .i64 v, .string X]] w fun e w' => e = .returned (.bool true) ∧ Below w.heap.size w w') ∧
  RdN l (vF k i s t p c K M v X) ∧ (∃ l', l = 78 :: l') ∧ l.length ≤ 10000
theorem goodN_of {k i s t p c : Int} {K M : ByteArray} {v : Int} {X : ByteArray} {l : List UInt8}
    (C1 : ∀ w, Calls Try.prog 91 #[.agg #[.int .i64 k, .int .i64 i, .int .i64 s, .int .i64 t, .int .i64 p, .int .i64 c, .string K, .string M, .int .i64 v, .string X]] w fun e w' => e = .returned (.bool (Nt.may ⟨k, i, s, t, p, c, K, M, v, X⟩)) ∧ Below w.heap.size w w')
    (hm : Nt.may ⟨k, i, s, t, p, c, K, M, v, X⟩ = true)
    (C2 : ∀ w, Calls Try.prog 90 #[.agg #[.int .i64 k, .int .i64 i, .int .i64 s, .int .i64 t, .int .i64 p, .int .i64 c, .string K, .string M, .int .i64 v, .string X]] w fun e w' => e = .returned (bstr (78 :: l)) ∧ Below w.heap.size w w')
    (hr : RdN (78 :: l) (vF k i s t p c K M v X)) (hl : l.length < 10000) : ∃ l, GoodN k i s t p c K M v X l := by
  rw [hm] at C1
  exact ⟨78 :: l, fun w => note_call (fun w => write_yes _ _ _ _ _ w (m_note_may _) (m_note_form _) e_note_may e_note_form C1 C2), C1, hr, ⟨l, rfl⟩, hl⟩
theorem bad_note {k i s t p c : Int} {K M : ByteArray} {v : Int} {X : ByteArray}
    (C1 : ∀ w, Calls Try.prog 91 #[.agg #[.int .i64 k, .int .i64 i, .int .i64 s, .int .i64 t, .int .i64 p, .int .i64 c, .string K, .string M, .int .i64 v, .string X]] w fun e w' => e = .returned (.bool (Nt.may ⟨k, i, s, t, p, c, K, M, v, X⟩)) ∧ Below w.heap.size w w')
    (hm : Nt.may ⟨k, i, s, t, p, c, K, M, v, X⟩ = false) (w : World) :
    Calls Try.prog 12 #[.agg #[.int .i64 k, .int .i64 i, .int .i64 s, .int .i64 t, .int .i64 p, .int .i64 c, .string K, .string M, .int .i64 v, .string X]] w fun e w' => e = .returned (.tuple #[.string ⟨#[]⟩, .int .i64 1]) ∧ Below w.heap.size w w' := by
  rw [hm] at C1
  exact note_call (fun w => write_no _ _ _ w (m_note_may _) e_note_may C1)
theorem nums_le {xs : List Nat} (hs : Small xs) (h : xs.length ≤ 8) : (numsL xs).length < 10000 := by have := nums_len xs hs; omega
theorem txt_le (s : ByteArray) (hs : s.size ≤ 2000) : (PackMath.txt s.data.toList).length ≤ 2008 := txt_len s hs
theorem good1 (i s t p c : Int) (K M : ByteArray) (v : Int) (X : ByteArray) (hX : X.size ≤ 140737488351232) (hm : Nt.may ⟨1, i, s, t, p, c, K, M, v, X⟩ = true) : ∃ l, GoodN 1 i s t p c K M v X l := by
  have bX : X.size ≤ 2000 := by
    have h := hm
    simp [Nt.may, btw] at h
    omega
  have zi : i = 0 := by
    have h := hm
    simp [Nt.may, em] at h
    simp [h]
  have zs : s = 0 := by
    have h := hm
    simp [Nt.may, em] at h
    simp [h]
  have zt : t = 0 := by
    have h := hm
    simp [Nt.may, em] at h
    simp [h]
  have zp : p = 0 := by
    have h := hm
    simp [Nt.may, em] at h
    simp [h]
  have zc : c = 0 := by
    have h := hm
    simp [Nt.may, em] at h
    simp [h]
  have zK : K = ⟨#[]⟩ := by
    have h := hm
    simp [Nt.may, em] at h
    simp [h]
  have zM : M = ⟨#[]⟩ := by
    have h := hm
    simp [Nt.may, em] at h
    simp [h]
  have zv : v = 0 := by
    have h := hm
    simp [Nt.may, em] at h
    simp [h]
  subst zi zs zt zp zc zK zM zv
  refine goodN_of (may1 0 0 0 0 0 ⟨#[]⟩ ⟨#[]⟩ 0 X hX) hm (formN1 0 0 0 0 0 ⟨#[]⟩ ⟨#[]⟩ 0 X bX) (rdN1 X bX) ?_
  rw [List.length_append]
  have h1 := nums_le (xs := [1]) (fun x hx => by simp at hx; omega) (by simp)
  have h2 := txt_le X bX
  have h3 : (numsL [1]).length ≤ 8 := by have := nums_len [1] (fun x hx => by simp at hx; omega); simpa using this
  omega
theorem good2 (i s t p c : Int) (K M : ByteArray) (v : Int) (X : ByteArray) (hm : Nt.may ⟨2, i, s, t, p, c, K, M, v, X⟩ = true) : ∃ l, GoodN 2 i s t p c K M v X l := by
  have bi : 0 ≤ i ∧ i ≤ 60 := by
    have h := hm
    simp [Nt.may, btw] at h
    omega
  have bv : 0 ≤ v ∧ v ≤ 16 := by
    have h := hm
    simp [Nt.may, btw] at h
    omega
  have h := hm
  simp [Nt.may, btw] at h
  have bK : K.size ≤ 32 := isNm_size (by simp [h])
  have bM : M.size ≤ 32 := isNm_size (by simp [h])
  clear h
  have zs : s = 0 := by
    have h := hm
    simp [Nt.may, em] at h
    simp [h]
  have zt : t = 0 := by
    have h := hm
    simp [Nt.may, em] at h
    simp [h]
  have zp : p = 0 := by
    have h := hm
    simp [Nt.may, em] at h
    simp [h]
  have zc : c = 0 := by
    have h := hm
    simp [Nt.may, em] at h
    simp [h]
  have zX : X = ⟨#[]⟩ := by
    have h := hm
    simp [Nt.may, em] at h
    simp [h]
  subst zs zt zp zc zX
  obtain ⟨i, rfl⟩ := Int.eq_ofNat_of_zero_le bi.1
  obtain ⟨v, rfl⟩ := Int.eq_ofNat_of_zero_le bv.1
  refine goodN_of (may2 (i : Int) 0 0 0 0 K M (v : Int) ⟨#[]⟩) hm (formN2 i v (by omega) (by omega) 0 0 0 0 K M ⟨#[]⟩ (by omega) (by omega)) (rdN2 i v K M (by omega) (by omega) (by omega) (by omega)) ?_
  simp only [List.length_append]
  have h2 := txt_le K (by omega)
  have h3 := txt_le M (by omega)
  have h4 : (numsL [2, i]).length ≤ 16 := by have := nums_len [2, i] (fun x hx => by simp at hx; omega); simpa using this
  have h5 : (numsL [v]).length ≤ 8 := by have := nums_len [v] (fun x hx => by simp at hx; omega); simpa using this
  omega
theorem good3 (i s t p c : Int) (K M : ByteArray) (v : Int) (X : ByteArray) (hX : X.size ≤ 140737488351232) (hm : Nt.may ⟨3, i, s, t, p, c, K, M, v, X⟩ = true) : ∃ l, GoodN 3 i s t p c K M v X l := by
  have bi : 0 ≤ i ∧ i ≤ 60 := by
    have h := hm
    simp [Nt.may, btw] at h
    omega
  have zs : s = 0 := by
    have h := hm
    simp [Nt.may, em] at h
    simp [h]
  have zt : t = 0 := by
    have h := hm
    simp [Nt.may, em] at h
    simp [h]
  have zp : p = 0 := by
    have h := hm
    simp [Nt.may, em] at h
    simp [h]
  have zc : c = 0 := by
    have h := hm
    simp [Nt.may, em] at h
    simp [h]
  have zK : K = ⟨#[]⟩ := by
    have h := hm
    simp [Nt.may, em] at h
    simp [h]
  have zM : M = ⟨#[]⟩ := by
    have h := hm
    simp [Nt.may, em] at h
    simp [h]
  have zv : v = 0 := by
    have h := hm
    simp [Nt.may, em] at h
    simp [h]
  have zX : X = ⟨#[]⟩ := by
    have h := hm
    simp [Nt.may, em] at h
    simp [h]
  subst zs zt zp zc zK zM zv zX
  obtain ⟨i, rfl⟩ := Int.eq_ofNat_of_zero_le bi.1
  exact goodN_of (may3 (i : Int) 0 0 0 0 ⟨#[]⟩ ⟨#[]⟩ 0 ⟨#[]⟩ (by decide)) hm (formN3 i (by omega) 0 0 0 0 ⟨#[]⟩ ⟨#[]⟩ 0 ⟨#[]⟩) (rdN3 i (by omega)) (nums_le (fun x hx => by simp at hx; omega) (by simp))
theorem good4 (i s t p c : Int) (K M : ByteArray) (v : Int) (X : ByteArray) (hX : X.size ≤ 140737488351232) (hm : Nt.may ⟨4, i, s, t, p, c, K, M, v, X⟩ = true) : ∃ l, GoodN 4 i s t p c K M v X l := by
  have bi : 0 ≤ i ∧ i ≤ 60 := by
    have h := hm
    simp [Nt.may, btw] at h
    omega
  have zs : s = 0 := by
    have h := hm
    simp [Nt.may, em] at h
    simp [h]
  have zt : t = 0 := by
    have h := hm
    simp [Nt.may, em] at h
    simp [h]
  have zp : p = 0 := by
    have h := hm
    simp [Nt.may, em] at h
    simp [h]
  have zc : c = 0 := by
    have h := hm
    simp [Nt.may, em] at h
    simp [h]
  have zK : K = ⟨#[]⟩ := by
    have h := hm
    simp [Nt.may, em] at h
    simp [h]
  have zM : M = ⟨#[]⟩ := by
    have h := hm
    simp [Nt.may, em] at h
    simp [h]
  have zv : v = 0 := by
    have h := hm
    simp [Nt.may, em] at h
    simp [h]
  have zX : X = ⟨#[]⟩ := by
    have h := hm
    simp [Nt.may, em] at h
    simp [h]
  subst zs zt zp zc zK zM zv zX
  obtain ⟨i, rfl⟩ := Int.eq_ofNat_of_zero_le bi.1
  exact goodN_of (may4 (i : Int) 0 0 0 0 ⟨#[]⟩ ⟨#[]⟩ 0 ⟨#[]⟩ (by decide)) hm (formN4 i (by omega) 0 0 0 0 ⟨#[]⟩ ⟨#[]⟩ 0 ⟨#[]⟩) (rdN4 i (by omega)) (nums_le (fun x hx => by simp at hx; omega) (by simp))
theorem good5 (i s t p c : Int) (K M : ByteArray) (v : Int) (X : ByteArray) (hX : X.size ≤ 140737488351232) (hm : Nt.may ⟨5, i, s, t, p, c, K, M, v, X⟩ = true) : ∃ l, GoodN 5 i s t p c K M v X l := by
  have bi : 0 ≤ i ∧ i ≤ 60 := by
    have h := hm
    simp [Nt.may, btw] at h
    omega
  have bs : 0 ≤ s ∧ s ≤ 7 := by
    have h := hm
    simp [Nt.may, btw] at h
    omega
  have zt : t = 0 := by
    have h := hm
    simp [Nt.may, em] at h
    simp [h]
  have zp : p = 0 := by
    have h := hm
    simp [Nt.may, em] at h
    simp [h]
  have zc : c = 0 := by
    have h := hm
    simp [Nt.may, em] at h
    simp [h]
  have zK : K = ⟨#[]⟩ := by
    have h := hm
    simp [Nt.may, em] at h
    simp [h]
  have zM : M = ⟨#[]⟩ := by
    have h := hm
    simp [Nt.may, em] at h
    simp [h]
  have zv : v = 0 := by
    have h := hm
    simp [Nt.may, em] at h
    simp [h]
  have zX : X = ⟨#[]⟩ := by
    have h := hm
    simp [Nt.may, em] at h
    simp [h]
  subst zt zp zc zK zM zv zX
  obtain ⟨i, rfl⟩ := Int.eq_ofNat_of_zero_le bi.1
  obtain ⟨s, rfl⟩ := Int.eq_ofNat_of_zero_le bs.1
  exact goodN_of (may5 (i : Int) (s : Int) 0 0 0 ⟨#[]⟩ ⟨#[]⟩ 0 ⟨#[]⟩ (by decide)) hm (formN5 i s (by omega) (by omega) 0 0 0 ⟨#[]⟩ ⟨#[]⟩ 0 ⟨#[]⟩) (rdN5 i s (by omega) (by omega)) (nums_le (fun x hx => by simp at hx; omega) (by simp))
theorem good6 (i s t p c : Int) (K M : ByteArray) (v : Int) (X : ByteArray) (hX : X.size ≤ 140737488351232) (hm : Nt.may ⟨6, i, s, t, p, c, K, M, v, X⟩ = true) : ∃ l, GoodN 6 i s t p c K M v X l := by
  have bi : 0 ≤ i ∧ i ≤ 60 := by
    have h := hm
    simp [Nt.may, btw] at h
    omega
  have bs : 0 ≤ s ∧ s ≤ 7 := by
    have h := hm
    simp [Nt.may, btw] at h
    omega
  have bt : 0 ≤ t ∧ t ≤ 5 := by
    have h := hm
    simp [Nt.may, btw] at h
    omega
  have zp : p = 0 := by
    have h := hm
    simp [Nt.may, em] at h
    simp [h]
  have zc : c = 0 := by
    have h := hm
    simp [Nt.may, em] at h
    simp [h]
  have zK : K = ⟨#[]⟩ := by
    have h := hm
    simp [Nt.may, em] at h
    simp [h]
  have zM : M = ⟨#[]⟩ := by
    have h := hm
    simp [Nt.may, em] at h
    simp [h]
  have zv : v = 0 := by
    have h := hm
    simp [Nt.may, em] at h
    simp [h]
  have zX : X = ⟨#[]⟩ := by
    have h := hm
    simp [Nt.may, em] at h
    simp [h]
  subst zp zc zK zM zv zX
  obtain ⟨i, rfl⟩ := Int.eq_ofNat_of_zero_le bi.1
  obtain ⟨s, rfl⟩ := Int.eq_ofNat_of_zero_le bs.1
  obtain ⟨t, rfl⟩ := Int.eq_ofNat_of_zero_le bt.1
  exact goodN_of (may6 (i : Int) (s : Int) (t : Int) 0 0 ⟨#[]⟩ ⟨#[]⟩ 0 ⟨#[]⟩ (by decide)) hm (formN6 i s t (by omega) (by omega) (by omega) 0 0 ⟨#[]⟩ ⟨#[]⟩ 0 ⟨#[]⟩) (rdN6 i s t (by omega) (by omega) (by omega)) (nums_le (fun x hx => by simp at hx; omega) (by simp))
theorem good7 (i s t p c : Int) (K M : ByteArray) (v : Int) (X : ByteArray) (hX : X.size ≤ 140737488351232) (hm : Nt.may ⟨7, i, s, t, p, c, K, M, v, X⟩ = true) : ∃ l, GoodN 7 i s t p c K M v X l := by
  have bi : 0 ≤ i ∧ i ≤ 60 := by
    have h := hm
    simp [Nt.may, btw] at h
    omega
  have zs : s = 0 := by
    have h := hm
    simp [Nt.may, em] at h
    simp [h]
  have zt : t = 0 := by
    have h := hm
    simp [Nt.may, em] at h
    simp [h]
  have zp : p = 0 := by
    have h := hm
    simp [Nt.may, em] at h
    simp [h]
  have zc : c = 0 := by
    have h := hm
    simp [Nt.may, em] at h
    simp [h]
  have zK : K = ⟨#[]⟩ := by
    have h := hm
    simp [Nt.may, em] at h
    simp [h]
  have zM : M = ⟨#[]⟩ := by
    have h := hm
    simp [Nt.may, em] at h
    simp [h]
  have zv : v = 0 := by
    have h := hm
    simp [Nt.may, em] at h
    simp [h]
  have zX : X = ⟨#[]⟩ := by
    have h := hm
    simp [Nt.may, em] at h
    simp [h]
  subst zs zt zp zc zK zM zv zX
  obtain ⟨i, rfl⟩ := Int.eq_ofNat_of_zero_le bi.1
  exact goodN_of (may7 (i : Int) 0 0 0 0 ⟨#[]⟩ ⟨#[]⟩ 0 ⟨#[]⟩ (by decide)) hm (formN7 i (by omega) 0 0 0 0 ⟨#[]⟩ ⟨#[]⟩ 0 ⟨#[]⟩) (rdN7 i (by omega)) (nums_le (fun x hx => by simp at hx; omega) (by simp))
theorem good8 (i s t p c : Int) (K M : ByteArray) (v : Int) (X : ByteArray) (hX : X.size ≤ 140737488351232) (hm : Nt.may ⟨8, i, s, t, p, c, K, M, v, X⟩ = true) : ∃ l, GoodN 8 i s t p c K M v X l := by
  have bi : 0 ≤ i ∧ i ≤ 60 := by
    have h := hm
    simp [Nt.may, btw] at h
    omega
  have bp : 0 ≤ p ∧ p ≤ 3 := by
    have h := hm
    simp [Nt.may, btw] at h
    omega
  have zs : s = 0 := by
    have h := hm
    simp [Nt.may, em] at h
    simp [h]
  have zt : t = 0 := by
    have h := hm
    simp [Nt.may, em] at h
    simp [h]
  have zc : c = 0 := by
    have h := hm
    simp [Nt.may, em] at h
    simp [h]
  have zK : K = ⟨#[]⟩ := by
    have h := hm
    simp [Nt.may, em] at h
    simp [h]
  have zM : M = ⟨#[]⟩ := by
    have h := hm
    simp [Nt.may, em] at h
    simp [h]
  have zv : v = 0 := by
    have h := hm
    simp [Nt.may, em] at h
    simp [h]
  have zX : X = ⟨#[]⟩ := by
    have h := hm
    simp [Nt.may, em] at h
    simp [h]
  subst zs zt zc zK zM zv zX
  obtain ⟨i, rfl⟩ := Int.eq_ofNat_of_zero_le bi.1
  obtain ⟨p, rfl⟩ := Int.eq_ofNat_of_zero_le bp.1
  exact goodN_of (may8 (i : Int) 0 0 (p : Int) 0 ⟨#[]⟩ ⟨#[]⟩ 0 ⟨#[]⟩ (by decide)) hm (formN8 i p (by omega) (by omega) 0 0 0 ⟨#[]⟩ ⟨#[]⟩ 0 ⟨#[]⟩) (rdN8 i p (by omega) (by omega)) (nums_le (fun x hx => by simp at hx; omega) (by simp))
theorem good9 (i s t p c : Int) (K M : ByteArray) (v : Int) (X : ByteArray) (hX : X.size ≤ 140737488351232) (hm : Nt.may ⟨9, i, s, t, p, c, K, M, v, X⟩ = true) : ∃ l, GoodN 9 i s t p c K M v X l := by
  have bi : 0 ≤ i ∧ i ≤ 60 := by
    have h := hm
    simp [Nt.may, btw] at h
    omega
  have he : (0 ≤ t ∧ t ≤ 6) ∧ (0 ≤ c ∧ c ≤ 4) := by
    have h := hm
    simp [Nt.may, btw] at h
    have h9 := h.1.2
    unfold endB btw at h9
    split at h9
    · simp at h9; omega
    · split at h9
      · simp at h9; omega
      · cases h9
  obtain ⟨bt, bc⟩ := he
  have zs : s = 0 := by
    have h := hm
    simp [Nt.may, em] at h
    simp [h]
  have zp : p = 0 := by
    have h := hm
    simp [Nt.may, em] at h
    simp [h]
  have zK : K = ⟨#[]⟩ := by
    have h := hm
    simp [Nt.may, em] at h
    simp [h]
  have zM : M = ⟨#[]⟩ := by
    have h := hm
    simp [Nt.may, em] at h
    simp [h]
  have zv : v = 0 := by
    have h := hm
    simp [Nt.may, em] at h
    simp [h]
  have zX : X = ⟨#[]⟩ := by
    have h := hm
    simp [Nt.may, em] at h
    simp [h]
  subst zs zp zK zM zv zX
  obtain ⟨i, rfl⟩ := Int.eq_ofNat_of_zero_le bi.1
  obtain ⟨t, rfl⟩ := Int.eq_ofNat_of_zero_le bt.1
  obtain ⟨c, rfl⟩ := Int.eq_ofNat_of_zero_le bc.1
  exact goodN_of (may9 (i : Int) 0 (t : Int) 0 (c : Int) ⟨#[]⟩ ⟨#[]⟩ 0 ⟨#[]⟩ (by decide)) hm (formN9 i t c (by omega) (by omega) (by omega) 0 0 ⟨#[]⟩ ⟨#[]⟩ 0 ⟨#[]⟩) (rdN9 i t c (by omega) (by omega) (by omega)) (nums_le (fun x hx => by simp at hx; omega) (by simp))
/-- codec.Note of any note: it is refused, or its form is read back. -/
theorem note_any (k i s t p c : Int) (K M : ByteArray) (v : Int) (X : ByteArray) (hX : X.size ≤ 140737488351232) :
    (∃ l, GoodN k i s t p c K M v X l) ∨ ∀ w, Calls Try.prog 12 #[.agg #[.int .i64 k, .int .i64 i, .int .i64 s, .int .i64 t, .int .i64 p, .int .i64 c, .string K, .string M, .int .i64 v, .string X]] w fun e w' => e = .returned (.tuple #[.string ⟨#[]⟩, .int .i64 1]) ∧ Below w.heap.size w w' := by
  by_cases k1 : k = 1
  · subst k1
    cases hm : Nt.may ⟨1, i, s, t, p, c, K, M, v, X⟩ with
    | true => exact Or.inl (good1 i s t p c K M v X hX hm)
    | false => exact Or.inr (bad_note (may1 i s t p c K M v X hX) hm)
  by_cases k2 : k = 2
  · subst k2
    cases hm : Nt.may ⟨2, i, s, t, p, c, K, M, v, X⟩ with
    | true => exact Or.inl (good2 i s t p c K M v X hm)
    | false => exact Or.inr (bad_note (may2 i s t p c K M v X) hm)
  by_cases k3 : k = 3
  · subst k3
    cases hm : Nt.may ⟨3, i, s, t, p, c, K, M, v, X⟩ with
    | true => exact Or.inl (good3 i s t p c K M v X hX hm)
    | false => exact Or.inr (bad_note (may3 i s t p c K M v X hX) hm)
  by_cases k4 : k = 4
  · subst k4
    cases hm : Nt.may ⟨4, i, s, t, p, c, K, M, v, X⟩ with
    | true => exact Or.inl (good4 i s t p c K M v X hX hm)
    | false => exact Or.inr (bad_note (may4 i s t p c K M v X hX) hm)
  by_cases k5 : k = 5
  · subst k5
    cases hm : Nt.may ⟨5, i, s, t, p, c, K, M, v, X⟩ with
    | true => exact Or.inl (good5 i s t p c K M v X hX hm)
    | false => exact Or.inr (bad_note (may5 i s t p c K M v X hX) hm)
  by_cases k6 : k = 6
  · subst k6
    cases hm : Nt.may ⟨6, i, s, t, p, c, K, M, v, X⟩ with
    | true => exact Or.inl (good6 i s t p c K M v X hX hm)
    | false => exact Or.inr (bad_note (may6 i s t p c K M v X hX) hm)
  by_cases k7 : k = 7
  · subst k7
    cases hm : Nt.may ⟨7, i, s, t, p, c, K, M, v, X⟩ with
    | true => exact Or.inl (good7 i s t p c K M v X hX hm)
    | false => exact Or.inr (bad_note (may7 i s t p c K M v X hX) hm)
  by_cases k8 : k = 8
  · subst k8
    cases hm : Nt.may ⟨8, i, s, t, p, c, K, M, v, X⟩ with
    | true => exact Or.inl (good8 i s t p c K M v X hX hm)
    | false => exact Or.inr (bad_note (may8 i s t p c K M v X hX) hm)
  by_cases k9 : k = 9
  · subst k9
    cases hm : Nt.may ⟨9, i, s, t, p, c, K, M, v, X⟩ with
    | true => exact Or.inl (good9 i s t p c K M v X hX hm)
    | false => exact Or.inr (bad_note (may9 i s t p c K M v X hX) hm)
  exact Or.inr (bad_note (may0 k i s t p c K M v X hX k1 k2 k3 k4 k5 k6 k7 k8 k9) (by simp [Nt.may, k1, k2, k3, k4, k5, k6, k7, k8, k9]))
end Go.Proofs.Ytbgankldnjeohaa.Pl

/- read of a note's form, and of one with something behind it; ReadNote and What of it. -/
set_option linter.unusedVariables false
set_option linter.unusedSimpArgs false
set_option maxRecDepth 100000
namespace Go.Proofs.Ytbgankldnjeohaa.Pl
open Go.RowKit Go.Proofs.Ytbgankldnjeohaa

section
variable {B : Nat} {w wr : World} {rs : List Res}
set_option maxHeartbeats 2000000 in
theorem valueN_any {q : Nat} {k i s t p c : Int} {K M : ByteArray} {v : Int} {X : ByteArray} {l : List UInt8} {S : ByteArray} {r : List UInt8} (hS : S.size ≤ 4611686018427387904) (hG : GoodN k i s t p c K M v X l) (he : S.data.toList = l ++ r) (h : Has B w (RdR q S 0 :: rs) wr) :
    Calls Try.prog 25 #[.pointer (some ⟨q, 0, none⟩)] wr fun e w' => e = .returned (.iface 56 (.agg (vF k i s t p c K M v X).toArray)) ∧ Hid (Has B w (RdR q S l.length :: rs) w') := by
  obtain ⟨g1, g2, g3, ⟨l', rfl⟩, g5⟩ := hG
  have hl : S.data.toList.length = S.size := Array.length_toList
  have hz : S.size ≠ 0 := by rw [← hl, he]; simp
  have hz1 : (1 : Int) ≤ (S.size : Int) := by omega
  have hem := emp_no S hz
  have hc : S.data.toList = 78 :: (l' ++ r) := he
  have k1 := head_is hc 76
  have k2 := head_is hc 69
  have k3 := head_is hc 78
  rw [show ((78 : UInt8) == 76) = false from by decide] at k1
  rw [show ((78 : UInt8) == 69) = false from by decide] at k2
  rw [show ((78 : UInt8) == 78) = true from by decide] at k3
  have H1 : Hid (Has B w (RdR q S 1 :: rs) (wr.setCell ⟨q, 1, none⟩ (.int .i64 1))) := h.put 1 (by simp) (.int .i64 1)
  have D1 : Hid (Calls Try.prog 34 #[.pointer (some ⟨q, 0, none⟩)] (wr.setCell ⟨q, 1, none⟩ (.int .i64 1)) fun e w' => e = .returned (.agg (vF k i s t p c K M v X).toArray) ∧ Hid (Has B w (RdR q S (78 :: l').length :: rs) w')) := g3 S r hS he B w rs _ q H1.out
  obtain ⟨c0, _⟩ := h.bcell (q := q) (vs := [.string S, .int .i64 0]) List.mem_cons_self 0 _ rfl
  obtain ⟨c1, f1⟩ := h.bcell (q := q) (vs := [.string S, .int .i64 0]) List.mem_cons_self 1 _ rfl
  clear h H1 he hc hl g1 g2 g3 g5
  go_enter Try.func25, Try.ntmps25
  go_wp2_with fail
  refine D1.out.mono ?_
  rintro e w2 ⟨rfl, H2⟩
  clear D1
  go_wp2_with fail
  go_ret
  exact ⟨rfl, H2⟩
set_option maxHeartbeats 2000000 in
theorem readN_ok {k i s t p c : Int} {K M : ByteArray} {v : Int} {X : ByteArray} {l : List UInt8} {S : ByteArray} (hS : S.size ≤ 4611686018427387904) (hG : GoodN k i s t p c K M v X l) (he : S.data.toList = l) (h : Has B w rs wr) :
    Calls Try.prog 19 #[.string S] wr fun e w' => e = .returned (.iface 56 (.agg #[.int .i64 k, .int .i64 i, .int .i64 s, .int .i64 t, .int .i64 p, .int .i64 c, .string K, .string M, .int .i64 v, .string X])) ∧ Hid (Has B w rs w') := by
  have hl : S.data.toList.length = S.size := Array.length_toList
  obtain ⟨L, hL⟩ : ∃ L, l.length = L := ⟨_, rfl⟩
  have hLS : S.size = L := by rw [← hl, he, hL]
  have hmf : ∀ (fn : Fn) (first cap : Array Value) (w : World), (Instr.makeFunc fn first cap).run Try.prog w = .ok (.func fn first cap) w := fun _ _ _ _ => rfl
  have hmm := m_note_may
  have H1 : Hid (Has B w (RdR (wr.heap.size + 1) S 0 :: BlockR wr.heap.size [.nilIface] :: rs) ((wr.alloc (.cells #[.nilIface] 52)).alloc (.cells #[.string S, .int .i64 0] 65))) := by
    have x := (h.box [.nilIface] 52).box [.string S, .int .i64 0] 65
    rw [World.size_alloc] at x
    exact x
  have D1 : Hid (Calls Try.prog 25 #[.pointer (some ⟨wr.heap.size + 1, 0, none⟩)] ((wr.alloc (.cells #[.nilIface] 52)).alloc (.cells #[.string S, .int .i64 0] 65)) fun e w' => e = .returned (.iface 56 (.agg (vF k i s t p c K M v X).toArray)) ∧ Hid (Has B w (RdR (wr.heap.size + 1) S L :: BlockR wr.heap.size [.nilIface] :: rs) w')) := by
    have x := valueN_any (r := []) hS hG (by rw [List.append_nil]; exact he) H1.out
    rw [hL] at x
    exact x
  have CM : Hid (∀ wq, Calls Try.prog 91 #[.agg #[.int .i64 k, .int .i64 i, .int .i64 s, .int .i64 t, .int .i64 p, .int .i64 c, .string K, .string M, .int .i64 v, .string X]] wq fun e w' => e = .returned (.bool true) ∧ Below wq.heap.size wq w') := hG.2.1
  clear h H1 he hG hl hL
  go_enter_defers Try.func19, Try.ntmps19
  go_wp2_with fail
  refine D1.out.mono ?_
  rintro e w2 ⟨rfl, H2⟩
  clear D1
  have hvn : (vF k i s t p c K M v X).toArray = #[.int .i64 k, .int .i64 i, .int .i64 s, .int .i64 t, .int .i64 p, .int .i64 c, .string K, .string M, .int .i64 v, .string X] := rfl
  rw [hvn]
  clear hvn
  have H2p := H2.out.perm (List.Perm.swap _ _ _)
  obtain ⟨c0, f0⟩ := H2p.bcell (q := wr.heap.size) (vs := [.nilIface]) (by simp) 0 _ rfl
  have HP : Hid (Has B w (BlockR wr.heap.size [(.iface 56 (.agg #[.int .i64 k, .int .i64 i, .int .i64 s, .int .i64 t, .int .i64 p, .int .i64 c, .string K, .string M, .int .i64 v, .string X]))] :: RdR (wr.heap.size + 1) S L :: rs) (w2.setCell ⟨wr.heap.size, 0, none⟩ (.iface 56 (.agg #[.int .i64 k, .int .i64 i, .int .i64 s, .int .i64 t, .int .i64 p, .int .i64 c, .string K, .string M, .int .i64 v, .string X])))) := H2p.put 0 (by simp) _
  obtain ⟨x0, _⟩ := HP.out.bcell (q := wr.heap.size) (vs := [(.iface 56 (.agg #[.int .i64 k, .int .i64 i, .int .i64 s, .int .i64 t, .int .i64 p, .int .i64 c, .string K, .string M, .int .i64 v, .string X]))]) (by simp) 0 _ rfl
  clear H2 H2p
  go_wp2_with fail
  refine (CM.out _).mono ?_
  rintro e w3 ⟨rfl, hb⟩
  have HQ : Hid (Has B w (BlockR wr.heap.size [(.iface 56 (.agg #[.int .i64 k, .int .i64 i, .int .i64 s, .int .i64 t, .int .i64 p, .int .i64 c, .string K, .string M, .int .i64 v, .string X]))] :: RdR (wr.heap.size + 1) S L :: rs) w3) := HP.out.below hb
  clear HP hb x0 c0 f0 CM
  obtain ⟨y0, g0⟩ := HQ.out.bcell (q := wr.heap.size) (vs := [(.iface 56 (.agg #[.int .i64 k, .int .i64 i, .int .i64 s, .int .i64 t, .int .i64 p, .int .i64 c, .string K, .string M, .int .i64 v, .string X]))]) (by simp) 0 _ rfl
  obtain ⟨y1, _⟩ := HQ.out.bcell (q := wr.heap.size + 1) (vs := [.string S, .int .i64 (L : Int)]) (List.mem_cons_of_mem _ List.mem_cons_self) 1 (.int .i64 (L : Int)) rfl
  have y2 : (w3.setCell ⟨wr.heap.size, 0, none⟩ (.iface 56 (.agg #[.int .i64 k, .int .i64 i, .int .i64 s, .int .i64 t, .int .i64 p, .int .i64 c, .string K, .string M, .int .i64 v, .string X]))).cell? ⟨wr.heap.size, 0, none⟩ = some (.iface 56 (.agg #[.int .i64 k, .int .i64 i, .int .i64 s, .int .i64 t, .int .i64 p, .int .i64 c, .string K, .string M, .int .i64 v, .string X])) := World.cell?_setCell_same _ _ _ y0
  have HZ : Hid (Has B w rs (w3.setCell ⟨wr.heap.size, 0, none⟩ (.iface 56 (.agg #[.int .i64 k, .int .i64 i, .int .i64 s, .int .i64 t, .int .i64 p, .int .i64 c, .string K, .string M, .int .i64 v, .string X])))) := (HQ.out.put 0 (by simp) (.iface 56 (.agg #[.int .i64 k, .int .i64 i, .int .i64 s, .int .i64 t, .int .i64 p, .int .i64 c, .string K, .string M, .int .i64 v, .string X]))).drop.drop
  clear HQ
  subst hLS
  go_wp2_with fail
  refine leaves_cons (f := 24) (args := #[.pointer (some ⟨wr.heap.size, 0, none⟩)]) (by simp) (by simp [go_sem]) ?_
  refine (catch_idle ⟨wr.heap.size, 0, none⟩ _).mono ?_
  rintro e u' w'' ⟨rfl, rfl, rfl⟩
  simp [Leaves, settle, results, Try.results19, go_sem, y2]
  exact HZ
set_option maxHeartbeats 2000000 in
theorem readN_more {k i s t p c : Int} {K M : ByteArray} {v : Int} {X : ByteArray} {l : List UInt8} {S : ByteArray} {r : List UInt8} (hS : S.size ≤ 4611686018427387904) (hG : GoodN k i s t p c K M v X l) (hr : r ≠ []) (he : S.data.toList = l ++ r) (h : Has B w rs wr) :
    Calls Try.prog 19 #[.string S] wr fun e w' => e = .returned .nilIface ∧ Hid (Has B w rs w') := by
  have hl : S.data.toList.length = S.size := Array.length_toList
  obtain ⟨L, hL⟩ : ∃ L, l.length = L := ⟨_, rfl⟩
  have hLS : ((L : Int) == (S.size : Int)) = false := beq_eq_false_iff_ne.2 (by
    have h1 : S.size = L + r.length := by
      have h0 := congrArg List.length he
      rw [List.length_append, hL, hl] at h0
      exact h0
    have h2 : 0 < r.length := by cases r with | nil => exact absurd rfl hr | cons _ _ => simp
    omega)
  have hmf : ∀ (fn : Fn) (first cap : Array Value) (w : World), (Instr.makeFunc fn first cap).run Try.prog w = .ok (.func fn first cap) w := fun _ _ _ _ => rfl
  have hmm := m_note_may
  have H1 : Hid (Has B w (RdR (wr.heap.size + 1) S 0 :: BlockR wr.heap.size [.nilIface] :: rs) ((wr.alloc (.cells #[.nilIface] 52)).alloc (.cells #[.string S, .int .i64 0] 65))) := by
    have x := (h.box [.nilIface] 52).box [.string S, .int .i64 0] 65
    rw [World.size_alloc] at x
    exact x
  have D1 : Hid (Calls Try.prog 25 #[.pointer (some ⟨wr.heap.size + 1, 0, none⟩)] ((wr.alloc (.cells #[.nilIface] 52)).alloc (.cells #[.string S, .int .i64 0] 65)) fun e w' => e = .returned (.iface 56 (.agg (vF k i s t p c K M v X).toArray)) ∧ Hid (Has B w (RdR (wr.heap.size + 1) S L :: BlockR wr.heap.size [.nilIface] :: rs) w')) := by
    have x := valueN_any (r := r) hS hG (by exact he) H1.out
    rw [hL] at x
    exact x
  have CM : Hid (∀ wq, Calls Try.prog 91 #[.agg #[.int .i64 k, .int .i64 i, .int .i64 s, .int .i64 t, .int .i64 p, .int .i64 c, .string K, .string M, .int .i64 v, .string X]] wq fun e w' => e = .returned (.bool true) ∧ Below wq.heap.size wq w') := hG.2.1
  clear h H1 he hG hl hL
  go_enter_defers Try.func19, Try.ntmps19
  go_wp2_with fail
  refine D1.out.mono ?_
  rintro e w2 ⟨rfl, H2⟩
  clear D1
  have hvn : (vF k i s t p c K M v X).toArray = #[.int .i64 k, .int .i64 i, .int .i64 s, .int .i64 t, .int .i64 p, .int .i64 c, .string K, .string M, .int .i64 v, .string X] := rfl
  rw [hvn]
  clear hvn
  have H2p := H2.out.perm (List.Perm.swap _ _ _)
  obtain ⟨c0, f0⟩ := H2p.bcell (q := wr.heap.size) (vs := [.nilIface]) (by simp) 0 _ rfl
  have HP : Hid (Has B w (BlockR wr.heap.size [(.iface 56 (.agg #[.int .i64 k, .int .i64 i, .int .i64 s, .int .i64 t, .int .i64 p, .int .i64 c, .string K, .string M, .int .i64 v, .string X]))] :: RdR (wr.heap.size + 1) S L :: rs) (w2.setCell ⟨wr.heap.size, 0, none⟩ (.iface 56 (.agg #[.int .i64 k, .int .i64 i, .int .i64 s, .int .i64 t, .int .i64 p, .int .i64 c, .string K, .string M, .int .i64 v, .string X])))) := H2p.put 0 (by simp) _
  obtain ⟨x0, _⟩ := HP.out.bcell (q := wr.heap.size) (vs := [(.iface 56 (.agg #[.int .i64 k, .int .i64 i, .int .i64 s, .int .i64 t, .int .i64 p, .int .i64 c, .string K, .string M, .int .i64 v, .string X]))]) (by simp) 0 _ rfl
  clear H2 H2p
  go_wp2_with fail
  refine (CM.out _).mono ?_
  rintro e w3 ⟨rfl, hb⟩
  have HQ : Hid (Has B w (BlockR wr.heap.size [(.iface 56 (.agg #[.int .i64 k, .int .i64 i, .int .i64 s, .int .i64 t, .int .i64 p, .int .i64 c, .string K, .string M, .int .i64 v, .string X]))] :: RdR (wr.heap.size + 1) S L :: rs) w3) := HP.out.below hb
  clear HP hb x0 c0 f0 CM
  obtain ⟨y0, g0⟩ := HQ.out.bcell (q := wr.heap.size) (vs := [(.iface 56 (.agg #[.int .i64 k, .int .i64 i, .int .i64 s, .int .i64 t, .int .i64 p, .int .i64 c, .string K, .string M, .int .i64 v, .string X]))]) (by simp) 0 _ rfl
  obtain ⟨y1, _⟩ := HQ.out.bcell (q := wr.heap.size + 1) (vs := [.string S, .int .i64 (L : Int)]) (List.mem_cons_of_mem _ List.mem_cons_self) 1 (.int .i64 (L : Int)) rfl
  have y2 : (w3.setCell ⟨wr.heap.size, 0, none⟩ .nilIface).cell? ⟨wr.heap.size, 0, none⟩ = some .nilIface := World.cell?_setCell_same _ _ _ y0
  have HZ : Hid (Has B w rs (w3.setCell ⟨wr.heap.size, 0, none⟩ .nilIface)) := (HQ.out.put 0 (by simp) .nilIface).drop.drop
  clear HQ
  go_wp2_with fail
  refine (giveUp_any _).mono ?_
  rintro e w4 ⟨rfl, hw4⟩
  rw [hw4]
  clear hw4
  go_wp2_with fail
  refine leaves_cons (f := 24) (args := #[.pointer (some ⟨wr.heap.size, 0, none⟩)]) (by simp) (by simp [go_sem]) ?_
  refine (catch_finds ⟨wr.heap.size, 0, none⟩ _ _ y0 g0).mono ?_
  rintro e u' w'' ⟨rfl, rfl, rfl⟩
  simp [Leaves, settle, results, Try.results19, go_sem, y2]
  exact HZ
theorem ta_note_letter (x : Array Value) (w : World) : (Instr.typeAssert (.iface 56 (.agg x)) 52 49 true).run Try.prog w = .ok (.tuple #[.agg #[.int .i64 0, .int .i64 0, .int .i64 0, .int .i64 0, .int .i64 0, .slice none 0 0], .bool false]) w := by kernel_rfl
theorem ta_note_event (x : Array Value) (w : World) : (Instr.typeAssert (.iface 56 (.agg x)) 52 55 true).run Try.prog w = .ok (.tuple #[.agg #[.int .i64 0, .int .i64 0, .int .i64 0, .slice none 0 0], .bool false]) w := by kernel_rfl
theorem whatN_ok {k i s t p c : Int} {K M : ByteArray} {v : Int} {X : ByteArray} {l : List UInt8} {S : ByteArray} (hS : S.size ≤ 4611686018427387904) (hG : GoodN k i s t p c K M v X l) (he : S.data.toList = l) (h : Has B w rs wr) :
    Calls Try.prog 11 #[.string S] wr fun e w' => e = .returned (.int .i64 3) ∧ Hid (Has B w rs w') := by
  have D1 : Hid (Calls Try.prog 19 #[.string S] wr fun e w' => e = .returned (.iface 56 (.agg #[.int .i64 k, .int .i64 i, .int .i64 s, .int .i64 t, .int .i64 p, .int .i64 c, .string K, .string M, .int .i64 v, .string X])) ∧ Hid (Has B w rs w')) := readN_ok hS hG he h
  have hta := ta_note
  have htl := ta_note_letter
  have hte := ta_note_event
  clear h he hG
  go_enter Try.func11, Try.ntmps11
  go_wp2_with fail
  refine D1.out.mono ?_
  rintro e w2 ⟨rfl, H2⟩
  clear D1
  go_wp2_with fail
  go_ret
  exact ⟨rfl, H2⟩
set_option maxHeartbeats 2000000 in
theorem readNoteN_ok {k i s t p c : Int} {K M : ByteArray} {v : Int} {X : ByteArray} {l : List UInt8} {S : ByteArray} (hS : S.size ≤ 4611686018427387904) (hG : GoodN k i s t p c K M v X l) (he : S.data.toList = l) (h : Has B w rs wr) :
    Calls Try.prog 17 #[.string S] wr fun e w' => e = .returned (.tuple #[.agg #[.int .i64 k, .int .i64 i, .int .i64 s, .int .i64 t, .int .i64 p, .int .i64 c, .string K, .string M, .int .i64 v, .string X], .int .i64 0]) ∧ Hid (Has B w rs w') := by
  have H0 : Hid (Has B w (BlockR wr.heap.size zN :: rs) (wr.alloc (.cells #[.int .i64 0, .int .i64 0, .int .i64 0, .int .i64 0, .int .i64 0, .int .i64 0, .string ⟨#[]⟩, .string ⟨#[]⟩, .int .i64 0, .string ⟨#[]⟩] 35))) := h.box zN 35
  have D1 : Hid (Calls Try.prog 19 #[.string S] (wr.alloc (.cells #[.int .i64 0, .int .i64 0, .int .i64 0, .int .i64 0, .int .i64 0, .int .i64 0, .string ⟨#[]⟩, .string ⟨#[]⟩, .int .i64 0, .string ⟨#[]⟩] 35)) fun e w' => e = .returned (.iface 56 (.agg #[.int .i64 k, .int .i64 i, .int .i64 s, .int .i64 t, .int .i64 p, .int .i64 c, .string K, .string M, .int .i64 v, .string X])) ∧ Hid (Has B w (BlockR wr.heap.size zN :: rs) w')) := readN_ok hS hG he H0.out
  obtain ⟨rb, hrb⟩ : ∃ rb, wr.heap.size = rb := ⟨_, rfl⟩
  rw [hrb] at D1
  clear h H0 he hG
  have hta := ta_note
  go_enter Try.func17, Try.ntmps17
  go_wp2_with fail
  refine D1.out.mono ?_
  rintro e w2 ⟨rfl, h2⟩
  clear hrb D1
  have H2 : Hid (Has B w (BlockR rb zN :: BlockR w2.heap.size (vF k i s t p c K M v X) :: rs) (w2.alloc (.cells #[.int .i64 k, .int .i64 i, .int .i64 s, .int .i64 t, .int .i64 p, .int .i64 c, .string K, .string M, .int .i64 v, .string X] 56))) := (h2.out.box (vF k i s t p c K M v X) 56).perm (List.Perm.swap _ _ _)
  clear h2
  go_upto_region 4 with fail
  generalize (w2.alloc (.cells #[.int .i64 k, .int .i64 i, .int .i64 s, .int .i64 t, .int .i64 p, .int .i64 c, .string K, .string M, .int .i64 v, .string X] 56)) = w3 at *
  generalize w2.heap.size = nb at *
  obtain ⟨x0, _⟩ := H2.out.bcell (q := nb) (vs := (vF k i s t p c K M v X)) (by simp) 0 _ rfl
  obtain ⟨x1, _⟩ := H2.out.bcell (q := nb) (vs := (vF k i s t p c K M v X)) (by simp) 1 _ rfl
  obtain ⟨x2, _⟩ := H2.out.bcell (q := nb) (vs := (vF k i s t p c K M v X)) (by simp) 2 _ rfl
  obtain ⟨x3, _⟩ := H2.out.bcell (q := nb) (vs := (vF k i s t p c K M v X)) (by simp) 3 _ rfl
  obtain ⟨x4, _⟩ := H2.out.bcell (q := nb) (vs := (vF k i s t p c K M v X)) (by simp) 4 _ rfl
  obtain ⟨x5, _⟩ := H2.out.bcell (q := nb) (vs := (vF k i s t p c K M v X)) (by simp) 5 _ rfl
  obtain ⟨x6, _⟩ := H2.out.bcell (q := nb) (vs := (vF k i s t p c K M v X)) (by simp) 6 _ rfl
  obtain ⟨x7, _⟩ := H2.out.bcell (q := nb) (vs := (vF k i s t p c K M v X)) (by simp) 7 _ rfl
  obtain ⟨x8, _⟩ := H2.out.bcell (q := nb) (vs := (vF k i s t p c K M v X)) (by simp) 8 _ rfl
  obtain ⟨x9, _⟩ := H2.out.bcell (q := nb) (vs := (vF k i s t p c K M v X)) (by simp) 9 _ rfl
  obtain ⟨y0, g0⟩ := H2.out.bcell (q := rb) (vs := zN) (by simp) 0 _ rfl
  obtain ⟨y1, g1⟩ := H2.out.bcell (q := rb) (vs := zN) (by simp) 1 _ rfl
  obtain ⟨y2, g2⟩ := H2.out.bcell (q := rb) (vs := zN) (by simp) 2 _ rfl
  obtain ⟨y3, g3⟩ := H2.out.bcell (q := rb) (vs := zN) (by simp) 3 _ rfl
  obtain ⟨y4, g4⟩ := H2.out.bcell (q := rb) (vs := zN) (by simp) 4 _ rfl
  obtain ⟨y5, g5⟩ := H2.out.bcell (q := rb) (vs := zN) (by simp) 5 _ rfl
  obtain ⟨y6, g6⟩ := H2.out.bcell (q := rb) (vs := zN) (by simp) 6 _ rfl
  obtain ⟨y7, g7⟩ := H2.out.bcell (q := rb) (vs := zN) (by simp) 7 _ rfl
  obtain ⟨y8, g8⟩ := H2.out.bcell (q := rb) (vs := zN) (by simp) 8 _ rfl
  obtain ⟨y9, g9⟩ := H2.out.bcell (q := rb) (vs := zN) (by simp) 9 _ rfl
  have HQ : Hid (Has B w (BlockR rb (vF k i s t p c K M v X) :: BlockR nb (vF k i s t p c K M v X) :: rs) (setAll rb 0 (vF k i s t p c K M v X) w3)) := Has.puts (vF k i s t p c K M v X) [] zN H2.out rfl
  clear H2 hta
  go_wp2_with fail
  have HC : Hid (∀ j u, (vF k i s t p c K M v X)[j]? = some u → (setAll rb 0 (vF k i s t p c K M v X) w3).cell? ⟨rb, j, none⟩ = some u) := fun j u hu => (HQ.out.bcell (q := rb) (vs := (vF k i s t p c K M v X)) (by simp) j u hu).1
  refine bodyPost_ret (results_row_tmp rfl _ _ rb (vF k i s t p c K M v X) _ rfl HC.out Try.underlying35 rfl (by kernel_rfl)) rfl ⟨rfl, ?_⟩
  exact HQ.out.drop.drop
end
end Go.Proofs.Ytbgankldnjeohaa.Pl

/- Reading at any place of any text: a number, a text, a list, or whoever reads gives up. -/
set_option linter.unusedVariables false
set_option linter.unusedSimpArgs false
set_option maxRecDepth 100000
namespace Go.Proofs.Ytbgankldnjeohaa.Pl
open Go.RowKit Go.Proofs.Ytbgankldnjeohaa

section
variable {B : Nat} {w wr : World} {rs : List Res}
theorem drop_of {l f : List UInt8} {c : Nat} (h : l.take c = f) : l = f ++ l.drop c := by rw [← h, List.take_append_drop]
theorem step_of {S : ByteArray} {a c : Nat} {f : List UInt8} (ha : a ≤ S.size) (h1 : (S.data.toList.drop a).take c = f) (h2 : c ≤ (S.data.toList.drop a).length) : a + c ≤ S.size ∧ S.data.toList.drop a = f ++ S.data.toList.drop (a + c) := by
  have hl : S.data.toList.length = S.size := Array.length_toList
  rw [List.length_drop, hl] at h2
  refine ⟨by omega, ?_⟩
  have := drop_of h1
  rw [List.drop_drop] at this
  exact this
theorem numG {q a : Nat} {S : ByteArray} (hS : S.size ≤ 4611686018427387904) (ha : a ≤ S.size) (h : Has B w (RdR q S a :: rs) wr) :
    Calls Try.prog 37 #[.pointer (some ⟨q, 0, none⟩)] wr fun en w' => (en = gave ∧ Hid (Has B w (RdR q S a :: rs) w')) ∨ ∃ n b : Nat, n ≤ 1125899906842624 ∧ b ≤ S.size ∧ S.data.toList.drop a = PackMath.num n ++ S.data.toList.drop b ∧ en = .returned (.int .i64 (n : Int)) ∧ Hid (Has B w (RdR q S b :: rs) w') := by
  obtain ⟨n, c, e, ht⟩ : ∃ n c e, PackMath.tn (S.data.toList.drop a) = (n, c, e) := ⟨_, _, _, rfl⟩
  by_cases he : e = 0
  · subst he
    obtain ⟨o1, o2, o3, o4, o5, _⟩ := PackMath.tn_ok ht
    obtain ⟨s1, s2⟩ := step_of ha o3 o4
    exact (numR_ok hS ha h ht).mono fun en w' ⟨he, hh⟩ => Or.inr ⟨n, a + c, o1, s1, s2, he, hh⟩
  · exact (numR_no hS ha h ht he).mono fun en w' ⟨he, hh⟩ => Or.inl ⟨he, hh⟩
theorem keysG {q a : Nat} {S : ByteArray} (hS : S.size ≤ 4611686018427387904) (ha : a ≤ S.size) (h : Has B w (RdR q S a :: rs) wr) :
    Calls Try.prog 38 #[.pointer (some ⟨q, 0, none⟩)] wr fun en w' => (en = gave ∧ Hid (Has B w (RdR q S a :: rs) w')) ∨ ∃ (xs : List (List UInt8)) (b : Nat) (ao : Option Addr) (cap : Nat), xs.length ≤ 4000 ∧ (∀ s ∈ xs, s.length ≤ 2000) ∧ b ≤ S.size ∧ S.data.toList.drop a = PackMath.lst xs ++ S.data.toList.drop b ∧ en = .returned (.slice ao xs.length cap) ∧ Hid (Has B w (RdR q S b :: TR (.slice ao xs.length cap) xs :: rs) w') := by
  obtain ⟨xs, c, e, ht⟩ : ∃ n c e, PackMath.tl (S.data.toList.drop a) = (n, c, e) := ⟨_, _, _, rfl⟩
  by_cases he : e = 0
  · subst he
    obtain ⟨o1, o2, o3, o4, o5, _⟩ := PackMath.tl_ok ht
    obtain ⟨s1, s2⟩ := step_of ha o4 o5
    refine (keysR_ok hS ha h ht).mono ?_
    rintro en w' ⟨v, rfl, ⟨ao, cap, rfl⟩, hh⟩
    exact Or.inr ⟨xs, a + c, ao, cap, o1, o2, s1, s2, rfl, hh⟩
  · exact (keysR_no hS ha h ht he).mono fun en w' ⟨he, hh⟩ => Or.inl ⟨he, hh⟩
set_option maxHeartbeats 1000000 in
theorem wordR_no {q a c e : Nat} {S : ByteArray} {l : List UInt8} (hS : S.size ≤ 4611686018427387904) (ha : a ≤ S.size) (h : Has B w (RdR q S a :: rs) wr) (ht : PackMath.tt (S.data.toList.drop a) = (l, c, e)) (he : e ≠ 0) :
    Calls Try.prog 39 #[.pointer (some ⟨q, 0, none⟩)] wr fun en w' => en = gave ∧ Hid (Has B w (RdR q S a :: rs) w') := by
  have HD : Hid (∀ m, Has B w (RdR q S a :: rs) (wr.drewN m)) := fun m => h.below (below_drewN (Below.refl _ _) m)
  have HT : Hid (∀ w, Calls Try.prog 45 #[.string S, .int .i64 (a : Int)] w fun en w' => en = .returned (.tuple #[.string ⟨l.toArray⟩, .int .i64 0, .int .i64 (e : Int)]) ∧ w' = w) := fun w => by
    have x := Pk.takeText_any S a hS ha w
    rw [Pk.ttV_of ht, if_neg he] at x
    exact x
  have CP : Hid (∀ wq, Calls Try.prog 43 #[.pointer (some ⟨q, 0, none⟩), .int .i64 0, .int .i64 (e : Int)] wq fun en w' => en = gave ∧ w' = wq) := fun wq => pass_no (by omega) wq
  obtain ⟨c0, f0⟩ := h.bcell (q := q) (vs := [.string S, .int .i64 (a : Int)]) List.mem_cons_self 0 _ rfl
  obtain ⟨c1, f1⟩ := h.bcell (q := q) (vs := [.string S, .int .i64 (a : Int)]) List.mem_cons_self 1 _ rfl
  clear h ht hS ha he
  go_enter Try.func39, Try.ntmps39
  go_wp2_with fail
  go_quiet ((go_at_call 45; exact Calls.quiet_of_same (HT.out _)))
  go_wp2_with fail
  refine (CP.out _).mono ?_
  rintro en w2 ⟨rfl, hw2⟩
  rw [hw2]
  go_wp2_with fail
  exact bodyPost_dies rfl ⟨rfl, HD.out _⟩
theorem wordG {q a : Nat} {S : ByteArray} (hS : S.size ≤ 4611686018427387904) (ha : a ≤ S.size) (h : Has B w (RdR q S a :: rs) wr) :
    Calls Try.prog 39 #[.pointer (some ⟨q, 0, none⟩)] wr fun en w' => (en = gave ∧ Hid (Has B w (RdR q S a :: rs) w')) ∨ ∃ (Y : ByteArray) (b : Nat), Y.size ≤ 2000 ∧ b ≤ S.size ∧ S.data.toList.drop a = PackMath.txt Y.data.toList ++ S.data.toList.drop b ∧ en = .returned (.string Y) ∧ Hid (Has B w (RdR q S b :: rs) w') := by
  obtain ⟨l, c, e, ht⟩ : ∃ n c e, PackMath.tt (S.data.toList.drop a) = (n, c, e) := ⟨_, _, _, rfl⟩
  by_cases he : e = 0
  · subst he
    obtain ⟨o1, o3, o4, o5, _⟩ := PackMath.tt_ok ht
    obtain ⟨s1, s2⟩ := step_of ha o4 o5
    refine (wordR_ok hS ha h ht).mono fun en w' ⟨he, hh⟩ => Or.inr ⟨⟨l.toArray⟩, a + c, ?_, s1, ?_, he, hh⟩
    · show l.toArray.size ≤ 2000
      simpa using o1
    · rw [s2]
  · exact (wordR_no hS ha h ht he).mono fun en w' ⟨he, hh⟩ => Or.inl ⟨he, hh⟩
end
end Go.Proofs.Ytbgankldnjeohaa.Pl

/- Reading an event, of any text: it gives up, or what comes out stands in the text. -/
set_option linter.unusedVariables false
set_option linter.unusedSimpArgs false
set_option maxRecDepth 100000
namespace Go.Proofs.Ytbgankldnjeohaa.Pl
open Go.RowKit Go.Proofs.Ytbgankldnjeohaa

section
variable {B : Nat} {w wr : World} {rs : List Res}
set_option maxHeartbeats 2000000 in
theorem eventG {q : Nat} {S : ByteArray} (hS : S.size ≤ 4611686018427387904) (h1 : 1 ≤ S.size) (h : Has B w (RdR q S 1 :: rs) wr) :
    Calls Try.prog 33 #[.pointer (some ⟨q, 0, none⟩)] wr fun en w' => (en = gave ∧ Hid (Has B w rs w')) ∨ ∃ (k i s : Nat) (xs : List (List UInt8)) (b : Nat) (ao : Option Addr) (cap : Nat), xs.length ≤ 4000 ∧ (∀ x ∈ xs, x.length ≤ 2000) ∧ b ≤ S.size ∧ S.data.toList.drop 1 = (evL k i s xs).tail ++ S.data.toList.drop b ∧
      en = .returned (.agg (vV k i s (.slice ao xs.length cap)).toArray) ∧ Hid (Has B w (RdR q S b :: TR (.slice ao xs.length cap) xs :: rs) w') := by
  have H0 : Hid (Has B w (RdR q S 1 :: BlockR (wr.heap.size + 1) (vV 0 0 0 nilS) :: BlockR wr.heap.size (vV 0 0 0 nilS) :: rs) ((wr.alloc (.cells #[.int .i64 0, .int .i64 0, .int .i64 0, .slice none 0 0] 55)).alloc (.cells #[.int .i64 0, .int .i64 0, .int .i64 0, .slice none 0 0] 55))) := by
    have x := ((h.box (vV 0 0 0 nilS) 55).box (vV 0 0 0 nilS) 55)
    rw [World.size_alloc] at x
    exact x.perm ((List.perm_middle (l₁ := [_, _]) (l₂ := rs)))
  obtain ⟨rb, hrb⟩ : ∃ rb, wr.heap.size = rb := ⟨_, rfl⟩
  clear h
  rw [hrb] at H0
  obtain ⟨nb, hnb⟩ : ∃ nb, rb + 1 = nb := ⟨_, rfl⟩
  have HR : Hid (wr.heap.size = rb) := hrb
  have HNB : Hid (rb + 1 = nb) := hnb
  rw [hnb] at H0
  clear hrb hnb
  have E0 := numG hS h1 H0.out
  clear H0
  go_enter Try.func33, Try.ntmps33
  go_wp2_with fail
  rw [HR.out, HNB.out]
  clear HR HNB
  refine E0.mono ?_
  clear E0
  rintro en v1 (⟨rfl, G1⟩ | ⟨k, b1, mk, hb1, d1, rfl, G1⟩)
  · have HZ : Hid (Has B w rs v1) := G1.out.drop.drop.drop
    clear G1
    go_wp2_with fail
    exact bodyPost_dies rfl (Or.inl ⟨rfl, HZ⟩)
  obtain ⟨e1, f1⟩ := G1.out.bcell (q := nb) (vs := (vV 0 0 0 nilS)) (by simp) 0 _ rfl
  have P1 : Hid (Has B w (RdR q S b1 :: BlockR nb (vV (k : Int) 0 0 nilS) :: BlockR rb (vV 0 0 0 nilS) :: rs) (v1.setCell ⟨nb, 0, none⟩ (.int .i64 (k : Int)))) := ((G1.out.perm (List.Perm.swap _ _ _)).put 0 (by simp [vV]) (.int .i64 (k : Int))).perm (List.Perm.swap _ _ _)
  obtain ⟨e0, _⟩ := P1.out.bcell (q := nb) (vs := (vV (k : Int) 0 0 nilS)) (by simp) 0 _ rfl
  clear G1
  have E2 := numG hS hb1 P1.out
  go_wp2_with fail
  refine E2.mono ?_
  clear E2
  rintro en v2 (⟨rfl, G2⟩ | ⟨i, b2, mi, hb2, d2, rfl, G2⟩)
  · have HZ : Hid (Has B w rs v2) := G2.out.drop.drop.drop
    clear G2
    go_wp2_with fail
    exact bodyPost_dies rfl (Or.inl ⟨rfl, HZ⟩)
  try clear e0
  try clear e1 f1
  obtain ⟨e1, f1⟩ := G2.out.bcell (q := nb) (vs := (vV (k : Int) 0 0 nilS)) (by simp) 1 _ rfl
  have P2 : Hid (Has B w (RdR q S b2 :: BlockR nb (vV (k : Int) (i : Int) 0 nilS) :: BlockR rb (vV 0 0 0 nilS) :: rs) (v2.setCell ⟨nb, 1, none⟩ (.int .i64 (i : Int)))) := ((G2.out.perm (List.Perm.swap _ _ _)).put 1 (by simp [vV]) (.int .i64 (i : Int))).perm (List.Perm.swap _ _ _)
  obtain ⟨e0, _⟩ := P2.out.bcell (q := nb) (vs := (vV (k : Int) (i : Int) 0 nilS)) (by simp) 0 _ rfl
  clear G2
  clear P1
  by_cases h6 : k = 6
  · skip
    have y6' : ((k : Int) == 6) = true := by rw [h6]; rfl
    have y6b : ((k : Int) != 6) = false := by simp [bne, y6']
    have q6 : Hid (k = 6) := h6
    clear h6
    have HPZ : Hid (Has B w (BlockR rb (vV 0 0 0 nilS) :: RdR q S b2 :: BlockR nb (vV (k : Int) (i : Int) 0 nilS) :: rs) (v2.setCell ⟨nb, 1, none⟩ (.int .i64 (i : Int)))) := P2.out.perm (List.perm_middle (l₁ := [_, _]) (l₂ := rs))
    clear P2
    try clear e0
    obtain ⟨x0, _⟩ := HPZ.out.bcell (q := nb) (vs := (vV (k : Int) (i : Int) 0 nilS)) (by simp) 0 _ rfl
    obtain ⟨x1, _⟩ := HPZ.out.bcell (q := nb) (vs := (vV (k : Int) (i : Int) 0 nilS)) (by simp) 1 _ rfl
    obtain ⟨x2, _⟩ := HPZ.out.bcell (q := nb) (vs := (vV (k : Int) (i : Int) 0 nilS)) (by simp) 2 _ rfl
    obtain ⟨x3, _⟩ := HPZ.out.bcell (q := nb) (vs := (vV (k : Int) (i : Int) 0 nilS)) (by simp) 3 _ rfl
    obtain ⟨y0, g0⟩ := HPZ.out.bcell (q := rb) (vs := (vV 0 0 0 nilS)) (by simp) 0 _ rfl
    obtain ⟨y1, g1⟩ := HPZ.out.bcell (q := rb) (vs := (vV 0 0 0 nilS)) (by simp) 1 _ rfl
    obtain ⟨y2, g2⟩ := HPZ.out.bcell (q := rb) (vs := (vV 0 0 0 nilS)) (by simp) 2 _ rfl
    obtain ⟨y3, g3⟩ := HPZ.out.bcell (q := rb) (vs := (vV 0 0 0 nilS)) (by simp) 3 _ rfl
    have HQ : Hid (Has B w (BlockR rb (vV (k : Int) (i : Int) 0 nilS) :: RdR q S b2 :: BlockR nb (vV (k : Int) (i : Int) 0 nilS) :: rs) (setAll rb 0 (vV (k : Int) (i : Int) 0 nilS) (v2.setCell ⟨nb, 1, none⟩ (.int .i64 (i : Int))))) := Has.puts (vV (k : Int) (i : Int) 0 nilS) [] (vV 0 0 0 nilS) HPZ.out rfl
    clear HPZ
    go_wp2_with fail
    have HC : Hid (∀ j u, (vV (k : Int) (i : Int) 0 nilS)[j]? = some u → (setAll rb 0 (vV (k : Int) (i : Int) 0 nilS) (v2.setCell ⟨nb, 1, none⟩ (.int .i64 (i : Int)))).cell? ⟨rb, j, none⟩ = some u) := fun j u hu => (HQ.out.bcell (q := rb) (vs := (vV (k : Int) (i : Int) 0 nilS)) (by simp) j u hu).1
    refine bodyPost_ret (results_row rfl _ _ rb (vV (k : Int) (i : Int) 0 nilS) _ rfl HC.out Try.underlying55 rfl (by kernel_rfl)) rfl (by
      refine Or.inr ⟨k, i, 0, [], b2, none, 0, by simp, by simp, hb2, ?_, rfl, ?_⟩
      · rw [d1, d2]
        have h6 := q6.out; subst h6; simp [evL, numsL]
      · exact (((HQ.out.drop.perm (List.Perm.swap _ _ _)).drop).nilT).perm (List.Perm.swap _ _ _))
  · skip
    have n6' : ((k : Int) == 6) = false := beq_eq_false_iff_ne.2 (by omega)
    have n6b : ((k : Int) != 6) = true := by simp [bne, n6']
    have E3 := numG hS hb2 P2.out
    go_wp2_with fail
    refine E3.mono ?_
    clear E3
    rintro en v3 (⟨rfl, G3⟩ | ⟨s, b3, ms, hb3, d3, rfl, G3⟩)
    · have HZ : Hid (Has B w rs v3) := G3.out.drop.drop.drop
      clear G3
      go_wp2_with fail
      exact bodyPost_dies rfl (Or.inl ⟨rfl, HZ⟩)
    try clear e0
    try clear e1 f1
    obtain ⟨e1, f1⟩ := G3.out.bcell (q := nb) (vs := (vV (k : Int) (i : Int) 0 nilS)) (by simp) 2 _ rfl
    have P3 : Hid (Has B w (RdR q S b3 :: BlockR nb (vV (k : Int) (i : Int) (s : Int) nilS) :: BlockR rb (vV 0 0 0 nilS) :: rs) (v3.setCell ⟨nb, 2, none⟩ (.int .i64 (s : Int)))) := ((G3.out.perm (List.Perm.swap _ _ _)).put 2 (by simp [vV]) (.int .i64 (s : Int))).perm (List.Perm.swap _ _ _)
    obtain ⟨e0, _⟩ := P3.out.bcell (q := nb) (vs := (vV (k : Int) (i : Int) (s : Int) nilS)) (by simp) 0 _ rfl
    clear G3
    clear P2
    by_cases h1k : k = 1
    · skip
      have y1' : ((k : Int) == 1) = true := by rw [h1k]; rfl
      have q1 : Hid (k = 1) := h1k
      clear h1k
      have E4 := keysG hS hb3 P3.out
      go_wp2_with fail
      refine E4.mono ?_
      clear E4
      rintro en v4 (⟨rfl, G4⟩ | ⟨xs, b4, ao, cap, hx1, hx2, hb4, d4, rfl, G4⟩)
      · have HZ : Hid (Has B w rs v4) := G4.out.drop.drop.drop
        clear G4
        go_wp2_with fail
        exact bodyPost_dies rfl (Or.inl ⟨rfl, HZ⟩)
      try clear e0
      try clear e1 f1
      have HX := G4.out.perm (List.perm_middle (l₁ := [_, _]) (a := BlockR nb (vV (k : Int) (i : Int) (s : Int) nilS)))
      obtain ⟨e1, f1⟩ := HX.bcell (q := nb) (vs := (vV (k : Int) (i : Int) (s : Int) nilS)) (by simp) 3 _ rfl
      have P4 : Hid (Has B w (BlockR nb (vV (k : Int) (i : Int) (s : Int) (.slice ao xs.length cap)) :: RdR q S b4 :: TR (.slice ao xs.length cap) xs :: BlockR rb (vV 0 0 0 nilS) :: rs) (v4.setCell ⟨nb, 3, none⟩ (.slice ao xs.length cap))) := HX.put 3 (by simp [vV]) (.slice ao xs.length cap)
      obtain ⟨e0, _⟩ := P4.out.bcell (q := nb) (vs := (vV (k : Int) (i : Int) (s : Int) (.slice ao xs.length cap))) (by simp) 0 _ rfl
      have HPZ : Hid (Has B w (BlockR rb (vV 0 0 0 nilS) :: BlockR nb (vV (k : Int) (i : Int) (s : Int) (.slice ao xs.length cap)) :: RdR q S b4 :: TR (.slice ao xs.length cap) xs :: rs) (v4.setCell ⟨nb, 3, none⟩ (.slice ao xs.length cap))) := P4.out.perm (List.perm_middle (l₁ := [_, _, _]) (l₂ := rs))
      clear HX P4 G4 P3
      try clear e0
      obtain ⟨x0, _⟩ := HPZ.out.bcell (q := nb) (vs := (vV (k : Int) (i : Int) (s : Int) (.slice ao xs.length cap))) (by simp) 0 _ rfl
      obtain ⟨x1, _⟩ := HPZ.out.bcell (q := nb) (vs := (vV (k : Int) (i : Int) (s : Int) (.slice ao xs.length cap))) (by simp) 1 _ rfl
      obtain ⟨x2, _⟩ := HPZ.out.bcell (q := nb) (vs := (vV (k : Int) (i : Int) (s : Int) (.slice ao xs.length cap))) (by simp) 2 _ rfl
      obtain ⟨x3, _⟩ := HPZ.out.bcell (q := nb) (vs := (vV (k : Int) (i : Int) (s : Int) (.slice ao xs.length cap))) (by simp) 3 _ rfl
      obtain ⟨y0, g0⟩ := HPZ.out.bcell (q := rb) (vs := (vV 0 0 0 nilS)) (by simp) 0 _ rfl
      obtain ⟨y1, g1⟩ := HPZ.out.bcell (q := rb) (vs := (vV 0 0 0 nilS)) (by simp) 1 _ rfl
      obtain ⟨y2, g2⟩ := HPZ.out.bcell (q := rb) (vs := (vV 0 0 0 nilS)) (by simp) 2 _ rfl
      obtain ⟨y3, g3⟩ := HPZ.out.bcell (q := rb) (vs := (vV 0 0 0 nilS)) (by simp) 3 _ rfl
      have HQ : Hid (Has B w (BlockR rb (vV (k : Int) (i : Int) (s : Int) (.slice ao xs.length cap)) :: BlockR nb (vV (k : Int) (i : Int) (s : Int) (.slice ao xs.length cap)) :: RdR q S b4 :: TR (.slice ao xs.length cap) xs :: rs) (setAll rb 0 (vV (k : Int) (i : Int) (s : Int) (.slice ao xs.length cap)) (v4.setCell ⟨nb, 3, none⟩ (.slice ao xs.length cap)))) := Has.puts (vV (k : Int) (i : Int) (s : Int) (.slice ao xs.length cap)) [] (vV 0 0 0 nilS) HPZ.out rfl
      clear HPZ
      go_wp2_with fail
      have HC : Hid (∀ j u, (vV (k : Int) (i : Int) (s : Int) (.slice ao xs.length cap))[j]? = some u → (setAll rb 0 (vV (k : Int) (i : Int) (s : Int) (.slice ao xs.length cap)) (v4.setCell ⟨nb, 3, none⟩ (.slice ao xs.length cap))).cell? ⟨rb, j, none⟩ = some u) := fun j u hu => (HQ.out.bcell (q := rb) (vs := (vV (k : Int) (i : Int) (s : Int) (.slice ao xs.length cap))) (by simp) j u hu).1
      refine bodyPost_ret (results_row rfl _ _ rb (vV (k : Int) (i : Int) (s : Int) (.slice ao xs.length cap)) _ rfl HC.out Try.underlying55 rfl (by kernel_rfl)) rfl (by
        refine Or.inr ⟨k, i, s, xs, b4, ao, cap, hx1, hx2, hb4, ?_, rfl, ?_⟩
        · rw [d1, d2, d3, d4]
          have h1k := q1.out; subst h1k; simp [evL, numsL]
        · exact HQ.out.drop.drop)
    · skip
      have n1' : ((k : Int) == 1) = false := beq_eq_false_iff_ne.2 (by omega)
      have n1b : ((k : Int) != 1) = true := by simp [bne, n1']
      have HPZ : Hid (Has B w (BlockR rb (vV 0 0 0 nilS) :: RdR q S b3 :: BlockR nb (vV (k : Int) (i : Int) (s : Int) nilS) :: rs) (v3.setCell ⟨nb, 2, none⟩ (.int .i64 (s : Int)))) := P3.out.perm (List.perm_middle (l₁ := [_, _]) (l₂ := rs))
      clear P3
      try clear e0
      obtain ⟨x0, _⟩ := HPZ.out.bcell (q := nb) (vs := (vV (k : Int) (i : Int) (s : Int) nilS)) (by simp) 0 _ rfl
      obtain ⟨x1, _⟩ := HPZ.out.bcell (q := nb) (vs := (vV (k : Int) (i : Int) (s : Int) nilS)) (by simp) 1 _ rfl
      obtain ⟨x2, _⟩ := HPZ.out.bcell (q := nb) (vs := (vV (k : Int) (i : Int) (s : Int) nilS)) (by simp) 2 _ rfl
      obtain ⟨x3, _⟩ := HPZ.out.bcell (q := nb) (vs := (vV (k : Int) (i : Int) (s : Int) nilS)) (by simp) 3 _ rfl
      obtain ⟨y0, g0⟩ := HPZ.out.bcell (q := rb) (vs := (vV 0 0 0 nilS)) (by simp) 0 _ rfl
      obtain ⟨y1, g1⟩ := HPZ.out.bcell (q := rb) (vs := (vV 0 0 0 nilS)) (by simp) 1 _ rfl
      obtain ⟨y2, g2⟩ := HPZ.out.bcell (q := rb) (vs := (vV 0 0 0 nilS)) (by simp) 2 _ rfl
      obtain ⟨y3, g3⟩ := HPZ.out.bcell (q := rb) (vs := (vV 0 0 0 nilS)) (by simp) 3 _ rfl
      have HQ : Hid (Has B w (BlockR rb (vV (k : Int) (i : Int) (s : Int) nilS) :: RdR q S b3 :: BlockR nb (vV (k : Int) (i : Int) (s : Int) nilS) :: rs) (setAll rb 0 (vV (k : Int) (i : Int) (s : Int) nilS) (v3.setCell ⟨nb, 2, none⟩ (.int .i64 (s : Int))))) := Has.puts (vV (k : Int) (i : Int) (s : Int) nilS) [] (vV 0 0 0 nilS) HPZ.out rfl
      clear HPZ
      go_wp2_with fail
      have HC : Hid (∀ j u, (vV (k : Int) (i : Int) (s : Int) nilS)[j]? = some u → (setAll rb 0 (vV (k : Int) (i : Int) (s : Int) nilS) (v3.setCell ⟨nb, 2, none⟩ (.int .i64 (s : Int)))).cell? ⟨rb, j, none⟩ = some u) := fun j u hu => (HQ.out.bcell (q := rb) (vs := (vV (k : Int) (i : Int) (s : Int) nilS)) (by simp) j u hu).1
      refine bodyPost_ret (results_row rfl _ _ rb (vV (k : Int) (i : Int) (s : Int) nilS) _ rfl HC.out Try.underlying55 rfl (by kernel_rfl)) rfl (by
        refine Or.inr ⟨k, i, s, [], b3, none, 0, by simp, by simp, hb3, ?_, rfl, ?_⟩
        · rw [d1, d2, d3]
          simp [evL, numsL, h6, h1k]
        · exact (((HQ.out.drop.perm (List.Perm.swap _ _ _)).drop).nilT).perm (List.Perm.swap _ _ _))
end
end Go.Proofs.Ytbgankldnjeohaa.Pl

/- Reading a letter, of any text: it gives up, or what comes out stands in the text. -/
set_option linter.unusedVariables false
set_option linter.unusedSimpArgs false
set_option maxRecDepth 100000
namespace Go.Proofs.Ytbgankldnjeohaa.Pl
open Go.RowKit Go.Proofs.Ytbgankldnjeohaa

section
variable {B : Nat} {w wr : World} {rs : List Res}
set_option maxHeartbeats 2000000 in
theorem letterG {q : Nat} {S : ByteArray} (hS : S.size ≤ 4611686018427387904) (h1 : 1 ≤ S.size) (h : Has B w (RdR q S 1 :: rs) wr) :
    Calls Try.prog 32 #[.pointer (some ⟨q, 0, none⟩)] wr fun en w' => (en = gave ∧ Hid (Has B w rs w')) ∨ ∃ (k p i s o : Nat) (xs : List (List UInt8)) (b : Nat) (ao : Option Addr) (cap : Nat), xs.length ≤ 4000 ∧ (∀ x ∈ xs, x.length ≤ 2000) ∧ b ≤ S.size ∧ S.data.toList.drop 1 = (ltL k p i s o xs).tail ++ S.data.toList.drop b ∧
      en = .returned (.agg (vL k p i s o (.slice ao xs.length cap)).toArray) ∧ Hid (Has B w (RdR q S b :: TR (.slice ao xs.length cap) xs :: rs) w') := by
  have H0 : Hid (Has B w (RdR q S 1 :: BlockR (wr.heap.size + 1) (vL 0 0 0 0 0 nilS) :: BlockR wr.heap.size (vL 0 0 0 0 0 nilS) :: rs) ((wr.alloc (.cells #[.int .i64 0, .int .i64 0, .int .i64 0, .int .i64 0, .int .i64 0, .slice none 0 0] 49)).alloc (.cells #[.int .i64 0, .int .i64 0, .int .i64 0, .int .i64 0, .int .i64 0, .slice none 0 0] 49))) := by
    have x := ((h.box (vL 0 0 0 0 0 nilS) 49).box (vL 0 0 0 0 0 nilS) 49)
    rw [World.size_alloc] at x
    exact x.perm ((List.perm_middle (l₁ := [_, _]) (l₂ := rs)))
  obtain ⟨rb, hrb⟩ : ∃ rb, wr.heap.size = rb := ⟨_, rfl⟩
  clear h
  rw [hrb] at H0
  obtain ⟨nb, hnb⟩ : ∃ nb, rb + 1 = nb := ⟨_, rfl⟩
  have HR : Hid (wr.heap.size = rb) := hrb
  have HNB : Hid (rb + 1 = nb) := hnb
  rw [hnb] at H0
  clear hrb hnb
  have E0 := numG hS h1 H0.out
  clear H0
  go_enter Try.func32, Try.ntmps32
  go_wp2_with fail
  rw [HR.out, HNB.out]
  clear HR HNB
  refine E0.mono ?_
  clear E0
  rintro en v1 (⟨rfl, G1⟩ | ⟨k, b1, mk, hb1, d1, rfl, G1⟩)
  · have HZ : Hid (Has B w rs v1) := G1.out.drop.drop.drop
    clear G1
    go_wp2_with fail
    exact bodyPost_dies rfl (Or.inl ⟨rfl, HZ⟩)
  obtain ⟨e1, f1⟩ := G1.out.bcell (q := nb) (vs := (vL 0 0 0 0 0 nilS)) (by simp) 0 _ rfl
  have P1 : Hid (Has B w (RdR q S b1 :: BlockR nb (vL (k : Int) 0 0 0 0 nilS) :: BlockR rb (vL 0 0 0 0 0 nilS) :: rs) (v1.setCell ⟨nb, 0, none⟩ (.int .i64 (k : Int)))) := ((G1.out.perm (List.Perm.swap _ _ _)).put 0 (by simp [vL]) (.int .i64 (k : Int))).perm (List.Perm.swap _ _ _)
  obtain ⟨e0, _⟩ := P1.out.bcell (q := nb) (vs := (vL (k : Int) 0 0 0 0 nilS)) (by simp) 0 _ rfl
  clear G1
  have E2 := numG hS hb1 P1.out
  go_wp2_with fail
  refine E2.mono ?_
  clear E2
  rintro en v2 (⟨rfl, G2⟩ | ⟨p, b2, mp, hb2, d2, rfl, G2⟩)
  · have HZ : Hid (Has B w rs v2) := G2.out.drop.drop.drop
    clear G2
    go_wp2_with fail
    exact bodyPost_dies rfl (Or.inl ⟨rfl, HZ⟩)
  try clear e0
  try clear e1 f1
  obtain ⟨e1, f1⟩ := G2.out.bcell (q := nb) (vs := (vL (k : Int) 0 0 0 0 nilS)) (by simp) 1 _ rfl
  have P2 : Hid (Has B w (RdR q S b2 :: BlockR nb (vL (k : Int) (p : Int) 0 0 0 nilS) :: BlockR rb (vL 0 0 0 0 0 nilS) :: rs) (v2.setCell ⟨nb, 1, none⟩ (.int .i64 (p : Int)))) := ((G2.out.perm (List.Perm.swap _ _ _)).put 1 (by simp [vL]) (.int .i64 (p : Int))).perm (List.Perm.swap _ _ _)
  obtain ⟨e0, _⟩ := P2.out.bcell (q := nb) (vs := (vL (k : Int) (p : Int) 0 0 0 nilS)) (by simp) 0 _ rfl
  clear G2
  clear P1
  have E3 := numG hS hb2 P2.out
  go_wp2_with fail
  refine E3.mono ?_
  clear E3
  rintro en v3 (⟨rfl, G3⟩ | ⟨i, b3, mi, hb3, d3, rfl, G3⟩)
  · have HZ : Hid (Has B w rs v3) := G3.out.drop.drop.drop
    clear G3
    go_wp2_with fail
    exact bodyPost_dies rfl (Or.inl ⟨rfl, HZ⟩)
  try clear e0
  try clear e1 f1
  obtain ⟨e1, f1⟩ := G3.out.bcell (q := nb) (vs := (vL (k : Int) (p : Int) 0 0 0 nilS)) (by simp) 2 _ rfl
  have P3 : Hid (Has B w (RdR q S b3 :: BlockR nb (vL (k : Int) (p : Int) (i : Int) 0 0 nilS) :: BlockR rb (vL 0 0 0 0 0 nilS) :: rs) (v3.setCell ⟨nb, 2, none⟩ (.int .i64 (i : Int)))) := ((G3.out.perm (List.Perm.swap _ _ _)).put 2 (by simp [vL]) (.int .i64 (i : Int))).perm (List.Perm.swap _ _ _)
  obtain ⟨e0, _⟩ := P3.out.bcell (q := nb) (vs := (vL (k : Int) (p : Int) (i : Int) 0 0 nilS)) (by simp) 0 _ rfl
  clear G3
  clear P2
  by_cases h3 : k = 3
  · skip
    have y3' : ((k : Int) == 3) = true := by rw [h3]; rfl
    have y3b : ((k : Int) != 3) = false := by simp [bne, y3']
    have q3 : Hid (k = 3) := h3
    clear h3
    have HPZ : Hid (Has B w (BlockR rb (vL 0 0 0 0 0 nilS) :: RdR q S b3 :: BlockR nb (vL (k : Int) (p : Int) (i : Int) 0 0 nilS) :: rs) (v3.setCell ⟨nb, 2, none⟩ (.int .i64 (i : Int)))) := P3.out.perm (List.perm_middle (l₁ := [_, _]) (l₂ := rs))
    clear P3
    try clear e0
    obtain ⟨x0, _⟩ := HPZ.out.bcell (q := nb) (vs := (vL (k : Int) (p : Int) (i : Int) 0 0 nilS)) (by simp) 0 _ rfl
    obtain ⟨x1, _⟩ := HPZ.out.bcell (q := nb) (vs := (vL (k : Int) (p : Int) (i : Int) 0 0 nilS)) (by simp) 1 _ rfl
    obtain ⟨x2, _⟩ := HPZ.out.bcell (q := nb) (vs := (vL (k : Int) (p : Int) (i : Int) 0 0 nilS)) (by simp) 2 _ rfl
    obtain ⟨x3, _⟩ := HPZ.out.bcell (q := nb) (vs := (vL (k : Int) (p : Int) (i : Int) 0 0 nilS)) (by simp) 3 _ rfl
    obtain ⟨x4, _⟩ := HPZ.out.bcell (q := nb) (vs := (vL (k : Int) (p : Int) (i : Int) 0 0 nilS)) (by simp) 4 _ rfl
    obtain ⟨x5, _⟩ := HPZ.out.bcell (q := nb) (vs := (vL (k : Int) (p : Int) (i : Int) 0 0 nilS)) (by simp) 5 _ rfl
    obtain ⟨y0, g0⟩ := HPZ.out.bcell (q := rb) (vs := (vL 0 0 0 0 0 nilS)) (by simp) 0 _ rfl
    obtain ⟨y1, g1⟩ := HPZ.out.bcell (q := rb) (vs := (vL 0 0 0 0 0 nilS)) (by simp) 1 _ rfl
    obtain ⟨y2, g2⟩ := HPZ.out.bcell (q := rb) (vs := (vL 0 0 0 0 0 nilS)) (by simp) 2 _ rfl
    obtain ⟨y3, g3⟩ := HPZ.out.bcell (q := rb) (vs := (vL 0 0 0 0 0 nilS)) (by simp) 3 _ rfl
    obtain ⟨y4, g4⟩ := HPZ.out.bcell (q := rb) (vs := (vL 0 0 0 0 0 nilS)) (by simp) 4 _ rfl
    obtain ⟨y5, g5⟩ := HPZ.out.bcell (q := rb) (vs := (vL 0 0 0 0 0 nilS)) (by simp) 5 _ rfl
    have HQ : Hid (Has B w (BlockR rb (vL (k : Int) (p : Int) (i : Int) 0 0 nilS) :: RdR q S b3 :: BlockR nb (vL (k : Int) (p : Int) (i : Int) 0 0 nilS) :: rs) (setAll rb 0 (vL (k : Int) (p : Int) (i : Int) 0 0 nilS) (v3.setCell ⟨nb, 2, none⟩ (.int .i64 (i : Int))))) := Has.puts (vL (k : Int) (p : Int) (i : Int) 0 0 nilS) [] (vL 0 0 0 0 0 nilS) HPZ.out rfl
    clear HPZ
    go_wp2_with fail
    have HC : Hid (∀ j u, (vL (k : Int) (p : Int) (i : Int) 0 0 nilS)[j]? = some u → (setAll rb 0 (vL (k : Int) (p : Int) (i : Int) 0 0 nilS) (v3.setCell ⟨nb, 2, none⟩ (.int .i64 (i : Int)))).cell? ⟨rb, j, none⟩ = some u) := fun j u hu => (HQ.out.bcell (q := rb) (vs := (vL (k : Int) (p : Int) (i : Int) 0 0 nilS)) (by simp) j u hu).1
    refine bodyPost_ret (results_row rfl _ _ rb (vL (k : Int) (p : Int) (i : Int) 0 0 nilS) _ rfl HC.out Try.underlying49 rfl (by kernel_rfl)) rfl (by
      refine Or.inr ⟨k, p, i, 0, 0, [], b3, none, 0, by simp, by simp, hb3, ?_, rfl, ?_⟩
      · rw [d1, d2, d3]
        have h3 := q3.out; subst h3; simp [ltL, numsL]
      · exact (((HQ.out.drop.perm (List.Perm.swap _ _ _)).drop).nilT).perm (List.Perm.swap _ _ _))
  by_cases h9 : k = 9
  · skip
    have n3' : ((k : Int) == 3) = false := beq_eq_false_iff_ne.2 (by omega)
    have n3b : ((k : Int) != 3) = true := by simp [bne, n3']
    have y9' : ((k : Int) == 9) = true := by rw [h9]; rfl
    have y9b : ((k : Int) != 9) = false := by simp [bne, y9']
    have q9 : Hid (k = 9) := h9
    clear h9
    have HPZ : Hid (Has B w (BlockR rb (vL 0 0 0 0 0 nilS) :: RdR q S b3 :: BlockR nb (vL (k : Int) (p : Int) (i : Int) 0 0 nilS) :: rs) (v3.setCell ⟨nb, 2, none⟩ (.int .i64 (i : Int)))) := P3.out.perm (List.perm_middle (l₁ := [_, _]) (l₂ := rs))
    clear P3
    try clear e0
    obtain ⟨x0, _⟩ := HPZ.out.bcell (q := nb) (vs := (vL (k : Int) (p : Int) (i : Int) 0 0 nilS)) (by simp) 0 _ rfl
    obtain ⟨x1, _⟩ := HPZ.out.bcell (q := nb) (vs := (vL (k : Int) (p : Int) (i : Int) 0 0 nilS)) (by simp) 1 _ rfl
    obtain ⟨x2, _⟩ := HPZ.out.bcell (q := nb) (vs := (vL (k : Int) (p : Int) (i : Int) 0 0 nilS)) (by simp) 2 _ rfl
    obtain ⟨x3, _⟩ := HPZ.out.bcell (q := nb) (vs := (vL (k : Int) (p : Int) (i : Int) 0 0 nilS)) (by simp) 3 _ rfl
    obtain ⟨x4, _⟩ := HPZ.out.bcell (q := nb) (vs := (vL (k : Int) (p : Int) (i : Int) 0 0 nilS)) (by simp) 4 _ rfl
    obtain ⟨x5, _⟩ := HPZ.out.bcell (q := nb) (vs := (vL (k : Int) (p : Int) (i : Int) 0 0 nilS)) (by simp) 5 _ rfl
    obtain ⟨y0, g0⟩ := HPZ.out.bcell (q := rb) (vs := (vL 0 0 0 0 0 nilS)) (by simp) 0 _ rfl
    obtain ⟨y1, g1⟩ := HPZ.out.bcell (q := rb) (vs := (vL 0 0 0 0 0 nilS)) (by simp) 1 _ rfl
    obtain ⟨y2, g2⟩ := HPZ.out.bcell (q := rb) (vs := (vL 0 0 0 0 0 nilS)) (by simp) 2 _ rfl
    obtain ⟨y3, g3⟩ := HPZ.out.bcell (q := rb) (vs := (vL 0 0 0 0 0 nilS)) (by simp) 3 _ rfl
    obtain ⟨y4, g4⟩ := HPZ.out.bcell (q := rb) (vs := (vL 0 0 0 0 0 nilS)) (by simp) 4 _ rfl
    obtain ⟨y5, g5⟩ := HPZ.out.bcell (q := rb) (vs := (vL 0 0 0 0 0 nilS)) (by simp) 5 _ rfl
    have HQ : Hid (Has B w (BlockR rb (vL (k : Int) (p : Int) (i : Int) 0 0 nilS) :: RdR q S b3 :: BlockR nb (vL (k : Int) (p : Int) (i : Int) 0 0 nilS) :: rs) (setAll rb 0 (vL (k : Int) (p : Int) (i : Int) 0 0 nilS) (v3.setCell ⟨nb, 2, none⟩ (.int .i64 (i : Int))))) := Has.puts (vL (k : Int) (p : Int) (i : Int) 0 0 nilS) [] (vL 0 0 0 0 0 nilS) HPZ.out rfl
    clear HPZ
    go_wp2_with fail
    have HC : Hid (∀ j u, (vL (k : Int) (p : Int) (i : Int) 0 0 nilS)[j]? = some u → (setAll rb 0 (vL (k : Int) (p : Int) (i : Int) 0 0 nilS) (v3.setCell ⟨nb, 2, none⟩ (.int .i64 (i : Int)))).cell? ⟨rb, j, none⟩ = some u) := fun j u hu => (HQ.out.bcell (q := rb) (vs := (vL (k : Int) (p : Int) (i : Int) 0 0 nilS)) (by simp) j u hu).1
    refine bodyPost_ret (results_row rfl _ _ rb (vL (k : Int) (p : Int) (i : Int) 0 0 nilS) _ rfl HC.out Try.underlying49 rfl (by kernel_rfl)) rfl (by
      refine Or.inr ⟨k, p, i, 0, 0, [], b3, none, 0, by simp, by simp, hb3, ?_, rfl, ?_⟩
      · rw [d1, d2, d3]
        have h9 := q9.out; subst h9; simp [ltL, numsL]
      · exact (((HQ.out.drop.perm (List.Perm.swap _ _ _)).drop).nilT).perm (List.Perm.swap _ _ _))
  have n3' : ((k : Int) == 3) = false := beq_eq_false_iff_ne.2 (by omega)
  have n3b : ((k : Int) != 3) = true := by simp [bne, n3']
  have n9' : ((k : Int) == 9) = false := beq_eq_false_iff_ne.2 (by omega)
  have n9b : ((k : Int) != 9) = true := by simp [bne, n9']
  have E4 := numG hS hb3 P3.out
  go_wp2_with fail
  refine E4.mono ?_
  clear E4
  rintro en v4 (⟨rfl, G4⟩ | ⟨s, b4, ms, hb4, d4, rfl, G4⟩)
  · have HZ : Hid (Has B w rs v4) := G4.out.drop.drop.drop
    clear G4
    go_wp2_with fail
    exact bodyPost_dies rfl (Or.inl ⟨rfl, HZ⟩)
  try clear e0
  try clear e1 f1
  obtain ⟨e1, f1⟩ := G4.out.bcell (q := nb) (vs := (vL (k : Int) (p : Int) (i : Int) 0 0 nilS)) (by simp) 3 _ rfl
  have P4 : Hid (Has B w (RdR q S b4 :: BlockR nb (vL (k : Int) (p : Int) (i : Int) (s : Int) 0 nilS) :: BlockR rb (vL 0 0 0 0 0 nilS) :: rs) (v4.setCell ⟨nb, 3, none⟩ (.int .i64 (s : Int)))) := ((G4.out.perm (List.Perm.swap _ _ _)).put 3 (by simp [vL]) (.int .i64 (s : Int))).perm (List.Perm.swap _ _ _)
  obtain ⟨e0, _⟩ := P4.out.bcell (q := nb) (vs := (vL (k : Int) (p : Int) (i : Int) (s : Int) 0 nilS)) (by simp) 0 _ rfl
  clear G4
  clear P3
  by_cases h1k : k = 1
  · skip
    have y1' : ((k : Int) == 1) = true := by rw [h1k]; rfl
    have q1 : Hid (k = 1) := h1k
    clear h1k
    have E5 := numG hS hb4 P4.out
    go_wp2_with fail
    refine E5.mono ?_
    clear E5
    rintro en v5 (⟨rfl, G5⟩ | ⟨o, b5, mo, hb5, d5, rfl, G5⟩)
    · have HZ : Hid (Has B w rs v5) := G5.out.drop.drop.drop
      clear G5
      go_wp2_with fail
      exact bodyPost_dies rfl (Or.inl ⟨rfl, HZ⟩)
    try clear e0
    try clear e1 f1
    obtain ⟨e1, f1⟩ := G5.out.bcell (q := nb) (vs := (vL (k : Int) (p : Int) (i : Int) (s : Int) 0 nilS)) (by simp) 4 _ rfl
    have P5 : Hid (Has B w (RdR q S b5 :: BlockR nb (vL (k : Int) (p : Int) (i : Int) (s : Int) (o : Int) nilS) :: BlockR rb (vL 0 0 0 0 0 nilS) :: rs) (v5.setCell ⟨nb, 4, none⟩ (.int .i64 (o : Int)))) := ((G5.out.perm (List.Perm.swap _ _ _)).put 4 (by simp [vL]) (.int .i64 (o : Int))).perm (List.Perm.swap _ _ _)
    obtain ⟨e0, _⟩ := P5.out.bcell (q := nb) (vs := (vL (k : Int) (p : Int) (i : Int) (s : Int) (o : Int) nilS)) (by simp) 0 _ rfl
    clear G5
    clear P4
    have E6 := keysG hS hb5 P5.out
    go_wp2_with fail
    refine E6.mono ?_
    clear E6
    rintro en v6 (⟨rfl, G6⟩ | ⟨xs, b6, ao, cap, hx1, hx2, hb6, d6, rfl, G6⟩)
    · have HZ : Hid (Has B w rs v6) := G6.out.drop.drop.drop
      clear G6
      go_wp2_with fail
      exact bodyPost_dies rfl (Or.inl ⟨rfl, HZ⟩)
    try clear e0
    try clear e1 f1
    have HX := G6.out.perm (List.perm_middle (l₁ := [_, _]) (a := BlockR nb (vL (k : Int) (p : Int) (i : Int) (s : Int) (o : Int) nilS)))
    obtain ⟨e1, f1⟩ := HX.bcell (q := nb) (vs := (vL (k : Int) (p : Int) (i : Int) (s : Int) (o : Int) nilS)) (by simp) 5 _ rfl
    have P6 : Hid (Has B w (BlockR nb (vL (k : Int) (p : Int) (i : Int) (s : Int) (o : Int) (.slice ao xs.length cap)) :: RdR q S b6 :: TR (.slice ao xs.length cap) xs :: BlockR rb (vL 0 0 0 0 0 nilS) :: rs) (v6.setCell ⟨nb, 5, none⟩ (.slice ao xs.length cap))) := HX.put 5 (by simp [vL]) (.slice ao xs.length cap)
    obtain ⟨e0, _⟩ := P6.out.bcell (q := nb) (vs := (vL (k : Int) (p : Int) (i : Int) (s : Int) (o : Int) (.slice ao xs.length cap))) (by simp) 0 _ rfl
    have HPZ : Hid (Has B w (BlockR rb (vL 0 0 0 0 0 nilS) :: BlockR nb (vL (k : Int) (p : Int) (i : Int) (s : Int) (o : Int) (.slice ao xs.length cap)) :: RdR q S b6 :: TR (.slice ao xs.length cap) xs :: rs) (v6.setCell ⟨nb, 5, none⟩ (.slice ao xs.length cap))) := P6.out.perm (List.perm_middle (l₁ := [_, _, _]) (l₂ := rs))
    clear HX P6 G6 P5
    try clear e0
    obtain ⟨x0, _⟩ := HPZ.out.bcell (q := nb) (vs := (vL (k : Int) (p : Int) (i : Int) (s : Int) (o : Int) (.slice ao xs.length cap))) (by simp) 0 _ rfl
    obtain ⟨x1, _⟩ := HPZ.out.bcell (q := nb) (vs := (vL (k : Int) (p : Int) (i : Int) (s : Int) (o : Int) (.slice ao xs.length cap))) (by simp) 1 _ rfl
    obtain ⟨x2, _⟩ := HPZ.out.bcell (q := nb) (vs := (vL (k : Int) (p : Int) (i : Int) (s : Int) (o : Int) (.slice ao xs.length cap))) (by simp) 2 _ rfl
    obtain ⟨x3, _⟩ := HPZ.out.bcell (q := nb) (vs := (vL (k : Int) (p : Int) (i : Int) (s : Int) (o : Int) (.slice ao xs.length cap))) (by simp) 3 _ rfl
    obtain ⟨x4, _⟩ := HPZ.out.bcell (q := nb) (vs := (vL (k : Int) (p : Int) (i : Int) (s : Int) (o : Int) (.slice ao xs.length cap))) (by simp) 4 _ rfl
    obtain ⟨x5, _⟩ := HPZ.out.bcell (q := nb) (vs := (vL (k : Int) (p : Int) (i : Int) (s : Int) (o : Int) (.slice ao xs.length cap))) (by simp) 5 _ rfl
    obtain ⟨y0, g0⟩ := HPZ.out.bcell (q := rb) (vs := (vL 0 0 0 0 0 nilS)) (by simp) 0 _ rfl
    obtain ⟨y1, g1⟩ := HPZ.out.bcell (q := rb) (vs := (vL 0 0 0 0 0 nilS)) (by simp) 1 _ rfl
    obtain ⟨y2, g2⟩ := HPZ.out.bcell (q := rb) (vs := (vL 0 0 0 0 0 nilS)) (by simp) 2 _ rfl
    obtain ⟨y3, g3⟩ := HPZ.out.bcell (q := rb) (vs := (vL 0 0 0 0 0 nilS)) (by simp) 3 _ rfl
    obtain ⟨y4, g4⟩ := HPZ.out.bcell (q := rb) (vs := (vL 0 0 0 0 0 nilS)) (by simp) 4 _ rfl
    obtain ⟨y5, g5⟩ := HPZ.out.bcell (q := rb) (vs := (vL 0 0 0 0 0 nilS)) (by simp) 5 _ rfl
    have HQ : Hid (Has B w (BlockR rb (vL (k : Int) (p : Int) (i : Int) (s : Int) (o : Int) (.slice ao xs.length cap)) :: BlockR nb (vL (k : Int) (p : Int) (i : Int) (s : Int) (o : Int) (.slice ao xs.length cap)) :: RdR q S b6 :: TR (.slice ao xs.length cap) xs :: rs) (setAll rb 0 (vL (k : Int) (p : Int) (i : Int) (s : Int) (o : Int) (.slice ao xs.length cap)) (v6.setCell ⟨nb, 5, none⟩ (.slice ao xs.length cap)))) := Has.puts (vL (k : Int) (p : Int) (i : Int) (s : Int) (o : Int) (.slice ao xs.length cap)) [] (vL 0 0 0 0 0 nilS) HPZ.out rfl
    clear HPZ
    go_wp2_with fail
    have HC : Hid (∀ j u, (vL (k : Int) (p : Int) (i : Int) (s : Int) (o : Int) (.slice ao xs.length cap))[j]? = some u → (setAll rb 0 (vL (k : Int) (p : Int) (i : Int) (s : Int) (o : Int) (.slice ao xs.length cap)) (v6.setCell ⟨nb, 5, none⟩ (.slice ao xs.length cap))).cell? ⟨rb, j, none⟩ = some u) := fun j u hu => (HQ.out.bcell (q := rb) (vs := (vL (k : Int) (p : Int) (i : Int) (s : Int) (o : Int) (.slice ao xs.length cap))) (by simp) j u hu).1
    refine bodyPost_ret (results_row rfl _ _ rb (vL (k : Int) (p : Int) (i : Int) (s : Int) (o : Int) (.slice ao xs.length cap)) _ rfl HC.out Try.underlying49 rfl (by kernel_rfl)) rfl (by
      refine Or.inr ⟨k, p, i, s, o, xs, b6, ao, cap, hx1, hx2, hb6, ?_, rfl, ?_⟩
      · rw [d1, d2, d3, d4, d5, d6]
        have h1k := q1.out; subst h1k; simp [ltL, numsL]
      · exact HQ.out.drop.drop)
  · skip
    have n1' : ((k : Int) == 1) = false := beq_eq_false_iff_ne.2 (by omega)
    have n1b : ((k : Int) != 1) = true := by simp [bne, n1']
    have HPZ : Hid (Has B w (BlockR rb (vL 0 0 0 0 0 nilS) :: RdR q S b4 :: BlockR nb (vL (k : Int) (p : Int) (i : Int) (s : Int) 0 nilS) :: rs) (v4.setCell ⟨nb, 3, none⟩ (.int .i64 (s : Int)))) := P4.out.perm (List.perm_middle (l₁ := [_, _]) (l₂ := rs))
    clear P4
    try clear e0
    obtain ⟨x0, _⟩ := HPZ.out.bcell (q := nb) (vs := (vL (k : Int) (p : Int) (i : Int) (s : Int) 0 nilS)) (by simp) 0 _ rfl
    obtain ⟨x1, _⟩ := HPZ.out.bcell (q := nb) (vs := (vL (k : Int) (p : Int) (i : Int) (s : Int) 0 nilS)) (by simp) 1 _ rfl
    obtain ⟨x2, _⟩ := HPZ.out.bcell (q := nb) (vs := (vL (k : Int) (p : Int) (i : Int) (s : Int) 0 nilS)) (by simp) 2 _ rfl
    obtain ⟨x3, _⟩ := HPZ.out.bcell (q := nb) (vs := (vL (k : Int) (p : Int) (i : Int) (s : Int) 0 nilS)) (by simp) 3 _ rfl
    obtain ⟨x4, _⟩ := HPZ.out.bcell (q := nb) (vs := (vL (k : Int) (p : Int) (i : Int) (s : Int) 0 nilS)) (by simp) 4 _ rfl
    obtain ⟨x5, _⟩ := HPZ.out.bcell (q := nb) (vs := (vL (k : Int) (p : Int) (i : Int) (s : Int) 0 nilS)) (by simp) 5 _ rfl
    obtain ⟨y0, g0⟩ := HPZ.out.bcell (q := rb) (vs := (vL 0 0 0 0 0 nilS)) (by simp) 0 _ rfl
    obtain ⟨y1, g1⟩ := HPZ.out.bcell (q := rb) (vs := (vL 0 0 0 0 0 nilS)) (by simp) 1 _ rfl
    obtain ⟨y2, g2⟩ := HPZ.out.bcell (q := rb) (vs := (vL 0 0 0 0 0 nilS)) (by simp) 2 _ rfl
    obtain ⟨y3, g3⟩ := HPZ.out.bcell (q := rb) (vs := (vL 0 0 0 0 0 nilS)) (by simp) 3 _ rfl
    obtain ⟨y4, g4⟩ := HPZ.out.bcell (q := rb) (vs := (vL 0 0 0 0 0 nilS)) (by simp) 4 _ rfl
    obtain ⟨y5, g5⟩ := HPZ.out.bcell (q := rb) (vs := (vL 0 0 0 0 0 nilS)) (by simp) 5 _ rfl
    have HQ : Hid (Has B w (BlockR rb (vL (k : Int) (p : Int) (i : Int) (s : Int) 0 nilS) :: RdR q S b4 :: BlockR nb (vL (k : Int) (p : Int) (i : Int) (s : Int) 0 nilS) :: rs) (setAll rb 0 (vL (k : Int) (p : Int) (i : Int) (s : Int) 0 nilS) (v4.setCell ⟨nb, 3, none⟩ (.int .i64 (s : Int))))) := Has.puts (vL (k : Int) (p : Int) (i : Int) (s : Int) 0 nilS) [] (vL 0 0 0 0 0 nilS) HPZ.out rfl
    clear HPZ
    go_wp2_with fail
    have HC : Hid (∀ j u, (vL (k : Int) (p : Int) (i : Int) (s : Int) 0 nilS)[j]? = some u → (setAll rb 0 (vL (k : Int) (p : Int) (i : Int) (s : Int) 0 nilS) (v4.setCell ⟨nb, 3, none⟩ (.int .i64 (s : Int)))).cell? ⟨rb, j, none⟩ = some u) := fun j u hu => (HQ.out.bcell (q := rb) (vs := (vL (k : Int) (p : Int) (i : Int) (s : Int) 0 nilS)) (by simp) j u hu).1
    refine bodyPost_ret (results_row rfl _ _ rb (vL (k : Int) (p : Int) (i : Int) (s : Int) 0 nilS) _ rfl HC.out Try.underlying49 rfl (by kernel_rfl)) rfl (by
      refine Or.inr ⟨k, p, i, s, 0, [], b4, none, 0, by simp, by simp, hb4, ?_, rfl, ?_⟩
      · rw [d1, d2, d3, d4]
        simp [ltL, numsL, h1k, h3, h9]
      · exact (((HQ.out.drop.perm (List.Perm.swap _ _ _)).drop).nilT).perm (List.Perm.swap _ _ _))
end
end Go.Proofs.Ytbgankldnjeohaa.Pl
