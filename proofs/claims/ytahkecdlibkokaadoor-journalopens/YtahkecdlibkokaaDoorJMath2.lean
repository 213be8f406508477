/- More mathematics of the journal: what Open finds in frames, whole or cut off. -/
import Derived.Test.YtahkecdlibkokaaDoorJMath
set_option linter.unusedVariables false
namespace JournalMath
open DiskMath (DS upd Ok app syn cut crash)
open FrameMath (scan wrap wraps fits)

theorem head_fits (g : Nat) (sn : List UInt8) (hg : g ≤ 1125899906842624) (hs : sn.length ≤ 190000) : (head g sn).length ≤ 200000 := by
  have := head_length g sn hg
  omega
theorem while_all (rs : List (List UInt8)) (h : ∀ r ∈ rs, r.length ≤ 4000) : rs.takeWhile short = rs := by
  induction rs with
  | nil => rfl
  | cons r rs ih =>
    rw [List.takeWhile_cons, if_pos (by unfold short; simpa using h r (by simp)), ih (fun x hx => h x (by simp [hx]))]
theorem foundOf_head (g : Nat) (sn : List UInt8) (rs : List (List UInt8)) (h0 : 1 ≤ g) (hg : g ≤ 1125899906842624) (hs : sn.length ≤ 190000) (hr : ∀ r ∈ rs, r.length ≤ 4000) :
    foundOf (head g sn :: rs) = ⟨g, sn, rs, FrameMath.used (head g sn :: rs)⟩ := by
  have h := readHead_head g sn h0 hg hs
  rw [foundOf_yes _ _ (by rw [h]; show g ≠ 0; omega), h, while_all rs hr]
theorem fits_head (g : Nat) (sn : List UInt8) (rs : List (List UInt8)) (hg : g ≤ 1125899906842624) (hs : sn.length ≤ 190000) (hr : ∀ r ∈ rs, r.length ≤ 4000) : fits (head g sn :: rs) := by
  intro r h
  rcases List.mem_cons.1 h with rfl | h
  · exact head_fits g sn hg hs
  · have := hr r h; omega
theorem found_head (g : Nat) (sn : List UInt8) (rs : List (List UInt8)) (h0 : 1 ≤ g) (hg : g ≤ 1125899906842624) (hs : sn.length ≤ 190000) (hr : ∀ r ∈ rs, r.length ≤ 4000) :
    found (wraps (head g sn :: rs)) = ⟨g, sn, rs, FrameMath.used (head g sn :: rs)⟩ := by
  unfold found
  rw [FrameMath.scan_all _ (fits_head g sn rs hg hs hr), foundOf_head g sn rs h0 hg hs hr]
theorem found_nil : found [] = ⟨0, [], [], 0⟩ := by unfold found; rw [FrameMath.scan_nil]; rfl

/-- How many whole frames there are in the first m bytes. -/
def kept : List (List UInt8) → Nat → Nat
  | [], _ => 0
  | x :: xs, m => if x.length + 8 ≤ m then 1 + kept xs (m - (x.length + 8)) else 0
theorem kept_le : ∀ (xs : List (List UInt8)) (m : Nat), kept xs m ≤ xs.length
  | [], _ => Nat.le_refl _
  | x :: xs, m => by
    unfold kept
    split
    · have := kept_le xs (m - (x.length + 8)); rw [List.length_cons]; omega
    · exact Nat.zero_le _
theorem kept_mono : ∀ (xs : List (List UInt8)) (m n : Nat), m ≤ n → kept xs m ≤ kept xs n
  | [], _, _, _ => Nat.le_refl _
  | x :: xs, m, n, h => by
    unfold kept
    by_cases h1 : x.length + 8 ≤ m
    · rw [if_pos h1, if_pos (by omega)]
      have := kept_mono xs (m - (x.length + 8)) (n - (x.length + 8)) (by omega)
      omega
    · rw [if_neg h1]; exact Nat.zero_le _
theorem kept_ge : ∀ (xs : List (List UInt8)) (k m : Nat), k ≤ xs.length → FrameMath.used (xs.take k) ≤ m → k ≤ kept xs m
  | xs, 0, _, _, _ => Nat.zero_le _
  | [], k + 1, _, h, _ => absurd h (by simp)
  | x :: xs, k + 1, m, h, hu => by
    have hu' : x.length + 8 + FrameMath.used (xs.take k) ≤ m := hu
    unfold kept
    rw [if_pos (by omega)]
    have := kept_ge xs k (m - (x.length + 8)) (by simpa using h) (by omega)
    omega
theorem scan_kept : ∀ (xs : List (List UInt8)) (m : Nat), fits xs → scan ((wraps xs).take m) = xs.take (kept xs m)
  | [], m, _ => by simp [wraps, FrameMath.scan_nil]
  | x :: xs, m, h => by
    have hx := h x (by simp)
    have e : wraps (x :: xs) = wrap x ++ wraps xs := rfl
    unfold kept
    by_cases h1 : x.length + 8 ≤ m
    · rw [if_pos h1, e, List.take_append, FrameMath.wrap_length, List.take_of_length_le (by rw [FrameMath.wrap_length]; exact h1)]
      have h2 := FrameMath.scan_wraps [x] ((wraps xs).take (m - (x.length + 8))) (fun r hr => by simp at hr; subst hr; exact hx)
      rw [FrameMath.wraps_one] at h2
      rw [h2, scan_kept xs _ (fun r hr => h r (by simp [hr])), Nat.add_comm 1, List.take_succ_cons]
      rfl
    · rw [if_neg h1, e, List.take_append, FrameMath.wrap_length, show m - (x.length + 8) = 0 by omega, List.take_zero, List.append_nil, FrameMath.scan_none _ (FrameMath.first_cut x m hx (by omega))]
      rfl
theorem used_kept : ∀ (xs : List (List UInt8)) (m : Nat), FrameMath.used (xs.take (kept xs m)) ≤ m
  | [], m => by simp [kept, FrameMath.used]
  | x :: xs, m => by
    unfold kept
    by_cases h1 : x.length + 8 ≤ m
    · rw [if_pos h1, Nat.add_comm 1, List.take_succ_cons]
      have := used_kept xs (m - (x.length + 8))
      show x.length + 8 + FrameMath.used (xs.take (kept xs (m - (x.length + 8)))) ≤ m
      omega
    · rw [if_neg h1]; exact Nat.zero_le _
/-- What is found in a file of which the end was lost. -/
theorem found_cut (g : Nat) (sn : List UInt8) (rs : List (List UInt8)) (m : Nat) (h0 : 1 ≤ g) (hg : g ≤ 1125899906842624) (hs : sn.length ≤ 190000) (hr : ∀ r ∈ rs, r.length ≤ 4000) (hm : (head g sn).length + 8 ≤ m) :
    found ((wraps (head g sn :: rs)).take m) = ⟨g, sn, rs.take (kept rs (m - ((head g sn).length + 8))), FrameMath.used (head g sn :: rs.take (kept rs (m - ((head g sn).length + 8))))⟩ := by
  unfold found
  rw [scan_kept _ _ (fits_head g sn rs hg hs hr)]
  have e : kept (head g sn :: rs) m = kept rs (m - ((head g sn).length + 8)) + 1 := by
    show (if (head g sn).length + 8 ≤ m then _ else 0) = _
    rw [if_pos hm, Nat.add_comm]
  rw [e, List.take_succ_cons, foundOf_head g sn _ h0 hg hs (fun r h => hr r (List.mem_of_mem_take h))]
end JournalMath
