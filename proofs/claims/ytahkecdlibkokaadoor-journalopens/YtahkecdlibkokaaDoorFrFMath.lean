/- The plain mathematics of frames: a number in bytes, the lowest first; the frame of a record; the frames with which a text begins. Nothing of the program is named here. -/
import Derived.Test.YtahkecdlibkokaaDoorFrMath
set_option maxRecDepth 100000
namespace FrameMath

def le : Nat → Nat → List UInt8
  | 0, _ => []
  | k + 1, n => UInt8.ofNat n :: le k (n / 256)
theorem le_length : ∀ k n, (le k n).length = k
  | 0, _ => rfl
  | k + 1, n => by show (le k (n / 256)).length + 1 = k + 1; rw [le_length]
theorem val_le : ∀ k n, n < 2 ^ (8 * k) → CrcMath.val (le k n) = n
  | 0, n, h => by simp at h; subst h; rfl
  | k + 1, n, h => by
    show (UInt8.ofNat n).toNat + 256 * CrcMath.val (le k (n / 256)) = n
    have h1 : n / 256 < 2 ^ (8 * k) := by
      rw [show 8 * (k + 1) = 8 * k + 8 by omega, Nat.pow_add] at h
      omega
    rw [val_le k _ h1]
    have : (UInt8.ofNat n).toNat = n % 256 := by simp
    omega
theorem le_val : ∀ (l : List UInt8), le l.length (CrcMath.val l) = l
  | [] => rfl
  | b :: l => by
    show UInt8.ofNat (b.toNat + 256 * CrcMath.val l) :: le l.length ((b.toNat + 256 * CrcMath.val l) / 256) = b :: l
    have hb := b.toNat_lt
    have h1 : (b.toNat + 256 * CrcMath.val l) / 256 = CrcMath.val l := by omega
    have h2 : UInt8.ofNat (b.toNat + 256 * CrcMath.val l) = b := by
      apply UInt8.toNat.inj
      simp
    rw [h1, h2, le_val l]
theorem le_inj (k a b : Nat) (ha : a < 2 ^ (8 * k)) (hb : b < 2 ^ (8 * k)) (h : le k a = le k b) : a = b := by
  rw [← val_le k a ha, ← val_le k b hb, h]

def wrap (r : List UInt8) : List UInt8 := 167 :: (le 3 r.length ++ (le 4 (CrcMath.ext 0 (le 3 r.length ++ r)) ++ r))
theorem wrap_length (r : List UInt8) : (wrap r).length = r.length + 8 := by
  unfold wrap
  simp [le_length]
  omega

/-- What the length's three bytes say. -/
def sz (l : List UInt8) : Nat := CrcMath.val ((l.drop 1).take 3)
def rec_ (l : List UInt8) : List UInt8 := (l.drop 8).take (sz l)
def first (l : List UInt8) : Option (List UInt8) :=
  if 8 ≤ l.length ∧ l.take 1 = [167] ∧ sz l ≤ 200000 ∧ sz l + 8 ≤ l.length ∧ (l.drop 4).take 4 = le 4 (CrcMath.ext 0 ((l.drop 1).take 3 ++ rec_ l)) then some (rec_ l) else none

theorem ext_lt (l : List UInt8) : CrcMath.ext 0 l < 2 ^ (8 * 4) := CrcMath.ext_lt 0 l (by decide)
theorem rec_length (l : List UInt8) (h : sz l + 8 ≤ l.length) : (rec_ l).length = sz l := by
  unfold rec_
  rw [List.length_take, List.length_drop]; omega
theorem sz_lt (l : List UInt8) : sz l < 2 ^ 24 := by
  have h := CrcMath.val_lt ((l.drop 1).take 3)
  have h2 : ((l.drop 1).take 3).length ≤ 3 := List.length_take_le _ _
  unfold sz
  exact Nat.lt_of_lt_of_le h (Nat.pow_le_pow_right (by decide) (by omega))

theorem sz_wrap (r rest : List UInt8) (h : r.length ≤ 200000) : sz (wrap r ++ rest) = r.length := by
  unfold sz wrap
  have e : (((167 :: (le 3 r.length ++ (le 4 (CrcMath.ext 0 (le 3 r.length ++ r)) ++ r))) ++ rest).drop 1).take 3 = le 3 r.length := by
    simp only [List.cons_append, List.drop_succ_cons, List.drop_zero, List.append_assoc]
    exact List.take_left' (le_length 3 _)
  rw [e, val_le 3 _ (by omega)]

theorem parts (r rest : List UInt8) : (wrap r ++ rest).take 1 = [167] ∧ ((wrap r ++ rest).drop 1).take 3 = le 3 r.length ∧ ((wrap r ++ rest).drop 4).take 4 = le 4 (CrcMath.ext 0 (le 3 r.length ++ r)) ∧ (wrap r ++ rest).drop 8 = r ++ rest := by
  unfold wrap
  have h3 := le_length 3 r.length
  have h4 := le_length 4 (CrcMath.ext 0 (le 3 r.length ++ r))
  generalize le 4 (CrcMath.ext 0 (le 3 r.length ++ r)) = b at *
  generalize le 3 r.length = a at *
  match a, h3 with
  | [x, y, z], _ =>
    match b, h4 with
    | [p, q, s, t], _ => exact ⟨rfl, rfl, rfl, rfl⟩

theorem first_wrap (r rest : List UInt8) (h : r.length ≤ 200000) : first (wrap r ++ rest) = some r := by
  have hs := sz_wrap r rest h
  obtain ⟨h1, h2, h3, h4⟩ := parts r rest
  have hr : rec_ (wrap r ++ rest) = r := by
    unfold rec_
    rw [hs, h4]; exact List.take_left' rfl
  unfold first
  rw [if_pos, hr]
  rw [hs, hr, h1, h2, h3, List.length_append, wrap_length]
  exact ⟨by omega, rfl, h, by omega, rfl⟩

theorem first_some (l r : List UInt8) (h : first l = some r) : r.length ≤ 200000 ∧ r.length + 8 ≤ l.length ∧ l = wrap r ++ l.drop (r.length + 8) := by
  unfold first at h
  by_cases hc : 8 ≤ l.length ∧ l.take 1 = [167] ∧ sz l ≤ 200000 ∧ sz l + 8 ≤ l.length ∧ (l.drop 4).take 4 = le 4 (CrcMath.ext 0 ((l.drop 1).take 3 ++ rec_ l))
  · rw [if_pos hc] at h
    obtain ⟨h1, h2, h3, h4, h5⟩ := hc
    have hr := Option.some.inj h
    have hl := rec_length l h4
    rw [hr] at hl h5
    refine ⟨by omega, by omega, ?_⟩
    have e3 : (l.drop 1).take 3 = le 3 r.length := by
      have h3l : ((l.drop 1).take 3).length = 3 := by rw [List.length_take, List.length_drop]; omega
      have := le_val ((l.drop 1).take 3)
      rw [h3l] at this
      rw [hl]
      exact this.symm
    rw [e3] at h5
    have e8 : l.drop 8 = r ++ l.drop (r.length + 8) := by
      have : l.drop (r.length + 8) = (l.drop 8).drop r.length := by rw [List.drop_drop]; congr 1; omega
      rw [this]
      have hr' : (l.drop 8).take r.length = r := by rw [hl]; exact hr
      conv => lhs; rw [← List.take_append_drop r.length (l.drop 8), hr']
    have s1 : l = l.take 1 ++ l.drop 1 := (List.take_append_drop 1 l).symm
    have s2 : l.drop 1 = (l.drop 1).take 3 ++ l.drop 4 := by
      have := (List.take_append_drop 3 (l.drop 1)).symm
      rwa [List.drop_drop] at this
    have s3 : l.drop 4 = (l.drop 4).take 4 ++ l.drop 8 := by
      have := (List.take_append_drop 4 (l.drop 4)).symm
      rwa [List.drop_drop] at this
    unfold wrap
    conv => lhs; rw [s1, h2, s2, e3, s3, h5, e8]
    simp
  · rw [if_neg hc] at h; cases h

theorem first_len (l r : List UInt8) (h : first l = some r) : r.length + 8 ≤ l.length := (first_some l r h).2.1
theorem first_none_short (l : List UInt8) (h : l.length < 8) : first l = none := by
  unfold first
  rw [if_neg]; omega

def scan (l : List UInt8) : List (List UInt8) :=
  match h : first l with
  | none => []
  | some r => r :: scan (l.drop (r.length + 8))
termination_by l.length
decreasing_by have := first_len l r h; rw [List.length_drop]; omega

theorem scan_none (l : List UInt8) (h : first l = none) : scan l = [] := by
  rw [scan]
  split
  · rfl
  · rename_i r hr; rw [h] at hr; cases hr
theorem scan_some (l r : List UInt8) (h : first l = some r) : scan l = r :: scan (l.drop (r.length + 8)) := by
  rw [scan]
  split
  · rename_i hr; rw [h] at hr; cases hr
  · rename_i r' hr
    rw [h] at hr
    obtain rfl := Option.some.inj hr
    rfl
theorem scan_nil : scan [] = [] := scan_none _ (first_none_short _ (by decide))

def used : List (List UInt8) → Nat
  | [] => 0
  | r :: rs => r.length + 8 + used rs
def wraps : List (List UInt8) → List UInt8
  | [] => []
  | r :: rs => wrap r ++ wraps rs
def fits (rs : List (List UInt8)) : Prop := ∀ r ∈ rs, r.length ≤ 200000
theorem used_append (a b : List (List UInt8)) : used (a ++ b) = used a + used b := by
  induction a with
  | nil => simp [used]
  | cons x a ih => show x.length + 8 + used (a ++ b) = x.length + 8 + used a + used b; rw [ih]; omega
theorem wraps_append (a b : List (List UInt8)) : wraps (a ++ b) = wraps a ++ wraps b := by
  induction a with
  | nil => rfl
  | cons x a ih => show wrap x ++ wraps (a ++ b) = wrap x ++ wraps a ++ wraps b; rw [ih, List.append_assoc]
theorem wraps_one (r : List UInt8) : wraps [r] = wrap r := List.append_nil _
theorem wraps_length (rs : List (List UInt8)) : (wraps rs).length = used rs := by
  induction rs with
  | nil => rfl
  | cons x a ih => show (wrap x ++ wraps a).length = _; rw [List.length_append, wrap_length, ih]; rfl
theorem used_ge (rs : List (List UInt8)) : 8 * rs.length ≤ used rs := by
  induction rs with
  | nil => exact Nat.le_refl _
  | cons x a ih => rw [List.length_cons]; show _ ≤ x.length + 8 + used a; omega

theorem drop_wrap (r rest : List UInt8) : (wrap r ++ rest).drop (r.length + 8) = rest := List.drop_left' (wrap_length r)
/-- Behind whole frames it goes on as if they were not there. -/
theorem scan_wraps (rs : List (List UInt8)) (rest : List UInt8) (h : fits rs) : scan (wraps rs ++ rest) = rs ++ scan rest := by
  induction rs with
  | nil => rfl
  | cons r rs ih =>
    have h1 := first_wrap r (wraps rs ++ rest) (h r (List.mem_cons_self ..))
    show scan (wrap r ++ wraps rs ++ rest) = r :: (rs ++ scan rest)
    rw [List.append_assoc, scan_some _ _ h1, drop_wrap, ih (fun x hx => h x (List.mem_cons_of_mem _ hx))]
theorem scan_all (rs : List (List UInt8)) (h : fits rs) : scan (wraps rs) = rs := by
  have := scan_wraps rs [] h
  rw [List.append_nil, scan_nil, List.append_nil] at this
  exact this
theorem scan_stands (l : List UInt8) : fits (scan l) ∧ l = wraps (scan l) ++ l.drop (used (scan l)) := by
  match hf : first l with
  | none => rw [scan_none l hf]; exact ⟨fun x (hx : x ∈ []) => absurd hx (List.not_mem_nil), rfl⟩
  | some r =>
    have h1 := first_some l r hf
    have ih := scan_stands (l.drop (r.length + 8))
    rw [scan_some l r hf]
    refine ⟨?_, ?_⟩
    · intro x hx
      rcases List.mem_cons.1 hx with rfl | hx
      · exact h1.1
      · exact ih.1 x hx
    · show l = wrap r ++ wraps (scan (l.drop (r.length + 8))) ++ l.drop (r.length + 8 + used (scan (l.drop (r.length + 8))))
      have e := @List.drop_drop _ (used (scan (l.drop (r.length + 8)))) (r.length + 8) l
      rw [← e, List.append_assoc, ← ih.2]
      exact h1.2.2
termination_by l.length
decreasing_by rw [List.length_drop]; have := h1.2.1; omega
theorem used_le (l : List UInt8) : used (scan l) ≤ l.length := by
  have h := congrArg List.length (scan_stands l).2
  rw [List.length_append, wraps_length] at h
  omega
theorem scan_length (l : List UInt8) : 8 * (scan l).length ≤ l.length := Nat.le_trans (used_ge _) (used_le l)
theorem wraps_scan (l : List UInt8) : wraps (scan l) = l.take (used (scan l)) := by
  have h := (scan_stands l).2
  have h2 := congrArg (List.take (used (scan l))) h
  rw [h2]
  exact (List.take_left' (wraps_length _)).symm
theorem scan_again (l : List UInt8) : scan (l.take (used (scan l))) = scan l := by
  rw [← wraps_scan]; exact scan_all _ (scan_stands l).1

/-- A frame that is cut off is none. -/
theorem first_cut (r : List UInt8) (k : Nat) (h : r.length ≤ 200000) (hk : k < r.length + 8) : first ((wrap r).take k) = none := by
  by_cases h8 : k < 8
  · exact first_none_short _ (by rw [List.length_take]; omega)
  · have hl : ((wrap r).take k).length = k := by rw [List.length_take, wrap_length]; omega
    have hs : sz ((wrap r).take k) = r.length := by
      have := sz_wrap r [] h
      rw [List.append_nil] at this
      rw [← this]
      unfold sz
      rw [List.drop_take, List.take_take]
      congr 2
      omega
    unfold first
    rw [if_neg]
    rw [hs, hl]
    omega
theorem scan_cut (rs : List (List UInt8)) (r : List UInt8) (k : Nat) (h : fits (rs ++ [r])) (hk : k < r.length + 8) : scan ((wraps (rs ++ [r])).take (used rs + k)) = rs := by
  have e : (wraps (rs ++ [r])).take (used rs + k) = wraps rs ++ (wrap r).take k := by
    rw [wraps_append, wraps_one, List.take_append, wraps_length, Nat.add_sub_cancel_left]
    congr 1
    exact List.take_of_length_le (by rw [wraps_length]; omega)
  rw [e, scan_wraps _ _ (fun x hx => h x (List.mem_append_left _ hx)), scan_none _ (first_cut r k (h r (by simp)) hk), List.append_nil]

/-- A frame of which a byte, but one of the length, is another is none. -/
theorem first_spoilt (r : List UInt8) (k : Nat) (b : UInt8) (h : r.length ≤ 200000) (hk : k < r.length + 8) (hk3 : k = 0 ∨ 4 ≤ k) (hb : b ≠ 0) :
    first ((wrap r).set k ((wrap r)[k]'(by rw [wrap_length]; exact hk) ^^^ b)) = none := by
  obtain ⟨p1, p2, p3, p4⟩ := parts r []
  have hsz := sz_wrap r [] h
  have hrl : rec_ (wrap r) = r := by
    have := parts r []
    rw [List.append_nil] at this hsz
    unfold rec_
    rw [hsz, this.2.2.2]; simp
  rw [List.append_nil] at p1 p2 p3 p4 hsz
  have hne : ∀ x : UInt8, x ^^^ b ≠ x := by
    intro x hx
    apply hb
    have := congrArg (x ^^^ ·) hx
    simpa [← UInt8.xor_assoc] using this
  generalize hx : (wrap r)[k]'(by rw [wrap_length]; exact hk) = x
  unfold first
  rw [if_neg]
  rintro ⟨_, c1, _, c3, c4⟩
  rcases hk3 with rfl | hk3
  · have : (wrap r)[0]'(by rw [wrap_length]; omega) = 167 := rfl
    rw [this] at hx
    subst hx
    have e : ((wrap r).set 0 (167 ^^^ b)).take 1 = [167 ^^^ b] := rfl
    rw [e] at c1
    exact hne 167 (List.cons.inj c1).1
  · have hd : ∀ j, j ≤ k → ((wrap r).set k (x ^^^ b)).drop j = ((wrap r).drop j).set (k - j) (x ^^^ b) := by
      intro j hj
      rw [List.drop_set, if_neg (by omega)]
    have e1 : (((wrap r).set k (x ^^^ b)).drop 1).take 3 = le 3 r.length := by
      rw [hd 1 (by omega), List.take_set, p2, List.set_eq_of_length_le (by rw [le_length]; omega)]
    have e2 : sz ((wrap r).set k (x ^^^ b)) = r.length := by
      unfold sz
      rw [e1, val_le 3 _ (by omega)]
    have e4 : (((wrap r).set k (x ^^^ b)).drop 4).take 4 = (le 4 (CrcMath.ext 0 (le 3 r.length ++ r))).set (k - 4) (x ^^^ b) := by
      rw [hd 4 hk3, List.take_set, p3]
    rw [e1, e4] at c4
    by_cases h8 : k < 8
    · have e5 : rec_ ((wrap r).set k (x ^^^ b)) = r := by
        unfold rec_
        rw [e2, List.drop_set, if_pos h8, p4]
        simp
      rw [e5] at c4
      have h4 := le_length 4 (CrcMath.ext 0 (le 3 r.length ++ r))
      have hx4 : (le 4 (CrcMath.ext 0 (le 3 r.length ++ r)))[k - 4]? = some x := by
        rw [← p3, List.getElem?_take, if_pos (by omega), List.getElem?_drop, show 4 + (k - 4) = k by omega, ← hx]
        exact List.getElem?_eq_getElem _
      have := congrArg (fun l => l[k - 4]?) c4
      simp only [List.getElem?_set_self (show k - 4 < (le 4 (CrcMath.ext 0 (le 3 r.length ++ r))).length by omega), hx4] at this
      exact hne x (Option.some.inj this)
    · have e5 : rec_ ((wrap r).set k (x ^^^ b)) = r.set (k - 8) (x ^^^ b) := by
        unfold rec_
        rw [e2, hd 8 (by omega), p4, List.append_nil, List.take_of_length_le (by rw [List.length_set]; exact Nat.le_refl _)]
      rw [e5, List.set_eq_of_length_le (by rw [le_length]; omega)] at c4
      have hk8 : k - 8 < r.length := by omega
      have hx8 : r[k - 8] = x := by
        have : (wrap r)[k]? = r[k - 8]? := by
          have h := congrArg (fun l => l[k - 8]?) p4
          simp only [List.getElem?_drop, List.append_nil, show 8 + (k - 8) = k by omega] at h
          exact h
        rw [List.getElem?_eq_getElem (by rw [wrap_length]; exact hk), List.getElem?_eq_getElem hk8, hx] at this
        exact (Option.some.inj this).symm
      have hq := le_inj 4 _ _ (ext_lt _) (ext_lt _) c4
      have hb8 := b.toNat_lt
      have hv : CrcMath.val (le 3 r.length ++ r.set (k - 8) (x ^^^ b)) = CrcMath.val (le 3 r.length ++ r) ^^^ 2 ^ (8 * (k - 5)) * b.toNat := by
        have hk5 : k - 5 < (le 3 r.length ++ r).length := by rw [List.length_append, le_length]; omega
        have := CrcMath.val_set (le 3 r.length ++ r) (k - 5) hk5 b
        rw [← this]
        congr 1
        have hg : (le 3 r.length ++ r)[k - 5] = x := by
          rw [List.getElem_append_right (by rw [le_length]; omega)]
          simp only [le_length, show k - 5 - 3 = k - 8 by omega]
          exact hx8
        rw [hg, List.set_append, if_neg (by rw [le_length]; omega), le_length, show k - 5 - 3 = k - 8 by omega]
      have hw := (CrcMath.ext_window 0 (le 3 r.length ++ r) (le 3 r.length ++ r.set (k - 8) (x ^^^ b)) (8 * (k - 5)) b.toNat (by simp) (by omega) (by rw [List.length_append, le_length]; omega) hv).1 hq.symm
      apply hb
      apply UInt8.toNat.inj
      rw [hw]; rfl
end FrameMath
