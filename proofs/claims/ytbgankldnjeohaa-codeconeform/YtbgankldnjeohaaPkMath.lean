/- The mathematics of package pack, without the program: the bytes of a number, of a text, of a list; what bytes are read as; there and back. -/
set_option maxRecDepth 100000
namespace PackMath
set_option linter.unusedVariables false

/-- The bytes of a number. -/
def num (n : Nat) : List UInt8 := if n < 128 then [UInt8.ofNat n] else UInt8.ofNat (n % 128 + 128) :: num (n / 128)
termination_by n
theorem num_lt (n : Nat) (h : n < 128) : num n = [UInt8.ofNat n] := by rw [num, if_pos h]
theorem num_ge (n : Nat) (h : ¬ n < 128) : num n = UInt8.ofNat (n % 128 + 128) :: num (n / 128) := by rw [num, if_neg h]
theorem num_pos (n : Nat) : 1 ≤ (num n).length := by
  by_cases h : n < 128
  · rw [num_lt n h]; simp
  · rw [num_ge n h]; simp
theorem num_len : ∀ (k n : Nat), n < 128 ^ k → 1 ≤ k → (num n).length ≤ k
  | 0, n, _, h => by omega
  | k + 1, n, hn, _ => by
    by_cases h : n < 128
    · rw [num_lt n h]; simp
    · rw [num_ge n h]
      rw [Nat.pow_succ] at hn
      have h1 : n / 128 < 128 ^ k := by omega
      have h2 : 1 ≤ k := by
        rcases Nat.eq_zero_or_pos k with h0 | h0
        · subst h0; simp at h1; omega
        · exact h0
      have := num_len k (n / 128) h1 h2
      simp; omega
theorem num_len8 (n : Nat) (h : n ≤ 1125899906842624) : (num n).length ≤ 8 := num_len 8 n (by omega) (by decide)

/-- What bytes are read as: number, how many bytes, error. -/
def go : Nat → Nat → Nat → List UInt8 → Nat × Nat × Nat
  | 0, _, _, _ => (0, 0, 32)
  | f + 1, k, acc, [] => (0, 0, 31)
  | f + 1, k, acc, b :: r =>
    if b.toNat < 128 then (if (b.toNat = 0 ∧ 0 < k) ∨ 1125899906842624 < acc + b.toNat % 128 * 128 ^ k then (0, 0, 32) else (acc + b.toNat % 128 * 128 ^ k, k + 1, 0))
    else go f (k + 1) (acc + b.toNat % 128 * 128 ^ k) r
theorem go_last (f k acc : Nat) (b : UInt8) (r : List UInt8) (h : b.toNat < 128) :
    go (f + 1) k acc (b :: r) = if (b.toNat = 0 ∧ 0 < k) ∨ 1125899906842624 < acc + b.toNat % 128 * 128 ^ k then (0, 0, 32) else (acc + b.toNat % 128 * 128 ^ k, k + 1, 0) := by rw [go, if_pos h]
theorem go_more (f k acc : Nat) (b : UInt8) (r : List UInt8) (h : ¬ b.toNat < 128) :
    go (f + 1) k acc (b :: r) = go f (k + 1) (acc + b.toNat % 128 * 128 ^ k) r := by rw [go, if_neg h]

/-- What was written is read, with whatever behind it. -/
theorem go_num : ∀ (f k acc n : Nat) (r : List UInt8), (num n).length ≤ f → (n = 0 → k = 0) → acc + n * 128 ^ k ≤ 1125899906842624 →
    go f k acc (num n ++ r) = (acc + n * 128 ^ k, k + (num n).length, 0)
  | 0, k, acc, n, r, hl, _, _ => by have := num_pos n; omega
  | f + 1, k, acc, n, r, hl, h0, hm => by
    by_cases h : n < 128
    · rw [num_lt n h] at hl ⊢
      have hb : (UInt8.ofNat n).toNat = n := by rw [UInt8.toNat_ofNat']; omega
      rw [List.cons_append, go_last _ _ _ _ _ (by omega), hb, Nat.mod_eq_of_lt h, if_neg (by rintro (⟨h1, h2⟩ | h1) <;> omega)]
      simp
    · rw [num_ge n h] at hl ⊢
      have hb : (UInt8.ofNat (n % 128 + 128)).toNat = n % 128 + 128 := by rw [UInt8.toNat_ofNat']; omega
      rw [List.cons_append, go_more _ _ _ _ _ (by omega), hb]
      have e1 : (n % 128 + 128) % 128 = n % 128 := by omega
      have e2 : acc + n % 128 * 128 ^ k + n / 128 * 128 ^ (k + 1) = acc + n * 128 ^ k := by
        rw [Nat.pow_succ, Nat.mul_comm (128 ^ k) 128, ← Nat.mul_assoc, Nat.add_assoc, ← Nat.add_mul]
        congr 2; omega
      rw [e1, go_num f (k + 1) _ (n / 128) r (by simp at hl; omega) (by omega) (by rw [e2]; exact hm), e2]
      simp; omega

/-- What is read, written again, are the bytes that were read. -/
theorem go_back : ∀ (f k acc : Nat) (l : List UInt8) (n c : Nat), acc < 128 ^ k → go f k acc l = (n, c, 0) →
    ∃ m, n = acc + m * 128 ^ k ∧ n ≤ 1125899906842624 ∧ c = k + (num m).length ∧ l.take (num m).length = num m ∧ (num m).length ≤ l.length ∧ (num m).length ≤ f ∧ (k = 0 ∨ m ≠ 0) ∧
      ∀ j, j < (num m).length → go f k acc (l.take j) = (0, 0, 31)
  | 0, k, acc, l, n, c, ha, h => by simp [go] at h
  | f + 1, k, acc, [], n, c, ha, h => by simp [go] at h
  | f + 1, k, acc, b :: r, n, c, ha, h => by
    by_cases hb : b.toNat < 128
    · rw [go_last _ _ _ _ _ hb] at h
      split at h
      · simp at h
      · rename_i hn
        simp only [Prod.mk.injEq, and_true] at h
        obtain ⟨h1, h2⟩ := h
        have e : num b.toNat = [b] := by rw [num_lt _ hb]; congr 1; simp
        refine ⟨b.toNat, by rw [← h1, Nat.mod_eq_of_lt hb], by omega, by rw [e]; simp; omega, by rw [e]; simp, by rw [e]; simp, by rw [e]; simp, by omega, ?_⟩
        intro j hj
        rw [e] at hj
        obtain rfl : j = 0 := by simp at hj; omega
        simp [go]
    · rw [go_more _ _ _ _ _ hb] at h
      have hp : 128 ^ (k + 1) = 128 ^ k * 128 := Nat.pow_succ ..
      have hq : 0 < 128 ^ k := Nat.pow_pos (by decide)
      have hacc : acc + b.toNat % 128 * 128 ^ k < 128 ^ (k + 1) := by
        have h1 : b.toNat % 128 ≤ 127 := by omega
        have h2 := Nat.mul_le_mul_right (128 ^ k) h1
        omega
      obtain ⟨m, e1, e2, e3, e4, e5, e6, e7, e8⟩ := go_back f (k + 1) _ r n c hacc h
      have hm : m ≠ 0 := by omega
      have hlt := b.toNat_lt
      have en : num (b.toNat % 128 + m * 128) = b :: num m := by
        rw [num_ge _ (by omega)]
        congr 1
        · have : (b.toNat % 128 + m * 128) % 128 + 128 = b.toNat := by omega
          rw [this]; simp
        · congr 1; omega
      refine ⟨b.toNat % 128 + m * 128, ?_, e2, ?_, ?_, ?_, ?_, by omega, ?_⟩
      · rw [e1, Nat.add_mul, Nat.mul_assoc, hp, Nat.mul_comm 128 (128 ^ k)]; omega
      · rw [en]; simp; omega
      · rw [en]; simp [e4]
      · rw [en]; simp; omega
      · rw [en]; simp; omega
      · intro j hj
        rw [en] at hj
        cases j with
        | zero => simp [go]
        | succ j =>
          rw [List.take_succ_cons, go_more _ _ _ _ _ hb]
          exact e8 j (by simp at hj; omega)

/-- TakeNum, TakeText, TakeList of bytes that begin at the place: what came out, how many bytes, error. -/
def tn (l : List UInt8) : Nat × Nat × Nat := go 8 0 0 l
def tt (l : List UInt8) : List UInt8 × Nat × Nat :=
  if (tn l).2.2 ≠ 0 then ([], 0, (tn l).2.2)
  else if 2000 < (tn l).1 then ([], 0, 32)
  else if l.length < (tn l).2.1 + (tn l).1 then ([], 0, 31)
  else ((l.drop (tn l).2.1).take (tn l).1, (tn l).2.1 + (tn l).1, 0)
/-- f texts more, behind c bytes. -/
def tls : Nat → List UInt8 → List (List UInt8) → Nat → List (List UInt8) × Nat × Nat
  | 0, l, acc, c => (acc, c, 0)
  | f + 1, l, acc, c =>
    if (tt (l.drop c)).2.2 ≠ 0 then ([], 0, (tt (l.drop c)).2.2)
    else tls f l (acc ++ [(tt (l.drop c)).1]) (c + (tt (l.drop c)).2.1)
def tl (l : List UInt8) : List (List UInt8) × Nat × Nat :=
  if (tn l).2.2 ≠ 0 then ([], 0, (tn l).2.2)
  else if 4000 < (tn l).1 then ([], 0, 32)
  else tls (tn l).1 l [] (tn l).2.1

theorem go_errs : ∀ (f k acc : Nat) (l : List UInt8), (go f k acc l).2.2 = 0 ∨ (go f k acc l).2.2 = 31 ∨ (go f k acc l).2.2 = 32
  | 0, k, acc, l => by simp [go]
  | f + 1, k, acc, [] => by simp [go]
  | f + 1, k, acc, b :: r => by
    by_cases hb : b.toNat < 128
    · rw [go_last _ _ _ _ _ hb]; split <;> simp
    · rw [go_more _ _ _ _ _ hb]; exact go_errs ..
theorem tn_ok {l : List UInt8} {n c : Nat} (h : tn l = (n, c, 0)) : n ≤ 1125899906842624 ∧ c = (num n).length ∧ l.take c = num n ∧ c ≤ l.length ∧ 1 ≤ c ∧ c ≤ 8 ∧ ∀ j, j < c → tn (l.take j) = (0, 0, 31) := by
  obtain ⟨m, e1, e2, e3, e4, e5, e6, e7, e8⟩ := go_back 8 0 0 l n c (by decide) h
  obtain rfl : n = m := by omega
  have hc : c = (num n).length := by omega
  have := num_pos n
  rw [← hc] at e4 e5 e6 e8
  exact ⟨e2, hc, e4, e5, by omega, e6, e8⟩
theorem tn_num (n : Nat) (h : n ≤ 1125899906842624) (r : List UInt8) : tn (num n ++ r) = (n, (num n).length, 0) := by
  have := go_num 8 0 0 n r (num_len8 n h) (fun _ => rfl) (by omega)
  simpa [tn] using this

/-- The bytes of a text, of a list's texts, of a list. -/
def txt (s : List UInt8) : List UInt8 := num s.length ++ s
def txts (l : List (List UInt8)) : List UInt8 := l.flatMap txt
def lst (l : List (List UInt8)) : List UInt8 := num l.length ++ txts l

theorem tt_txt (s r : List UInt8) (h : s.length ≤ 2000) : tt (txt s ++ r) = (s, (txt s).length, 0) := by
  unfold tt txt
  rw [List.append_assoc, tn_num _ (by omega)]
  simp only [ne_eq, not_true_eq_false, if_false]
  rw [if_neg (by omega), if_neg (by simp)]
  simp
theorem tls_txts : ∀ (xs acc : List (List UInt8)) (a r : List UInt8), (∀ s ∈ xs, s.length ≤ 2000) →
    tls xs.length (a ++ txts xs ++ r) acc a.length = (acc ++ xs, a.length + (txts xs).length, 0)
  | [], acc, a, r, _ => by simp [tls, txts]
  | x :: xs, acc, a, r, h => by
    have hx := h x (List.mem_cons_self ..)
    have e : txts (x :: xs) = txt x ++ txts xs := rfl
    rw [List.length_cons, tls]
    have ed : (a ++ txts (x :: xs) ++ r).drop a.length = txt x ++ (txts xs ++ r) := by rw [e]; simp
    rw [ed, tt_txt x _ hx]
    simp only [ne_eq, not_true_eq_false, if_false]
    have ih := tls_txts xs (acc ++ [x]) (a ++ txt x) r (fun s hs => h s (List.mem_cons_of_mem _ hs))
    rw [e]
    have e2 : a ++ (txt x ++ txts xs) ++ r = a ++ txt x ++ txts xs ++ r := by simp
    rw [e2, ← List.length_append, ih]
    simp
    omega
theorem tl_lst (xs : List (List UInt8)) (r : List UInt8) (h : xs.length ≤ 4000) (hs : ∀ s ∈ xs, s.length ≤ 2000) : tl (lst xs ++ r) = (xs, (lst xs).length, 0) := by
  unfold tl lst
  rw [List.append_assoc, tn_num _ (by omega)]
  simp only [ne_eq, not_true_eq_false, if_false]
  rw [if_neg (by omega)]
  have := tls_txts xs [] (num xs.length) r hs
  rw [List.append_assoc] at this
  rw [this]; simp

theorem tt_ok {l s : List UInt8} {c : Nat} (h : tt l = (s, c, 0)) : s.length ≤ 2000 ∧ c = (txt s).length ∧ l.take c = txt s ∧ c ≤ l.length ∧ ∀ j, j < c → tt (l.take j) = ([], 0, 31) := by
  unfold tt at h
  split at h
  · rename_i h0; simp at h; exact absurd h.2.2 h0
  · rename_i h0
    split at h
    · simp at h
    · split at h
      · simp at h
      · rename_i h1 h2
        simp only [Prod.mk.injEq, and_true] at h
        obtain ⟨h3, h4⟩ := h
        have h0' : (tn l).2.2 = 0 := by simpa using h0
        obtain ⟨e1, e2, e3, e4, e5, e6, e7⟩ := tn_ok (l := l) (n := (tn l).1) (c := (tn l).2.1) (by rw [← h0'])
        generalize (tn l).1 = n at *
        generalize (tn l).2.1 = k at *
        have hs : s.length = n := by rw [← h3]; simp; omega
        have ht : txt s = l.take c := by
          unfold txt
          rw [hs, ← e3, ← h3, ← h4, List.take_add]
        have hc : c = (txt s).length := by rw [ht]; simp; omega
        refine ⟨by omega, hc, ht.symm, by omega, ?_⟩
        intro j hj
        unfold tt
        by_cases hjk : j < k
        · rw [e7 j hjk]; simp
        · have : tn (l.take j) = (n, k, 0) := by
            have hp : l.take j = num n ++ (l.take j).drop k := by
              rw [← e3]
              have := List.take_append_drop k (l.take j)
              rw [List.take_take, Nat.min_eq_left (by omega)] at this
              exact this.symm
            rw [hp, tn_num n e1, ← e2]
          rw [this]
          simp only [ne_eq, not_true_eq_false, if_false]
          rw [if_neg (by omega), if_pos (by simp; omega)]

theorem tls_ok : ∀ (f : Nat) (l : List UInt8) (acc : List (List UInt8)) (c : Nat) (xs : List (List UInt8)) (d : Nat), c ≤ l.length → tls f l acc c = (xs, d, 0) →
    ∃ ys, xs = acc ++ ys ∧ ys.length = f ∧ (∀ s ∈ ys, s.length ≤ 2000) ∧ d = c + (txts ys).length ∧ (l.drop c).take (txts ys).length = txts ys ∧ d ≤ l.length ∧
      ∀ j, c ≤ j → j < d → tls f (l.take j) acc c = ([], 0, 31)
  | 0, l, acc, c, xs, d, hc, h => by
    simp only [tls, Prod.mk.injEq, and_true] at h
    obtain ⟨rfl, rfl⟩ := h
    exact ⟨[], by simp, rfl, by simp, by simp [txts], by simp [txts], hc, fun j h1 h2 => by omega⟩
  | f + 1, l, acc, c, xs, d, hc, h => by
    rw [tls] at h
    split at h
    · rename_i h0; simp at h; exact absurd h.2.2 h0
    · rename_i h0
      have h0' : (tt (l.drop c)).2.2 = 0 := by simpa using h0
      obtain ⟨a1, a2, a3, a4, a5⟩ := tt_ok (l := l.drop c) (s := (tt (l.drop c)).1) (c := (tt (l.drop c)).2.1) (by rw [← h0'])
      generalize (tt (l.drop c)).1 = s at *
      generalize (tt (l.drop c)).2.1 = k at *
      rw [List.length_drop] at a4
      obtain ⟨ys, b1, b2, b3, b4, b5, b6, b7⟩ := tls_ok f l (acc ++ [s]) (c + k) xs d (by omega) h
      have e : txts (s :: ys) = txt s ++ txts ys := rfl
      have el : (txts (s :: ys)).length = k + (txts ys).length := by rw [e, List.length_append]; omega
      refine ⟨s :: ys, by rw [b1]; simp, by simp; omega, ?_, by omega, ?_, b6, ?_⟩
      · intro x hx
        rcases List.mem_cons.1 hx with rfl | hx
        · exact a1
        · exact b3 x hx
      · rw [el, List.take_add, a3, List.drop_drop, b5, e]
      · intro j h1 h2
        rw [tls]
        by_cases hj : j < c + k
        · have : (l.take j).drop c = (l.drop c).take (j - c) := by rw [List.drop_take]
          rw [this, a5 (j - c) (by omega)]
          simp
        · have hd : (l.take j).drop c = (l.drop c).take (j - c) := by rw [List.drop_take]
          have ht : tt ((l.take j).drop c) = (s, k, 0) := by
            have hp : (l.take j).drop c = txt s ++ ((l.take j).drop c).drop k := by
              rw [← a3]
              have := List.take_append_drop k ((l.take j).drop c)
              have e2 : ((l.take j).drop c).take k = (l.drop c).take k := by rw [hd, List.take_take, Nat.min_eq_left (by omega)]
              rw [e2] at this
              exact this.symm
            rw [hp, tt_txt s _ a1, ← a2]
          rw [ht]
          simp only [ne_eq, not_true_eq_false, if_false]
          exact b7 j (by omega) h2

theorem tl_ok {l : List UInt8} {xs : List (List UInt8)} {c : Nat} (h : tl l = (xs, c, 0)) : xs.length ≤ 4000 ∧ (∀ s ∈ xs, s.length ≤ 2000) ∧ c = (lst xs).length ∧ l.take c = lst xs ∧ c ≤ l.length ∧ 1 ≤ c ∧
    ∀ j, j < c → tl (l.take j) = ([], 0, 31) := by
  unfold tl at h
  split at h
  · rename_i h0; simp at h; exact absurd h.2.2 h0
  · rename_i h0
    split at h
    · simp at h
    · rename_i h1
      have h0' : (tn l).2.2 = 0 := by simpa using h0
      obtain ⟨e1, e2, e3, e4, e5, e6, e7⟩ := tn_ok (l := l) (n := (tn l).1) (c := (tn l).2.1) (by rw [← h0'])
      generalize (tn l).1 = n at *
      generalize (tn l).2.1 = k at *
      obtain ⟨ys, b1, b2, b3, b4, b5, b6, b7⟩ := tls_ok n l [] k xs c e4 h
      obtain rfl : xs = ys := by simpa using b1
      have el : (lst xs).length = k + (txts xs).length := by unfold lst; rw [List.length_append, b2]; omega
      refine ⟨by omega, b3, by omega, ?_, b6, by omega, ?_⟩
      · rw [b4, List.take_add, e3, b5]; unfold lst; rw [b2]
      · intro j hj
        unfold tl
        by_cases hjk : j < k
        · rw [e7 j hjk]; simp
        · have : tn (l.take j) = (n, k, 0) := by
            have hp : l.take j = num n ++ (l.take j).drop k := by
              rw [← e3]
              have := List.take_append_drop k (l.take j)
              rw [List.take_take, Nat.min_eq_left (by omega)] at this
              exact this.symm
            rw [hp, tn_num n e1, ← e2]
          rw [this]
          simp only [ne_eq, not_true_eq_false, if_false]
          rw [if_neg (by omega)]
          exact b7 j (by omega) hj
theorem tls_err : ∀ (f : Nat) (l : List UInt8) (acc : List (List UInt8)) (c : Nat) (xs : List (List UInt8)) (d e : Nat), tls f l acc c = (xs, d, e) → e ≠ 0 → xs = []
  | 0, l, acc, c, xs, d, e, h, he => by simp [tls] at h; omega
  | f + 1, l, acc, c, xs, d, e, h, he => by
    rw [tls] at h
    split at h
    · simp at h; exact h.1
    · exact tls_err f _ _ _ _ _ _ h he
theorem tl_err {l : List UInt8} {xs : List (List UInt8)} {c e : Nat} (h : tl l = (xs, c, e)) (he : e ≠ 0) : xs = [] := by
  unfold tl at h
  split at h
  · simp at h; exact h.1
  · split at h
    · simp at h; exact h.1
    · exact tls_err _ _ _ _ _ _ _ h he
end PackMath
