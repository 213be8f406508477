/- What follows (P1.6), over the runes of texts: the order; folding; words. -/
import Derived.Test.YthdloddcljbjhaaDoorNmMathB
set_option linter.unusedVariables false
set_option linter.unusedSimpArgs false
set_option maxRecDepth 100000
namespace NameMath

/-! ### The order -/
theorem cmp_range : ∀ a b, cmp a b = -1 ∨ cmp a b = 0 ∨ cmp a b = 1
  | [], [] => .inr (.inl rfl)
  | [], _ :: _ => .inl rfl
  | _ :: _, [] => .inr (.inr rfl)
  | x :: a, y :: b => by
    unfold cmp
    have := cmp_range a b
    repeat' split
    · exact .inl rfl
    · exact .inr (.inr rfl)
    · exact this
theorem cmp_neg : ∀ a b, cmp b a = -cmp a b
  | [], [] => rfl
  | [], _ :: _ => rfl
  | _ :: _, [] => rfl
  | x :: a, y :: b => by
    unfold cmp
    rw [cmp_neg a b]
    by_cases h1 : x < y
    · rw [if_pos h1, if_neg (by omega), if_pos h1]; rfl
    · by_cases h2 : y < x
      · rw [if_pos h2, if_neg h1, if_pos h2]
      · rw [if_neg h1, if_neg h2, if_neg h2, if_neg h1]
theorem cmp_zero : ∀ a b, cmp a b = 0 ↔ a = b
  | [], [] => by simp [cmp]
  | [], _ :: _ => by simp [cmp]
  | _ :: _, [] => by simp [cmp]
  | x :: a, y :: b => by
    unfold cmp
    have := cmp_zero a b
    by_cases h1 : x < y
    · rw [if_pos h1]; constructor
      · intro h; cases h
      · intro h; simp at h; omega
    · by_cases h2 : y < x
      · rw [if_neg h1, if_pos h2]; constructor
        · intro h; cases h
        · intro h; simp at h; omega
      · have : x = y := by omega
        subst this
        simp [this]
theorem cmp_trans : ∀ a b c, cmp a b = -1 → cmp b c = -1 → cmp a c = -1
  | [], [], _, h, _ => by simp [cmp] at h
  | _ :: _, [], _, h, _ => by simp [cmp] at h
  | _, _ :: _, [], _, h => by simp [cmp] at h
  | [], _ :: _, _ :: _, _, _ => rfl
  | x :: a, y :: b, z :: c, h1, h2 => by
    unfold cmp at h1 h2 ⊢
    have ih := cmp_trans a b c
    by_cases a1 : x < y
    · by_cases b1 : y < z
      · rw [if_pos (by omega)]
      · rw [if_neg b1] at h2
        by_cases b2 : z < y
        · rw [if_pos b2] at h2; cases h2
        · rw [if_pos (by omega)]
    · rw [if_neg a1] at h1
      by_cases a2 : y < x
      · rw [if_pos a2] at h1; cases h1
      · rw [if_neg a2] at h1
        by_cases b1 : y < z
        · rw [if_pos (by omega)]
        · rw [if_neg b1] at h2
          by_cases b2 : z < y
          · rw [if_pos b2] at h2; cases h2
          · rw [if_neg b2] at h2
            rw [if_neg (by omega), if_neg (by omega)]
            exact ih h1 h2

/-! ### A rune below 2048 has one form -/
theorem dec_form (l : List UInt8) (h : l ≠ []) (r k : Nat) (hd : dec l = (r, k)) (hr : r < 2048) : l.take k = enc r := by
  have h0 := byt_lt l 0
  have h1 := byt_lt l 1
  have hl : 0 < l.length := List.length_pos_iff.2 h
  unfold dec d4 at hd
  repeat' split at hd
  all_goals simp only [Prod.mk.injEq] at hd
  all_goals obtain ⟨hd1, hd2⟩ := hd
  · subst hd2
    unfold enc
    rw [if_pos (by omega)]
    cases l with
    | nil => exact absurd rfl h
    | cons b l' =>
      have e0 : b.toNat = byt (b :: l') 0 := rfl
      show [b] = [UInt8.ofNat r]
      rw [← hd1, ← e0, UInt8.ofNat_toNat]
  · rename_i q
    subst hd2
    have hl2 := byt_len l 1 q.2.1
    unfold enc
    rw [if_neg (by omega)]
    cases l with
    | nil => exact absurd rfl h
    | cons b l' =>
      cases l' with
      | nil => simp at hl2
      | cons c l'' =>
        have e0 : b.toNat = byt (b :: c :: l'') 0 := rfl
        have e1 : c.toNat = byt (b :: c :: l'') 1 := rfl
        show [b, c] = [UInt8.ofNat (192 + r / 64), UInt8.ofNat (128 + r % 64)]
        have f0 : 192 + r / 64 = b.toNat := by omega
        have f1 : 128 + r % 64 = c.toNat := by omega
        rw [f0, f1, UInt8.ofNat_toNat, UInt8.ofNat_toNat]
  · omega
  · omega
  · omega
/-- All runes of a name are below 2048. -/
theorem isGo_runes : ∀ (l : List Nat) (n : Nat), isGo l n = true → ∀ r ∈ l, small r = true ∨ dig r = true
  | [], _, _ => by simp
  | x :: l, n, h => by
    unfold isGo at h
    by_cases hb : small x = false ∧ (n = 0 ∨ dig x = false)
    · rw [if_pos hb] at h; cases h
    · rw [if_neg hb] at h
      split at h
      · cases h
      · intro r hr
        rcases List.mem_cons.1 hr with rfl | hr
        · cases h1 : small r with
          | true => exact .inl rfl
          | false =>
            cases h2 : dig r with
            | true => exact .inr rfl
            | false => exact absurd ⟨h1, .inr h2⟩ hb
        · exact isGo_runes l (n + 1) h r hr
theorem name_rune (r : Nat) (h : small r = true ∨ dig r = true) : r < 2048 ∧ great r = false := by
  have : ((97 ≤ r ∧ r ≤ 122) ∨ r = 228 ∨ r = 246 ∨ r = 252 ∨ r = 223 ∨ (945 ≤ r ∧ r ≤ 969)) ∨ ((48 ≤ r ∧ r ≤ 57) ∨ r = 45) := by simpa [small, dig] using h
  exact ⟨by omega, by simp [great]; omega⟩
/-- Texts whose runes are below 2048, and the same, are the same. -/
theorem same_of_runes : ∀ (a b : List UInt8), (∀ r ∈ runes a, r < 2048) → runes a = runes b → a = b := by
  apply byRunes (P := fun a => ∀ b, (∀ r ∈ runes a, r < 2048) → runes a = runes b → a = b)
  · intro b _ h
    by_cases hb : b = []
    · exact hb.symm
    · rw [runes_cons b hb] at h; simp [runes_nil] at h
  · intro a ha ih b hr h
    by_cases hb : b = []
    · subst hb; rw [runes_cons a ha] at h; simp [runes_nil] at h
    · rw [runes_cons a ha, runes_cons b hb] at h
      simp only [List.cons.injEq] at h
      rw [runes_cons a ha] at hr
      have hx : (dec a).1 < 2048 := hr _ (List.mem_cons_self ..)
      have e1 := dec_form a ha (dec a).1 (dec a).2 rfl hx
      have e2 := dec_form b hb (dec b).1 (dec b).2 rfl (by rw [← h.1]; exact hx)
      have e3 := ih (b.drop (dec b).2) (fun r hr' => hr r (List.mem_cons_of_mem _ hr')) h.2
      rw [← List.take_append_drop (dec a).2 a, ← List.take_append_drop (dec b).2 b, e1, e2, e3, h.1]

/-! ### Folding -/
theorem fold_of_low : ∀ (l : List UInt8), (∀ r ∈ runes l, low r = r) → fold l = l := by
  apply byRunes
  · intro _; rfl
  · intro l h ih hr
    rw [runes_cons l h] at hr
    rw [fold_cons l h, ih (fun r hr' => hr r (List.mem_cons_of_mem _ hr')), fold1, if_pos (hr _ (List.mem_cons_self ..)), List.take_append_drop]
theorem low_low (r : Nat) : low (low r) = low r := by
  unfold low
  by_cases h : great r = true
  · rw [if_pos h]
    have hr : (65 ≤ r ∧ r ≤ 90) ∨ r = 196 ∨ r = 214 ∨ r = 220 ∨ (913 ≤ r ∧ r ≤ 937 ∧ r ≠ 930) := by simpa [great] using h
    have : great (r + 32) = false := by simp [great]; omega
    rw [this]; rfl
  · rw [if_neg h, if_neg h]
end NameMath
