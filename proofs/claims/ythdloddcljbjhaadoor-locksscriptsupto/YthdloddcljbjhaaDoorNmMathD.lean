/- How texts that are put together, cut or folded come apart into runes; words (P1.6). -/
import Derived.Test.YthdloddcljbjhaaDoorNmMathC
set_option linter.unusedVariables false
set_option linter.unusedSimpArgs false
set_option maxRecDepth 100000
namespace NameMath

/-- A byte that goes on with a rune. -/
def cont (b : UInt8) : Bool := decide (b.toNat / 64 = 2)
def cp (l : List UInt8) : List UInt8 := l.takeWhile cont
theorem cp_nil : cp [] = [] := rfl
theorem cp_cons (b : UInt8) (l : List UInt8) : cp (b :: l) = if b.toNat / 64 = 2 then b :: cp l else [] := by
  unfold cp
  by_cases h : b.toNat / 64 = 2 <;> simp [List.takeWhile_cons, cont, h]
theorem cp_step (l m : List UInt8) (h : cp l = cp m) (hc : byt l 0 / 64 = 2 ∨ byt m 0 / 64 = 2) : byt l 0 = byt m 0 ∧ cp l.tail = cp m.tail := by
  cases l with
  | nil =>
    cases m with
    | nil => exact ⟨rfl, rfl⟩
    | cons c m =>
      have e : byt (c :: m) 0 = c.toNat := rfl
      have e0 : byt [] 0 = 0 := rfl
      rw [e, e0] at hc
      rw [cp_cons, if_pos (by omega)] at h
      cases h
  | cons b l =>
    have e1 : byt (b :: l) 0 = b.toNat := rfl
    cases m with
    | nil =>
      have e0 : byt [] 0 = 0 := rfl
      rw [e1, e0] at hc
      rw [cp_cons, if_pos (by omega)] at h
      cases h
    | cons c m =>
      have e2 : byt (c :: m) 0 = c.toNat := rfl
      rw [e1, e2] at hc ⊢
      rw [cp_cons, cp_cons] at h
      by_cases hb : b.toNat / 64 = 2
      · rw [if_pos hb] at h
        by_cases hc' : c.toNat / 64 = 2
        · rw [if_pos hc'] at h
          simp only [List.cons.injEq] at h
          exact ⟨by rw [h.1], h.2⟩
        · rw [if_neg hc'] at h; cases h
      · rw [if_neg hb] at h
        rw [if_pos (by omega)] at h
        cases h
theorem d4_same (b0 b1 b2 b3 c1 c2 c3 : Nat) (h1 : b1 / 64 = 2 ∨ c1 / 64 = 2 → b1 = c1) (h2 : b1 / 64 = 2 → b2 / 64 = 2 ∨ c2 / 64 = 2 → b2 = c2)
    (h3 : b1 / 64 = 2 → b2 / 64 = 2 → b3 / 64 = 2 ∨ c3 / 64 = 2 → b3 = c3) : d4 b0 b1 b2 b3 = d4 b0 c1 c2 c3 := by
  by_cases k1 : b1 / 64 = 2
  · obtain rfl := h1 (.inl k1)
    by_cases k2 : b2 / 64 = 2
    · obtain rfl := h2 k1 (.inl k2)
      by_cases k3 : b3 / 64 = 2
      · obtain rfl := h3 k1 k2 (.inl k3); rfl
      · have : ¬ c3 / 64 = 2 := fun h => k3 (by rw [h3 k1 k2 (.inr h)]; exact h)
        unfold d4
        simp [k3, this]
    · have : ¬ c2 / 64 = 2 := fun h => k2 (by rw [h2 k1 (.inr h)]; exact h)
      unfold d4
      simp [k2, this]
  · have : ¬ c1 / 64 = 2 := fun h => k1 (by rw [h1 (.inr h)]; exact h)
    unfold d4
    simp [k1, this]
theorem byt_succ (b : UInt8) (l : List UInt8) (k : Nat) : byt (b :: l) (k + 1) = byt l k := rfl
theorem byt_tail (l : List UInt8) (k : Nat) : byt l.tail k = byt l (k + 1) := by
  cases l with
  | nil => rfl
  | cons b l => rfl
theorem dec_same (b : UInt8) (l m : List UInt8) (h : cp l = cp m) : dec (b :: l) = dec (b :: m) := by
  unfold dec
  refine d4_same _ _ _ _ _ _ _ ?_ ?_ ?_
  · intro hc; exact (cp_step l m h hc).1
  · intro k1 hc
    have s1 := cp_step l m h (.inl k1)
    have := cp_step l.tail m.tail s1.2 (by rw [byt_tail, byt_tail]; exact hc)
    rw [byt_tail, byt_tail] at this
    exact this.1
  · intro k1 k2 hc
    have s1 := cp_step l m h (.inl k1)
    have s2 := cp_step l.tail m.tail s1.2 (.inl (by rw [byt_tail]; exact k2))
    have := cp_step l.tail.tail m.tail.tail s2.2 (by rw [byt_tail, byt_tail, byt_tail, byt_tail]; exact hc)
    rw [byt_tail, byt_tail, byt_tail, byt_tail] at this
    exact this.1
theorem cp_append (t x y : List UInt8) (h : cp x = cp y) : cp (t ++ x) = cp (t ++ y) := by
  induction t with
  | nil => exact h
  | cons b t ih => rw [List.cons_append, List.cons_append, cp_cons, cp_cons, ih]
/-- A byte that goes on with none is a rune by itself. -/
theorem dec_cont (b : UInt8) (l : List UInt8) (h : b.toNat / 64 = 2) : dec (b :: l) = (65533, 1) := by
  unfold dec d4
  have e : byt (b :: l) 0 = b.toNat := rfl
  rw [e, if_neg (by omega), if_neg (by omega), if_neg (by omega), if_neg (by omega)]
theorem enc_head (x : Nat) (h : x < 2048) : ∃ b t, enc x = b :: t ∧ ¬ b.toNat / 64 = 2 := by
  unfold enc
  by_cases hx : x < 128
  · rw [if_pos hx]
    refine ⟨_, _, rfl, ?_⟩
    rw [UInt8.toNat_ofNat_of_lt' (by show _ < 256; omega)]
    omega
  · rw [if_neg hx]
    refine ⟨_, _, rfl, ?_⟩
    rw [UInt8.toNat_ofNat_of_lt' (by show _ < 256; omega)]
    omega
theorem dec_enc (x : Nat) (m : List UInt8) (h : x < 2048) : dec (enc x ++ m) = (x, (enc x).length) := by
  unfold enc
  by_cases hx : x < 128
  · rw [if_pos hx]
    unfold dec d4
    have e : byt ([UInt8.ofNat x] ++ m) 0 = x := by
      show (UInt8.ofNat x).toNat = x
      exact UInt8.toNat_ofNat_of_lt' (by show _ < 256; omega)
    rw [e, if_pos hx]
    rfl
  · rw [if_neg hx]
    unfold dec d4
    have e0 : byt ([UInt8.ofNat (192 + x / 64), UInt8.ofNat (128 + x % 64)] ++ m) 0 = 192 + x / 64 := UInt8.toNat_ofNat_of_lt' (by show _ < 256; omega)
    have e1 : byt ([UInt8.ofNat (192 + x / 64), UInt8.ofNat (128 + x % 64)] ++ m) 1 = 128 + x % 64 := UInt8.toNat_ofNat_of_lt' (by show _ < 256; omega)
    rw [e0, e1, if_neg (by omega), if_pos (by omega)]
    simp
    omega
theorem great_bound (r : Nat) (h : ¬ low r = r) : low r < 2048 := by
  unfold low at *
  by_cases hg : great r = true
  · rw [if_pos hg]
    have hr : (65 ≤ r ∧ r ≤ 90) ∨ r = 196 ∨ r = 214 ∨ r = 220 ∨ (913 ≤ r ∧ r ≤ 937 ∧ r ≠ 930) := by simpa [great] using hg
    omega
  · rw [if_neg hg] at h; exact absurd rfl h
theorem cp_fold : ∀ l, cp (fold l) = cp l := by
  apply byRunes
  · rfl
  · intro l h ih
    rw [fold_cons l h]
    cases l with
    | nil => exact absurd rfl h
    | cons b l' =>
      by_cases hb : b.toNat / 64 = 2
      · have hd := dec_cont b l' hb
        rw [hd] at ih ⊢
        have : fold1 (65533, (b :: l').take 1) = [b] := by
          unfold fold1
          rw [if_pos (show low 65533 = 65533 by decide)]
          rfl
        rw [this]
        show cp (b :: fold l') = cp (b :: l')
        rw [cp_cons, cp_cons]
        have ih' : cp (fold l') = cp l' := ih
        rw [ih']
      · rw [cp_cons b l', if_neg hb]
        have hp := dec_pos (b :: l')
        unfold fold1
        by_cases hl : low (dec (b :: l')).1 = (dec (b :: l')).1
        · rw [if_pos hl]
          obtain ⟨n, hn⟩ : ∃ n, (dec (b :: l')).2 = n + 1 := ⟨(dec (b :: l')).2 - 1, by omega⟩
          rw [hn]
          show cp (b :: (l'.take n ++ _)) = []
          rw [cp_cons, if_neg hb]
        · rw [if_neg hl]
          obtain ⟨c, t, e, hc⟩ := enc_head _ (great_bound _ hl)
          rw [e]
          show cp (c :: (t ++ _)) = []
          rw [cp_cons, if_neg hc]
/-- A folded text comes apart as the text does. -/
theorem cut_fold : ∀ l, cut (fold l) = (cut l).map fun p => (low p.1, fold1 p) := by
  apply byRunes
  · rfl
  · intro l h ih
    have hkey : dec (fold l) = (low (dec l).1, (fold1 ((dec l).1, l.take (dec l).2)).length) := by
      rw [fold_cons l h]
      by_cases hl : low (dec l).1 = (dec l).1
      · have hf : fold1 ((dec l).1, l.take (dec l).2) = l.take (dec l).2 := by unfold fold1; rw [if_pos hl]
        rw [hf, hl]
        have hle := dec_le l h
        have hlen : (l.take (dec l).2).length = (dec l).2 := by rw [List.length_take]; omega
        rw [hlen]
        cases l with
        | nil => exact absurd rfl h
        | cons b l' =>
          have hp := dec_pos (b :: l')
          obtain ⟨n, hn⟩ : ∃ n, (dec (b :: l')).2 = n + 1 := ⟨(dec (b :: l')).2 - 1, by omega⟩
          rw [hn]
          show dec (b :: (l'.take n ++ fold (l'.drop n))) = ((dec (b :: l')).1, n + 1)
          have hc : cp (l'.take n ++ fold (l'.drop n)) = cp l' := by
            rw [cp_append _ _ (l'.drop n) (cp_fold _), List.take_append_drop]
          rw [dec_same b _ l' hc, ← hn]
      · have hf : fold1 ((dec l).1, l.take (dec l).2) = enc (low (dec l).1) := by unfold fold1; rw [if_neg hl]
        rw [hf]
        exact dec_enc _ _ (great_bound _ hl)
    have hne : fold l ≠ [] := by
      intro e
      rw [e] at hkey
      have : dec [] = (0, 1) := rfl
      rw [this] at hkey
      simp only [Prod.mk.injEq] at hkey
      have hlen := congrArg List.length e
      rw [fold_cons l h, List.length_append, ← hkey.2] at hlen
      simp at hlen
    rw [cut_cons (fold l) hne, hkey, cut_cons l h]
    show (low (dec l).1, (fold l).take _) :: cut ((fold l).drop _) = (low (dec l).1, fold1 ((dec l).1, l.take (dec l).2)) :: (cut (l.drop (dec l).2)).map _
    rw [← ih, fold_cons l h, List.take_left, List.drop_left]
theorem fold1_low (p : Nat × List UInt8) : fold1 (low p.1, fold1 p) = fold1 p := by
  show (if low (low p.1) = low p.1 then fold1 p else enc (low (low p.1))) = fold1 p
  rw [if_pos (low_low p.1)]
/-- P1.6: folded twice. -/
theorem fold_fold (l : List UInt8) : fold (fold l) = fold l := by
  show ((cut (fold l)).map fold1).flatten = ((cut l).map fold1).flatten
  rw [cut_fold, List.map_map]
  congr 1
  apply List.map_congr_left
  intro p _
  exact fold1_low p
end NameMath
