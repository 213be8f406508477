/- Words of texts that are put together, rejoined and folded (P1.6). -/
import Derived.Test.YthdloddcljbjhaaDoorNmMathD
set_option linter.unusedVariables false
set_option linter.unusedSimpArgs false
set_option maxRecDepth 100000
namespace NameMath

theorem cut_append (m : List UInt8) (hm : cp m = []) : ∀ a, cut (a ++ m) = cut a ++ cut m := by
  apply byRunes
  · rfl
  · intro a h ih
    have hd : dec (a ++ m) = dec a := by
      cases a with
      | nil => exact absurd rfl h
      | cons b t =>
        have : cp (t ++ m) = cp t := by
          have := cp_append t m [] (by rw [hm]; rfl)
          rwa [List.append_nil] at this
        exact dec_same b _ _ this
    have hle := dec_le a h
    rw [cut_cons a h, cut_cons (a ++ m) (by simp [h]), hd, List.take_append_of_le_length hle, List.drop_append_of_le_length hle, ih]
    rfl
theorem cut_blank (b : List UInt8) : cut (32 :: b) = (32, [32]) :: cut b := by
  have hd : dec (32 :: b) = (32, 1) := rfl
  rw [cut_cons _ (by simp), hd]
  rfl
theorem wd_nil (acc : List UInt8) : wd [] acc = if acc = [] then [] else [acc] := rfl
theorem wd_cons (p : Nat × List UInt8) (ps : List (Nat × List UInt8)) (acc : List UInt8) : wd (p :: ps) acc = if blank p.1 then (if acc = [] then wd ps [] else acc :: wd ps []) else wd ps (acc ++ p.2) := rfl
theorem wd_append (c : List UInt8) (qs : List (Nat × List UInt8)) : ∀ (ps : List (Nat × List UInt8)) (acc : List UInt8), wd (ps ++ (32, c) :: qs) acc = wd ps acc ++ wd qs []
  | [], acc => by
    rw [List.nil_append, wd_cons, wd_nil, if_pos (show blank 32 = true by decide)]
    by_cases h : acc = []
    · rw [if_pos h, if_pos h]; rfl
    · rw [if_neg h, if_neg h]; rfl
  | p :: ps, acc => by
    rw [List.cons_append, wd_cons, wd_cons]
    by_cases hb : blank p.1 = true
    · rw [if_pos hb, if_pos hb, wd_append c qs ps []]
      by_cases h : acc = []
      · rw [if_pos h, if_pos h]
      · rw [if_neg h, if_neg h]; rfl
    · rw [if_neg hb, if_neg hb]
      exact wd_append c qs ps _
/-- P1.6: the words of two lines with a blank between. -/
theorem words_apart (a b : List UInt8) : words (a ++ 32 :: b) = words a ++ words b := by
  unfold words
  rw [cut_append (32 :: b) (by rw [cp_cons, if_neg (by decide)]) a, cut_blank]
  exact wd_append _ _ _ _

theorem d4_trunc (b0 b1 b2 b3 c1 c2 c3 n : Nat) (h1 : 1 < n → c1 = b1) (k1 : ¬ 1 < n → c1 = 0) (h2 : 2 < n → c2 = b2) (k2 : ¬ 2 < n → c2 = 0) (h3 : 3 < n → c3 = b3) (k3 : ¬ 3 < n → c3 = 0)
    (hw : (d4 b0 b1 b2 b3).2 ≤ n) : d4 b0 c1 c2 c3 = d4 b0 b1 b2 b3 := by
  unfold d4 at hw ⊢
  by_cases a0 : b0 < 128
  · rw [if_pos a0, if_pos a0]
  · rw [if_neg a0] at hw
    rw [if_neg a0, if_neg a0]
    by_cases a2 : b0 / 32 = 6 ∧ b1 / 64 = 2 ∧ 128 ≤ b0 % 32 * 64 + b1 % 64
    · rw [if_pos a2] at hw
      obtain rfl := h1 (by simp only at hw; omega)
      rw [if_pos a2, if_pos a2]
    · rw [if_neg a2] at hw
      have d2 : ¬ (b0 / 32 = 6 ∧ c1 / 64 = 2 ∧ 128 ≤ b0 % 32 * 64 + c1 % 64) := by
        by_cases n1 : 1 < n
        · rw [h1 n1]; exact a2
        · rw [k1 n1]; omega
      rw [if_neg a2, if_neg d2]
      by_cases a3 : b0 / 16 = 14 ∧ b1 / 64 = 2 ∧ b2 / 64 = 2 ∧ 2048 ≤ b0 % 16 * 4096 + b1 % 64 * 64 + b2 % 64 ∧ (b0 % 16 * 4096 + b1 % 64 * 64 + b2 % 64 < 55296 ∨ 57344 ≤ b0 % 16 * 4096 + b1 % 64 * 64 + b2 % 64)
      · rw [if_pos a3] at hw
        simp only at hw
        obtain rfl := h1 (by omega)
        obtain rfl := h2 (by omega)
        rw [if_pos a3, if_pos a3]
      · rw [if_neg a3] at hw
        have d3 : ¬ (b0 / 16 = 14 ∧ c1 / 64 = 2 ∧ c2 / 64 = 2 ∧ 2048 ≤ b0 % 16 * 4096 + c1 % 64 * 64 + c2 % 64 ∧ (b0 % 16 * 4096 + c1 % 64 * 64 + c2 % 64 < 55296 ∨ 57344 ≤ b0 % 16 * 4096 + c1 % 64 * 64 + c2 % 64)) := by
          by_cases n2 : 2 < n
          · rw [h1 (by omega), h2 n2]; exact a3
          · rw [k2 n2]; omega
        rw [if_neg a3, if_neg d3]
        by_cases a4 : b0 / 8 = 30 ∧ b1 / 64 = 2 ∧ b2 / 64 = 2 ∧ b3 / 64 = 2 ∧ 65536 ≤ b0 % 8 * 262144 + b1 % 64 * 4096 + b2 % 64 * 64 + b3 % 64 ∧ b0 % 8 * 262144 + b1 % 64 * 4096 + b2 % 64 * 64 + b3 % 64 ≤ 1114111
        · rw [if_pos a4] at hw
          simp only at hw
          obtain rfl := h1 (by omega)
          obtain rfl := h2 (by omega)
          obtain rfl := h3 (by omega)
          rfl
        · have d4 : ¬ (b0 / 8 = 30 ∧ c1 / 64 = 2 ∧ c2 / 64 = 2 ∧ c3 / 64 = 2 ∧ 65536 ≤ b0 % 8 * 262144 + c1 % 64 * 4096 + c2 % 64 * 64 + c3 % 64 ∧ b0 % 8 * 262144 + c1 % 64 * 4096 + c2 % 64 * 64 + c3 % 64 ≤ 1114111) := by
            by_cases n3 : 3 < n
            · rw [h1 (by omega), h2 (by omega), h3 n3]; exact a4
            · rw [k3 n3]; omega
          rw [if_neg a4, if_neg d4]
theorem byt_append (x m : List UInt8) (k : Nat) : (k < x.length → byt x k = byt (x ++ m) k) ∧ (¬ k < x.length → byt x k = 0) := by
  constructor
  · intro h; simp [byt, List.getD, List.getElem?_append_left h]
  · intro h; simp [byt, List.getD, List.getElem?_eq_none (Nat.le_of_not_lt h)]
theorem dec_trunc (x m : List UInt8) (hx : x ≠ []) (hw : (dec (x ++ m)).2 ≤ x.length) : dec x = dec (x ++ m) := by
  have hl : 0 < x.length := List.length_pos_iff.2 hx
  unfold dec at hw ⊢
  rw [(byt_append x m 0).1 hl]
  exact d4_trunc _ _ _ _ _ _ _ x.length (byt_append x m 1).1 (byt_append x m 1).2 (byt_append x m 2).1 (byt_append x m 2).2 (byt_append x m 3).1 (byt_append x m 3).2 hw
theorem flat_append (ps qs : List (Nat × List UInt8)) : flat (ps ++ qs) = flat ps ++ flat qs := by simp [flat]
theorem flat_cons (p : Nat × List UInt8) (ps : List (Nat × List UInt8)) : flat (p :: ps) = p.2 ++ flat ps := rfl
theorem cut_prefix : ∀ (ps qs : List (Nat × List UInt8)) (l : List UInt8), cut l = ps ++ qs → cut (flat ps) = ps
  | [], _, _, _ => rfl
  | p :: ps, qs, l, h => by
    have hne : l ≠ [] := by intro e; subst e; cases h
    have hl := flat_cut l
    rw [h] at hl
    rw [cut_cons l hne] at h
    simp only [List.cons_append, List.cons.injEq] at h
    obtain ⟨hp, hr⟩ := h
    have ih := cut_prefix ps qs _ hr
    have hle := dec_le l hne
    have hpos := dec_pos l
    have hc : p.2.length = (dec l).2 := by rw [← hp]; simp; omega
    have hlx : l = (p.2 ++ flat ps) ++ flat qs := by rw [← hl, List.cons_append, flat_cons, flat_append, List.append_assoc]
    have hx : p.2 ++ flat ps ≠ [] := by
      intro e
      have := congrArg List.length e
      simp at this
      have e2 := congrArg List.length this.1
      rw [hc] at e2
      simp at e2
      omega
    have hd : dec (p.2 ++ flat ps) = dec l := by
      have := dec_trunc (p.2 ++ flat ps) (flat qs) hx (by rw [← hlx, List.length_append]; omega)
      rw [this, ← hlx]
    rw [flat_cons, cut_cons _ hx, hd, ← hc, List.take_left, List.drop_left, ih]
    congr 1
    rw [← hp]
theorem cut_suffix : ∀ (ps qs : List (Nat × List UInt8)) (l : List UInt8), cut l = ps ++ qs → cut (flat qs) = qs
  | [], qs, l, h => by
    have e : qs = cut l := h.symm
    rw [e, flat_cut]
  | p :: ps, qs, l, h => by
    have hne : l ≠ [] := by intro e; subst e; cases h
    rw [cut_cons l hne] at h
    simp only [List.cons_append, List.cons.injEq] at h
    exact cut_suffix ps qs _ h.2

theorem wd_plain : ∀ (us : List (Nat × List UInt8)) (acc : List UInt8), (∀ p ∈ us, blank p.1 = false) → wd us acc = if acc ++ flat us = [] then [] else [acc ++ flat us]
  | [], acc, _ => by simp [wd, flat]
  | p :: us, acc, h => by
    have hb : blank p.1 = false := h p (List.mem_cons_self ..)
    have ih := wd_plain us (acc ++ p.2) (fun q hq => h q (List.mem_cons_of_mem _ hq))
    unfold wd
    rw [hb, flat_cons, ← List.append_assoc]
    exact ih
/-- A word: not empty, and its own only word; and what it comes apart into. -/
def IsWord (w : List UInt8) : Prop := w ≠ [] ∧ words w = [w]
theorem isWord_of (us : List (Nat × List UInt8)) (hc : cut (flat us) = us) (hb : ∀ p ∈ us, blank p.1 = false) (hne : flat us ≠ []) : IsWord (flat us) := by
  refine ⟨hne, ?_⟩
  unfold words
  rw [hc, wd_plain us [] hb]
  simp [hne]
theorem wd_words : ∀ (ps us : List (Nat × List UInt8)), cut (flat (us ++ ps)) = us ++ ps → (∀ p ∈ us, blank p.1 = false) → ∀ w ∈ wd ps (flat us), IsWord w
  | [], us, hc, hb => by
    rw [List.append_nil] at hc
    intro w hw
    unfold wd at hw
    split at hw
    · cases hw
    · rename_i hne
      simp at hw
      subst hw
      exact isWord_of us hc hb hne
  | p :: ps, us, hc, hb => by
    intro w hw
    have hps : cut (flat ps) = ps := cut_suffix (us ++ [p]) ps _ (by rw [hc]; simp)
    have hus : cut (flat us) = us := cut_prefix us (p :: ps) _ hc
    unfold wd at hw
    by_cases hbl : blank p.1 = true
    · rw [if_pos hbl] at hw
      by_cases hne : flat us = []
      · rw [if_pos hne] at hw
        exact wd_words ps [] hps (by simp) w hw
      · rw [if_neg hne] at hw
        rcases List.mem_cons.1 hw with rfl | hw
        · exact isWord_of us hus hb hne
        · exact wd_words ps [] hps (by simp) w hw
    · rw [if_neg hbl] at hw
      have e : flat us ++ p.2 = flat (us ++ [p]) := by rw [flat_append]; simp [flat]
      rw [e] at hw
      refine wd_words ps (us ++ [p]) (by simpa using hc) ?_ w hw
      intro q hq
      rcases List.mem_append.1 hq with hq | hq
      · exact hb q hq
      · simp at hq; subst hq; simpa using hbl
/-- P1.6: every word is one. -/
theorem words_each (l : List UInt8) : ∀ w ∈ words l, IsWord w := wd_words (cut l) [] (by show cut (flat (cut l)) = cut l; rw [flat_cut]) (by simp)

/-- Words put together, a blank between. -/
def jn : List (List UInt8) → List UInt8
  | [] => []
  | w :: ws => w ++ (ws.map fun x => 32 :: x).flatten
theorem jn_snoc (ws : List (List UInt8)) (w : List UInt8) (h : ws ≠ []) : jn (ws ++ [w]) = jn ws ++ 32 :: w := by
  cases ws with
  | nil => exact absurd rfl h
  | cons x ws => simp [jn]
theorem words_join : ∀ (ws : List (List UInt8)) (a : List UInt8), (∀ w ∈ ws, words w = [w]) → words (a ++ (ws.map fun x => 32 :: x).flatten) = words a ++ ws
  | [], a, _ => by simp
  | w :: ws, a, h => by
    have ih := words_join ws (a ++ 32 :: w) (fun x hx => h x (List.mem_cons_of_mem _ hx))
    rw [words_apart, h w (List.mem_cons_self ..)] at ih
    simpa using ih
theorem words_jn (ws : List (List UInt8)) (h : ∀ w ∈ ws, words w = [w]) : words (jn ws) = ws := by
  cases ws with
  | nil => rfl
  | cons w ws =>
    have := words_join ws w (fun x hx => h x (List.mem_cons_of_mem _ hx))
    rw [h w (List.mem_cons_self ..)] at this
    exact this

/-! ### Folded words -/
theorem blank_low (r : Nat) : blank (low r) = blank r := by
  unfold low
  by_cases h : great r = true
  · rw [if_pos h]
    have hr : (65 ≤ r ∧ r ≤ 90) ∨ r = 196 ∨ r = 214 ∨ r = 220 ∨ (913 ≤ r ∧ r ≤ 937 ∧ r ≠ 930) := by simpa [great] using h
    unfold blank
    rw [decide_eq_decide]
    omega
  · rw [if_neg h]
theorem cut_ne (l : List UInt8) : ∀ p ∈ cut l, p.2 ≠ [] := by
  apply byRunes (P := fun l => ∀ p ∈ cut l, p.2 ≠ [])
  · intro p hp; cases hp
  · intro l h ih p hp
    rw [cut_cons l h] at hp
    rcases List.mem_cons.1 hp with rfl | hp
    · have := dec_pos l
      have hl : 0 < l.length := List.length_pos_iff.2 h
      intro e
      have hlen := congrArg List.length e
      rw [List.length_take, List.length_nil] at hlen
      omega
    · exact ih p hp
theorem fold1_ne (p : Nat × List UInt8) (h : p.2 ≠ []) : fold1 p ≠ [] := by
  unfold fold1
  split
  · exact h
  · unfold enc; split <;> simp
def gf (p : Nat × List UInt8) : Nat × List UInt8 := (low p.1, fold1 p)
theorem flat_nil (us : List (Nat × List UInt8)) (h : ∀ p ∈ us, p.2 ≠ []) : flat us = [] ↔ us = [] := by
  cases us with
  | nil => simp [flat]
  | cons p us =>
    constructor
    · intro e
      rw [flat_cons] at e
      exact absurd (List.append_eq_nil_iff.1 e).1 (h p (List.mem_cons_self ..))
    · intro e; cases e
theorem wd_fold : ∀ (ps us : List (Nat × List UInt8)), cut (flat (us ++ ps)) = us ++ ps → wd (ps.map gf) (flat (us.map gf)) = (wd ps (flat us)).map fold
  | [], us, hc => by
    rw [List.append_nil] at hc
    have hne : ∀ p ∈ us, p.2 ≠ [] := by rw [← hc]; exact cut_ne _
    have hne2 : ∀ p ∈ us.map gf, p.2 ≠ [] := by
      intro p hp
      obtain ⟨q, hq, rfl⟩ := List.mem_map.1 hp
      exact fold1_ne q (hne q hq)
    have hf : fold (flat us) = flat (us.map gf) := by
      unfold fold
      rw [hc]
      simp [flat, gf, Function.comp_def]
    show wd [] _ = (wd [] _).map fold
    unfold wd
    by_cases h : us = []
    · subst h; simp [flat]
    · have h1 : ¬ flat us = [] := fun e => h ((flat_nil us hne).1 e)
      have h2 : ¬ flat (us.map gf) = [] := fun e => h (by simpa using (flat_nil _ hne2).1 e)
      rw [if_neg h1, if_neg h2]
      simp [hf]
  | p :: ps, us, hc => by
    have hps : cut (flat ps) = ps := cut_suffix (us ++ [p]) ps _ (by rw [hc]; simp)
    have hus : cut (flat us) = us := cut_prefix us (p :: ps) _ hc
    have hne : ∀ p ∈ us, p.2 ≠ [] := by rw [← hus]; exact cut_ne _
    have hne2 : ∀ p ∈ us.map gf, p.2 ≠ [] := by
      intro p hp
      obtain ⟨q, hq, rfl⟩ := List.mem_map.1 hp
      exact fold1_ne q (hne q hq)
    have hf : fold (flat us) = flat (us.map gf) := by
      unfold fold
      rw [hus]
      simp [flat, gf, Function.comp_def]
    show wd (gf p :: ps.map gf) _ = (wd (p :: ps) _).map fold
    unfold wd
    have hbl : blank (gf p).1 = blank p.1 := blank_low p.1
    rw [hbl]
    by_cases hb : blank p.1 = true
    · rw [if_pos hb, if_pos hb]
      have ih : wd (ps.map gf) [] = (wd ps []).map fold := wd_fold ps [] hps
      by_cases h : us = []
      · subst h
        rw [if_pos (by rfl), if_pos (by rfl)]
        exact ih
      · have h1 : ¬ flat us = [] := fun e => h ((flat_nil us hne).1 e)
        have h2 : ¬ flat (us.map gf) = [] := fun e => h (by simpa using (flat_nil _ hne2).1 e)
        rw [if_neg h1, if_neg h2, ih, List.map_cons, hf]
    · rw [if_neg hb, if_neg hb]
      have ih := wd_fold ps (us ++ [p]) (by simpa using hc)
      have e1 : flat us ++ p.2 = flat (us ++ [p]) := by rw [flat_append]; simp [flat]
      have e2 : flat (us.map gf) ++ (gf p).2 = flat ((us ++ [p]).map gf) := by rw [List.map_append, flat_append]; simp [flat]
      rw [e1, e2]
      exact ih
/-- P1.6: the words of a folded line. -/
theorem words_fold (l : List UInt8) : words (fold l) = (words l).map fold := by
  unfold words
  rw [cut_fold]
  exact wd_fold (cut l) [] (by show cut (flat (cut l)) = cut l; rw [flat_cut])
theorem dec_great (l : List UInt8) (r k : Nat) (h : dec l = (r, k)) (hg : great r = true) : (enc (low r)).length = k := by
  have hr : (65 ≤ r ∧ r ≤ 90) ∨ r = 196 ∨ r = 214 ∨ r = 220 ∨ (913 ≤ r ∧ r ≤ 937 ∧ r ≠ 930) := by simpa [great] using hg
  have hl : low r = r + 32 := by simp [low, hg]
  have hk : (r < 128 ∧ k = 1) ∨ (128 ≤ r ∧ r < 2048 ∧ k = 2) := by
    unfold dec d4 at h
    have h0 := byt_lt l 0
    repeat' split at h
    all_goals simp only [Prod.mk.injEq] at h
    all_goals omega
  rw [hl]
  unfold enc
  rcases hk with ⟨h1, rfl⟩ | ⟨h1, h2, rfl⟩
  · rw [if_pos (by omega)]; rfl
  · rw [if_neg (by omega)]; rfl
theorem fold_length : ∀ l, (fold l).length = l.length := by
  apply byRunes
  · rfl
  · intro l h ih
    rw [fold_cons l h, List.length_append, ih]
    have hle := dec_le l h
    have h1 : (fold1 ((dec l).1, l.take (dec l).2)).length = (dec l).2 := by
      unfold fold1
      by_cases hl : low (dec l).1 = (dec l).1
      · rw [if_pos hl, List.length_take]; omega
      · rw [if_neg hl]
        refine dec_great l _ _ rfl ?_
        cases hg : great (dec l).1 with
        | true => rfl
        | false => exact absurd (by simp [low, hg]) hl
    rw [h1, List.length_drop]
    omega
/-- P1.6: a name is folded. -/
theorem fold_name (l : List UInt8) (h : isGo (runes l) 0 = true) : fold l = l :=
  fold_of_low l fun r hr => by
    have := (name_rune r (isGo_runes _ _ h r hr)).2
    simp [low, this]
/-- P1.6: for names the order tells the same alone. -/
theorem cmp_names (a b : List UInt8) (ha : isGo (runes a) 0 = true) : cmp (runes a) (runes b) = 0 ↔ a = b := by
  rw [cmp_zero]
  exact ⟨same_of_runes a b fun r hr => (name_rune r (isGo_runes _ _ ha r hr)).1, fun h => by rw [h]⟩
end NameMath
