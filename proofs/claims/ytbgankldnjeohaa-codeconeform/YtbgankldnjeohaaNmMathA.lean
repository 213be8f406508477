/- The plain mathematics of names and words: a text is a list of bytes; its runes, each with its bytes, from the left; folding, order and words over them. Nothing of the program is named here. -/
import Derived.Lib.DecodeN
set_option linter.unusedVariables false
set_option maxRecDepth 100000
namespace NameMath

def byt (l : List UInt8) (k : Nat) : Nat := (l.getD k 0).toNat
theorem byt_lt (l : List UInt8) (k : Nat) : byt l k < 256 := (l.getD k 0).toNat_lt

/-- The rune that begins with some bytes (0 stands behind the end), and how many it has. -/
def d4 (b0 b1 b2 b3 : Nat) : Nat × Nat :=
  if b0 < 128 then (b0, 1)
  else if b0 / 32 = 6 ∧ b1 / 64 = 2 ∧ 128 ≤ b0 % 32 * 64 + b1 % 64 then (b0 % 32 * 64 + b1 % 64, 2)
  else if b0 / 16 = 14 ∧ b1 / 64 = 2 ∧ b2 / 64 = 2 ∧ 2048 ≤ b0 % 16 * 4096 + b1 % 64 * 64 + b2 % 64 ∧ (b0 % 16 * 4096 + b1 % 64 * 64 + b2 % 64 < 55296 ∨ 57344 ≤ b0 % 16 * 4096 + b1 % 64 * 64 + b2 % 64) then (b0 % 16 * 4096 + b1 % 64 * 64 + b2 % 64, 3)
  else if b0 / 8 = 30 ∧ b1 / 64 = 2 ∧ b2 / 64 = 2 ∧ b3 / 64 = 2 ∧ 65536 ≤ b0 % 8 * 262144 + b1 % 64 * 4096 + b2 % 64 * 64 + b3 % 64 ∧ b0 % 8 * 262144 + b1 % 64 * 4096 + b2 % 64 * 64 + b3 % 64 ≤ 1114111 then (b0 % 8 * 262144 + b1 % 64 * 4096 + b2 % 64 * 64 + b3 % 64, 4)
  else (65533, 1)

set_option maxRecDepth 100000 in
set_option maxHeartbeats 4000000 in
theorem decodeN_d4 (n b0 b1 b2 b3 : Nat) (h0 : b0 < 256) (h1 : b1 / 64 = 2 → 1 < n) (h2 : b2 / 64 = 2 → 2 < n) (h3 : b3 / 64 = 2 → 3 < n) : Go.Lib.decodeN n b0 b1 b2 b3 = d4 b0 b1 b2 b3 := by
  unfold Go.Lib.decodeN d4
  by_cases c1 : b1 / 64 = 2
  · have n1 := h1 c1
    by_cases c2 : b2 / 64 = 2
    · have n2 := h2 c2
      by_cases c3 : b3 / 64 = 2
      · have n3 := h3 c3
        simp only [c1, c2, c3, n1, n2, n3, true_and, and_true]
        repeat' split
        all_goals first | rfl | (exfalso; omega)
      · simp only [c1, c2, c3, n1, n2, true_and, and_true, false_and, and_false, if_false]
        repeat' split
        all_goals first | rfl | (exfalso; omega)
    · simp only [c1, c2, n1, true_and, and_true, false_and, and_false, if_false]
      repeat' split
      all_goals first | rfl | (exfalso; omega)
  · simp only [c1, false_and, and_false, if_false]

def dec (l : List UInt8) : Nat × Nat := d4 (byt l 0) (byt l 1) (byt l 2) (byt l 3)

theorem byt_len (l : List UInt8) (k : Nat) (h : byt l k / 64 = 2) : k < l.length := by
  rcases Nat.lt_or_ge k l.length with h' | h'
  · exact h'
  · simp [byt, List.getD, List.getElem?_eq_none h'] at h
theorem byt_drop (l : List UInt8) (i k : Nat) : byt (l.drop i) k = byt l (i + k) := by
  simp [byt, List.getD, List.getElem?_drop]
theorem get_byt (s : ByteArray) (i : Nat) : (s.get! i).toNat = byt s.data.toList i := by
  unfold byt
  have e : s.get! i = s.data[i]! := rfl
  rw [e]
  by_cases h : i < s.data.size
  · rw [getElem!_pos s.data i h]
    have : s.data[i]? = some s.data[i] := Array.getElem?_eq_getElem h
    simp [List.getD, this]
  · rw [getElem!_neg s.data i h]
    have : s.data[i]? = none := Array.getElem?_eq_none (by omega)
    simp [List.getD, this]
    rfl
theorem decode_dec (s : ByteArray) (i : Nat) : Go.Utf8.decode s i = dec (s.data.toList.drop i) := by
  rw [Go.Lib.decode_at, get_byt, get_byt, get_byt, get_byt]
  unfold dec
  rw [byt_drop, byt_drop, byt_drop, byt_drop, Nat.add_zero]
  have hl : s.data.toList.length = s.size := Array.length_toList
  exact decodeN_d4 _ _ _ _ _ (byt_lt _ _) (fun h => by have := byt_len _ _ h; omega) (fun h => by have := byt_len _ _ h; omega) (fun h => by have := byt_len _ _ h; omega)

theorem d4_w (b0 b1 b2 b3 : Nat) : 1 ≤ (d4 b0 b1 b2 b3).2 ∧ (d4 b0 b1 b2 b3).2 ≤ 4 := by
  unfold d4
  repeat' split
  all_goals simp
theorem dec_pos (l : List UInt8) : 1 ≤ (dec l).2 := (d4_w _ _ _ _).1
theorem dec_le (l : List UInt8) (h : l ≠ []) : (dec l).2 ≤ l.length := by
  have hl : 0 < l.length := List.length_pos_iff.2 h
  unfold dec d4
  repeat' split
  · simp; omega
  · rename_i h2; have := byt_len l 1 h2.2.1; simp; omega
  · rename_i h2; have := byt_len l 2 h2.2.2.1; simp; omega
  · rename_i h2; have := byt_len l 3 h2.2.2.2.1; simp; omega
  · simp; omega
theorem dec_max (l : List UInt8) : (dec l).1 ≤ 1114111 := by
  have h0 := byt_lt l 0
  unfold dec d4
  repeat' split
  all_goals simp <;> omega

/-- The runes of a text, each with its bytes. -/
def cutF : Nat → List UInt8 → List (Nat × List UInt8)
  | 0, _ => []
  | f + 1, l => if l = [] then [] else ((dec l).1, l.take (dec l).2) :: cutF f (l.drop (dec l).2)
def cut (l : List UInt8) : List (Nat × List UInt8) := cutF l.length l
theorem cutF_eq : ∀ (f g : Nat) (l : List UInt8), l.length ≤ f → l.length ≤ g → cutF f l = cutF g l
  | 0, g, l, h, _ => by
    have : l = [] := List.eq_nil_of_length_eq_zero (by omega)
    subst this
    cases g <;> simp [cutF]
  | f + 1, 0, l, _, h => by
    have : l = [] := List.eq_nil_of_length_eq_zero (by omega)
    subst this
    simp [cutF]
  | f + 1, g + 1, l, h1, h2 => by
    by_cases h : l = []
    · subst h; simp [cutF]
    · have hp := dec_pos l
      have hl : 0 < l.length := List.length_pos_iff.2 h
      have := cutF_eq f g (l.drop (dec l).2) (by simp; omega) (by simp; omega)
      simp [cutF, h, this]
theorem cut_nil : cut [] = [] := rfl
theorem cut_cons (l : List UInt8) (h : l ≠ []) : cut l = ((dec l).1, l.take (dec l).2) :: cut (l.drop (dec l).2) := by
  have hp := dec_pos l
  have hl : 0 < l.length := List.length_pos_iff.2 h
  unfold cut
  obtain ⟨n, hn⟩ : ∃ n, l.length = n + 1 := ⟨l.length - 1, by omega⟩
  rw [hn]
  show (if l = [] then [] else ((dec l).1, l.take (dec l).2) :: cutF n (l.drop (dec l).2)) = _
  rw [if_neg h, cutF_eq n (l.drop (dec l).2).length _ (by simp; omega) (Nat.le_refl _)]
def runes (l : List UInt8) : List Nat := (cut l).map (·.1)
theorem runes_nil : runes [] = [] := rfl
theorem runes_cons (l : List UInt8) (h : l ≠ []) : runes l = (dec l).1 :: runes (l.drop (dec l).2) := by
  unfold runes; rw [cut_cons l h]; rfl
def flat (ps : List (Nat × List UInt8)) : List UInt8 := (ps.map (·.2)).flatten
/-- Induction along the runes. -/
theorem byRunes {P : List UInt8 → Prop} (h0 : P []) (h1 : ∀ l, l ≠ [] → P (l.drop (dec l).2) → P l) : ∀ l, P l := by
  intro l
  induction hn : l.length using Nat.strongRecOn generalizing l with
  | _ n ih =>
    by_cases h : l = []
    · subst h; exact h0
    · have hp := dec_pos l
      have hl : 0 < l.length := List.length_pos_iff.2 h
      exact h1 l h (ih (l.drop (dec l).2).length (by simp; omega) _ rfl)
theorem flat_cut : ∀ l, flat (cut l) = l := by
  apply byRunes
  · rfl
  · intro l h ih
    rw [cut_cons l h]
    show l.take (dec l).2 ++ flat (cut (l.drop (dec l).2)) = l
    rw [ih, List.take_append_drop]
end NameMath
