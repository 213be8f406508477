/- The document's own reading of a rune, and the model's: the same. -/
import Derived.Test.YtbgankldnjeohaaNmMathB
set_option linter.unusedVariables false
set_option linter.unusedSimpArgs false
set_option maxRecDepth 100000
namespace NameMath

def longN (b : Nat) : Nat := if b < 128 then 1 else if 194 ≤ b ∧ b ≤ 223 then 2 else if 224 ≤ b ∧ b ≤ 239 then 3 else if 240 ≤ b ∧ b ≤ 244 then 4 else 0
def secondB (f b : Nat) : Bool := decide ((f = 224 ∧ 160 ≤ b ∧ b ≤ 191) ∨ (f = 237 ∧ 128 ≤ b ∧ b ≤ 159) ∨ (f = 240 ∧ 144 ≤ b ∧ b ≤ 191) ∨ (f = 244 ∧ 128 ≤ b ∧ b ≤ 143) ∨ (f ≠ 224 ∧ f ≠ 237 ∧ f ≠ 240 ∧ f ≠ 244 ∧ 128 ≤ b ∧ b ≤ 191))
theorem second_iff (f b : Nat) : secondB f b = false ↔ ¬ ((f = 224 ∧ 160 ≤ b ∧ b ≤ 191) ∨ (f = 237 ∧ 128 ≤ b ∧ b ≤ 159) ∨ (f = 240 ∧ 144 ≤ b ∧ b ≤ 191) ∨ (f = 244 ∧ 128 ≤ b ∧ b ≤ 143) ∨ (f ≠ 224 ∧ f ≠ 237 ∧ f ≠ 240 ∧ f ≠ 244 ∧ 128 ≤ b ∧ b ≤ 191)) := by
  unfold secondB; rw [decide_eq_false_iff_not]
/-- The loop: so many bytes more, from the i-th on. -/
def nxF (l : List UInt8) (n : Nat) : Nat → Nat → Nat → Nat × Nat × Bool
  | 0, i, r => (r, n, true)
  | f + 1, i, r => if byt l i < 128 ∨ 191 < byt l i ∨ (i = 1 ∧ secondB (byt l 0) (byt l 1) = false) then (65533, 1, false) else nxF l n f (i + 1) (r * 64 + byt l i % 64)

theorem nx_bad (l : List UInt8) (n f i r : Nat) (h : byt l i < 128 ∨ 191 < byt l i ∨ (i = 1 ∧ secondB (byt l 0) (byt l 1) = false)) : nxF l n (f + 1) i r = (65533, 1, false) := by rw [nxF, if_pos h]
theorem nx_good (l : List UInt8) (n f i r : Nat) (h : ¬ (byt l i < 128 ∨ 191 < byt l i ∨ (i = 1 ∧ secondB (byt l 0) (byt l 1) = false))) : nxF l n (f + 1) i r = nxF l n f (i + 1) (r * 64 + byt l i % 64) := by rw [nxF, if_neg h]
def okFor (x : Nat × Nat) (y : Nat × Nat × Bool) : Prop := y.1 = x.1 ∧ y.2.1 = x.2 ∧ (y.2.2 = false → x.1 = 65533)
theorem long_cases (b : Nat) : (b < 128 ∧ longN b = 1) ∨ (194 ≤ b ∧ b ≤ 223 ∧ longN b = 2) ∨ (224 ≤ b ∧ b ≤ 239 ∧ longN b = 3) ∨ (240 ≤ b ∧ b ≤ 244 ∧ longN b = 4) ∨ (((128 ≤ b ∧ b ≤ 193) ∨ 245 ≤ b) ∧ longN b = 0) := by
  unfold longN
  repeat' split
  all_goals omega

set_option maxHeartbeats 4000000 in
theorem nx2 (l : List UInt8) (h : longN (byt l 0) = 2) : okFor (dec l) (nxF l 2 1 1 (byt l 0 % 32)) := by
  have h0 : 194 ≤ byt l 0 ∧ byt l 0 ≤ 223 := by have := long_cases (byt l 0); omega
  have h1 := byt_lt l 1
  have h2 := byt_lt l 2
  have h3 := byt_lt l 3
  unfold dec d4
  simp only [nxF, second_iff, Nat.reduceAdd, Nat.reduceEqDiff, false_and, or_false, true_and]
  generalize byt l 0 = b0 at *
  generalize byt l 1 = b1 at *
  generalize byt l 2 = b2 at *
  generalize byt l 3 = b3 at *
  by_cases g1 : (¬ (b1 < 128 ∨ 191 < b1 ∨ ¬ ((b0 = 224 ∧ 160 ≤ b1 ∧ b1 ≤ 191) ∨ (b0 = 237 ∧ 128 ≤ b1 ∧ b1 ≤ 159) ∨ (b0 = 240 ∧ 144 ≤ b1 ∧ b1 ≤ 191) ∨ (b0 = 244 ∧ 128 ≤ b1 ∧ b1 ≤ 143) ∨ (b0 ≠ 224 ∧ b0 ≠ 237 ∧ b0 ≠ 240 ∧ b0 ≠ 244 ∧ 128 ≤ b1 ∧ b1 ≤ 191))))
  · rw [if_neg g1]
    rw [if_neg (show ¬ b0 < 128 by omega)]
    rw [if_pos (by omega)]
    exact ⟨by first | rfl | (simp only; omega), rfl, fun h => by cases h⟩
  · rw [if_pos (Classical.not_not.1 g1)]
    rw [if_neg (show ¬ b0 < 128 by omega), if_neg (by omega), if_neg (by omega), if_neg (by omega)]
    exact ⟨rfl, rfl, fun _ => rfl⟩

set_option maxHeartbeats 4000000 in
theorem nx3 (l : List UInt8) (h : longN (byt l 0) = 3) : okFor (dec l) (nxF l 3 2 1 (byt l 0 % 16)) := by
  have h0 : 224 ≤ byt l 0 ∧ byt l 0 ≤ 239 := by have := long_cases (byt l 0); omega
  have h1 := byt_lt l 1
  have h2 := byt_lt l 2
  have h3 := byt_lt l 3
  unfold dec d4
  simp only [nxF, second_iff, Nat.reduceAdd, Nat.reduceEqDiff, false_and, or_false, true_and]
  generalize byt l 0 = b0 at *
  generalize byt l 1 = b1 at *
  generalize byt l 2 = b2 at *
  generalize byt l 3 = b3 at *
  by_cases g1 : (¬ (b1 < 128 ∨ 191 < b1 ∨ ¬ ((b0 = 224 ∧ 160 ≤ b1 ∧ b1 ≤ 191) ∨ (b0 = 237 ∧ 128 ≤ b1 ∧ b1 ≤ 159) ∨ (b0 = 240 ∧ 144 ≤ b1 ∧ b1 ≤ 191) ∨ (b0 = 244 ∧ 128 ≤ b1 ∧ b1 ≤ 143) ∨ (b0 ≠ 224 ∧ b0 ≠ 237 ∧ b0 ≠ 240 ∧ b0 ≠ 244 ∧ 128 ≤ b1 ∧ b1 ≤ 191))))
  · rw [if_neg g1]
    by_cases g2 : ¬ (b2 < 128 ∨ 191 < b2)
    · rw [if_neg g2]
      rw [if_neg (show ¬ b0 < 128 by omega)]
      rw [if_neg (by omega), if_pos (by omega)]
      exact ⟨by first | rfl | (simp only; omega), rfl, fun h => by cases h⟩
    · rw [if_pos (Classical.not_not.1 g2)]
      rw [if_neg (show ¬ b0 < 128 by omega), if_neg (by omega), if_neg (by omega), if_neg (by omega)]
      exact ⟨rfl, rfl, fun _ => rfl⟩
  · rw [if_pos (Classical.not_not.1 g1)]
    rw [if_neg (show ¬ b0 < 128 by omega), if_neg (by omega), if_neg (by omega), if_neg (by omega)]
    exact ⟨rfl, rfl, fun _ => rfl⟩

set_option maxHeartbeats 4000000 in
theorem nx4 (l : List UInt8) (h : longN (byt l 0) = 4) : okFor (dec l) (nxF l 4 3 1 (byt l 0 % 8)) := by
  have h0 : 240 ≤ byt l 0 ∧ byt l 0 ≤ 244 := by have := long_cases (byt l 0); omega
  have h1 := byt_lt l 1
  have h2 := byt_lt l 2
  have h3 := byt_lt l 3
  unfold dec d4
  simp only [nxF, second_iff, Nat.reduceAdd, Nat.reduceEqDiff, false_and, or_false, true_and]
  generalize byt l 0 = b0 at *
  generalize byt l 1 = b1 at *
  generalize byt l 2 = b2 at *
  generalize byt l 3 = b3 at *
  by_cases g1 : (¬ (b1 < 128 ∨ 191 < b1 ∨ ¬ ((b0 = 224 ∧ 160 ≤ b1 ∧ b1 ≤ 191) ∨ (b0 = 237 ∧ 128 ≤ b1 ∧ b1 ≤ 159) ∨ (b0 = 240 ∧ 144 ≤ b1 ∧ b1 ≤ 191) ∨ (b0 = 244 ∧ 128 ≤ b1 ∧ b1 ≤ 143) ∨ (b0 ≠ 224 ∧ b0 ≠ 237 ∧ b0 ≠ 240 ∧ b0 ≠ 244 ∧ 128 ≤ b1 ∧ b1 ≤ 191))))
  · rw [if_neg g1]
    by_cases g2 : ¬ (b2 < 128 ∨ 191 < b2)
    · rw [if_neg g2]
      by_cases g3 : ¬ (b3 < 128 ∨ 191 < b3)
      · rw [if_neg g3]
        rw [if_neg (show ¬ b0 < 128 by omega)]
        rw [if_neg (by omega), if_neg (by omega), if_pos (by omega)]
        exact ⟨by first | rfl | (simp only; omega), rfl, fun h => by cases h⟩
      · rw [if_pos (Classical.not_not.1 g3)]
        rw [if_neg (show ¬ b0 < 128 by omega), if_neg (by omega), if_neg (by omega), if_neg (by omega)]
        exact ⟨rfl, rfl, fun _ => rfl⟩
    · rw [if_pos (Classical.not_not.1 g2)]
      rw [if_neg (show ¬ b0 < 128 by omega), if_neg (by omega), if_neg (by omega), if_neg (by omega)]
      exact ⟨rfl, rfl, fun _ => rfl⟩
  · rw [if_pos (Classical.not_not.1 g1)]
    rw [if_neg (show ¬ b0 < 128 by omega), if_neg (by omega), if_neg (by omega), if_neg (by omega)]
    exact ⟨rfl, rfl, fun _ => rfl⟩

theorem nx1 (l : List UInt8) (h : byt l 0 < 128) : dec l = (byt l 0, 1) := by
  unfold dec d4; rw [if_pos h]
theorem nx0 (l : List UInt8) (h : longN (byt l 0) = 0) : dec l = (65533, 1) := by
  have h0 := byt_lt l 0
  have h1 := long_cases (byt l 0)
  have h2 := byt_lt l 1
  have h3 := byt_lt l 2
  have h4 := byt_lt l 3
  unfold dec d4
  rw [if_neg (by omega), if_neg (by omega), if_neg (by omega), if_neg (by omega)]
theorem nxShort (l : List UInt8) (h : 2 ≤ longN (byt l 0)) (hl : l.length < longN (byt l 0)) : dec l = (65533, 1) := by
  have h0 := byt_lt l 0
  have h1 := long_cases (byt l 0)
  have z1 : l.length ≤ 1 → byt l 1 = 0 := fun hk => by simp [byt, List.getD, List.getElem?_eq_none hk]
  have z2 : l.length ≤ 2 → byt l 2 = 0 := fun hk => by simp [byt, List.getD, List.getElem?_eq_none hk]
  have z3 : l.length ≤ 3 → byt l 3 = 0 := fun hk => by simp [byt, List.getD, List.getElem?_eq_none hk]
  unfold dec d4
  rw [if_neg (by omega), if_neg (by omega), if_neg (by omega), if_neg (by omega)]
end NameMath
