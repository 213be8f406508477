/- What the calls of package name answer, over the runes of a text. -/
import Derived.Test.YtbgankldnjeohaaNmMathA
set_option linter.unusedVariables false
set_option maxRecDepth 100000
namespace NameMath

def small (r : Nat) : Bool := decide ((97 ≤ r ∧ r ≤ 122) ∨ r = 228 ∨ r = 246 ∨ r = 252 ∨ r = 223 ∨ (945 ≤ r ∧ r ≤ 969))
def dig (r : Nat) : Bool := decide ((48 ≤ r ∧ r ≤ 57) ∨ r = 45)
def great (r : Nat) : Bool := decide ((65 ≤ r ∧ r ≤ 90) ∨ r = 196 ∨ r = 214 ∨ r = 220 ∨ (913 ≤ r ∧ r ≤ 937 ∧ r ≠ 930))
def low (r : Nat) : Nat := if great r then r + 32 else r
def blank (r : Nat) : Bool := decide (r = 9 ∨ r = 32 ∨ r = 160 ∨ r = 8195)

/-- Is, as the program goes. -/
def isGo : List Nat → Nat → Bool
  | [], n => decide (0 < n)
  | r :: l, n => if small r = false ∧ (n = 0 ∨ dig r = false) then false else if 8 < n + 1 then false else isGo l (n + 1)
/-- Is, as the document's answer goes. -/
def isRef : List Nat → Nat → Bool
  | [], n => decide (1 ≤ n ∧ n ≤ 8)
  | r :: l, n => if small r = false ∧ (n = 0 ∨ dig r = false) then false else isRef l (n + 1)
theorem isRef_far : ∀ (l : List Nat) (n : Nat), 8 < n → isRef l n = false
  | [], n, h => by simp [isRef]; omega
  | r :: l, n, h => by
    have := isRef_far l (n + 1) (by omega)
    simp [isRef, this]
theorem isRef_go : ∀ (l : List Nat) (n : Nat), n ≤ 8 → isRef l n = isGo l n
  | [], n, h => by unfold isRef isGo; rw [decide_eq_decide]; omega
  | r :: l, n, h => by
    unfold isRef isGo
    by_cases h8 : 8 < n + 1
    · have := isRef_far l (n + 1) h8
      simp [h8, this]
    · simp [h8, isRef_go l (n + 1) (by omega)]

def own (a : Nat) : List Nat → Nat
  | [] => a
  | r :: l => own ((a + r) % 4) l

def cmp : List Nat → List Nat → Int
  | [], [] => 0
  | [], _ :: _ => -1
  | _ :: _, [] => 1
  | x :: a, y :: b => if x < y then -1 else if y < x then 1 else cmp a b

/-- Words: what was gathered since the last blank, and the runes to come. -/
def wd : List (Nat × List UInt8) → List UInt8 → List (List UInt8)
  | [], acc => if acc = [] then [] else [acc]
  | p :: ps, acc => if blank p.1 then (if acc = [] then wd ps [] else acc :: wd ps []) else wd ps (acc ++ p.2)
def words (l : List UInt8) : List (List UInt8) := wd (cut l) []

def enc (r : Nat) : List UInt8 := if r < 128 then [UInt8.ofNat r] else [UInt8.ofNat (192 + r / 64), UInt8.ofNat (128 + r % 64)]
def fold1 (p : Nat × List UInt8) : List UInt8 := if low p.1 = p.1 then p.2 else enc (low p.1)
def fold (l : List UInt8) : List UInt8 := ((cut l).map fold1).flatten
theorem fold_nil : fold [] = [] := rfl
theorem fold_cons (l : List UInt8) (h : l ≠ []) : fold l = fold1 ((dec l).1, l.take (dec l).2) ++ fold (l.drop (dec l).2) := by
  unfold fold; rw [cut_cons l h]; rfl
end NameMath
