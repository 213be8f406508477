/- Compare's order of texts, a strict weak order; texts that are bounded, as the sort's elements. -/
import Derived.Test.YthdloddcljbjhaaDoorNmMathC
import Derived.Sort.Statements
import GoSem.Core.World
set_option linter.unusedVariables false
namespace Go.Proofs.YthdloddcljbjhaaDoor
open Go

/-- What Compare answers. -/
def cfK (a b : ByteArray) : Int := NameMath.cmp (NameMath.runes a.data.toList) (NameMath.runes b.data.toList)
def ltK (a b : ByteArray) : Bool := decide (cfK a b < 0)
theorem cf_lt (a b : ByteArray) : ltK a b = true ↔ cfK a b = -1 := by
  unfold ltK
  rcases NameMath.cmp_range (NameMath.runes a.data.toList) (NameMath.runes b.data.toList) with h | h | h <;> (unfold cfK; rw [h]; decide)
theorem cf_nlt {a b : ByteArray} (h : ltK a b = false) : cfK a b = 0 ∨ cfK b a = -1 := by
  unfold ltK at h
  rcases NameMath.cmp_range (NameMath.runes a.data.toList) (NameMath.runes b.data.toList) with e | e | e
  · unfold cfK at h; rw [e] at h; exact absurd h (by decide)
  · exact Or.inl e
  · right
    unfold cfK
    rw [NameMath.cmp_neg, e]
theorem lt_irrefl (x : ByteArray) : ltK x x = false := by
  unfold ltK cfK
  rw [(NameMath.cmp_zero _ _).2 rfl]
  decide
theorem lt_trans (x y z : ByteArray) (h1 : ltK x y = true) (h2 : ltK y z = true) : ltK x z = true := by
  rw [cf_lt] at *
  exact NameMath.cmp_trans _ _ _ h1 h2
theorem lt_ntrans (x y z : ByteArray) (h1 : ltK x y = false) (h2 : ltK y z = false) : ltK x z = false := by
  cases h : ltK x z with
  | false => rfl
  | true =>
    exfalso
    rw [cf_lt] at h
    rcases cf_nlt h1 with e1 | e1
    · have e := (NameMath.cmp_zero _ _).1 e1
      have h3 : cfK y z = -1 := by unfold cfK at *; rw [← e]; exact h
      rw [(cf_lt y z).2 h3] at h2
      cases h2
    · have h3 : cfK y z = -1 := NameMath.cmp_trans _ _ _ e1 h
      rw [(cf_lt y z).2 h3] at h2
      cases h2
/-- A text that is not too long for Compare. -/
abbrev Txt := {s : ByteArray // s.size ≤ 1048576}
instance : Inhabited Txt := ⟨⟨⟨#[]⟩, by decide⟩⟩
def encT (s : Txt) : Value := .string s.1
def cfT (a b : Txt) : Int := cfK a.1 b.1
/-- Rising: no later one is less than an earlier one. -/
def Rising (l : List ByteArray) : Prop := l.Pairwise fun a b => ltK b a = false
/-- What the sort makes of a row. -/
def SortTo (l l' : List ByteArray) : Prop := l'.Perm l ∧ Rising l'
/-- A list of bounded texts, as such. -/
def txts : (l : List ByteArray) → (∀ s, s ∈ l → s.size ≤ 1048576) → List Txt
  | [], _ => []
  | s :: l, h => ⟨s, h s List.mem_cons_self⟩ :: txts l (fun x hx => h x (List.mem_cons_of_mem _ hx))
theorem txts_val : ∀ (l : List ByteArray) (h : ∀ s, s ∈ l → s.size ≤ 1048576), (txts l h).map (·.1) = l
  | [], _ => rfl
  | s :: l, h => by unfold txts; rw [List.map_cons, txts_val l]
end Go.Proofs.YthdloddcljbjhaaDoor
