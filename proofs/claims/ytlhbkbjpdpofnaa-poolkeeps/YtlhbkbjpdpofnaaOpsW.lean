/- Calls of a script, in memory. -/
import Derived.Test.YtlhbkbjpdpofnaaOrderW
set_option linter.unusedVariables false
namespace Go.Proofs.Ytlhbkbjpdpofnaa
open Go.RowKit

/-- A call of a script. -/
structure Op where
  Do : Int
  N : Int
  S : Txt
instance : Inhabited Op := ⟨⟨0, 0, ⟨#[]⟩⟩⟩
/-- A slice value that leads to the calls of a script. -/
def ORow (w : World) (v : Value) (l : List Op) : Prop := ∃ ao cap, v = .slice ao l.length cap ∧ l.length ≤ cap ∧ (ao = none → cap = 0) ∧ ∀ j, (h : j < l.length) → ∃ g o, ao = some ⟨g, o, none⟩ ∧ g < w.heap.size ∧
  w.cell? ⟨g, o + j * 3, none⟩ = some (.int .i64 l[j].Do) ∧ w.cell? ⟨g, o + j * 3 + 1, none⟩ = some (.int .i64 l[j].N) ∧ w.cell? ⟨g, o + j * 3 + 2, none⟩ = some (.string l[j].S)
def i64 (n : Int) : Prop := -9223372036854775808 ≤ n ∧ n ≤ 9223372036854775807
/-- What is known of each call. -/
def OpOk (o : Op) : Prop := i64 o.Do ∧ i64 o.N
end Go.Proofs.Ytlhbkbjpdpofnaa
