/- A script of calls as data; its row. -/
import Derived.Test.YtgffcgigjiedpaaLiveW
set_option linter.unusedVariables false
set_option maxRecDepth 100000
namespace Go.Proofs.Ytgffcgigjiedpaa
open Go.RowKit

/-- A call: what it does, and its cost. -/
structure QOp where
  Do : Int
  c : Five
instance : Inhabited QOp := ⟨⟨0, fun _ => 0⟩⟩
def ocell (o : QOp) : List Value := [.int .i64 o.Do, .int .i64 (o.c 4), .int .i64 (o.c 0), .int .i64 (o.c 1), .int .i64 (o.c 2), .int .i64 (o.c 3)]
def onth (l : List QOp) (j : Nat) : QOp := l.getD j ⟨0, fun _ => 0⟩
def ORow (w : World) (v : Value) (l : List QOp) : Prop := ∃ ao cap, v = .slice ao l.length cap ∧ l.length ≤ cap ∧ (ao = none → cap = 0) ∧
  ∀ j, j < l.length → ∃ g o, ao = some ⟨g, o, none⟩ ∧ g < w.heap.size ∧ ∀ i x, (ocell (onth l j))[i]? = some x → w.cell? ⟨g, o + j * 6 + i, none⟩ = some x
end Go.Proofs.Ytgffcgigjiedpaa
