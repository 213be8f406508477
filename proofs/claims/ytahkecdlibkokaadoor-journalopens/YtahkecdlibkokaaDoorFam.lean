/- A region that draws its order and holds a call that makes memory: one walk, in every world that is as this one was below a block. -/
import Derived.Test.YtahkecdlibkokaaDoorBase
import Derived.Lib.Strings
set_option linter.unusedVariables false
namespace Go.Proofs.YtahkecdlibkokaaDoor
open Go.RowKit

/-- The worlds that are as w was below the block B, as one family. -/
theorem fam (B : Nat) (w : World) : ∃ (I : Type) (_ : Nonempty I) (F : I → World), (∀ i, Below B w (F i)) ∧ ∀ w', Below B w w' → ∃ i, w' = F i :=
  ⟨{ w' : World // Below B w w' }, ⟨⟨w, Below.refl _ _⟩⟩, Subtype.val, fun i => i.2, fun w' h => ⟨⟨w', h⟩, rfl⟩⟩
theorem wp_region_fam {P : Program} {id : Nat} {Q : Exit → Act → World → Prop} {a : Act} {w : World} {l : List Oper} {I : Type} (F : I → World) (hm : P.follows .mixedOrders = true) (hB : Region.lexB .any l.toArray = true) (hC : ∃ i, w.drew = F i)
    (h : wpQuiet P l.toArray (fun w' => ∃ i, w' = F i) (fun a' => ∀ w', (∃ i, w' = F i) → Q .normal a' w') l a) : (Code.region id l.toArray true).wp P Q a w :=
  wp_region_quiet (C := fun w' => ∃ i, w' = F i) hm hB hC (by simpa using h)
/-- Two texts that are not the same, as the walk asks it. -/
theorem str_ne (u v : ByteArray) (h : ¬ u = v) : (u.toList == v.toList) = false := by
  rw [beq_eq_false_iff_ne]
  intro e
  rw [Lib.toList_data, Lib.toList_data] at e
  exact h (ByteArray.ext (Array.ext' e))
end Go.Proofs.YtahkecdlibkokaaDoor
