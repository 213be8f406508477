/-
  DERIVED. GIVEN WITH THE SEED: THE CARDS: each row of YtmjnllldjeeigaaDoorRows.lean that lists a variable, with what it lists TIED to the program's text (the seventh form; the later family's looks); each row that meets fmt, with fmt's text TOLD by the authors' own Lean function (tested against real Go, not proved from fmt's source: count such statements apart). THE CARD IS WHAT COUNTS. Prove the row's statement (the work); the ties are given (YtmjnllldjeeigaaDoorTie.lean); close each card by the builder's one call (the guide's Derived/Test/ToyasCard.lean, 'card_holds'). Laid BY PROGRAM, IN A SANDBOX (cutbox-door.mjs). By AI agents, Wed Nov 11 2026. No macro, syntax, notation, axiom, sorry.
-/
import Derived.Test.YtmjnllldjeeigaaDoorRows
import GoSem.ClaimSeven
namespace Go.Proofs.YtmjnllldjeeigaaDoor
namespace Rows

/-- THE TIED CARD OF 'odysseylaw12.PlanAheads'. -/
def planAheadsCard : Claim7 := { stood := { row := planAheadsRow, standIns := [], harness := (true, "b1b8905f694f72b074dd75cca85d882202fcaa92fc716e6a1a33b43eefc92f51"), looks := false }, kinds := [], alts := [], laidByText := true, laidKinds := [.data, .pinned], laidTests := true, laidLooks := .later }
def PlanAheadsCardSaid : Prop := Claim7.holds Tryd.pinned (.plain (OpenSpec.ofChange planAheadsSpec)) planAheadsCard

/-- THE TIED CARD OF 'odysseylaw12.PlanReadies'. -/
def planReadiesCard : Claim7 := { stood := { row := planReadiesRow, standIns := [], harness := (true, "b1b8905f694f72b074dd75cca85d882202fcaa92fc716e6a1a33b43eefc92f51"), looks := false }, kinds := [], alts := [], laidByText := true, laidKinds := [.data, .pinned], laidTests := true, laidLooks := .later }
def PlanReadiesCardSaid : Prop := Claim7.holds Tryd.pinned (.plain (OpenSpec.ofChange planReadiesSpec)) planReadiesCard

/-- THE TIED CARD OF 'odysseylaw12.PlanRings'. -/
def planRingsCard : Claim7 := { stood := { row := planRingsRow, standIns := [], harness := (true, "b1b8905f694f72b074dd75cca85d882202fcaa92fc716e6a1a33b43eefc92f51"), looks := false }, kinds := [], alts := [], laidByText := true, laidKinds := [.data, .pinned], laidTests := true, laidLooks := .later }
def PlanRingsCardSaid : Prop := Claim7.holds Tryd.pinned (.plain (OpenSpec.ofChange planRingsSpec)) planRingsCard

/-- THE TIED CARD OF 'odysseylaw12.PlanDone'. -/
def planDoneCard : Claim7 := { stood := { row := planDoneRow, standIns := [], harness := (true, "b1b8905f694f72b074dd75cca85d882202fcaa92fc716e6a1a33b43eefc92f51"), looks := false }, kinds := [], alts := [], laidByText := true, laidKinds := [.data, .pinned], laidTests := true, laidLooks := .later }
def PlanDoneCardSaid : Prop := Claim7.holds Tryd.pinned (.plain (OpenSpec.ofChange planDoneSpec)) planDoneCard

/-- THE TIED CARD OF 'odysseylaw12.PlanUndone'. -/
def planUndoneCard : Claim7 := { stood := { row := planUndoneRow, standIns := [], harness := (true, "b1b8905f694f72b074dd75cca85d882202fcaa92fc716e6a1a33b43eefc92f51"), looks := false }, kinds := [], alts := [], laidByText := true, laidKinds := [.data, .pinned], laidTests := true, laidLooks := .later }
def PlanUndoneCardSaid : Prop := Claim7.holds Tryd.pinned (.plain (OpenSpec.ofChange planUndoneSpec)) planUndoneCard

/-- THE SECOND FORM's CARD OF 'odysseylaw12.PlanAheads'. -/
def planAheadsUptoCard : Claim7 := { stood := { row := planAheadsUptoRow, standIns := [], harness := (true, "b1b8905f694f72b074dd75cca85d882202fcaa92fc716e6a1a33b43eefc92f51"), looks := false }, kinds := [], alts := [], laidByText := true, laidKinds := [.data, .pinned], laidTests := true, laidLooks := .later }
def PlanAheadsUptoCardSaid : Prop := Claim7.holds Tryd.pinned (.plain (OpenSpec.upto planAheadsSpec)) planAheadsUptoCard

/-- THE SECOND FORM's CARD OF 'odysseylaw12.PlanReadies'. -/
def planReadiesUptoCard : Claim7 := { stood := { row := planReadiesUptoRow, standIns := [], harness := (true, "b1b8905f694f72b074dd75cca85d882202fcaa92fc716e6a1a33b43eefc92f51"), looks := false }, kinds := [], alts := [], laidByText := true, laidKinds := [.data, .pinned], laidTests := true, laidLooks := .later }
def PlanReadiesUptoCardSaid : Prop := Claim7.holds Tryd.pinned (.plain (OpenSpec.upto planReadiesSpec)) planReadiesUptoCard

/-- THE SECOND FORM's CARD OF 'odysseylaw12.PlanRings'. -/
def planRingsUptoCard : Claim7 := { stood := { row := planRingsUptoRow, standIns := [], harness := (true, "b1b8905f694f72b074dd75cca85d882202fcaa92fc716e6a1a33b43eefc92f51"), looks := false }, kinds := [], alts := [], laidByText := true, laidKinds := [.data, .pinned], laidTests := true, laidLooks := .later }
def PlanRingsUptoCardSaid : Prop := Claim7.holds Tryd.pinned (.plain (OpenSpec.upto planRingsSpec)) planRingsUptoCard

/-- THE SECOND FORM's CARD OF 'odysseylaw12.PlanDone'. -/
def planDoneUptoCard : Claim7 := { stood := { row := planDoneUptoRow, standIns := [], harness := (true, "b1b8905f694f72b074dd75cca85d882202fcaa92fc716e6a1a33b43eefc92f51"), looks := false }, kinds := [], alts := [], laidByText := true, laidKinds := [.data, .pinned], laidTests := true, laidLooks := .later }
def PlanDoneUptoCardSaid : Prop := Claim7.holds Tryd.pinned (.plain (OpenSpec.upto planDoneSpec)) planDoneUptoCard

/-- THE SECOND FORM's CARD OF 'odysseylaw12.PlanUndone'. -/
def planUndoneUptoCard : Claim7 := { stood := { row := planUndoneUptoRow, standIns := [], harness := (true, "b1b8905f694f72b074dd75cca85d882202fcaa92fc716e6a1a33b43eefc92f51"), looks := false }, kinds := [], alts := [], laidByText := true, laidKinds := [.data, .pinned], laidTests := true, laidLooks := .later }
def PlanUndoneUptoCardSaid : Prop := Claim7.holds Tryd.pinned (.plain (OpenSpec.upto planUndoneSpec)) planUndoneUptoCard
end Rows
end Go.Proofs.YtmjnllldjeeigaaDoor
