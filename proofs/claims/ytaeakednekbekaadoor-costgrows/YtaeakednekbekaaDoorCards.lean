/-
  DERIVED. GIVEN WITH THE SEED: THE CARDS: each row of YtaeakednekbekaaDoorRows.lean that lists a variable, with what it lists TIED to the program's text (the seventh form; the later family's looks); each row that meets fmt, with fmt's text TOLD by the authors' own Lean function (tested against real Go, not proved from fmt's source: count such statements apart). THE CARD IS WHAT COUNTS. Prove the row's statement (the work); the ties are given (YtaeakednekbekaaDoorTie.lean); close each card by the builder's one call (the guide's Derived/Test/ToyasCard.lean, 'card_holds'). Laid BY PROGRAM, IN A SANDBOX (cutbox-door.mjs). By AI agents, Wed Nov 11 2026. No macro, syntax, notation, axiom, sorry.
-/
import Derived.Test.YtaeakednekbekaaDoorRows
import GoSem.ClaimSeven
namespace Go.Proofs.YtaeakednekbekaaDoor
namespace Rows

/-- THE TIED CARD OF 'odysseylaw13.CostTells'. -/
def costTellsCard : Claim7 := { stood := { row := costTellsRow, standIns := [], harness := (true, "1039e8a6793f9bb351e06b5a1f00872e1409bedabf1579acabfbcb06683aa822"), looks := false }, kinds := [], alts := [], laidByText := true, laidKinds := [.data, .pinned], laidTests := true, laidLooks := .later }
def CostTellsCardSaid : Prop := Claim7.holds Tryd.pinned (.plain (OpenSpec.ofChange costTellsSpec)) costTellsCard

/-- THE TIED CARD OF 'odysseylaw13.CostRooms'. -/
def costRoomsCard : Claim7 := { stood := { row := costRoomsRow, standIns := [], harness := (true, "1039e8a6793f9bb351e06b5a1f00872e1409bedabf1579acabfbcb06683aa822"), looks := false }, kinds := [], alts := [], laidByText := true, laidKinds := [.data, .pinned], laidTests := true, laidLooks := .later }
def CostRoomsCardSaid : Prop := Claim7.holds Tryd.pinned (.plain (OpenSpec.ofChange costRoomsSpec)) costRoomsCard

/-- THE TIED CARD OF 'odysseylaw13.CostGrows'. -/
def costGrowsCard : Claim7 := { stood := { row := costGrowsRow, standIns := [], harness := (true, "1039e8a6793f9bb351e06b5a1f00872e1409bedabf1579acabfbcb06683aa822"), looks := false }, kinds := [], alts := [], laidByText := true, laidKinds := [.data, .pinned], laidTests := true, laidLooks := .later }
def CostGrowsCardSaid : Prop := Claim7.holds Tryd.pinned (.plain (OpenSpec.ofChange costGrowsSpec)) costGrowsCard

/-- THE SECOND FORM's CARD OF 'odysseylaw13.CostTells'. -/
def costTellsUptoCard : Claim7 := { stood := { row := costTellsUptoRow, standIns := [], harness := (true, "1039e8a6793f9bb351e06b5a1f00872e1409bedabf1579acabfbcb06683aa822"), looks := false }, kinds := [], alts := [], laidByText := true, laidKinds := [.data, .pinned], laidTests := true, laidLooks := .later }
def CostTellsUptoCardSaid : Prop := Claim7.holds Tryd.pinned (.plain (OpenSpec.upto costTellsSpec)) costTellsUptoCard

/-- THE SECOND FORM's CARD OF 'odysseylaw13.CostRooms'. -/
def costRoomsUptoCard : Claim7 := { stood := { row := costRoomsUptoRow, standIns := [], harness := (true, "1039e8a6793f9bb351e06b5a1f00872e1409bedabf1579acabfbcb06683aa822"), looks := false }, kinds := [], alts := [], laidByText := true, laidKinds := [.data, .pinned], laidTests := true, laidLooks := .later }
def CostRoomsUptoCardSaid : Prop := Claim7.holds Tryd.pinned (.plain (OpenSpec.upto costRoomsSpec)) costRoomsUptoCard

/-- THE SECOND FORM's CARD OF 'odysseylaw13.CostGrows'. -/
def costGrowsUptoCard : Claim7 := { stood := { row := costGrowsUptoRow, standIns := [], harness := (true, "1039e8a6793f9bb351e06b5a1f00872e1409bedabf1579acabfbcb06683aa822"), looks := false }, kinds := [], alts := [], laidByText := true, laidKinds := [.data, .pinned], laidTests := true, laidLooks := .later }
def CostGrowsUptoCardSaid : Prop := Claim7.holds Tryd.pinned (.plain (OpenSpec.upto costGrowsSpec)) costGrowsUptoCard
end Rows
end Go.Proofs.YtaeakednekbekaaDoor
