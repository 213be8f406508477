/-
  DERIVED. GIVEN WITH THE SEED: THE CARDS: each row of YtaidoipjbgkgaaaDoorRows.lean that lists a variable, with what it lists TIED to the program's text (the seventh form; the later family's looks); each row that meets fmt, with fmt's text TOLD by the authors' own Lean function (tested against real Go, not proved from fmt's source: count such statements apart). THE CARD IS WHAT COUNTS. Prove the row's statement (the work); the ties are given (YtaidoipjbgkgaaaDoorTie.lean); close each card by the builder's one call (the guide's Derived/Test/ToyasCard.lean, 'card_holds'). Laid BY PROGRAM, IN A SANDBOX (cutbox-door.mjs). By AI agents, Wed Nov 11 2026. No macro, syntax, notation, axiom, sorry.
-/
import Derived.Test.YtaidoipjbgkgaaaDoorRows
import GoSem.ClaimSeven
namespace Go.Proofs.YtaidoipjbgkgaaaDoor
namespace Rows

/-- THE TIED CARD OF 'odysseylaw01.NameIs'. -/
def nameIsCard : Claim7 := { stood := { row := nameIsRow, standIns := [], harness := (true, "f17dd24a38a899f17ff28ba1b619b7ebf15d2d9bc69e97046e579b573fd80827"), looks := false }, kinds := [], alts := [], laidByText := true, laidKinds := [.data, .pinned], laidTests := true, laidLooks := .later }
def NameIsCardSaid : Prop := Claim7.holds Tryd.pinned (.plain (OpenSpec.ofChange nameIsSpec)) nameIsCard

/-- THE TIED CARD OF 'odysseylaw01.NameFolds'. -/
def nameFoldsCard : Claim7 := { stood := { row := nameFoldsRow, standIns := [], harness := (true, "f17dd24a38a899f17ff28ba1b619b7ebf15d2d9bc69e97046e579b573fd80827"), looks := false }, kinds := [], alts := [], laidByText := true, laidKinds := [.data, .pinned], laidTests := true, laidLooks := .later }
def NameFoldsCardSaid : Prop := Claim7.holds Tryd.pinned (.plain (OpenSpec.ofChange nameFoldsSpec)) nameFoldsCard

/-- THE TIED CARD OF 'odysseylaw01.NameCompares'. -/
def nameComparesCard : Claim7 := { stood := { row := nameComparesRow, standIns := [], harness := (true, "f17dd24a38a899f17ff28ba1b619b7ebf15d2d9bc69e97046e579b573fd80827"), looks := false }, kinds := [], alts := [], laidByText := true, laidKinds := [.data, .pinned], laidTests := true, laidLooks := .later }
def NameComparesCardSaid : Prop := Claim7.holds Tryd.pinned (.plain (OpenSpec.ofChange nameComparesSpec)) nameComparesCard

/-- THE TIED CARD OF 'odysseylaw01.NameOwners'. -/
def nameOwnersCard : Claim7 := { stood := { row := nameOwnersRow, standIns := [], harness := (true, "f17dd24a38a899f17ff28ba1b619b7ebf15d2d9bc69e97046e579b573fd80827"), looks := false }, kinds := [], alts := [], laidByText := true, laidKinds := [.data, .pinned], laidTests := true, laidLooks := .later }
def NameOwnersCardSaid : Prop := Claim7.holds Tryd.pinned (.plain (OpenSpec.ofChange nameOwnersSpec)) nameOwnersCard

/-- THE TIED CARD OF 'odysseylaw01.NameWords'. -/
def nameWordsCard : Claim7 := { stood := { row := nameWordsRow, standIns := [], harness := (true, "f17dd24a38a899f17ff28ba1b619b7ebf15d2d9bc69e97046e579b573fd80827"), looks := false }, kinds := [], alts := [], laidByText := true, laidKinds := [.data, .pinned], laidTests := true, laidLooks := .later }
def NameWordsCardSaid : Prop := Claim7.holds Tryd.pinned (.plain (OpenSpec.ofChange nameWordsSpec)) nameWordsCard

/-- THE TIED CARD OF 'odysseylaw01.NameFolded'. -/
def nameFoldedCard : Claim7 := { stood := { row := nameFoldedRow, standIns := [], harness := (true, "f17dd24a38a899f17ff28ba1b619b7ebf15d2d9bc69e97046e579b573fd80827"), looks := false }, kinds := [], alts := [], laidByText := true, laidKinds := [.data, .pinned], laidTests := true, laidLooks := .later }
def NameFoldedCardSaid : Prop := Claim7.holds Tryd.pinned (.plain (OpenSpec.ofChange nameFoldedSpec)) nameFoldedCard

/-- THE SECOND FORM's CARD OF 'odysseylaw01.NameIs'. -/
def nameIsUptoCard : Claim7 := { stood := { row := nameIsUptoRow, standIns := [], harness := (true, "f17dd24a38a899f17ff28ba1b619b7ebf15d2d9bc69e97046e579b573fd80827"), looks := false }, kinds := [], alts := [], laidByText := true, laidKinds := [.data, .pinned], laidTests := true, laidLooks := .later }
def NameIsUptoCardSaid : Prop := Claim7.holds Tryd.pinned (.plain (OpenSpec.upto nameIsSpec)) nameIsUptoCard

/-- THE SECOND FORM's CARD OF 'odysseylaw01.NameFolds'. -/
def nameFoldsUptoCard : Claim7 := { stood := { row := nameFoldsUptoRow, standIns := [], harness := (true, "f17dd24a38a899f17ff28ba1b619b7ebf15d2d9bc69e97046e579b573fd80827"), looks := false }, kinds := [], alts := [], laidByText := true, laidKinds := [.data, .pinned], laidTests := true, laidLooks := .later }
def NameFoldsUptoCardSaid : Prop := Claim7.holds Tryd.pinned (.plain (OpenSpec.upto nameFoldsSpec)) nameFoldsUptoCard

/-- THE SECOND FORM's CARD OF 'odysseylaw01.NameCompares'. -/
def nameComparesUptoCard : Claim7 := { stood := { row := nameComparesUptoRow, standIns := [], harness := (true, "f17dd24a38a899f17ff28ba1b619b7ebf15d2d9bc69e97046e579b573fd80827"), looks := false }, kinds := [], alts := [], laidByText := true, laidKinds := [.data, .pinned], laidTests := true, laidLooks := .later }
def NameComparesUptoCardSaid : Prop := Claim7.holds Tryd.pinned (.plain (OpenSpec.upto nameComparesSpec)) nameComparesUptoCard

/-- THE SECOND FORM's CARD OF 'odysseylaw01.NameOwners'. -/
def nameOwnersUptoCard : Claim7 := { stood := { row := nameOwnersUptoRow, standIns := [], harness := (true, "f17dd24a38a899f17ff28ba1b619b7ebf15d2d9bc69e97046e579b573fd80827"), looks := false }, kinds := [], alts := [], laidByText := true, laidKinds := [.data, .pinned], laidTests := true, laidLooks := .later }
def NameOwnersUptoCardSaid : Prop := Claim7.holds Tryd.pinned (.plain (OpenSpec.upto nameOwnersSpec)) nameOwnersUptoCard

/-- THE SECOND FORM's CARD OF 'odysseylaw01.NameWords'. -/
def nameWordsUptoCard : Claim7 := { stood := { row := nameWordsUptoRow, standIns := [], harness := (true, "f17dd24a38a899f17ff28ba1b619b7ebf15d2d9bc69e97046e579b573fd80827"), looks := false }, kinds := [], alts := [], laidByText := true, laidKinds := [.data, .pinned], laidTests := true, laidLooks := .later }
def NameWordsUptoCardSaid : Prop := Claim7.holds Tryd.pinned (.plain (OpenSpec.upto nameWordsSpec)) nameWordsUptoCard

/-- THE SECOND FORM's CARD OF 'odysseylaw01.NameFolded'. -/
def nameFoldedUptoCard : Claim7 := { stood := { row := nameFoldedUptoRow, standIns := [], harness := (true, "f17dd24a38a899f17ff28ba1b619b7ebf15d2d9bc69e97046e579b573fd80827"), looks := false }, kinds := [], alts := [], laidByText := true, laidKinds := [.data, .pinned], laidTests := true, laidLooks := .later }
def NameFoldedUptoCardSaid : Prop := Claim7.holds Tryd.pinned (.plain (OpenSpec.upto nameFoldedSpec)) nameFoldedUptoCard
end Rows
end Go.Proofs.YtaidoipjbgkgaaaDoor
