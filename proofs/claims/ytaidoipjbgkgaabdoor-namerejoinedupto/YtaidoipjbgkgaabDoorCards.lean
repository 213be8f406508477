/-
  DERIVED. GIVEN WITH THE SEED: THE CARDS: each row of YtaidoipjbgkgaabDoorRows.lean that lists a variable, with what it lists TIED to the program's text (the seventh form; the later family's looks); each row that meets fmt, with fmt's text TOLD by the authors' own Lean function (tested against real Go, not proved from fmt's source: count such statements apart). THE CARD IS WHAT COUNTS. Prove the row's statement (the work); the ties are given (YtaidoipjbgkgaabDoorTie.lean); close each card by the builder's one call (the guide's Derived/Test/ToyasCard.lean, 'card_holds'). Laid BY PROGRAM, IN A SANDBOX (cutbox-door.mjs). By AI agents, Wed Nov 11 2026. No macro, syntax, notation, axiom, sorry.
-/
import Derived.Test.YtaidoipjbgkgaabDoorRows
import GoSem.ClaimSeven
namespace Go.Proofs.YtaidoipjbgkgaabDoor
namespace Rows

/-- THE TIED CARD OF 'odysseylaw01.NameOrdered'. -/
def nameOrderedCard : Claim7 := { stood := { row := nameOrderedRow, standIns := [], harness := (true, "6b2a7b84ac414c893f310b2536f33cceeca79da3f6caa738b120f0dfac148d87"), looks := false }, kinds := [], alts := [], laidByText := true, laidKinds := [.data, .pinned], laidTests := true, laidLooks := .later }
def NameOrderedCardSaid : Prop := Claim7.holds Tryd.pinned (.plain (OpenSpec.ofChange nameOrderedSpec)) nameOrderedCard

/-- THE TIED CARD OF 'odysseylaw01.NameRejoined'. -/
def nameRejoinedCard : Claim7 := { stood := { row := nameRejoinedRow, standIns := [], harness := (true, "6b2a7b84ac414c893f310b2536f33cceeca79da3f6caa738b120f0dfac148d87"), looks := false }, kinds := [], alts := [], laidByText := true, laidKinds := [.data, .pinned], laidTests := true, laidLooks := .later }
def NameRejoinedCardSaid : Prop := Claim7.holds Tryd.pinned (.plain (OpenSpec.ofChange nameRejoinedSpec)) nameRejoinedCard

/-- THE TIED CARD OF 'odysseylaw01.NameApart'. -/
def nameApartCard : Claim7 := { stood := { row := nameApartRow, standIns := [], harness := (true, "6b2a7b84ac414c893f310b2536f33cceeca79da3f6caa738b120f0dfac148d87"), looks := false }, kinds := [], alts := [], laidByText := true, laidKinds := [.data, .pinned], laidTests := true, laidLooks := .later }
def NameApartCardSaid : Prop := Claim7.holds Tryd.pinned (.plain (OpenSpec.ofChange nameApartSpec)) nameApartCard

/-- THE TIED CARD OF 'odysseylaw01.NameFoldedWords'. -/
def nameFoldedWordsCard : Claim7 := { stood := { row := nameFoldedWordsRow, standIns := [], harness := (true, "6b2a7b84ac414c893f310b2536f33cceeca79da3f6caa738b120f0dfac148d87"), looks := false }, kinds := [], alts := [], laidByText := true, laidKinds := [.data, .pinned], laidTests := true, laidLooks := .later }
def NameFoldedWordsCardSaid : Prop := Claim7.holds Tryd.pinned (.plain (OpenSpec.ofChange nameFoldedWordsSpec)) nameFoldedWordsCard

/-- THE TIED CARD OF 'odysseylaw02.CrcSums'. -/
def crcSumsCard : Claim7 := { stood := { row := crcSumsRow, standIns := [], harness := (true, "6b2a7b84ac414c893f310b2536f33cceeca79da3f6caa738b120f0dfac148d87"), looks := false }, kinds := [], alts := [], laidByText := true, laidKinds := [.data], laidTests := true, laidLooks := .later }
def CrcSumsCardSaid : Prop := Claim7.holds Tryd.pinned (.plain (OpenSpec.ofChange crcSumsSpec)) crcSumsCard

/-- THE TIED CARD OF 'odysseylaw02.CrcExtends'. -/
def crcExtendsCard : Claim7 := { stood := { row := crcExtendsRow, standIns := [], harness := (true, "6b2a7b84ac414c893f310b2536f33cceeca79da3f6caa738b120f0dfac148d87"), looks := false }, kinds := [], alts := [], laidByText := true, laidKinds := [.data], laidTests := true, laidLooks := .later }
def CrcExtendsCardSaid : Prop := Claim7.holds Tryd.pinned (.plain (OpenSpec.ofChange crcExtendsSpec)) crcExtendsCard

/-- THE SECOND FORM's CARD OF 'odysseylaw01.NameOrdered'. -/
def nameOrderedUptoCard : Claim7 := { stood := { row := nameOrderedUptoRow, standIns := [], harness := (true, "6b2a7b84ac414c893f310b2536f33cceeca79da3f6caa738b120f0dfac148d87"), looks := false }, kinds := [], alts := [], laidByText := true, laidKinds := [.data, .pinned], laidTests := true, laidLooks := .later }
def NameOrderedUptoCardSaid : Prop := Claim7.holds Tryd.pinned (.plain (OpenSpec.upto nameOrderedSpec)) nameOrderedUptoCard

/-- THE SECOND FORM's CARD OF 'odysseylaw01.NameRejoined'. -/
def nameRejoinedUptoCard : Claim7 := { stood := { row := nameRejoinedUptoRow, standIns := [], harness := (true, "6b2a7b84ac414c893f310b2536f33cceeca79da3f6caa738b120f0dfac148d87"), looks := false }, kinds := [], alts := [], laidByText := true, laidKinds := [.data, .pinned], laidTests := true, laidLooks := .later }
def NameRejoinedUptoCardSaid : Prop := Claim7.holds Tryd.pinned (.plain (OpenSpec.upto nameRejoinedSpec)) nameRejoinedUptoCard

/-- THE SECOND FORM's CARD OF 'odysseylaw01.NameApart'. -/
def nameApartUptoCard : Claim7 := { stood := { row := nameApartUptoRow, standIns := [], harness := (true, "6b2a7b84ac414c893f310b2536f33cceeca79da3f6caa738b120f0dfac148d87"), looks := false }, kinds := [], alts := [], laidByText := true, laidKinds := [.data, .pinned], laidTests := true, laidLooks := .later }
def NameApartUptoCardSaid : Prop := Claim7.holds Tryd.pinned (.plain (OpenSpec.upto nameApartSpec)) nameApartUptoCard

/-- THE SECOND FORM's CARD OF 'odysseylaw01.NameFoldedWords'. -/
def nameFoldedWordsUptoCard : Claim7 := { stood := { row := nameFoldedWordsUptoRow, standIns := [], harness := (true, "6b2a7b84ac414c893f310b2536f33cceeca79da3f6caa738b120f0dfac148d87"), looks := false }, kinds := [], alts := [], laidByText := true, laidKinds := [.data, .pinned], laidTests := true, laidLooks := .later }
def NameFoldedWordsUptoCardSaid : Prop := Claim7.holds Tryd.pinned (.plain (OpenSpec.upto nameFoldedWordsSpec)) nameFoldedWordsUptoCard

/-- THE SECOND FORM's CARD OF 'odysseylaw02.CrcSums'. -/
def crcSumsUptoCard : Claim7 := { stood := { row := crcSumsUptoRow, standIns := [], harness := (true, "6b2a7b84ac414c893f310b2536f33cceeca79da3f6caa738b120f0dfac148d87"), looks := false }, kinds := [], alts := [], laidByText := true, laidKinds := [.data], laidTests := true, laidLooks := .later }
def CrcSumsUptoCardSaid : Prop := Claim7.holds Tryd.pinned (.plain (OpenSpec.upto crcSumsSpec)) crcSumsUptoCard

/-- THE SECOND FORM's CARD OF 'odysseylaw02.CrcExtends'. -/
def crcExtendsUptoCard : Claim7 := { stood := { row := crcExtendsUptoRow, standIns := [], harness := (true, "6b2a7b84ac414c893f310b2536f33cceeca79da3f6caa738b120f0dfac148d87"), looks := false }, kinds := [], alts := [], laidByText := true, laidKinds := [.data], laidTests := true, laidLooks := .later }
def CrcExtendsUptoCardSaid : Prop := Claim7.holds Tryd.pinned (.plain (OpenSpec.upto crcExtendsSpec)) crcExtendsUptoCard
end Rows
end Go.Proofs.YtaidoipjbgkgaabDoor
