/-
  NARROWER THAN 'FOR EVERY INPUT', by the rows' own cells (each row's printed sentence says how): NameOrdered: laid · NameRejoined: laid · NameApart: laid · NameFoldedWords: laid · CrcSums: laid · CrcExtends: laid.
  DERIVED. THE GIVEN ROWS OF THIS SEAT. 6 by the template 'for every input the law returns true; each argument reads behind the call as it read before'; 0 by the template 'total and deterministic' (their statements: YtaidoipjbgkgaabDoorTotals.lean).
  GIVEN WITH THE SEED: the statements are not yours to turn. If you find one false, say at which input.
  Laid BY PROGRAM, IN A SANDBOX (cutbox-rows.mjs): the forced cells as the released guide's own fill.sh prints them over the translation 1767ccc4c983166c… (all of the seat's roots in one cut). By AI agents, Wed Nov 11 2026. No macro, syntax, notation, axiom, sorry.
-/
import Derived.Test.YtaidoipjbgkgaabDoorChecked
import GoSem.PinnedTables
import GoSem.Claim
import GoSem.ClaimJoined
import GoSem.ClaimMapViews
import Derived.JoinedTies
import Derived.KernelRfl
namespace Go.Proofs.YtaidoipjbgkgaabDoor
/- THE CELL 'sum', in the pinned program and in every row, IS THE sha256 OF THE DUMP (.gsa) THAT YtaidoipjbgkgaabDoorProg.lean LOADS. Nothing in Lean hashes anything: it is a label: what it is worth is what the hold of that sum in a sandbox is worth. -/
noncomputable def Tryd.pinned : Pinned := { name := "ytaidoipjbgkgaabdoor", sum := "1767ccc4c983166c6ddc2c8432984000e84b1f29e75e893d7ee9266e4e105ba6", checked := Tryd.checked }
namespace Rows
def none {H : Type} : Left H := { results := [], args := [] }

/- WHAT THE LISTED PACKAGE-LEVEL VARIABLES READ AS WHEN THE CALL BEGINS. Each datum BY PROGRAM (the guide's laid-datum.mjs) off the statement by which the dump's own 'gosem.cut.vars' lays the variable. In a bare row this is a premise. The card (YtaidoipjbgkgaabDoorCards.lean) ties it to the program's text. -/
def laid_unicode_utf8_acceptRanges {H : Type} : DataW H := .agg [.agg [.lit (.int .u8 128), .lit (.int .u8 191)], .agg [.lit (.int .u8 160), .lit (.int .u8 191)], .agg [.lit (.int .u8 128), .lit (.int .u8 159)], .agg [.lit (.int .u8 144), .lit (.int .u8 191)], .agg [.lit (.int .u8 128), .lit (.int .u8 143)], .agg [.lit (.int .u8 0), .lit (.int .u8 0)], .agg [.lit (.int .u8 0), .lit (.int .u8 0)], .agg [.lit (.int .u8 0), .lit (.int .u8 0)], .agg [.lit (.int .u8 0), .lit (.int .u8 0)], .agg [.lit (.int .u8 0), .lit (.int .u8 0)], .agg [.lit (.int .u8 0), .lit (.int .u8 0)], .agg [.lit (.int .u8 0), .lit (.int .u8 0)], .agg [.lit (.int .u8 0), .lit (.int .u8 0)], .agg [.lit (.int .u8 0), .lit (.int .u8 0)], .agg [.lit (.int .u8 0), .lit (.int .u8 0)], .agg [.lit (.int .u8 0), .lit (.int .u8 0)]]
/-- One of Go's own tables, pinned by name: the form's constant. -/
def laid_unicode_utf8_first : DataW Unit := Go.Pinned.utf8First
def laid_odyssey_crc_fourBits {H : Type} : DataW H := .agg [.lit (.int .u32 0), .lit (.int .u32 498536548), .lit (.int .u32 997073096), .lit (.int .u32 651767980), .lit (.int .u32 1994146192), .lit (.int .u32 1802195444), .lit (.int .u32 1303535960), .lit (.int .u32 1342533948), .lit (.int .u32 3988292384), .lit (.int .u32 4027552580), .lit (.int .u32 3604390888), .lit (.int .u32 3412177804), .lit (.int .u32 2607071920), .lit (.int .u32 2262029012), .lit (.int .u32 2685067896), .lit (.int .u32 3183342108)]

/-- 'odysseylaw01.NameOrdered': WHATEVER THE INPUT: true; the input reads as it did. -/
def nameOrderedSpec : ChangeSpec := { name := "nameOrdered", fn := fun _ => fun
  | [d1, d2, d3] => { results := [.lit (.bool true)], args := [d1, d2, d3] }
  | _ => none }
def nameOrderedRow : OpenClaim := { program := "ytaidoipjbgkgaabdoor", sum := "1767ccc4c983166c6ddc2c8432984000e84b1f29e75e893d7ee9266e4e105ba6", func := "odyssey/odysseylaw01.NameOrdered", spec := "nameOrdered", named := ["unicode/utf8.first", "unicode/utf8.acceptRanges"], apart := false, laid := [("unicode/utf8.acceptRanges", laid_unicode_utf8_acceptRanges), ("unicode/utf8.first", laid_unicode_utf8_first)] }
def NameOrderedSaid : Prop := nameOrderedRow.holds Tryd.pinned (OpenSpec.ofChange nameOrderedSpec)

/-- ITS FALSE NEIGHBOUR: 'it returns false'. Refute it at one input. -/
def nameOrderedWrong : ChangeSpec := { name := "nameOrdered", fn := fun _ => fun
  | [d1, d2, d3] => { results := [.lit (.bool false)], args := [d1, d2, d3] }
  | _ => none }
def NameOrderedWrongFalsely : Prop := nameOrderedRow.holds Tryd.pinned (OpenSpec.ofChange nameOrderedWrong)

/-- 'odysseylaw01.NameRejoined': WHATEVER THE INPUT: true; the input reads as it did. -/
def nameRejoinedSpec : ChangeSpec := { name := "nameRejoined", fn := fun _ => fun
  | [d] => { results := [.lit (.bool true)], args := [d] }
  | _ => none }
def nameRejoinedRow : OpenClaim := { program := "ytaidoipjbgkgaabdoor", sum := "1767ccc4c983166c6ddc2c8432984000e84b1f29e75e893d7ee9266e4e105ba6", func := "odyssey/odysseylaw01.NameRejoined", spec := "nameRejoined", named := ["unicode/utf8.first", "unicode/utf8.acceptRanges"], apart := false, laid := [("unicode/utf8.acceptRanges", laid_unicode_utf8_acceptRanges), ("unicode/utf8.first", laid_unicode_utf8_first)] }
def NameRejoinedSaid : Prop := nameRejoinedRow.holds Tryd.pinned (OpenSpec.ofChange nameRejoinedSpec)

/-- ITS FALSE NEIGHBOUR: 'it returns false'. Refute it at one input. -/
def nameRejoinedWrong : ChangeSpec := { name := "nameRejoined", fn := fun _ => fun
  | [d] => { results := [.lit (.bool false)], args := [d] }
  | _ => none }
def NameRejoinedWrongFalsely : Prop := nameRejoinedRow.holds Tryd.pinned (OpenSpec.ofChange nameRejoinedWrong)

/-- 'odysseylaw01.NameApart': WHATEVER THE INPUT: true; the input reads as it did. -/
def nameApartSpec : ChangeSpec := { name := "nameApart", fn := fun _ => fun
  | [d1, d2] => { results := [.lit (.bool true)], args := [d1, d2] }
  | _ => none }
def nameApartRow : OpenClaim := { program := "ytaidoipjbgkgaabdoor", sum := "1767ccc4c983166c6ddc2c8432984000e84b1f29e75e893d7ee9266e4e105ba6", func := "odyssey/odysseylaw01.NameApart", spec := "nameApart", named := ["unicode/utf8.first", "unicode/utf8.acceptRanges"], apart := false, laid := [("unicode/utf8.acceptRanges", laid_unicode_utf8_acceptRanges), ("unicode/utf8.first", laid_unicode_utf8_first)] }
def NameApartSaid : Prop := nameApartRow.holds Tryd.pinned (OpenSpec.ofChange nameApartSpec)

/-- ITS FALSE NEIGHBOUR: 'it returns false'. Refute it at one input. -/
def nameApartWrong : ChangeSpec := { name := "nameApart", fn := fun _ => fun
  | [d1, d2] => { results := [.lit (.bool false)], args := [d1, d2] }
  | _ => none }
def NameApartWrongFalsely : Prop := nameApartRow.holds Tryd.pinned (OpenSpec.ofChange nameApartWrong)

/-- 'odysseylaw01.NameFoldedWords': WHATEVER THE INPUT: true; the input reads as it did. -/
def nameFoldedWordsSpec : ChangeSpec := { name := "nameFoldedWords", fn := fun _ => fun
  | [d] => { results := [.lit (.bool true)], args := [d] }
  | _ => none }
def nameFoldedWordsRow : OpenClaim := { program := "ytaidoipjbgkgaabdoor", sum := "1767ccc4c983166c6ddc2c8432984000e84b1f29e75e893d7ee9266e4e105ba6", func := "odyssey/odysseylaw01.NameFoldedWords", spec := "nameFoldedWords", named := ["unicode/utf8.first", "unicode/utf8.acceptRanges"], apart := false, laid := [("unicode/utf8.acceptRanges", laid_unicode_utf8_acceptRanges), ("unicode/utf8.first", laid_unicode_utf8_first)] }
def NameFoldedWordsSaid : Prop := nameFoldedWordsRow.holds Tryd.pinned (OpenSpec.ofChange nameFoldedWordsSpec)

/-- ITS FALSE NEIGHBOUR: 'it returns false'. Refute it at one input. -/
def nameFoldedWordsWrong : ChangeSpec := { name := "nameFoldedWords", fn := fun _ => fun
  | [d] => { results := [.lit (.bool false)], args := [d] }
  | _ => none }
def NameFoldedWordsWrongFalsely : Prop := nameFoldedWordsRow.holds Tryd.pinned (OpenSpec.ofChange nameFoldedWordsWrong)

/-- 'odysseylaw02.CrcSums': WHATEVER THE INPUT: true; the input reads as it did. -/
def crcSumsSpec : ChangeSpec := { name := "crcSums", fn := fun _ => fun
  | [d] => { results := [.lit (.bool true)], args := [d] }
  | _ => none }
def crcSumsRow : OpenClaim := { program := "ytaidoipjbgkgaabdoor", sum := "1767ccc4c983166c6ddc2c8432984000e84b1f29e75e893d7ee9266e4e105ba6", func := "odyssey/odysseylaw02.CrcSums", spec := "crcSums", named := ["odyssey/crc.fourBits"], apart := false, laid := [("odyssey/crc.fourBits", laid_odyssey_crc_fourBits)] }
def CrcSumsSaid : Prop := crcSumsRow.holds Tryd.pinned (OpenSpec.ofChange crcSumsSpec)

/-- ITS FALSE NEIGHBOUR: 'it returns false'. Refute it at one input. -/
def crcSumsWrong : ChangeSpec := { name := "crcSums", fn := fun _ => fun
  | [d] => { results := [.lit (.bool false)], args := [d] }
  | _ => none }
def CrcSumsWrongFalsely : Prop := crcSumsRow.holds Tryd.pinned (OpenSpec.ofChange crcSumsWrong)

/-- 'odysseylaw02.CrcExtends': WHATEVER THE INPUT: true; the input reads as it did. -/
def crcExtendsSpec : ChangeSpec := { name := "crcExtends", fn := fun _ => fun
  | [d1, d2] => { results := [.lit (.bool true)], args := [d1, d2] }
  | _ => none }
def crcExtendsRow : OpenClaim := { program := "ytaidoipjbgkgaabdoor", sum := "1767ccc4c983166c6ddc2c8432984000e84b1f29e75e893d7ee9266e4e105ba6", func := "odyssey/odysseylaw02.CrcExtends", spec := "crcExtends", named := ["odyssey/crc.fourBits"], apart := false, laid := [("odyssey/crc.fourBits", laid_odyssey_crc_fourBits)] }
def CrcExtendsSaid : Prop := crcExtendsRow.holds Tryd.pinned (OpenSpec.ofChange crcExtendsSpec)

/-- ITS FALSE NEIGHBOUR: 'it returns false'. Refute it at one input. -/
def crcExtendsWrong : ChangeSpec := { name := "crcExtends", fn := fun _ => fun
  | [d1, d2] => { results := [.lit (.bool false)], args := [d1, d2] }
  | _ => none }
def CrcExtendsWrongFalsely : Prop := crcExtendsRow.holds Tryd.pinned (OpenSpec.ofChange crcExtendsWrong)

/- THE SECOND FORM. 'bulk': how many values and letters a reading holds, each counted each time it is reached (what is shared counts as often as it is met; a slice's spare places count too). A statement '..UptoSaid' is the law's where the arguments, and the package variables that the reading takes, are together of bulk at most 1048576: NARROWER than '..Said'. Prove '..Said' where nothing that the law and all that it calls make is longer than what came in: it says more and counts as full. Else prove '..UptoSaid'. A law counts once. -/
mutual
def uptoBulk {H : Type} : DataW H → Nat
  | .lit (.string bytes) => bytes.length + 1
  | .lit _ => 1
  | .nil => 1
  | .ptr d => uptoBulk d + 1
  | .slice elems spare => uptoBulkAll elems + uptoBulkAll spare + 1
  | .agg parts => uptoBulkAll parts + 1
  | .iface _ d => uptoBulk d + 1
  | .map entries => uptoBulkEntries entries + 1
  | .held _ => 1
def uptoBulkAll {H : Type} : List (DataW H) → Nat
  | [] => 0
  | d :: r => uptoBulk d + uptoBulkAll r
def uptoBulkEntries {H : Type} : List (Lit × DataW H) → Nat
  | [] => 0
  | x :: r => uptoBulkEntry x + uptoBulkEntries r
def uptoBulkEntry {H : Type} : Lit × DataW H → Nat
  | (.string bytes, d) => bytes.length + uptoBulk d + 1
  | (_, d) => uptoBulk d + 1
 end
def uptoSmall : (H : Type) → List (DataW H) → Bool := fun _ ds => decide (uptoBulkAll ds ≤ 1048576)
def OpenSpec.upto (s : _root_.Go.ChangeSpec) : _root_.Go.OpenSpec := { _root_.Go.OpenSpec.ofChange s with cond := some uptoSmall }

/-- 'odysseylaw01.NameOrdered', WHERE WHAT IT READS IS OF BULK AT MOST 1048576: true; the input reads as it did. -/
def nameOrderedUptoRow : OpenClaim := { program := "ytaidoipjbgkgaabdoor", sum := "1767ccc4c983166c6ddc2c8432984000e84b1f29e75e893d7ee9266e4e105ba6", func := "odyssey/odysseylaw01.NameOrdered", spec := "nameOrdered", named := ["unicode/utf8.first", "unicode/utf8.acceptRanges"], apart := false, laid := [("unicode/utf8.acceptRanges", laid_unicode_utf8_acceptRanges), ("unicode/utf8.first", laid_unicode_utf8_first)], narrowed := true }
def NameOrderedUptoSaid : Prop := nameOrderedUptoRow.holds Tryd.pinned (OpenSpec.upto nameOrderedSpec)

/-- 'odysseylaw01.NameRejoined', WHERE WHAT IT READS IS OF BULK AT MOST 1048576: true; the input reads as it did. -/
def nameRejoinedUptoRow : OpenClaim := { program := "ytaidoipjbgkgaabdoor", sum := "1767ccc4c983166c6ddc2c8432984000e84b1f29e75e893d7ee9266e4e105ba6", func := "odyssey/odysseylaw01.NameRejoined", spec := "nameRejoined", named := ["unicode/utf8.first", "unicode/utf8.acceptRanges"], apart := false, laid := [("unicode/utf8.acceptRanges", laid_unicode_utf8_acceptRanges), ("unicode/utf8.first", laid_unicode_utf8_first)], narrowed := true }
def NameRejoinedUptoSaid : Prop := nameRejoinedUptoRow.holds Tryd.pinned (OpenSpec.upto nameRejoinedSpec)

/-- 'odysseylaw01.NameApart', WHERE WHAT IT READS IS OF BULK AT MOST 1048576: true; the input reads as it did. -/
def nameApartUptoRow : OpenClaim := { program := "ytaidoipjbgkgaabdoor", sum := "1767ccc4c983166c6ddc2c8432984000e84b1f29e75e893d7ee9266e4e105ba6", func := "odyssey/odysseylaw01.NameApart", spec := "nameApart", named := ["unicode/utf8.first", "unicode/utf8.acceptRanges"], apart := false, laid := [("unicode/utf8.acceptRanges", laid_unicode_utf8_acceptRanges), ("unicode/utf8.first", laid_unicode_utf8_first)], narrowed := true }
def NameApartUptoSaid : Prop := nameApartUptoRow.holds Tryd.pinned (OpenSpec.upto nameApartSpec)

/-- 'odysseylaw01.NameFoldedWords', WHERE WHAT IT READS IS OF BULK AT MOST 1048576: true; the input reads as it did. -/
def nameFoldedWordsUptoRow : OpenClaim := { program := "ytaidoipjbgkgaabdoor", sum := "1767ccc4c983166c6ddc2c8432984000e84b1f29e75e893d7ee9266e4e105ba6", func := "odyssey/odysseylaw01.NameFoldedWords", spec := "nameFoldedWords", named := ["unicode/utf8.first", "unicode/utf8.acceptRanges"], apart := false, laid := [("unicode/utf8.acceptRanges", laid_unicode_utf8_acceptRanges), ("unicode/utf8.first", laid_unicode_utf8_first)], narrowed := true }
def NameFoldedWordsUptoSaid : Prop := nameFoldedWordsUptoRow.holds Tryd.pinned (OpenSpec.upto nameFoldedWordsSpec)

/-- 'odysseylaw02.CrcSums', WHERE WHAT IT READS IS OF BULK AT MOST 1048576: true; the input reads as it did. -/
def crcSumsUptoRow : OpenClaim := { program := "ytaidoipjbgkgaabdoor", sum := "1767ccc4c983166c6ddc2c8432984000e84b1f29e75e893d7ee9266e4e105ba6", func := "odyssey/odysseylaw02.CrcSums", spec := "crcSums", named := ["odyssey/crc.fourBits"], apart := false, laid := [("odyssey/crc.fourBits", laid_odyssey_crc_fourBits)], narrowed := true }
def CrcSumsUptoSaid : Prop := crcSumsUptoRow.holds Tryd.pinned (OpenSpec.upto crcSumsSpec)

/-- 'odysseylaw02.CrcExtends', WHERE WHAT IT READS IS OF BULK AT MOST 1048576: true; the input reads as it did. -/
def crcExtendsUptoRow : OpenClaim := { program := "ytaidoipjbgkgaabdoor", sum := "1767ccc4c983166c6ddc2c8432984000e84b1f29e75e893d7ee9266e4e105ba6", func := "odyssey/odysseylaw02.CrcExtends", spec := "crcExtends", named := ["odyssey/crc.fourBits"], apart := false, laid := [("odyssey/crc.fourBits", laid_odyssey_crc_fourBits)], narrowed := true }
def CrcExtendsUptoSaid : Prop := crcExtendsUptoRow.holds Tryd.pinned (OpenSpec.upto crcExtendsSpec)

end Rows
end Go.Proofs.YtaidoipjbgkgaabDoor
