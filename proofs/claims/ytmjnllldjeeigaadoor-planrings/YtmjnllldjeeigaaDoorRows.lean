/-
  NARROWER THAN 'FOR EVERY INPUT', by the rows' own cells (each row's printed sentence says how): PlanAheads: laid · PlanReadies: laid · PlanRings: laid · PlanDone: laid · PlanUndone: laid.
  DERIVED. THE GIVEN ROWS OF THIS SEAT. 5 by the template 'for every input the law returns true; each argument reads behind the call as it read before'; 0 by the template 'total and deterministic' (their statements: YtmjnllldjeeigaaDoorTotals.lean).
  GIVEN WITH THE SEED: the statements are not yours to turn. If you find one false, say at which input.
  Laid BY PROGRAM, IN A SANDBOX (cutbox-rows.mjs): the forced cells as the released guide's own fill.sh prints them over the translation 304ef4c96effac1a… (all of the seat's roots in one cut). By AI agents, Wed Nov 11 2026. No macro, syntax, notation, axiom, sorry.
-/
import Derived.Test.YtmjnllldjeeigaaDoorChecked
import GoSem.PinnedTables
import GoSem.Claim
import GoSem.ClaimJoined
import GoSem.ClaimMapViews
import Derived.JoinedTies
import Derived.KernelRfl
namespace Go.Proofs.YtmjnllldjeeigaaDoor
/- THE CELL 'sum', in the pinned program and in every row, IS THE sha256 OF THE DUMP (.gsa) THAT YtmjnllldjeeigaaDoorProg.lean LOADS. Nothing in Lean hashes anything: it is a label: what it is worth is what the hold of that sum in a sandbox is worth. -/
noncomputable def Tryd.pinned : Pinned := { name := "ytmjnllldjeeigaadoor", sum := "304ef4c96effac1ac9e4f1ea778d749a964a1c57d59761fd4f41cdeb212a5943", checked := Tryd.checked }
namespace Rows
def none {H : Type} : Left H := { results := [], args := [] }

/- WHAT THE LISTED PACKAGE-LEVEL VARIABLES READ AS WHEN THE CALL BEGINS. Each datum BY PROGRAM (the guide's laid-datum.mjs) off the statement by which the dump's own 'gosem.cut.vars' lays the variable. In a bare row this is a premise. The card (YtmjnllldjeeigaaDoorCards.lean) ties it to the program's text. -/
def laid_unicode_utf8_acceptRanges {H : Type} : DataW H := .agg [.agg [.lit (.int .u8 128), .lit (.int .u8 191)], .agg [.lit (.int .u8 160), .lit (.int .u8 191)], .agg [.lit (.int .u8 128), .lit (.int .u8 159)], .agg [.lit (.int .u8 144), .lit (.int .u8 191)], .agg [.lit (.int .u8 128), .lit (.int .u8 143)], .agg [.lit (.int .u8 0), .lit (.int .u8 0)], .agg [.lit (.int .u8 0), .lit (.int .u8 0)], .agg [.lit (.int .u8 0), .lit (.int .u8 0)], .agg [.lit (.int .u8 0), .lit (.int .u8 0)], .agg [.lit (.int .u8 0), .lit (.int .u8 0)], .agg [.lit (.int .u8 0), .lit (.int .u8 0)], .agg [.lit (.int .u8 0), .lit (.int .u8 0)], .agg [.lit (.int .u8 0), .lit (.int .u8 0)], .agg [.lit (.int .u8 0), .lit (.int .u8 0)], .agg [.lit (.int .u8 0), .lit (.int .u8 0)], .agg [.lit (.int .u8 0), .lit (.int .u8 0)]]
/-- One of Go's own tables, pinned by name: the form's constant. -/
def laid_unicode_utf8_first : DataW Unit := Go.Pinned.utf8First

/-- 'odysseylaw12.PlanAheads': WHATEVER THE INPUT: true; the input reads as it did. -/
def planAheadsSpec : ChangeSpec := { name := "planAheads", fn := fun _ => fun
  | [d1, d2] => { results := [.lit (.bool true)], args := [d1, d2] }
  | _ => none }
def planAheadsRow : OpenClaim := { program := "ytmjnllldjeeigaadoor", sum := "304ef4c96effac1ac9e4f1ea778d749a964a1c57d59761fd4f41cdeb212a5943", func := "odyssey/odysseylaw12.PlanAheads", spec := "planAheads", unfollowed := true, recurses := true, named := ["unicode/utf8.first", "unicode/utf8.acceptRanges"], apart := false, laid := [("unicode/utf8.acceptRanges", laid_unicode_utf8_acceptRanges), ("unicode/utf8.first", laid_unicode_utf8_first)] }
def PlanAheadsSaid : Prop := planAheadsRow.holds Tryd.pinned (OpenSpec.ofChange planAheadsSpec)

/-- ITS FALSE NEIGHBOUR: 'it returns false'. Refute it at one input. -/
def planAheadsWrong : ChangeSpec := { name := "planAheads", fn := fun _ => fun
  | [d1, d2] => { results := [.lit (.bool false)], args := [d1, d2] }
  | _ => none }
def PlanAheadsWrongFalsely : Prop := planAheadsRow.holds Tryd.pinned (OpenSpec.ofChange planAheadsWrong)

/-- 'odysseylaw12.PlanReadies': WHATEVER THE INPUT: true; the input reads as it did. -/
def planReadiesSpec : ChangeSpec := { name := "planReadies", fn := fun _ => fun
  | [d1, d2] => { results := [.lit (.bool true)], args := [d1, d2] }
  | _ => none }
def planReadiesRow : OpenClaim := { program := "ytmjnllldjeeigaadoor", sum := "304ef4c96effac1ac9e4f1ea778d749a964a1c57d59761fd4f41cdeb212a5943", func := "odyssey/odysseylaw12.PlanReadies", spec := "planReadies", unfollowed := true, recurses := true, named := ["unicode/utf8.first", "unicode/utf8.acceptRanges"], apart := false, laid := [("unicode/utf8.acceptRanges", laid_unicode_utf8_acceptRanges), ("unicode/utf8.first", laid_unicode_utf8_first)] }
def PlanReadiesSaid : Prop := planReadiesRow.holds Tryd.pinned (OpenSpec.ofChange planReadiesSpec)

/-- ITS FALSE NEIGHBOUR: 'it returns false'. Refute it at one input. -/
def planReadiesWrong : ChangeSpec := { name := "planReadies", fn := fun _ => fun
  | [d1, d2] => { results := [.lit (.bool false)], args := [d1, d2] }
  | _ => none }
def PlanReadiesWrongFalsely : Prop := planReadiesRow.holds Tryd.pinned (OpenSpec.ofChange planReadiesWrong)

/-- 'odysseylaw12.PlanRings': WHATEVER THE INPUT: true; the input reads as it did. -/
def planRingsSpec : ChangeSpec := { name := "planRings", fn := fun _ => fun
  | [d] => { results := [.lit (.bool true)], args := [d] }
  | _ => none }
def planRingsRow : OpenClaim := { program := "ytmjnllldjeeigaadoor", sum := "304ef4c96effac1ac9e4f1ea778d749a964a1c57d59761fd4f41cdeb212a5943", func := "odyssey/odysseylaw12.PlanRings", spec := "planRings", unfollowed := true, recurses := true, named := ["unicode/utf8.first", "unicode/utf8.acceptRanges"], apart := false, laid := [("unicode/utf8.acceptRanges", laid_unicode_utf8_acceptRanges), ("unicode/utf8.first", laid_unicode_utf8_first)] }
def PlanRingsSaid : Prop := planRingsRow.holds Tryd.pinned (OpenSpec.ofChange planRingsSpec)

/-- ITS FALSE NEIGHBOUR: 'it returns false'. Refute it at one input. -/
def planRingsWrong : ChangeSpec := { name := "planRings", fn := fun _ => fun
  | [d] => { results := [.lit (.bool false)], args := [d] }
  | _ => none }
def PlanRingsWrongFalsely : Prop := planRingsRow.holds Tryd.pinned (OpenSpec.ofChange planRingsWrong)

/-- 'odysseylaw12.PlanDone': WHATEVER THE INPUT: true; the input reads as it did. -/
def planDoneSpec : ChangeSpec := { name := "planDone", fn := fun _ => fun
  | [d1, d2] => { results := [.lit (.bool true)], args := [d1, d2] }
  | _ => none }
def planDoneRow : OpenClaim := { program := "ytmjnllldjeeigaadoor", sum := "304ef4c96effac1ac9e4f1ea778d749a964a1c57d59761fd4f41cdeb212a5943", func := "odyssey/odysseylaw12.PlanDone", spec := "planDone", unfollowed := true, recurses := true, named := ["unicode/utf8.first", "unicode/utf8.acceptRanges"], apart := false, laid := [("unicode/utf8.acceptRanges", laid_unicode_utf8_acceptRanges), ("unicode/utf8.first", laid_unicode_utf8_first)] }
def PlanDoneSaid : Prop := planDoneRow.holds Tryd.pinned (OpenSpec.ofChange planDoneSpec)

/-- ITS FALSE NEIGHBOUR: 'it returns false'. Refute it at one input. -/
def planDoneWrong : ChangeSpec := { name := "planDone", fn := fun _ => fun
  | [d1, d2] => { results := [.lit (.bool false)], args := [d1, d2] }
  | _ => none }
def PlanDoneWrongFalsely : Prop := planDoneRow.holds Tryd.pinned (OpenSpec.ofChange planDoneWrong)

/-- 'odysseylaw12.PlanUndone': WHATEVER THE INPUT: true; the input reads as it did. -/
def planUndoneSpec : ChangeSpec := { name := "planUndone", fn := fun _ => fun
  | [d1, d2, d3] => { results := [.lit (.bool true)], args := [d1, d2, d3] }
  | _ => none }
def planUndoneRow : OpenClaim := { program := "ytmjnllldjeeigaadoor", sum := "304ef4c96effac1ac9e4f1ea778d749a964a1c57d59761fd4f41cdeb212a5943", func := "odyssey/odysseylaw12.PlanUndone", spec := "planUndone", unfollowed := true, recurses := true, named := ["unicode/utf8.first", "unicode/utf8.acceptRanges"], apart := false, laid := [("unicode/utf8.acceptRanges", laid_unicode_utf8_acceptRanges), ("unicode/utf8.first", laid_unicode_utf8_first)] }
def PlanUndoneSaid : Prop := planUndoneRow.holds Tryd.pinned (OpenSpec.ofChange planUndoneSpec)

/-- ITS FALSE NEIGHBOUR: 'it returns false'. Refute it at one input. -/
def planUndoneWrong : ChangeSpec := { name := "planUndone", fn := fun _ => fun
  | [d1, d2, d3] => { results := [.lit (.bool false)], args := [d1, d2, d3] }
  | _ => none }
def PlanUndoneWrongFalsely : Prop := planUndoneRow.holds Tryd.pinned (OpenSpec.ofChange planUndoneWrong)

/- THE SECOND FORM. 'bulk': how many values and letters a reading holds, each counted each time it is reached (what is shared counts as often as it is met; a slice's spare places count too). A statement '..UptoSaid' is the law's where the arguments, and the package variables that the reading takes, are together of bulk at most 1048576: NARROWER than '..Said'. Prove '..Said' where nothing that the law and all that it calls make is longer than what came in: it says more and counts as full. Else prove '..UptoSaid'. A law counts once. -/
mutual
def uptoBulk {H : Type} : DataW H → Nat
  | .lit (.string bytes) => bytes.length + 1
  | .lit _ => 1
  | .nil => 1
  | .ptr d => uptoBulk d + 1
  | .slice elems spare => uptoBulkAll elems + uptoBulkAll spare + 1
  | .agg parts => uptoBulkAll parts + 1
  | .iface _ d => uptoBulk d + 1
  | .map entries => uptoBulkEntries entries + 1
  | .held _ => 1
def uptoBulkAll {H : Type} : List (DataW H) → Nat
  | [] => 0
  | d :: r => uptoBulk d + uptoBulkAll r
def uptoBulkEntries {H : Type} : List (Lit × DataW H) → Nat
  | [] => 0
  | x :: r => uptoBulkEntry x + uptoBulkEntries r
def uptoBulkEntry {H : Type} : Lit × DataW H → Nat
  | (.string bytes, d) => bytes.length + uptoBulk d + 1
  | (_, d) => uptoBulk d + 1
 end
def uptoSmall : (H : Type) → List (DataW H) → Bool := fun _ ds => decide (uptoBulkAll ds ≤ 1048576)
def OpenSpec.upto (s : _root_.Go.ChangeSpec) : _root_.Go.OpenSpec := { _root_.Go.OpenSpec.ofChange s with cond := some uptoSmall }

/-- 'odysseylaw12.PlanAheads', WHERE WHAT IT READS IS OF BULK AT MOST 1048576: true; the input reads as it did. -/
def planAheadsUptoRow : OpenClaim := { program := "ytmjnllldjeeigaadoor", sum := "304ef4c96effac1ac9e4f1ea778d749a964a1c57d59761fd4f41cdeb212a5943", func := "odyssey/odysseylaw12.PlanAheads", spec := "planAheads", unfollowed := true, recurses := true, named := ["unicode/utf8.first", "unicode/utf8.acceptRanges"], apart := false, laid := [("unicode/utf8.acceptRanges", laid_unicode_utf8_acceptRanges), ("unicode/utf8.first", laid_unicode_utf8_first)], narrowed := true }
def PlanAheadsUptoSaid : Prop := planAheadsUptoRow.holds Tryd.pinned (OpenSpec.upto planAheadsSpec)

/-- 'odysseylaw12.PlanReadies', WHERE WHAT IT READS IS OF BULK AT MOST 1048576: true; the input reads as it did. -/
def planReadiesUptoRow : OpenClaim := { program := "ytmjnllldjeeigaadoor", sum := "304ef4c96effac1ac9e4f1ea778d749a964a1c57d59761fd4f41cdeb212a5943", func := "odyssey/odysseylaw12.PlanReadies", spec := "planReadies", unfollowed := true, recurses := true, named := ["unicode/utf8.first", "unicode/utf8.acceptRanges"], apart := false, laid := [("unicode/utf8.acceptRanges", laid_unicode_utf8_acceptRanges), ("unicode/utf8.first", laid_unicode_utf8_first)], narrowed := true }
def PlanReadiesUptoSaid : Prop := planReadiesUptoRow.holds Tryd.pinned (OpenSpec.upto planReadiesSpec)

/-- 'odysseylaw12.PlanRings', WHERE WHAT IT READS IS OF BULK AT MOST 1048576: true; the input reads as it did. -/
def planRingsUptoRow : OpenClaim := { program := "ytmjnllldjeeigaadoor", sum := "304ef4c96effac1ac9e4f1ea778d749a964a1c57d59761fd4f41cdeb212a5943", func := "odyssey/odysseylaw12.PlanRings", spec := "planRings", unfollowed := true, recurses := true, named := ["unicode/utf8.first", "unicode/utf8.acceptRanges"], apart := false, laid := [("unicode/utf8.acceptRanges", laid_unicode_utf8_acceptRanges), ("unicode/utf8.first", laid_unicode_utf8_first)], narrowed := true }
def PlanRingsUptoSaid : Prop := planRingsUptoRow.holds Tryd.pinned (OpenSpec.upto planRingsSpec)

/-- 'odysseylaw12.PlanDone', WHERE WHAT IT READS IS OF BULK AT MOST 1048576: true; the input reads as it did. -/
def planDoneUptoRow : OpenClaim := { program := "ytmjnllldjeeigaadoor", sum := "304ef4c96effac1ac9e4f1ea778d749a964a1c57d59761fd4f41cdeb212a5943", func := "odyssey/odysseylaw12.PlanDone", spec := "planDone", unfollowed := true, recurses := true, named := ["unicode/utf8.first", "unicode/utf8.acceptRanges"], apart := false, laid := [("unicode/utf8.acceptRanges", laid_unicode_utf8_acceptRanges), ("unicode/utf8.first", laid_unicode_utf8_first)], narrowed := true }
def PlanDoneUptoSaid : Prop := planDoneUptoRow.holds Tryd.pinned (OpenSpec.upto planDoneSpec)

/-- 'odysseylaw12.PlanUndone', WHERE WHAT IT READS IS OF BULK AT MOST 1048576: true; the input reads as it did. -/
def planUndoneUptoRow : OpenClaim := { program := "ytmjnllldjeeigaadoor", sum := "304ef4c96effac1ac9e4f1ea778d749a964a1c57d59761fd4f41cdeb212a5943", func := "odyssey/odysseylaw12.PlanUndone", spec := "planUndone", unfollowed := true, recurses := true, named := ["unicode/utf8.first", "unicode/utf8.acceptRanges"], apart := false, laid := [("unicode/utf8.acceptRanges", laid_unicode_utf8_acceptRanges), ("unicode/utf8.first", laid_unicode_utf8_first)], narrowed := true }
def PlanUndoneUptoSaid : Prop := planUndoneUptoRow.holds Tryd.pinned (OpenSpec.upto planUndoneSpec)

end Rows
end Go.Proofs.YtmjnllldjeeigaaDoor
