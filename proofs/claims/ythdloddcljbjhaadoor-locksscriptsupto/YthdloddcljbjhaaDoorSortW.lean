/- The sort's contract at this seat. -/
import Derived.Test.YthdloddcljbjhaaDoorSortT
import Derived.Test.YthdloddcljbjhaaDoorShelf
set_option linter.unusedVariables false
set_option maxRecDepth 100000
namespace Go.Proofs.YthdloddcljbjhaaDoor
open Go.RowKit Go.Shelf Go.Lib

theorem sort_law : SortLaw := fun blk cap d w hcmp hH hblk hsz =>
  Tryd.slices_SortFunc encT (fun _ => rfl) cfT swoT 31 #[] blk 0 cap d w (enters_of Tryd.func31 (by kernel_rfl) rfl) hcmp hH hblk hsz
/-- The sort where there is an element, and, till its contract at none is laid, where there is none. -/
theorem sorts_here {w : World} {rs : List Res} (hT : Nm.Tabs w) (hN : SortNone) : Sorts w.heap.size w rs SortTo := sorts_has hT sort_law hN
theorem sort_none : SortNone := fun cap w => Tryd.slices_SortFunc_none (α := Nat) none cap (.func (.func 31) #[] #[]) w
end Go.Proofs.YthdloddcljbjhaaDoor
