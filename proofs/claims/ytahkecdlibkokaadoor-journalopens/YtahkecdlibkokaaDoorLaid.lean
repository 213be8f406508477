/- What the rows of package crc list: its table of sixteen numbers; a world that holds it. -/
import Derived.Test.YtahkecdlibkokaaDoorArgs
import Derived.Test.YtahkecdlibkokaaDoorFrCrcW
import Derived.ProofKit
import Derived.Deep.DeepHandedRow
import Derived.Lib.LaidTab
set_option maxRecDepth 100000
namespace Go.Proofs.YtahkecdlibkokaaDoor
open Go.RowKit
open Fr (Tab)

theorem gTab : Tryd.prog.globalNamed "odyssey/crc.fourBits" = some 0 := by kernel_rfl
theorem gTabType : (Tryd.prog.globals[0]?).map (·.type) = some 130 := by kernel_rfl
theorem cellsT : Tryd.prog.cellsOf 130 = 16 := by kernel_rfl
theorem cellsE : Tryd.prog.cellsOf 114 = 1 := by kernel_rfl

/-- What the row's list gives: the table's cells hold its sixteen numbers. -/
theorem table {W : World} (h : laidMetH Tryd.prog [("odyssey/crc.fourBits", Rows.laid_odyssey_crc_fourBits)] W) : Tab W := by
  have ht : Lib.TabIs Tryd.prog W "odyssey/crc.fourBits" .u32 [0, 498536548, 997073096, 651767980, 1994146192, 1802195444, 1303535960, 1342533948, 3988292384, 4027552580, 3604390888, 3412177804, 2607071920, 2262029012, 2685067896, 3183342108] :=
    Lib.tabIs_of_head (rest := []) gTab gTabType Tryd.underlying130 Tryd.underlying114 cellsE cellsT h
  intro i hi
  have hc := ht.cell gTab i hi
  rw [hc]
  have : ∀ r, r < 16 → ([0, 498536548, 997073096, 651767980, 1994146192, 1802195444, 1303535960, 1342533948, 3988292384, 4027552580, 3604390888, 3412177804, 2607071920, 2262029012, 2685067896, 3183342108] : List Int).getD r 0 = ((CrcMath.tab.getD r 0 : Nat) : Int) := by decide
  rw [← this i hi]

/-- A world for the witness: the settled one, the table holding what its initialiser lays. -/
noncomputable def laidWorld (os : Os) : World :=
  { World.holding Tryd.prog os ⟨#[], #[], []⟩ with heap := (World.holding Tryd.prog os ⟨#[], #[], []⟩).heap.modify 0 fun
      | .cells _ t frozen => .cells #[.int .u32 0, .int .u32 498536548, .int .u32 997073096, .int .u32 651767980, .int .u32 1994146192, .int .u32 1802195444, .int .u32 1303535960, .int .u32 1342533948, .int .u32 3988292384, .int .u32 4027552580, .int .u32 3604390888, .int .u32 3412177804, .int .u32 2607071920, .int .u32 2262029012, .int .u32 2685067896, .int .u32 3183342108] t frozen
      | o => o }

/-- An unsigned 32-bit number that came in is a natural number below 2 to the 32. -/
theorem open_u32 {n : Int} (h : (Lit.int .u32 n).wf = true) : ∃ c : Nat, n = (c : Int) ∧ c < 4294967296 := by
  have hb : 0 ≤ n ∧ n ≤ 4294967295 := by
    simpa [Lit.wf, IntKind.min, IntKind.max, IntKind.bits, IntKind.signed] using h
  exact ⟨n.toNat, by omega, by omega⟩
theorem open_i64 {n : Int} (h : (Lit.int .i64 n).wf = true) : -9223372036854775808 ≤ n ∧ n ≤ 9223372036854775807 := by
  simpa [Lit.wf, IntKind.min, IntKind.max, IntKind.bits, IntKind.signed] using h
end Go.Proofs.YtahkecdlibkokaaDoor
