/- The walk of Read. -/
import Derived.Test.YtahkecdlibkokaaDoorDkOpsW
import Derived.Deep.RegionWith
set_option linter.unusedVariables false
set_option maxRecDepth 100000
namespace Go.Proofs.YtahkecdlibkokaaDoor.Dk
open Go.RowKit
open DiskMath

set_option maxHeartbeats 4000000 in
theorem read_any (w : World) (b : Nat) (V : Nat → Value) (d : DS) (i : Nat) (hi : i < 4) (h : PDisk w b V d) (hk : Ok d) :
    Calls Tryd.prog 33 #[.pointer (some ⟨b, 0, none⟩), .int .i64 (i : Int)] w fun e w' => e = .returned (.tuple #[strV (d.F i), .int .i64 0]) ∧ Below w.heap.size w w' := by
  have h1 := h.bytes i hi
  have hr := h.rows i hi
  have hle := file_le d i hi
  have hrm := hk.room
  have hmo := hk.most
  obtain ⟨ao, cap, hv, hcap, _⟩ := own_row hr
  rw [hv] at h1 hr
  have i4 : (i : Int) < 4 := by omega
  have HC : Hid (Calls Tryd.prog 52 #[.slice ao (d.F i).length cap, .int .i64 ((d.F i).length : Int)] w.drew fun e w'' => ∃ v', e = .returned v' ∧ (convert 99 9 v').run Tryd.prog w'' = .ok (strV (d.F i)) w'' ∧ Below w.heap.size w w'') := by
    have := first_any w.drew (.slice ao (d.F i).length cap) (d.F i) (d.F i).length (Nat.le_refl _) (by omega) (own_below hr (Below.refl _ _).drew)
    rw [List.take_length] at this
    refine this.mono ?_
    rintro e w'' ⟨v', h1, h2, h3⟩
    exact ⟨v', h1, own_string (P := Tryd.prog) h2 Tryd.underlying99 Tryd.underlying5 Tryd.underlying9, ⟨h3.os, h3.tape, h3.output, h3.size, h3.block⟩⟩
  clear h hk hr hv hcap hle
  generalize strV (d.F i) = sv at *
  generalize (d.F i).length = n at *
  go_enter Tryd.func33, Tryd.ntmps33
  go_wp2_with (go_at_call 51; refine (isFile_yes i hi _).mono ?_; rintro e w' ⟨rfl, hw'⟩; rw [hw']; clear hw' w')
  go_region_with (go_at_call 52; refine HC.out.mono ?_; rintro e w2 ⟨v', rfl, hcv, hb⟩)
  all_goals go_wp2
  all_goals go_ret2
  all_goals exact ⟨rfl, by assumption⟩
end Go.Proofs.YtahkecdlibkokaaDoor.Dk