/- ReadNote and What of the two texts, Letter of a Free; the walk of live. -/
import Derived.Test.YtbgankldnjeohaaLiveE
import Derived.Test.YtbgankldnjeohaaFormW
import Derived.Laws.ResultCell
set_option linter.unusedVariables false
set_option linter.unusedSimpArgs false
set_option maxRecDepth 100000
namespace Go.Proofs.Ytbgankldnjeohaa.Pl
open Go.RowKit Go.Proofs.Ytbgankldnjeohaa

theorem results_row_tmp {P : Program} {fn : Func} {p u : Tmp} {ty : TypeId} (h : fn.results = #[.cell p ty, .tmp u]) (tmps : Array Value) (w : World) (g : Nat) (vs : List Value) (d : TypeDesc)
    (hp : tmps.getD p undef = .pointer (some ⟨g, 0, none⟩)) (h0 : ∀ j v, vs[j]? = some v → w.cell? ⟨g, j, none⟩ = some v)
    (hu : P.underlying ty = some d) (hd : d.isRow = true) (hi : (P.info? ty).map (·.size) = some vs.length) : (results fn tmps).run P w = .ok (.tuple #[.agg vs.toArray, tmps.getD u undef]) w := by
  have hr : w.rangeAt g 0 vs := by
    intro j v hj
    rw [Nat.zero_add]
    exact h0 j v hj
  rw [results_cell_tmp h, hp]
  simp [asAddr, run_loadVar_mid w g 0 ty vs d hr hu hd hi]
theorem ta_note (x : Array Value) (w : World) : (Instr.typeAssert (.iface 56 (.agg x)) 52 56 true).run Try.prog w = .ok (.tuple #[.agg x, .bool true]) w := by kernel_rfl
theorem ta_event (x : Array Value) (w : World) : (Instr.typeAssert (.iface 55 (.agg x)) 52 55 true).run Try.prog w = .ok (.tuple #[.agg x, .bool true]) w := by kernel_rfl
theorem ta_letter (x : Array Value) (w : World) : (Instr.typeAssert (.iface 55 (.agg x)) 52 49 true).run Try.prog w = .ok (.tuple #[.agg #[.int .i64 0, .int .i64 0, .int .i64 0, .int .i64 0, .int .i64 0, .slice none 0 0], .bool false]) w := by kernel_rfl
section
variable {B : Nat} {w wr : World} {rs : List Res}
set_option maxHeartbeats 2000000 in
theorem readNote_any (h : Has B w rs wr) :
    Calls Try.prog 17 #[.string ⟨#[78, 6, 5, 1, 2]⟩] wr fun e w' => e = .returned (.tuple #[.agg #[.int .i64 6, .int .i64 5, .int .i64 1, .int .i64 2, .int .i64 0, .int .i64 0, .string ⟨#[]⟩, .string ⟨#[]⟩, .int .i64 0, .string ⟨#[]⟩], .int .i64 0]) ∧ Has B w rs w' := by
  have H0 : Hid (Has B w (BlockR wr.heap.size zN :: rs) (wr.alloc (.cells #[.int .i64 0, .int .i64 0, .int .i64 0, .int .i64 0, .int .i64 0, .int .i64 0, .string ⟨#[]⟩, .string ⟨#[]⟩, .int .i64 0, .string ⟨#[]⟩] 35))) := h.box zN 35
  have D1 := read_note H0.out
  obtain ⟨rb, hrb⟩ : ∃ rb, wr.heap.size = rb := ⟨_, rfl⟩
  rw [hrb] at D1
  clear h H0
  have hta := ta_note
  go_enter Try.func17, Try.ntmps17
  go_wp2_with fail
  refine D1.mono ?_
  rintro e w2 ⟨rfl, h2⟩
  clear hrb D1
  have H2 : Hid (Has B w (BlockR rb zN :: BlockR w2.heap.size (vN 6 5 1 2) :: rs) (w2.alloc (.cells #[.int .i64 6, .int .i64 5, .int .i64 1, .int .i64 2, .int .i64 0, .int .i64 0, .string ⟨#[]⟩, .string ⟨#[]⟩, .int .i64 0, .string ⟨#[]⟩] 56))) := (h2.box (vN 6 5 1 2) 56).perm (List.Perm.swap _ _ _)
  clear h2
  go_upto_region 4 with fail
  generalize (w2.alloc (.cells #[.int .i64 6, .int .i64 5, .int .i64 1, .int .i64 2, .int .i64 0, .int .i64 0, .string ⟨#[]⟩, .string ⟨#[]⟩, .int .i64 0, .string ⟨#[]⟩] 56)) = w3 at *
  generalize w2.heap.size = nb at *
  obtain ⟨x0, _⟩ := H2.out.bcell (q := nb) (vs := vN 6 5 1 2) (by simp) 0 _ rfl
  obtain ⟨x1, _⟩ := H2.out.bcell (q := nb) (vs := vN 6 5 1 2) (by simp) 1 _ rfl
  obtain ⟨x2, _⟩ := H2.out.bcell (q := nb) (vs := vN 6 5 1 2) (by simp) 2 _ rfl
  obtain ⟨x3, _⟩ := H2.out.bcell (q := nb) (vs := vN 6 5 1 2) (by simp) 3 _ rfl
  obtain ⟨x4, _⟩ := H2.out.bcell (q := nb) (vs := vN 6 5 1 2) (by simp) 4 _ rfl
  obtain ⟨x5, _⟩ := H2.out.bcell (q := nb) (vs := vN 6 5 1 2) (by simp) 5 _ rfl
  obtain ⟨x6, _⟩ := H2.out.bcell (q := nb) (vs := vN 6 5 1 2) (by simp) 6 _ rfl
  obtain ⟨x7, _⟩ := H2.out.bcell (q := nb) (vs := vN 6 5 1 2) (by simp) 7 _ rfl
  obtain ⟨x8, _⟩ := H2.out.bcell (q := nb) (vs := vN 6 5 1 2) (by simp) 8 _ rfl
  obtain ⟨x9, _⟩ := H2.out.bcell (q := nb) (vs := vN 6 5 1 2) (by simp) 9 _ rfl
  obtain ⟨y0, g0⟩ := H2.out.bcell (q := rb) (vs := zN) (by simp) 0 _ rfl
  obtain ⟨y1, g1⟩ := H2.out.bcell (q := rb) (vs := zN) (by simp) 1 _ rfl
  obtain ⟨y2, g2⟩ := H2.out.bcell (q := rb) (vs := zN) (by simp) 2 _ rfl
  obtain ⟨y3, g3⟩ := H2.out.bcell (q := rb) (vs := zN) (by simp) 3 _ rfl
  obtain ⟨y4, g4⟩ := H2.out.bcell (q := rb) (vs := zN) (by simp) 4 _ rfl
  obtain ⟨y5, g5⟩ := H2.out.bcell (q := rb) (vs := zN) (by simp) 5 _ rfl
  obtain ⟨y6, g6⟩ := H2.out.bcell (q := rb) (vs := zN) (by simp) 6 _ rfl
  obtain ⟨y7, g7⟩ := H2.out.bcell (q := rb) (vs := zN) (by simp) 7 _ rfl
  obtain ⟨y8, g8⟩ := H2.out.bcell (q := rb) (vs := zN) (by simp) 8 _ rfl
  obtain ⟨y9, g9⟩ := H2.out.bcell (q := rb) (vs := zN) (by simp) 9 _ rfl
  have HQ : Hid (Has B w (BlockR rb (vN 6 5 1 2) :: BlockR nb (vN 6 5 1 2) :: rs) (setAll rb 0 (vN 6 5 1 2) w3)) := Has.puts (vN 6 5 1 2) [] zN H2.out rfl
  clear H2 hta
  go_wp2_with fail
  have HC : Hid (∀ j v, (vN 6 5 1 2)[j]? = some v → (setAll rb 0 (vN 6 5 1 2) w3).cell? ⟨rb, j, none⟩ = some v) := fun j v hv => (HQ.out.bcell (q := rb) (vs := vN 6 5 1 2) (by simp) j v hv).1
  refine bodyPost_ret (results_row_tmp rfl _ _ rb (vN 6 5 1 2) _ rfl HC.out Try.underlying35 rfl (by kernel_rfl)) rfl ⟨rfl, ?_⟩
  exact HQ.out.drop.drop
theorem what_event (h : Has B w rs wr) :
    Calls Try.prog 11 #[.string ⟨#[69, 6, 5]⟩] wr fun e w' => e = .returned (.int .i64 2) ∧ Has B w rs w' := by
  have D1 : Hid (Calls Try.prog 19 #[.string ⟨#[69, 6, 5]⟩] wr fun e w' => e = .returned (.iface 55 (.agg #[.int .i64 6, .int .i64 5, .int .i64 0, .slice none 0 0])) ∧ Hid (Has B w rs w')) := read_event h
  clear h
  have hta := ta_event
  have htl := ta_letter
  go_enter Try.func11, Try.ntmps11
  go_wp2_with fail
  refine D1.out.mono ?_
  rintro e w2 ⟨rfl, H2⟩
  clear D1
  go_wp2_with fail
  go_ret
  exact ⟨rfl, H2.out⟩
end
theorem free_may (w : World) : Calls Try.prog 62 #[.agg #[.int .i64 3, .int .i64 1, .int .i64 5, .int .i64 0, .int .i64 0, .slice none 0 0]] w fun e w' => e = .returned (.bool true) ∧ Below w.heap.size w w' := by
  have b1 : btw 3 1 9 = true := by decide
  have b2 : btw 5 1 60 = true := by decide
  have b3 : btw 1 0 3 = true := by decide
  go_enter Try.func62, Try.ntmps62
  go_wp2_with (first | (go_at_call 67; refine (isID_any _ _).mono ?_; rintro e w' ⟨rfl, hw'⟩; rw [hw', b2]; clear hw' w') | (go_at_call 66; refine (isPart_any _ _).mono ?_; rintro e w' ⟨rfl, hw'⟩; rw [hw', b3]; clear hw' w') | (go_at_call 65; refine (between_any _ _ _ _).mono ?_; rintro e w' ⟨rfl, hw'⟩; rw [hw', b1]; clear hw' w'))
  all_goals go_ret
  all_goals exact ⟨rfl, by go_grown⟩
theorem free_form (w : World) : Calls Try.prog 61 #[.agg #[.int .i64 3, .int .i64 1, .int .i64 5, .int .i64 0, .int .i64 0, .slice none 0 0]] w fun e w' => e = .returned (.string ⟨#[76, 3, 1, 5]⟩) ∧ Below w.heap.size w w' := by
  have C : Hid (∀ w1 : World, Calls Try.prog 63 #[.slice (some ⟨w1.heap.size, 0, none⟩) 3 3] (w1.alloc (.cells #[.int .i64 3, .int .i64 1, .int .i64 5] 3)) fun e w' => e = .returned (.string ⟨#[3, 1, 5]⟩) ∧ Below w1.heap.size w1 w') := fun w1 => by
    have e : numsL [3, 1, 5] = [3, 1, 5] := by decide +kernel
    have x := nums_new [3, 1, 5] (by decide) (small3 (by decide) (by decide) (by decide)) w1 #[.int .i64 3, .int .i64 1, .int .i64 5] rfl 3 rfl 3
    rw [e] at x
    exact x
  go_enter Try.func61, Try.ntmps61
  go_wp2_with fail
  have D1 := C.out (w.alloc (.cells #[.int .i64 3, .int .i64 1, .int .i64 5, .int .i64 0, .int .i64 0, .slice none 0 0] 49))
  rw [World.size_alloc] at D1
  refine D1.mono ?_
  rintro e w2 ⟨rfl, hb⟩
  have HB : Hid (Below w.heap.size w w2) := ((Below.refl _ _).alloc (Nat.le_refl _) _).trans (hb.mono (Nat.le_succ _))
  clear hb D1 C
  go_wp2_with fail
  go_ret
  exact ⟨rfl, HB.out⟩
end Go.Proofs.Ytbgankldnjeohaa.Pl
