/- The walk of live. -/
import Derived.Test.YtbgankldnjeohaaLiveF
set_option linter.unusedVariables false
set_option linter.unusedSimpArgs false
set_option maxRecDepth 100000
namespace Go.Proofs.Ytbgankldnjeohaa.Pl
open Go.RowKit Go.Proofs.Ytbgankldnjeohaa

theorem letter_free (w : World) : Calls Try.prog 7 #[.agg #[.int .i64 3, .int .i64 1, .int .i64 5, .int .i64 0, .int .i64 0, .slice none 0 0]] w fun e w' => e = .returned (.tuple #[.string ⟨#[76, 3, 1, 5]⟩, .int .i64 0]) ∧ Below w.heap.size w w' := by
  have C : Hid (∀ w, Calls Try.prog 18 #[.iface 49 (.agg #[.int .i64 3, .int .i64 1, .int .i64 5, .int .i64 0, .int .i64 0, .slice none 0 0])] w fun e w' => e = .returned (.tuple #[.string ⟨#[76, 3, 1, 5]⟩, .int .i64 0]) ∧ Below w.heap.size w w') := fun w => write_yes _ _ _ _ _ w (m_letter_may _) (m_letter_form _) e_letter_may e_letter_form free_may free_form
  go_enter Try.func7, Try.ntmps7
  go_wp2_with fail
  refine (C.out _).mono ?_
  rintro e w1 ⟨rfl, hb1⟩
  have HB1 : Hid (Below w.heap.size w w1) := ((Below.refl _ _).alloc (Nat.le_refl _) _).trans (hb1.mono (by rw [World.size_alloc]; omega))
  clear C hb1
  go_wp2_with fail
  go_ret2
  exact ⟨rfl, HB1.out⟩
set_option maxHeartbeats 2000000 in
theorem live_any (w : World) : Calls Try.prog 8 #[] w fun e w' => e = .returned (.bool true) ∧ Below w.heap.size w w' := by
  have C1 : Hid (Calls Try.prog 7 #[.agg #[.int .i64 3, .int .i64 1, .int .i64 5, .int .i64 0, .int .i64 0, .slice none 0 0]] w fun e w' => e = .returned (.tuple #[.string ⟨#[76, 3, 1, 5]⟩, .int .i64 0]) ∧ Hid (Has w.heap.size w [] w')) := (letter_free w).mono (fun e w' ⟨he, hb⟩ => ⟨he, (Has.start w).below hb⟩)
  go_enter Try.func8, Try.ntmps8
  go_wp2_with fail
  refine C1.out.mono ?_
  rintro e w1 ⟨rfl, h1⟩
  have D2 := readNote_any h1.out
  clear C1 h1
  go_wp2_with fail
  refine D2.mono ?_
  rintro e w2 ⟨rfl, h2⟩
  have H3 : Hid (Has w.heap.size w [] (w2.alloc (.cells #[.int .i64 6, .int .i64 5, .int .i64 1, .int .i64 2, .int .i64 0, .int .i64 0, .string ⟨#[]⟩, .string ⟨#[]⟩, .int .i64 0, .string ⟨#[]⟩] 35))) := h2.below ((Below.refl _ _).alloc (Nat.le_refl _) _)
  have D3 := what_event H3.out
  clear D2 h2
  go_wp2_with fail
  refine D3.mono ?_
  rintro e w3 ⟨rfl, h3⟩
  have H4 : Hid (Has w.heap.size w [] w3) := h3
  clear D3 h3 H3
  go_wp2_with fail
  go_ret
  exact ⟨rfl, H4.out.bel⟩
end Go.Proofs.Ytbgankldnjeohaa.Pl
