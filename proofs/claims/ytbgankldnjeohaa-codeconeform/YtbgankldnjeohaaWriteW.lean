/- The walk of write: a value's mayBe and its form, by its own methods. -/
import Derived.Test.YtbgankldnjeohaaNmWalks
import Derived.Shelf.Abstract
set_option linter.unusedVariables false
set_option maxRecDepth 100000
namespace Go.Proofs.Ytbgankldnjeohaa
open Go.RowKit Go.Lib Go.Shelf

theorem write_yes (ty : TypeId) (x : Value) (fm ff : Nat) (s : ByteArray) (w : World) (hm : ∀ w, (method 229 ty x "odyssey/codec.mayBe").run Try.prog w = .ok (fm, x) w) (hf : ∀ w, (method 229 ty x "odyssey/codec.form").run Try.prog w = .ok (ff, x) w)
    (em : ∀ args w, (callFunc fm args).run Try.prog w = .ok (.enter fm args) w) (ef : ∀ args w, (callFunc ff args).run Try.prog w = .ok (.enter ff args) w)
    (C1 : Hid (∀ w, Calls Try.prog fm #[x] w fun e w' => e = .returned (.bool true) ∧ Below w.heap.size w w')) (C2 : Hid (∀ w, Calls Try.prog ff #[x] w fun e w' => e = .returned (.string s) ∧ Below w.heap.size w w')) :
    Calls Try.prog 18 #[.iface ty x] w fun e w' => e = .returned (.tuple #[.string s, .int .i64 0]) ∧ Below w.heap.size w w' := by
  go_enter Try.func18, Try.ntmps18
  go_wp2_with fail
  refine (C1.out _).mono ?_
  rintro e w1 ⟨rfl, hb1⟩
  have HB1 : Hid (Below w.heap.size w w1) := hb1
  clear C1 hb1
  go_wp2_with fail
  refine (C2.out _).mono ?_
  rintro e w2 ⟨rfl, hb2⟩
  have HB2 : Hid (Below w.heap.size w w2) := HB1.out.trans (hb2.mono HB1.out.size)
  clear C2 hb2 HB1
  go_wp2_with fail
  go_ret2
  exact ⟨rfl, HB2.out⟩
theorem write_no (ty : TypeId) (x : Value) (fm : Nat) (w : World) (hm : ∀ w, (method 229 ty x "odyssey/codec.mayBe").run Try.prog w = .ok (fm, x) w) (em : ∀ args w, (callFunc fm args).run Try.prog w = .ok (.enter fm args) w)
    (C1 : Hid (∀ w, Calls Try.prog fm #[x] w fun e w' => e = .returned (.bool false) ∧ Below w.heap.size w w')) :
    Calls Try.prog 18 #[.iface ty x] w fun e w' => e = .returned (.tuple #[.string ⟨#[]⟩, .int .i64 1]) ∧ Below w.heap.size w w' := by
  go_enter Try.func18, Try.ntmps18
  go_wp2_with fail
  refine (C1.out _).mono ?_
  rintro e w1 ⟨rfl, hb1⟩
  have HB1 : Hid (Below w.heap.size w w1) := hb1
  clear C1 hb1
  go_wp2_with fail
  go_ret2
  exact ⟨rfl, HB1.out⟩
/-- codec.Note of a note that may be, and of one that may not. -/
theorem note_call {k i s t p c j : Int} {K M : ByteArray} {v : Int} {X : ByteArray} {e1 : Value} {w : World}
    (C : Hid (∀ w, Calls Try.prog 18 #[.iface 56 (.agg #[.int .i64 k, .int .i64 i, .int .i64 s, .int .i64 t, .int .i64 p, .int .i64 c, .string K, .string M, .int .i64 v, .string X])] w fun e w' => e = .returned (.tuple #[e1, .int .i64 j]) ∧ Below w.heap.size w w')) :
    Calls Try.prog 12 #[.agg #[.int .i64 k, .int .i64 i, .int .i64 s, .int .i64 t, .int .i64 p, .int .i64 c, .string K, .string M, .int .i64 v, .string X]] w fun e w' => e = .returned (.tuple #[e1, .int .i64 j]) ∧ Below w.heap.size w w' := by
  go_enter Try.func12, Try.ntmps12
  go_wp2_with fail
  refine (C.out _).mono ?_
  rintro e w1 ⟨rfl, hb1⟩
  have HB1 : Hid (Below w.heap.size w w1) := ((Below.refl _ _).alloc (Nat.le_refl _) _).trans (hb1.mono (by rw [World.size_alloc]; omega))
  clear C hb1
  go_wp2_with fail
  go_ret2
  exact ⟨rfl, HB1.out⟩
theorem e_note_may : ∀ args w, (callFunc 91 args).run Try.prog w = .ok (.enter 91 args) w := enters_of Try.func91 (by kernel_rfl) rfl
theorem e_note_form : ∀ args w, (callFunc 90 args).run Try.prog w = .ok (.enter 90 args) w := enters_of Try.func90 (by kernel_rfl) rfl
theorem e_letter_may : ∀ args w, (callFunc 62 args).run Try.prog w = .ok (.enter 62 args) w := enters_of Try.func62 (by kernel_rfl) rfl
theorem e_letter_form : ∀ args w, (callFunc 61 args).run Try.prog w = .ok (.enter 61 args) w := enters_of Try.func61 (by kernel_rfl) rfl
theorem m_note_may (x : Array Value) (w : World) : (method 229 56 (.agg x) "odyssey/codec.mayBe").run Try.prog w = .ok (91, .agg x) w := by kernel_rfl
theorem m_note_form (x : Array Value) (w : World) : (method 229 56 (.agg x) "odyssey/codec.form").run Try.prog w = .ok (90, .agg x) w := by kernel_rfl
theorem m_letter_may (x : Array Value) (w : World) : (method 229 49 (.agg x) "odyssey/codec.mayBe").run Try.prog w = .ok (62, .agg x) w := by kernel_rfl
theorem m_letter_form (x : Array Value) (w : World) : (method 229 49 (.agg x) "odyssey/codec.form").run Try.prog w = .ok (61, .agg x) w := by kernel_rfl
theorem m_event_may (x : Array Value) (w : World) : (method 229 55 (.agg x) "odyssey/codec.mayBe").run Try.prog w = .ok (89, .agg x) w := by kernel_rfl
end Go.Proofs.Ytbgankldnjeohaa
