/- What the readers answer at any place: the same in package pack and in the document. -/
import Derived.Test.YtkljnihcjialaaaTakeListW
set_option linter.unusedVariables false
namespace Go.Proofs.Ytkljnihcjialaaa
open Go.RowKit

theorem nums_all (s : ByteArray) (at_ : Int) (hs : s.size ≤ 4611686018427387904) (hat : -9223372036854775808 ≤ at_ ∧ at_ ≤ 9223372036854775807) : ∃ n p e : Int,
    (∀ w, Calls Try.prog 18 #[.string s, .int .i64 at_] w fun en w' => en = .returned (.tuple #[.int .i64 n, .int .i64 p, .int .i64 e]) ∧ w' = w) ∧
    (∀ w, Calls Try.prog 19 #[.string s, .int .i64 at_] w fun en w' => en = .returned (.tuple #[.int .i64 n, .int .i64 p, .int .i64 e]) ∧ w' = w) := by
  by_cases h : at_ < 0 ∨ (s.size : Int) < at_
  · exact ⟨0, 0, 1, fun w => takeNum_out s at_ hs h w, fun w => refTakeNum_out s at_ hs h w⟩
  · obtain ⟨a, rfl⟩ := Int.eq_ofNat_of_zero_le (show 0 ≤ at_ by omega)
    exact ⟨_, _, _, fun w => takeNum_any s a hs (by omega) w, fun w => refTakeNum_any s a hs (by omega) w⟩
theorem texts_all (s : ByteArray) (at_ : Int) (hs : s.size ≤ 4611686018427387904) (hat : -9223372036854775808 ≤ at_ ∧ at_ ≤ 9223372036854775807) : ∃ (t : ByteArray) (p e : Int),
    (∀ w, Calls Try.prog 20 #[.string s, .int .i64 at_] w fun en w' => en = .returned (.tuple #[.string t, .int .i64 p, .int .i64 e]) ∧ w' = w) ∧
    (∀ w, Calls Try.prog 21 #[.string s, .int .i64 at_] w fun en w' => en = .returned (.tuple #[.string t, .int .i64 p, .int .i64 e]) ∧ w' = w) := by
  by_cases h : at_ < 0 ∨ (s.size : Int) < at_
  · exact ⟨⟨#[]⟩, 0, 1, fun w => takeText_out s at_ hs hat h w, fun w => refTakeText_out s at_ hs hat h w⟩
  · obtain ⟨a, rfl⟩ := Int.eq_ofNat_of_zero_le (show 0 ≤ at_ by omega)
    exact ⟨_, _, _, fun w => takeText_any s a hs (by omega) w, fun w => refTakeText_any s a hs (by omega) w⟩
theorem lists_all (s : ByteArray) (at_ : Int) (hs : s.size ≤ 4611686018427387904) (hat : -9223372036854775808 ≤ at_ ∧ at_ ≤ 9223372036854775807) : ∃ (xs : List (List UInt8)) (p e : Int), xs.length ≤ 4000 ∧
    (∀ w, Calls Try.prog 22 #[.string s, .int .i64 at_] w fun en w' => ∃ v, en = .returned (.tuple #[v, .int .i64 p, .int .i64 e]) ∧ w'.ownsRow w.heap.size 9 1 v xs.length (xs.map strV) ∧ Below w.heap.size w w') ∧
    (∀ w, Calls Try.prog 23 #[.string s, .int .i64 at_] w fun en w' => ∃ v, en = .returned (.tuple #[v, .int .i64 p, .int .i64 e]) ∧ w'.ownsRow w.heap.size 9 1 v xs.length (xs.map strV) ∧ Below w.heap.size w w') := by
  by_cases h : at_ < 0 ∨ (s.size : Int) < at_
  · exact ⟨[], 0, 1, by simp, fun w => (takeList_out s at_ hs hat h w).mono fun en w' ⟨h1, h2⟩ => ⟨_, h1, World.ownsRow_nil _ _ _ _, h2 ▸ Below.refl _ _⟩,
      fun w => (refTakeList_out s at_ hs hat h w).mono fun en w' ⟨h1, h2⟩ => ⟨_, h1, World.ownsRow_nil _ _ _ _, h2 ▸ Below.refl _ _⟩⟩
  · obtain ⟨a, rfl⟩ := Int.eq_ofNat_of_zero_le (show 0 ≤ at_ by omega)
    obtain ⟨xs, c, e, htl⟩ : ∃ xs c e, PackMath.tl (s.data.toList.drop a) = (xs, c, e) := ⟨_, _, _, rfl⟩
    have key : ∀ (w : World) (en : Ending) (w' : World), TLPost (s.data.toList.drop a) a w en w' → ∃ v, en = .returned (.tuple #[v, .int .i64 (if e = 0 then ((a + c : Nat) : Int) else 0), .int .i64 (e : Int)]) ∧ w'.ownsRow w.heap.size 9 1 v xs.length (xs.map strV) ∧ Below w.heap.size w w' := by
      rintro w en w' ⟨v, ys, c', e', h1, h2, _, h4, h5⟩
      rw [htl] at h1
      obtain ⟨rfl, rfl, rfl⟩ : xs = ys ∧ c = c' ∧ e = e' := by simpa using h1
      exact ⟨v, h2, h4, h5⟩
    have hx : xs.length ≤ 4000 := by
      obtain h0 | h0 := Classical.em (e = 0)
      · subst h0; exact (PackMath.tl_ok htl).1
      · have : xs = [] := PackMath.tl_err htl h0
        subst this; simp
    exact ⟨xs, _, _, hx, fun w => (takeList_any s a hs (by omega) w).mono fun en w' h => key w en w' h, fun w => (refTakeList_any s a hs (by omega) w).mono fun en w' h => key w en w' h⟩
end Go.Proofs.Ytkljnihcjialaaa
