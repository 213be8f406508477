/- The walk of note.mayBe, kind 2: two names. -/
import Derived.Test.YtbgankldnjeohaaMayW
set_option linter.unusedVariables false
set_option linter.unusedSimpArgs false
set_option maxRecDepth 100000
namespace Go.Proofs.Ytbgankldnjeohaa
open Go.RowKit

/-- Two new blocks, and what a call leaves of them. -/
theorem two_cells {w w1 : World} {cs ds : Array Value} {t u : TypeId} (hb : Below (((w.alloc (.cells cs t)).alloc (.cells ds u)).drew.heap.size) ((w.alloc (.cells cs t)).alloc (.cells ds u)).drew w1) :
    Hid (∀ j v, cs[j]? = some v → w1.cell? ⟨w.heap.size, j, none⟩ = some v) ∧ Hid (∀ j v, ds[j]? = some v → w1.cell? ⟨w.heap.size + 1, j, none⟩ = some v) ∧ Hid (Below w.heap.size w w1) ∧ w.heap.size + 2 ≤ w1.heap.size := by
  have hs : ((w.alloc (.cells cs t)).alloc (.cells ds u)).drew.heap.size = w.heap.size + 2 := by simp
  have h3 : Below w.heap.size w ((w.alloc (.cells cs t)).alloc (.cells ds u)).drew := by go_grown
  refine ⟨fun j v h => ?_, fun j v h => ?_, h3.trans (hb.mono h3.size), ?_⟩
  · rw [hb.cell (by rw [hs]; show w.heap.size < _; omega)]
    simp [h]
  · rw [hb.cell (by rw [hs]; show w.heap.size + 1 < _; omega)]
    simp [h]
  · have := hb.size; omega
theorem two_keep {w w1 w2 : World} {cs ds : Array Value} (h1 : Hid (∀ j v, cs[j]? = some v → w1.cell? ⟨w.heap.size, j, none⟩ = some v)) (h2 : Hid (∀ j v, ds[j]? = some v → w1.cell? ⟨w.heap.size + 1, j, none⟩ = some v)) (h3 : Hid (Below w.heap.size w w1)) (h4 : w.heap.size + 2 ≤ w1.heap.size) (hb : Below w1.heap.size w1 w2) :
    Hid (∀ j v, cs[j]? = some v → w2.cell? ⟨w.heap.size, j, none⟩ = some v) ∧ Hid (∀ j v, ds[j]? = some v → w2.cell? ⟨w.heap.size + 1, j, none⟩ = some v) ∧ Hid (Below w.heap.size w w2) ∧ w.heap.size + 2 ≤ w2.heap.size := by
  refine ⟨fun j v h => ?_, fun j v h => ?_, h3.out.trans (hb.mono h3.out.size), ?_⟩
  · rw [hb.cell (by show w.heap.size < _; omega)]; exact h1.out j v h
  · rw [hb.cell (by show w.heap.size + 1 < _; omega)]; exact h2.out j v h
  · have := hb.size; omega
set_option maxHeartbeats 1000000 in
theorem may2 (i s t p c : Int) (K M : ByteArray) (v : Int) (X : ByteArray) (w : World) :
    Calls Try.prog 91 #[.agg #[.int .i64 2, .int .i64 i, .int .i64 s, .int .i64 t, .int .i64 p, .int .i64 c, .string K, .string M, .int .i64 v, .string X]] w fun e w' => e = .returned (.bool (Nt.may ⟨2, i, s, t, p, c, K, M, v, X⟩)) ∧ Below w.heap.size w w' := by
  cases b0 : btw i 1 60
  case false =>
    go_enter Try.func91, Try.ntmps91
    go_wp2_with (go_at_call 67; refine (isID_any _ _).mono ?_; rintro e w' ⟨rfl, hw'⟩; rw [hw']; clear hw' w')
    go_region
    go_wp2
    all_goals go_ret
    all_goals exact ⟨retB (by simp [Nt.may, em, Bool.and_assoc, b0]), by go_grown⟩
  case true =>
    have C1 : Hid (∀ w1, Calls Try.prog 72 #[.string K] w1 fun e w' => e = .returned (.bool (isNm K)) ∧ Below w1.heap.size w1 w') := fun w1 => Nm.is_any K w1
    have C2 : Hid (∀ w1, Calls Try.prog 72 #[.string M] w1 fun e w' => e = .returned (.bool (isNm M)) ∧ Below w1.heap.size w1 w') := fun w1 => Nm.is_any M w1
    cases b1 : isNm K
    case false =>
      rw [b1] at C1
      go_enter Try.func91, Try.ntmps91
      go_wp2_with (go_at_call 67; refine (isID_any _ _).mono ?_; rintro e w' ⟨rfl, hw'⟩; rw [hw']; clear hw' w')
      go_region
      go_wp2_with fail
      refine (C1.out _).mono ?_
      rintro e w1 ⟨rfl, hb1⟩
      obtain ⟨A1, A2, A3, A4⟩ := two_cells hb1
      clear hb1 C1
      go_wp2
      all_goals go_ret
      all_goals exact ⟨retB (by simp [Nt.may, em, Bool.and_assoc, b0, b1]), A3.out⟩
    case true =>
      rw [b1] at C1
      cases b2 : isNm M
      case false =>
        rw [b2] at C2
        go_enter Try.func91, Try.ntmps91
        go_wp2_with (go_at_call 67; refine (isID_any _ _).mono ?_; rintro e w' ⟨rfl, hw'⟩; rw [hw']; clear hw' w')
        go_region
        go_wp2_with fail
        refine (C1.out _).mono ?_
        rintro e w1 ⟨rfl, hb1⟩
        obtain ⟨A1, A2, A3, A4⟩ := two_cells hb1
        clear hb1 C1
        have c7 : w1.cell? ⟨w.heap.size, 7, none⟩ = some (.string M) := A1.out 7 _ rfl
        go_wp2_with fail
        refine (C2.out _).mono ?_
        rintro e w2 ⟨rfl, hb2⟩
        obtain ⟨B1, B2, B3, B4⟩ := two_keep A1 A2 A3 A4 hb2
        clear hb2 C2 A1 A2 A3 A4 c7
        go_wp2
        all_goals go_ret
        all_goals exact ⟨retB (by simp [Nt.may, em, Bool.and_assoc, b0, b1, b2]), B3.out⟩
      case true =>
        rw [b2] at C2
        cases b3 : btw v 1 16
        case false =>
          go_enter Try.func91, Try.ntmps91
          go_wp2_with (go_at_call 67; refine (isID_any _ _).mono ?_; rintro e w' ⟨rfl, hw'⟩; rw [hw']; clear hw' w')
          go_region
          go_wp2_with fail
          refine (C1.out _).mono ?_
          rintro e w1 ⟨rfl, hb1⟩
          obtain ⟨A1, A2, A3, A4⟩ := two_cells hb1
          clear hb1 C1
          have c7 : w1.cell? ⟨w.heap.size, 7, none⟩ = some (.string M) := A1.out 7 _ rfl
          go_wp2_with fail
          refine (C2.out _).mono ?_
          rintro e w2 ⟨rfl, hb2⟩
          obtain ⟨B1, B2, B3, B4⟩ := two_keep A1 A2 A3 A4 hb2
          clear hb2 C2 A1 A2 A3 A4 c7
          have c8 : w2.cell? ⟨w.heap.size, 8, none⟩ = some (.int .i64 v) := B1.out 8 _ rfl
          clear B1 B2
          go_wp2_with (go_at_call 65; refine (between_any _ _ _ _).mono ?_; rintro e w' ⟨rfl, hw'⟩; rw [hw']; clear hw' w')
          all_goals go_ret
          all_goals exact ⟨retB (by simp [Nt.may, em, Bool.and_assoc, b0, b1, b2, b3]), B3.out⟩
        case true =>
          go_enter Try.func91, Try.ntmps91
          go_wp2_with (go_at_call 67; refine (isID_any _ _).mono ?_; rintro e w' ⟨rfl, hw'⟩; rw [hw']; clear hw' w')
          go_region
          go_wp2_with fail
          refine (C1.out _).mono ?_
          rintro e w1 ⟨rfl, hb1⟩
          obtain ⟨A1, A2, A3, A4⟩ := two_cells hb1
          clear hb1 C1
          have c7 : w1.cell? ⟨w.heap.size, 7, none⟩ = some (.string M) := A1.out 7 _ rfl
          go_wp2_with fail
          refine (C2.out _).mono ?_
          rintro e w2 ⟨rfl, hb2⟩
          obtain ⟨B1, B2, B3, B4⟩ := two_keep A1 A2 A3 A4 hb2
          clear hb2 C2 A1 A2 A3 A4 c7
          have c0 : w2.cell? ⟨w.heap.size, 0, none⟩ = some (.int .i64 2) := B1.out 0 _ rfl
          have c1 : w2.cell? ⟨w.heap.size, 1, none⟩ = some (.int .i64 i) := B1.out 1 _ rfl
          have c2 : w2.cell? ⟨w.heap.size, 2, none⟩ = some (.int .i64 s) := B1.out 2 _ rfl
          have c3 : w2.cell? ⟨w.heap.size, 3, none⟩ = some (.int .i64 t) := B1.out 3 _ rfl
          have c4 : w2.cell? ⟨w.heap.size, 4, none⟩ = some (.int .i64 p) := B1.out 4 _ rfl
          have c5 : w2.cell? ⟨w.heap.size, 5, none⟩ = some (.int .i64 c) := B1.out 5 _ rfl
          have c6 : w2.cell? ⟨w.heap.size, 6, none⟩ = some (.string K) := B1.out 6 _ rfl
          have c7 : w2.cell? ⟨w.heap.size, 7, none⟩ = some (.string M) := B1.out 7 _ rfl
          have c8 : w2.cell? ⟨w.heap.size, 8, none⟩ = some (.int .i64 v) := B1.out 8 _ rfl
          have c9 : w2.cell? ⟨w.heap.size, 9, none⟩ = some (.string X) := B1.out 9 _ rfl
          have e0 : w2.cell? ⟨w.heap.size + 1, 0, none⟩ = some (.int .i64 2) := B2.out 0 _ rfl
          have e1 : w2.cell? ⟨w.heap.size + 1, 1, none⟩ = some (.int .i64 i) := B2.out 1 _ rfl
          have e2 : w2.cell? ⟨w.heap.size + 1, 2, none⟩ = some (.int .i64 0) := B2.out 2 _ rfl
          have e3 : w2.cell? ⟨w.heap.size + 1, 3, none⟩ = some (.int .i64 0) := B2.out 3 _ rfl
          have e4 : w2.cell? ⟨w.heap.size + 1, 4, none⟩ = some (.int .i64 0) := B2.out 4 _ rfl
          have e5 : w2.cell? ⟨w.heap.size + 1, 5, none⟩ = some (.int .i64 0) := B2.out 5 _ rfl
          have e6 : w2.cell? ⟨w.heap.size + 1, 6, none⟩ = some (.string K) := B2.out 6 _ rfl
          have e7 : w2.cell? ⟨w.heap.size + 1, 7, none⟩ = some (.string M) := B2.out 7 _ rfl
          have e8 : w2.cell? ⟨w.heap.size + 1, 8, none⟩ = some (.int .i64 v) := B2.out 8 _ rfl
          have e9 : w2.cell? ⟨w.heap.size + 1, 9, none⟩ = some (.string ⟨#[]⟩) := B2.out 9 _ rfl
          clear B1 B2
          go_wp2_with (go_at_call 65; refine (between_any _ _ _ _).mono ?_; rintro e w' ⟨rfl, hw'⟩; rw [hw']; clear hw' w')
          all_goals go_ret
          all_goals exact ⟨retB (by simp [Nt.may, em, Bool.and_assoc, b0, b1, b2, b3]), B3.out⟩
end Go.Proofs.Ytbgankldnjeohaa
