/- May a note be? The walk of the document's MayNote, kind by kind. -/
import Derived.Test.YtbgankldnjeohaaMayW
import Derived.Test.YtbgankldnjeohaaNmRefIs
set_option linter.unusedVariables false
set_option linter.unusedSimpArgs false
set_option maxRecDepth 100000
namespace Go.Proofs.Ytbgankldnjeohaa
open Go.RowKit

theorem refNm_any (s : ByteArray) (hs : s.size ≤ 140737488351232) (w : World) : Calls Try.prog 29 #[.string s] w fun e w' => e = .returned (.bool (isNm s)) ∧ w' = w := Nm.refIs_any s hs w
set_option maxHeartbeats 1000000 in
theorem rmay1 (i s t p c : Int) (K M : ByteArray) (v : Int) (X : ByteArray) (hK : K.size ≤ 140737488351232) (hM : M.size ≤ 140737488351232) (hX : X.size ≤ 140737488351232) (w : World) :
    Calls Try.prog 21 #[.agg #[.int .i64 1, .int .i64 i, .int .i64 s, .int .i64 t, .int .i64 p, .int .i64 c, .string K, .string M, .int .i64 v, .string X]] w fun e w' => e = .returned (.bool (Nt.may ⟨1, i, s, t, p, c, K, M, v, X⟩)) ∧ Below w.heap.size w w' := by
  by_cases hi : i = 0
  case neg =>
    have hi' : (i == 0) = false := by simpa using hi
    go_enter Try.func21, Try.ntmps21
    go_wp2_with (first | (go_at_call 27; refine (refId_any _ _).mono ?_; rintro e w' ⟨rfl, hw'⟩; rw [hw']; clear hw' w') | (go_at_call 28; refine (within_any _ _ _ _).mono ?_; rintro e w' ⟨rfl, hw'⟩; rw [hw']; clear hw' w') | (go_at_call 30; refine (refStep_any _ _).mono ?_; rintro e w' ⟨rfl, hw'⟩; rw [hw']; clear hw' w') | (go_at_call 29; refine (refNm_any _ (by assumption) _).mono ?_; rintro e w' ⟨rfl, hw'⟩; rw [hw']; clear hw' w'))
    all_goals go_ret
    all_goals exact ⟨retB (by simp [Nt.may, em, endB, Bool.and_assoc, hi]), by go_grown⟩
  case pos =>
    subst hi
    cases b1 : btw X.size 1 1800
    case false =>
      go_enter Try.func21, Try.ntmps21
      go_wp2_with (first | (go_at_call 27; refine (refId_any _ _).mono ?_; rintro e w' ⟨rfl, hw'⟩; rw [hw']; clear hw' w') | (go_at_call 28; refine (within_any _ _ _ _).mono ?_; rintro e w' ⟨rfl, hw'⟩; rw [hw']; clear hw' w') | (go_at_call 30; refine (refStep_any _ _).mono ?_; rintro e w' ⟨rfl, hw'⟩; rw [hw']; clear hw' w') | (go_at_call 29; refine (refNm_any _ (by assumption) _).mono ?_; rintro e w' ⟨rfl, hw'⟩; rw [hw']; clear hw' w'))
      all_goals go_ret
      all_goals exact ⟨retB (by simp [Nt.may, em, endB, Bool.and_assoc, b1]), by go_grown⟩
    case true =>
      go_enter Try.func21, Try.ntmps21
      go_wp2_with (first | (go_at_call 27; refine (refId_any _ _).mono ?_; rintro e w' ⟨rfl, hw'⟩; rw [hw']; clear hw' w') | (go_at_call 28; refine (within_any _ _ _ _).mono ?_; rintro e w' ⟨rfl, hw'⟩; rw [hw']; clear hw' w') | (go_at_call 30; refine (refStep_any _ _).mono ?_; rintro e w' ⟨rfl, hw'⟩; rw [hw']; clear hw' w') | (go_at_call 29; refine (refNm_any _ (by assumption) _).mono ?_; rintro e w' ⟨rfl, hw'⟩; rw [hw']; clear hw' w'))
      all_goals go_ret
      all_goals exact ⟨retB (by simp [Nt.may, em, endB, Bool.and_assoc, b1]), by go_grown⟩
set_option maxHeartbeats 1000000 in
theorem rmay2 (i s t p c : Int) (K M : ByteArray) (v : Int) (X : ByteArray) (hK : K.size ≤ 140737488351232) (hM : M.size ≤ 140737488351232) (hX : X.size ≤ 140737488351232) (w : World) :
    Calls Try.prog 21 #[.agg #[.int .i64 2, .int .i64 i, .int .i64 s, .int .i64 t, .int .i64 p, .int .i64 c, .string K, .string M, .int .i64 v, .string X]] w fun e w' => e = .returned (.bool (Nt.may ⟨2, i, s, t, p, c, K, M, v, X⟩)) ∧ Below w.heap.size w w' := by
  cases b0 : btw i 1 60
  case false =>
    go_enter Try.func21, Try.ntmps21
    go_wp2_with (first | (go_at_call 27; refine (refId_any _ _).mono ?_; rintro e w' ⟨rfl, hw'⟩; rw [hw']; clear hw' w') | (go_at_call 28; refine (within_any _ _ _ _).mono ?_; rintro e w' ⟨rfl, hw'⟩; rw [hw']; clear hw' w') | (go_at_call 30; refine (refStep_any _ _).mono ?_; rintro e w' ⟨rfl, hw'⟩; rw [hw']; clear hw' w') | (go_at_call 29; refine (refNm_any _ (by assumption) _).mono ?_; rintro e w' ⟨rfl, hw'⟩; rw [hw']; clear hw' w'))
    all_goals go_ret
    all_goals exact ⟨retB (by simp [Nt.may, em, endB, Bool.and_assoc, b0]), by go_grown⟩
  case true =>
    cases b1 : isNm K
    case false =>
      go_enter Try.func21, Try.ntmps21
      go_wp2_with (first | (go_at_call 27; refine (refId_any _ _).mono ?_; rintro e w' ⟨rfl, hw'⟩; rw [hw']; clear hw' w') | (go_at_call 28; refine (within_any _ _ _ _).mono ?_; rintro e w' ⟨rfl, hw'⟩; rw [hw']; clear hw' w') | (go_at_call 30; refine (refStep_any _ _).mono ?_; rintro e w' ⟨rfl, hw'⟩; rw [hw']; clear hw' w') | (go_at_call 29; refine (refNm_any _ (by assumption) _).mono ?_; rintro e w' ⟨rfl, hw'⟩; rw [hw']; clear hw' w'))
      all_goals go_ret
      all_goals exact ⟨retB (by simp [Nt.may, em, endB, Bool.and_assoc, b0, b1]), by go_grown⟩
    case true =>
      cases b2 : isNm M
      case false =>
        go_enter Try.func21, Try.ntmps21
        go_wp2_with (first | (go_at_call 27; refine (refId_any _ _).mono ?_; rintro e w' ⟨rfl, hw'⟩; rw [hw']; clear hw' w') | (go_at_call 28; refine (within_any _ _ _ _).mono ?_; rintro e w' ⟨rfl, hw'⟩; rw [hw']; clear hw' w') | (go_at_call 30; refine (refStep_any _ _).mono ?_; rintro e w' ⟨rfl, hw'⟩; rw [hw']; clear hw' w') | (go_at_call 29; refine (refNm_any _ (by assumption) _).mono ?_; rintro e w' ⟨rfl, hw'⟩; rw [hw']; clear hw' w'))
        all_goals go_ret
        all_goals exact ⟨retB (by simp [Nt.may, em, endB, Bool.and_assoc, b0, b1, b2]), by go_grown⟩
      case true =>
        cases b3 : btw v 1 16
        case false =>
          go_enter Try.func21, Try.ntmps21
          go_wp2_with (first | (go_at_call 27; refine (refId_any _ _).mono ?_; rintro e w' ⟨rfl, hw'⟩; rw [hw']; clear hw' w') | (go_at_call 28; refine (within_any _ _ _ _).mono ?_; rintro e w' ⟨rfl, hw'⟩; rw [hw']; clear hw' w') | (go_at_call 30; refine (refStep_any _ _).mono ?_; rintro e w' ⟨rfl, hw'⟩; rw [hw']; clear hw' w') | (go_at_call 29; refine (refNm_any _ (by assumption) _).mono ?_; rintro e w' ⟨rfl, hw'⟩; rw [hw']; clear hw' w'))
          all_goals go_ret
          all_goals exact ⟨retB (by simp [Nt.may, em, endB, Bool.and_assoc, b0, b1, b2, b3]), by go_grown⟩
        case true =>
          go_enter Try.func21, Try.ntmps21
          go_wp2_with (first | (go_at_call 27; refine (refId_any _ _).mono ?_; rintro e w' ⟨rfl, hw'⟩; rw [hw']; clear hw' w') | (go_at_call 28; refine (within_any _ _ _ _).mono ?_; rintro e w' ⟨rfl, hw'⟩; rw [hw']; clear hw' w') | (go_at_call 30; refine (refStep_any _ _).mono ?_; rintro e w' ⟨rfl, hw'⟩; rw [hw']; clear hw' w') | (go_at_call 29; refine (refNm_any _ (by assumption) _).mono ?_; rintro e w' ⟨rfl, hw'⟩; rw [hw']; clear hw' w'))
          all_goals go_ret
          all_goals exact ⟨retB (by simp [Nt.may, em, endB, Bool.and_assoc, b0, b1, b2, b3]), by go_grown⟩
set_option maxHeartbeats 1000000 in
theorem rmay3 (i s t p c : Int) (K M : ByteArray) (v : Int) (X : ByteArray) (hK : K.size ≤ 140737488351232) (hM : M.size ≤ 140737488351232) (hX : X.size ≤ 140737488351232) (w : World) :
    Calls Try.prog 21 #[.agg #[.int .i64 3, .int .i64 i, .int .i64 s, .int .i64 t, .int .i64 p, .int .i64 c, .string K, .string M, .int .i64 v, .string X]] w fun e w' => e = .returned (.bool (Nt.may ⟨3, i, s, t, p, c, K, M, v, X⟩)) ∧ Below w.heap.size w w' := by
  cases b0 : btw i 1 60
  case false =>
    go_enter Try.func21, Try.ntmps21
    go_wp2_with (first | (go_at_call 27; refine (refId_any _ _).mono ?_; rintro e w' ⟨rfl, hw'⟩; rw [hw']; clear hw' w') | (go_at_call 28; refine (within_any _ _ _ _).mono ?_; rintro e w' ⟨rfl, hw'⟩; rw [hw']; clear hw' w') | (go_at_call 30; refine (refStep_any _ _).mono ?_; rintro e w' ⟨rfl, hw'⟩; rw [hw']; clear hw' w') | (go_at_call 29; refine (refNm_any _ (by assumption) _).mono ?_; rintro e w' ⟨rfl, hw'⟩; rw [hw']; clear hw' w'))
    all_goals go_ret
    all_goals exact ⟨retB (by simp [Nt.may, em, endB, Bool.and_assoc, b0]), by go_grown⟩
  case true =>
    go_enter Try.func21, Try.ntmps21
    go_wp2_with (first | (go_at_call 27; refine (refId_any _ _).mono ?_; rintro e w' ⟨rfl, hw'⟩; rw [hw']; clear hw' w') | (go_at_call 28; refine (within_any _ _ _ _).mono ?_; rintro e w' ⟨rfl, hw'⟩; rw [hw']; clear hw' w') | (go_at_call 30; refine (refStep_any _ _).mono ?_; rintro e w' ⟨rfl, hw'⟩; rw [hw']; clear hw' w') | (go_at_call 29; refine (refNm_any _ (by assumption) _).mono ?_; rintro e w' ⟨rfl, hw'⟩; rw [hw']; clear hw' w'))
    all_goals go_ret
    all_goals exact ⟨retB (by simp [Nt.may, em, endB, Bool.and_assoc, b0]), by go_grown⟩
set_option maxHeartbeats 1000000 in
theorem rmay4 (i s t p c : Int) (K M : ByteArray) (v : Int) (X : ByteArray) (hK : K.size ≤ 140737488351232) (hM : M.size ≤ 140737488351232) (hX : X.size ≤ 140737488351232) (w : World) :
    Calls Try.prog 21 #[.agg #[.int .i64 4, .int .i64 i, .int .i64 s, .int .i64 t, .int .i64 p, .int .i64 c, .string K, .string M, .int .i64 v, .string X]] w fun e w' => e = .returned (.bool (Nt.may ⟨4, i, s, t, p, c, K, M, v, X⟩)) ∧ Below w.heap.size w w' := by
  cases b0 : btw i 1 60
  case false =>
    go_enter Try.func21, Try.ntmps21
    go_wp2_with (first | (go_at_call 27; refine (refId_any _ _).mono ?_; rintro e w' ⟨rfl, hw'⟩; rw [hw']; clear hw' w') | (go_at_call 28; refine (within_any _ _ _ _).mono ?_; rintro e w' ⟨rfl, hw'⟩; rw [hw']; clear hw' w') | (go_at_call 30; refine (refStep_any _ _).mono ?_; rintro e w' ⟨rfl, hw'⟩; rw [hw']; clear hw' w') | (go_at_call 29; refine (refNm_any _ (by assumption) _).mono ?_; rintro e w' ⟨rfl, hw'⟩; rw [hw']; clear hw' w'))
    all_goals go_ret
    all_goals exact ⟨retB (by simp [Nt.may, em, endB, Bool.and_assoc, b0]), by go_grown⟩
  case true =>
    go_enter Try.func21, Try.ntmps21
    go_wp2_with (first | (go_at_call 27; refine (refId_any _ _).mono ?_; rintro e w' ⟨rfl, hw'⟩; rw [hw']; clear hw' w') | (go_at_call 28; refine (within_any _ _ _ _).mono ?_; rintro e w' ⟨rfl, hw'⟩; rw [hw']; clear hw' w') | (go_at_call 30; refine (refStep_any _ _).mono ?_; rintro e w' ⟨rfl, hw'⟩; rw [hw']; clear hw' w') | (go_at_call 29; refine (refNm_any _ (by assumption) _).mono ?_; rintro e w' ⟨rfl, hw'⟩; rw [hw']; clear hw' w'))
    all_goals go_ret
    all_goals exact ⟨retB (by simp [Nt.may, em, endB, Bool.and_assoc, b0]), by go_grown⟩
set_option maxHeartbeats 1000000 in
theorem rmay7 (i s t p c : Int) (K M : ByteArray) (v : Int) (X : ByteArray) (hK : K.size ≤ 140737488351232) (hM : M.size ≤ 140737488351232) (hX : X.size ≤ 140737488351232) (w : World) :
    Calls Try.prog 21 #[.agg #[.int .i64 7, .int .i64 i, .int .i64 s, .int .i64 t, .int .i64 p, .int .i64 c, .string K, .string M, .int .i64 v, .string X]] w fun e w' => e = .returned (.bool (Nt.may ⟨7, i, s, t, p, c, K, M, v, X⟩)) ∧ Below w.heap.size w w' := by
  cases b0 : btw i 1 60
  case false =>
    go_enter Try.func21, Try.ntmps21
    go_wp2_with (first | (go_at_call 27; refine (refId_any _ _).mono ?_; rintro e w' ⟨rfl, hw'⟩; rw [hw']; clear hw' w') | (go_at_call 28; refine (within_any _ _ _ _).mono ?_; rintro e w' ⟨rfl, hw'⟩; rw [hw']; clear hw' w') | (go_at_call 30; refine (refStep_any _ _).mono ?_; rintro e w' ⟨rfl, hw'⟩; rw [hw']; clear hw' w') | (go_at_call 29; refine (refNm_any _ (by assumption) _).mono ?_; rintro e w' ⟨rfl, hw'⟩; rw [hw']; clear hw' w'))
    all_goals go_ret
    all_goals exact ⟨retB (by simp [Nt.may, em, endB, Bool.and_assoc, b0]), by go_grown⟩
  case true =>
    go_enter Try.func21, Try.ntmps21
    go_wp2_with (first | (go_at_call 27; refine (refId_any _ _).mono ?_; rintro e w' ⟨rfl, hw'⟩; rw [hw']; clear hw' w') | (go_at_call 28; refine (within_any _ _ _ _).mono ?_; rintro e w' ⟨rfl, hw'⟩; rw [hw']; clear hw' w') | (go_at_call 30; refine (refStep_any _ _).mono ?_; rintro e w' ⟨rfl, hw'⟩; rw [hw']; clear hw' w') | (go_at_call 29; refine (refNm_any _ (by assumption) _).mono ?_; rintro e w' ⟨rfl, hw'⟩; rw [hw']; clear hw' w'))
    all_goals go_ret
    all_goals exact ⟨retB (by simp [Nt.may, em, endB, Bool.and_assoc, b0]), by go_grown⟩
set_option maxHeartbeats 1000000 in
theorem rmay5 (i s t p c : Int) (K M : ByteArray) (v : Int) (X : ByteArray) (hK : K.size ≤ 140737488351232) (hM : M.size ≤ 140737488351232) (hX : X.size ≤ 140737488351232) (w : World) :
    Calls Try.prog 21 #[.agg #[.int .i64 5, .int .i64 i, .int .i64 s, .int .i64 t, .int .i64 p, .int .i64 c, .string K, .string M, .int .i64 v, .string X]] w fun e w' => e = .returned (.bool (Nt.may ⟨5, i, s, t, p, c, K, M, v, X⟩)) ∧ Below w.heap.size w w' := by
  cases b0 : btw i 1 60
  case false =>
    go_enter Try.func21, Try.ntmps21
    go_wp2_with (first | (go_at_call 27; refine (refId_any _ _).mono ?_; rintro e w' ⟨rfl, hw'⟩; rw [hw']; clear hw' w') | (go_at_call 28; refine (within_any _ _ _ _).mono ?_; rintro e w' ⟨rfl, hw'⟩; rw [hw']; clear hw' w') | (go_at_call 30; refine (refStep_any _ _).mono ?_; rintro e w' ⟨rfl, hw'⟩; rw [hw']; clear hw' w') | (go_at_call 29; refine (refNm_any _ (by assumption) _).mono ?_; rintro e w' ⟨rfl, hw'⟩; rw [hw']; clear hw' w'))
    all_goals go_ret
    all_goals exact ⟨retB (by simp [Nt.may, em, endB, Bool.and_assoc, b0]), by go_grown⟩
  case true =>
    cases b1 : btw s 0 7
    case false =>
      go_enter Try.func21, Try.ntmps21
      go_wp2_with (first | (go_at_call 27; refine (refId_any _ _).mono ?_; rintro e w' ⟨rfl, hw'⟩; rw [hw']; clear hw' w') | (go_at_call 28; refine (within_any _ _ _ _).mono ?_; rintro e w' ⟨rfl, hw'⟩; rw [hw']; clear hw' w') | (go_at_call 30; refine (refStep_any _ _).mono ?_; rintro e w' ⟨rfl, hw'⟩; rw [hw']; clear hw' w') | (go_at_call 29; refine (refNm_any _ (by assumption) _).mono ?_; rintro e w' ⟨rfl, hw'⟩; rw [hw']; clear hw' w'))
      all_goals go_ret
      all_goals exact ⟨retB (by simp [Nt.may, em, endB, Bool.and_assoc, b0, b1]), by go_grown⟩
    case true =>
      go_enter Try.func21, Try.ntmps21
      go_wp2_with (first | (go_at_call 27; refine (refId_any _ _).mono ?_; rintro e w' ⟨rfl, hw'⟩; rw [hw']; clear hw' w') | (go_at_call 28; refine (within_any _ _ _ _).mono ?_; rintro e w' ⟨rfl, hw'⟩; rw [hw']; clear hw' w') | (go_at_call 30; refine (refStep_any _ _).mono ?_; rintro e w' ⟨rfl, hw'⟩; rw [hw']; clear hw' w') | (go_at_call 29; refine (refNm_any _ (by assumption) _).mono ?_; rintro e w' ⟨rfl, hw'⟩; rw [hw']; clear hw' w'))
      all_goals go_ret
      all_goals exact ⟨retB (by simp [Nt.may, em, endB, Bool.and_assoc, b0, b1]), by go_grown⟩
set_option maxHeartbeats 1000000 in
theorem rmay6 (i s t p c : Int) (K M : ByteArray) (v : Int) (X : ByteArray) (hK : K.size ≤ 140737488351232) (hM : M.size ≤ 140737488351232) (hX : X.size ≤ 140737488351232) (w : World) :
    Calls Try.prog 21 #[.agg #[.int .i64 6, .int .i64 i, .int .i64 s, .int .i64 t, .int .i64 p, .int .i64 c, .string K, .string M, .int .i64 v, .string X]] w fun e w' => e = .returned (.bool (Nt.may ⟨6, i, s, t, p, c, K, M, v, X⟩)) ∧ Below w.heap.size w w' := by
  cases b0 : btw i 1 60
  case false =>
    go_enter Try.func21, Try.ntmps21
    go_wp2_with (first | (go_at_call 27; refine (refId_any _ _).mono ?_; rintro e w' ⟨rfl, hw'⟩; rw [hw']; clear hw' w') | (go_at_call 28; refine (within_any _ _ _ _).mono ?_; rintro e w' ⟨rfl, hw'⟩; rw [hw']; clear hw' w') | (go_at_call 30; refine (refStep_any _ _).mono ?_; rintro e w' ⟨rfl, hw'⟩; rw [hw']; clear hw' w') | (go_at_call 29; refine (refNm_any _ (by assumption) _).mono ?_; rintro e w' ⟨rfl, hw'⟩; rw [hw']; clear hw' w'))
    all_goals go_ret
    all_goals exact ⟨retB (by simp [Nt.may, em, endB, Bool.and_assoc, b0]), by go_grown⟩
  case true =>
    cases b1 : btw s 0 7
    case false =>
      go_enter Try.func21, Try.ntmps21
      go_wp2_with (first | (go_at_call 27; refine (refId_any _ _).mono ?_; rintro e w' ⟨rfl, hw'⟩; rw [hw']; clear hw' w') | (go_at_call 28; refine (within_any _ _ _ _).mono ?_; rintro e w' ⟨rfl, hw'⟩; rw [hw']; clear hw' w') | (go_at_call 30; refine (refStep_any _ _).mono ?_; rintro e w' ⟨rfl, hw'⟩; rw [hw']; clear hw' w') | (go_at_call 29; refine (refNm_any _ (by assumption) _).mono ?_; rintro e w' ⟨rfl, hw'⟩; rw [hw']; clear hw' w'))
      all_goals go_ret
      all_goals exact ⟨retB (by simp [Nt.may, em, endB, Bool.and_assoc, b0, b1]), by go_grown⟩
    case true =>
      cases b2 : btw t 2 5
      case false =>
        go_enter Try.func21, Try.ntmps21
        go_wp2_with (first | (go_at_call 27; refine (refId_any _ _).mono ?_; rintro e w' ⟨rfl, hw'⟩; rw [hw']; clear hw' w') | (go_at_call 28; refine (within_any _ _ _ _).mono ?_; rintro e w' ⟨rfl, hw'⟩; rw [hw']; clear hw' w') | (go_at_call 30; refine (refStep_any _ _).mono ?_; rintro e w' ⟨rfl, hw'⟩; rw [hw']; clear hw' w') | (go_at_call 29; refine (refNm_any _ (by assumption) _).mono ?_; rintro e w' ⟨rfl, hw'⟩; rw [hw']; clear hw' w'))
        all_goals go_ret
        all_goals exact ⟨retB (by simp [Nt.may, em, endB, Bool.and_assoc, b0, b1, b2]), by go_grown⟩
      case true =>
        go_enter Try.func21, Try.ntmps21
        go_wp2_with (first | (go_at_call 27; refine (refId_any _ _).mono ?_; rintro e w' ⟨rfl, hw'⟩; rw [hw']; clear hw' w') | (go_at_call 28; refine (within_any _ _ _ _).mono ?_; rintro e w' ⟨rfl, hw'⟩; rw [hw']; clear hw' w') | (go_at_call 30; refine (refStep_any _ _).mono ?_; rintro e w' ⟨rfl, hw'⟩; rw [hw']; clear hw' w') | (go_at_call 29; refine (refNm_any _ (by assumption) _).mono ?_; rintro e w' ⟨rfl, hw'⟩; rw [hw']; clear hw' w'))
        all_goals go_ret
        all_goals exact ⟨retB (by simp [Nt.may, em, endB, Bool.and_assoc, b0, b1, b2]), by go_grown⟩
set_option maxHeartbeats 1000000 in
theorem rmay8 (i s t p c : Int) (K M : ByteArray) (v : Int) (X : ByteArray) (hK : K.size ≤ 140737488351232) (hM : M.size ≤ 140737488351232) (hX : X.size ≤ 140737488351232) (w : World) :
    Calls Try.prog 21 #[.agg #[.int .i64 8, .int .i64 i, .int .i64 s, .int .i64 t, .int .i64 p, .int .i64 c, .string K, .string M, .int .i64 v, .string X]] w fun e w' => e = .returned (.bool (Nt.may ⟨8, i, s, t, p, c, K, M, v, X⟩)) ∧ Below w.heap.size w w' := by
  cases b0 : btw i 1 60
  case false =>
    go_enter Try.func21, Try.ntmps21
    go_wp2_with (first | (go_at_call 27; refine (refId_any _ _).mono ?_; rintro e w' ⟨rfl, hw'⟩; rw [hw']; clear hw' w') | (go_at_call 28; refine (within_any _ _ _ _).mono ?_; rintro e w' ⟨rfl, hw'⟩; rw [hw']; clear hw' w') | (go_at_call 30; refine (refStep_any _ _).mono ?_; rintro e w' ⟨rfl, hw'⟩; rw [hw']; clear hw' w') | (go_at_call 29; refine (refNm_any _ (by assumption) _).mono ?_; rintro e w' ⟨rfl, hw'⟩; rw [hw']; clear hw' w'))
    all_goals go_ret
    all_goals exact ⟨retB (by simp [Nt.may, em, endB, Bool.and_assoc, b0]), by go_grown⟩
  case true =>
    cases b1 : btw p 0 3
    case false =>
      go_enter Try.func21, Try.ntmps21
      go_wp2_with (first | (go_at_call 27; refine (refId_any _ _).mono ?_; rintro e w' ⟨rfl, hw'⟩; rw [hw']; clear hw' w') | (go_at_call 28; refine (within_any _ _ _ _).mono ?_; rintro e w' ⟨rfl, hw'⟩; rw [hw']; clear hw' w') | (go_at_call 30; refine (refStep_any _ _).mono ?_; rintro e w' ⟨rfl, hw'⟩; rw [hw']; clear hw' w') | (go_at_call 29; refine (refNm_any _ (by assumption) _).mono ?_; rintro e w' ⟨rfl, hw'⟩; rw [hw']; clear hw' w'))
      all_goals go_ret
      all_goals exact ⟨retB (by simp [Nt.may, em, endB, Bool.and_assoc, b0, b1]), by go_grown⟩
    case true =>
      go_enter Try.func21, Try.ntmps21
      go_wp2_with (first | (go_at_call 27; refine (refId_any _ _).mono ?_; rintro e w' ⟨rfl, hw'⟩; rw [hw']; clear hw' w') | (go_at_call 28; refine (within_any _ _ _ _).mono ?_; rintro e w' ⟨rfl, hw'⟩; rw [hw']; clear hw' w') | (go_at_call 30; refine (refStep_any _ _).mono ?_; rintro e w' ⟨rfl, hw'⟩; rw [hw']; clear hw' w') | (go_at_call 29; refine (refNm_any _ (by assumption) _).mono ?_; rintro e w' ⟨rfl, hw'⟩; rw [hw']; clear hw' w'))
      all_goals go_ret
      all_goals exact ⟨retB (by simp [Nt.may, em, endB, Bool.and_assoc, b0, b1]), by go_grown⟩
set_option maxHeartbeats 1000000 in
theorem rmay9 (i s t p c : Int) (K M : ByteArray) (v : Int) (X : ByteArray) (hK : K.size ≤ 140737488351232) (hM : M.size ≤ 140737488351232) (hX : X.size ≤ 140737488351232) (w : World) :
    Calls Try.prog 21 #[.agg #[.int .i64 9, .int .i64 i, .int .i64 s, .int .i64 t, .int .i64 p, .int .i64 c, .string K, .string M, .int .i64 v, .string X]] w fun e w' => e = .returned (.bool (Nt.may ⟨9, i, s, t, p, c, K, M, v, X⟩)) ∧ Below w.heap.size w w' := by
  cases b0 : btw i 1 60
  case false =>
    go_enter Try.func21, Try.ntmps21
    go_wp2_with (first | (go_at_call 27; refine (refId_any _ _).mono ?_; rintro e w' ⟨rfl, hw'⟩; rw [hw']; clear hw' w') | (go_at_call 28; refine (within_any _ _ _ _).mono ?_; rintro e w' ⟨rfl, hw'⟩; rw [hw']; clear hw' w') | (go_at_call 30; refine (refStep_any _ _).mono ?_; rintro e w' ⟨rfl, hw'⟩; rw [hw']; clear hw' w') | (go_at_call 29; refine (refNm_any _ (by assumption) _).mono ?_; rintro e w' ⟨rfl, hw'⟩; rw [hw']; clear hw' w'))
    all_goals go_ret
    all_goals exact ⟨retB (by simp [Nt.may, em, endB, Bool.and_assoc, b0]), by go_grown⟩
  case true =>
    by_cases h4 : t = 4
    case pos =>
      subst h4
      by_cases hc : c = 0
      case pos =>
        subst hc
        go_enter Try.func21, Try.ntmps21
        go_wp2_with (first | (go_at_call 27; refine (refId_any _ _).mono ?_; rintro e w' ⟨rfl, hw'⟩; rw [hw']; clear hw' w') | (go_at_call 28; refine (within_any _ _ _ _).mono ?_; rintro e w' ⟨rfl, hw'⟩; rw [hw']; clear hw' w') | (go_at_call 30; refine (refStep_any _ _).mono ?_; rintro e w' ⟨rfl, hw'⟩; rw [hw']; clear hw' w') | (go_at_call 29; refine (refNm_any _ (by assumption) _).mono ?_; rintro e w' ⟨rfl, hw'⟩; rw [hw']; clear hw' w'))
        all_goals go_ret
        all_goals exact ⟨retB (by simp [Nt.may, em, endB, Bool.and_assoc, b0]), by go_grown⟩
      case neg =>
        have hc' : (c == 0) = false := by simpa using hc
        go_enter Try.func21, Try.ntmps21
        go_wp2_with (first | (go_at_call 27; refine (refId_any _ _).mono ?_; rintro e w' ⟨rfl, hw'⟩; rw [hw']; clear hw' w') | (go_at_call 28; refine (within_any _ _ _ _).mono ?_; rintro e w' ⟨rfl, hw'⟩; rw [hw']; clear hw' w') | (go_at_call 30; refine (refStep_any _ _).mono ?_; rintro e w' ⟨rfl, hw'⟩; rw [hw']; clear hw' w') | (go_at_call 29; refine (refNm_any _ (by assumption) _).mono ?_; rintro e w' ⟨rfl, hw'⟩; rw [hw']; clear hw' w'))
        all_goals go_ret
        all_goals exact ⟨retB (by simp [Nt.may, em, endB, Bool.and_assoc, b0, hc]), by go_grown⟩
    case neg =>
      have h4' : (t == 4) = false := by simpa using h4
      by_cases h6 : t = 6
      case pos =>
        subst h6
        cases b5 : btw c 1 4
        case false =>
          go_enter Try.func21, Try.ntmps21
          go_wp2_with (first | (go_at_call 27; refine (refId_any _ _).mono ?_; rintro e w' ⟨rfl, hw'⟩; rw [hw']; clear hw' w') | (go_at_call 28; refine (within_any _ _ _ _).mono ?_; rintro e w' ⟨rfl, hw'⟩; rw [hw']; clear hw' w') | (go_at_call 30; refine (refStep_any _ _).mono ?_; rintro e w' ⟨rfl, hw'⟩; rw [hw']; clear hw' w') | (go_at_call 29; refine (refNm_any _ (by assumption) _).mono ?_; rintro e w' ⟨rfl, hw'⟩; rw [hw']; clear hw' w'))
          all_goals go_ret
          all_goals exact ⟨retB (by simp [Nt.may, em, endB, Bool.and_assoc, b0, b5]), by go_grown⟩
        case true =>
          go_enter Try.func21, Try.ntmps21
          go_wp2_with (first | (go_at_call 27; refine (refId_any _ _).mono ?_; rintro e w' ⟨rfl, hw'⟩; rw [hw']; clear hw' w') | (go_at_call 28; refine (within_any _ _ _ _).mono ?_; rintro e w' ⟨rfl, hw'⟩; rw [hw']; clear hw' w') | (go_at_call 30; refine (refStep_any _ _).mono ?_; rintro e w' ⟨rfl, hw'⟩; rw [hw']; clear hw' w') | (go_at_call 29; refine (refNm_any _ (by assumption) _).mono ?_; rintro e w' ⟨rfl, hw'⟩; rw [hw']; clear hw' w'))
          all_goals go_ret
          all_goals exact ⟨retB (by simp [Nt.may, em, endB, Bool.and_assoc, b0, b5]), by go_grown⟩
      case neg =>
        have h6' : (t == 6) = false := by simpa using h6
        go_enter Try.func21, Try.ntmps21
        go_wp2_with (first | (go_at_call 27; refine (refId_any _ _).mono ?_; rintro e w' ⟨rfl, hw'⟩; rw [hw']; clear hw' w') | (go_at_call 28; refine (within_any _ _ _ _).mono ?_; rintro e w' ⟨rfl, hw'⟩; rw [hw']; clear hw' w') | (go_at_call 30; refine (refStep_any _ _).mono ?_; rintro e w' ⟨rfl, hw'⟩; rw [hw']; clear hw' w') | (go_at_call 29; refine (refNm_any _ (by assumption) _).mono ?_; rintro e w' ⟨rfl, hw'⟩; rw [hw']; clear hw' w'))
        all_goals go_ret
        all_goals exact ⟨retB (by simp [Nt.may, em, endB, Bool.and_assoc, b0, h4, h6]), by go_grown⟩
set_option maxHeartbeats 1000000 in
theorem rmay0 (k : Int) (i s t p c : Int) (K M : ByteArray) (v : Int) (X : ByteArray) (hK : K.size ≤ 140737488351232) (hM : M.size ≤ 140737488351232) (hX : X.size ≤ 140737488351232) (h1 : k ≠ 1) (h2 : k ≠ 2) (h3 : k ≠ 3) (h4 : k ≠ 4) (h5 : k ≠ 5) (h6 : k ≠ 6) (h7 : k ≠ 7) (h8 : k ≠ 8) (h9 : k ≠ 9) (w : World) :
    Calls Try.prog 21 #[.agg #[.int .i64 k, .int .i64 i, .int .i64 s, .int .i64 t, .int .i64 p, .int .i64 c, .string K, .string M, .int .i64 v, .string X]] w fun e w' => e = .returned (.bool (Nt.may ⟨k, i, s, t, p, c, K, M, v, X⟩)) ∧ Below w.heap.size w w' := by
  have d1 : (k == 1) = false := by simpa using h1
  have d2 : (k == 2) = false := by simpa using h2
  have d3 : (k == 3) = false := by simpa using h3
  have d4 : (k == 4) = false := by simpa using h4
  have d5 : (k == 5) = false := by simpa using h5
  have d6 : (k == 6) = false := by simpa using h6
  have d7 : (k == 7) = false := by simpa using h7
  have d8 : (k == 8) = false := by simpa using h8
  have d9 : (k == 9) = false := by simpa using h9
  go_enter Try.func21, Try.ntmps21
  go_wp2_with (first | (go_at_call 27; refine (refId_any _ _).mono ?_; rintro e w' ⟨rfl, hw'⟩; rw [hw']; clear hw' w') | (go_at_call 28; refine (within_any _ _ _ _).mono ?_; rintro e w' ⟨rfl, hw'⟩; rw [hw']; clear hw' w') | (go_at_call 30; refine (refStep_any _ _).mono ?_; rintro e w' ⟨rfl, hw'⟩; rw [hw']; clear hw' w') | (go_at_call 29; refine (refNm_any _ (by assumption) _).mono ?_; rintro e w' ⟨rfl, hw'⟩; rw [hw']; clear hw' w'))
  all_goals go_ret
  all_goals exact ⟨retB (by simp [Nt.may, em, endB, Bool.and_assoc, h1, h2, h3, h4, h5, h6, h7, h8, h9]), by go_grown⟩
end Go.Proofs.Ytbgankldnjeohaa
