/- May a note be? The walk of note.mayBe, kind by kind. -/
import Derived.Test.YtbgankldnjeohaaSmallW
import Derived.Test.YtbgankldnjeohaaNmWalks
import Derived.Laws.StructEq
import Derived.Handy
set_option linter.unusedVariables false
set_option linter.unusedSimpArgs false
set_option maxRecDepth 100000
namespace Go.Proofs.Ytbgankldnjeohaa
open Go.RowKit

/-- A note's fields. -/
structure Nt where
  k : Int
  i : Int
  s : Int
  t : Int
  p : Int
  c : Int
  K : ByteArray
  M : ByteArray
  v : Int
  X : ByteArray
def Nt.val (n : Nt) : Value := .agg #[.int .i64 n.k, .int .i64 n.i, .int .i64 n.s, .int .i64 n.t, .int .i64 n.p, .int .i64 n.c, .string n.K, .string n.M, .int .i64 n.v, .string n.X]
def isNm (s : ByteArray) : Bool := NameMath.isGo (NameMath.runes s.data.toList) 0
def em (s : ByteArray) : Bool := decide (s = ⟨#[]⟩)
/-- May it be, by the document's table. -/
def Nt.may (n : Nt) : Bool :=
  if n.k = 1 then btw n.X.size 1 1800 && (n.i == 0 && n.s == 0 && n.t == 0 && n.p == 0 && n.c == 0 && em n.K && em n.M && n.v == 0)
  else if n.k = 2 then (btw n.i 1 60 && isNm n.K && isNm n.M && btw n.v 1 16) && (n.s == 0 && n.t == 0 && n.p == 0 && n.c == 0 && em n.X)
  else if n.k = 3 ∨ n.k = 4 ∨ n.k = 7 then btw n.i 1 60 && (n.s == 0 && n.t == 0 && n.p == 0 && n.c == 0 && em n.K && em n.M && n.v == 0 && em n.X)
  else if n.k = 5 then (btw n.i 1 60 && btw n.s 0 7) && (n.t == 0 && n.p == 0 && n.c == 0 && em n.K && em n.M && n.v == 0 && em n.X)
  else if n.k = 6 then (btw n.i 1 60 && btw n.s 0 7 && btw n.t 2 5) && (n.p == 0 && n.c == 0 && em n.K && em n.M && n.v == 0 && em n.X)
  else if n.k = 8 then (btw n.i 1 60 && btw n.p 0 3) && (n.s == 0 && n.t == 0 && n.c == 0 && em n.K && em n.M && n.v == 0 && em n.X)
  else if n.k = 9 then (btw n.i 1 60 && endB n.t n.c) && (n.s == 0 && n.p == 0 && em n.K && em n.M && n.v == 0 && em n.X)
  else false
theorem retB {a b : Bool} (h : a = b) : Ending.returned (.bool a) = Ending.returned (.bool b) := by rw [h]
theorem ba_eq (a b : ByteArray) : (a.toList == b.toList) = decide (a = b) := by
  rw [← beq_toListBytes]
  rw [Bool.eq_iff_iff]
  obtain ⟨⟨x⟩⟩ := a
  obtain ⟨⟨y⟩⟩ := b
  show ((⟨x⟩ : Array UInt8) == ⟨y⟩) = true ↔ _
  simp
@[go_sem high] theorem eqlNote (a1 a2 a3 a4 a5 a6 b1 b2 b3 b4 b5 b6 a9 b9 : Int) (a7 a8 a0 b7 b8 b0 : ByteArray) (w : World) :
    (binOp .eql 56 (.agg #[.int .i64 a1, .int .i64 a2, .int .i64 a3, .int .i64 a4, .int .i64 a5, .int .i64 a6, .string a7, .string a8, .int .i64 a9, .string a0]) (.agg #[.int .i64 b1, .int .i64 b2, .int .i64 b3, .int .i64 b4, .int .i64 b5, .int .i64 b6, .string b7, .string b8, .int .i64 b9, .string b0])).run Try.prog w
      = .ok (.bool (a1 == b1 && (a2 == b2 && (a3 == b3 && (a4 == b4 && (a5 == b5 && (a6 == b6 && (decide (a7 = b7) && (decide (a8 = b8) && (a9 == b9 && decide (a0 = b0))))))))))) w := by
  have hS : Try.prog.underlying 56 = some (.struct (Try.prog.fieldsOf 56)) := by kernel_rfl
  have hp : Try.prog.stoodInHeld 56 = false := by kernel_rfl
  rw [run_eql_struct, show (10000 : Nat) = 9999 + 1 from rfl, run_equalIn_agg w 9999 56 _ _ hS hp]
  simp only [Program.fieldsOf, Try.underlying56]
  cases e1 : a1 == b1 <;> cases e2 : a2 == b2 <;> simp [go_sem, ba_eq, e1, e2]
  all_goals ((repeat' split) <;> simp_all)
@[go_sem high] theorem eqlApi (a1 a2 a3 a4 a5 a6 b1 b2 b3 b4 b5 b6 a9 b9 : Int) (a7 a8 a0 b7 b8 b0 : ByteArray) (w : World) :
    (binOp .eql 35 (.agg #[.int .i64 a1, .int .i64 a2, .int .i64 a3, .int .i64 a4, .int .i64 a5, .int .i64 a6, .string a7, .string a8, .int .i64 a9, .string a0]) (.agg #[.int .i64 b1, .int .i64 b2, .int .i64 b3, .int .i64 b4, .int .i64 b5, .int .i64 b6, .string b7, .string b8, .int .i64 b9, .string b0])).run Try.prog w
      = .ok (.bool (a1 == b1 && (a2 == b2 && (a3 == b3 && (a4 == b4 && (a5 == b5 && (a6 == b6 && (decide (a7 = b7) && (decide (a8 = b8) && (a9 == b9 && decide (a0 = b0))))))))))) w := by
  have hS : Try.prog.underlying 35 = some (.struct (Try.prog.fieldsOf 35)) := by kernel_rfl
  have hp : Try.prog.stoodInHeld 35 = false := by kernel_rfl
  rw [run_eql_struct, show (10000 : Nat) = 9999 + 1 from rfl, run_equalIn_agg w 9999 35 _ _ hS hp]
  simp only [Program.fieldsOf, Try.underlying35]
  cases e1 : a1 == b1 <;> cases e2 : a2 == b2 <;> simp [go_sem, ba_eq, e1, e2]
  all_goals ((repeat' split) <;> simp_all)
set_option maxHeartbeats 1000000 in
theorem may1 (i s t p c : Int) (K M : ByteArray) (v : Int) (X : ByteArray) (hX : X.size ≤ 140737488351232) (w : World) :
    Calls Try.prog 91 #[.agg #[.int .i64 1, .int .i64 i, .int .i64 s, .int .i64 t, .int .i64 p, .int .i64 c, .string K, .string M, .int .i64 v, .string X]] w fun e w' => e = .returned (.bool (Nt.may ⟨1, i, s, t, p, c, K, M, v, X⟩)) ∧ Below w.heap.size w w' := by
  cases b0 : btw X.size 1 1800
  case false =>
    go_enter Try.func91, Try.ntmps91
    go_wp2_with (first | (go_at_call 67; refine (isID_any _ _).mono ?_; rintro e w' ⟨rfl, hw'⟩; rw [hw']; clear hw' w') | (go_at_call 65; refine (between_any _ _ _ _).mono ?_; rintro e w' ⟨rfl, hw'⟩; rw [hw']; clear hw' w') | (go_at_call 68; refine (isStep_any _ _).mono ?_; rintro e w' ⟨rfl, hw'⟩; rw [hw']; clear hw' w') | (go_at_call 66; refine (isPart_any _ _).mono ?_; rintro e w' ⟨rfl, hw'⟩; rw [hw']; clear hw' w') | (go_at_call 93; refine (isEnd_any _ _ _).mono ?_; rintro e w' ⟨rfl, hw'⟩; rw [hw']; clear hw' w'))
    all_goals go_ret
    all_goals exact ⟨retB (by simp [Nt.may, em, Bool.and_assoc, b0]), by go_grown⟩
  case true =>
    go_enter Try.func91, Try.ntmps91
    go_wp2_with (first | (go_at_call 67; refine (isID_any _ _).mono ?_; rintro e w' ⟨rfl, hw'⟩; rw [hw']; clear hw' w') | (go_at_call 65; refine (between_any _ _ _ _).mono ?_; rintro e w' ⟨rfl, hw'⟩; rw [hw']; clear hw' w') | (go_at_call 68; refine (isStep_any _ _).mono ?_; rintro e w' ⟨rfl, hw'⟩; rw [hw']; clear hw' w') | (go_at_call 66; refine (isPart_any _ _).mono ?_; rintro e w' ⟨rfl, hw'⟩; rw [hw']; clear hw' w') | (go_at_call 93; refine (isEnd_any _ _ _).mono ?_; rintro e w' ⟨rfl, hw'⟩; rw [hw']; clear hw' w'))
    all_goals go_ret
    all_goals exact ⟨retB (by simp [Nt.may, em, Bool.and_assoc, b0]), by go_grown⟩
set_option maxHeartbeats 1000000 in
theorem may3 (i s t p c : Int) (K M : ByteArray) (v : Int) (X : ByteArray) (hX : X.size ≤ 140737488351232) (w : World) :
    Calls Try.prog 91 #[.agg #[.int .i64 3, .int .i64 i, .int .i64 s, .int .i64 t, .int .i64 p, .int .i64 c, .string K, .string M, .int .i64 v, .string X]] w fun e w' => e = .returned (.bool (Nt.may ⟨3, i, s, t, p, c, K, M, v, X⟩)) ∧ Below w.heap.size w w' := by
  cases b0 : btw i 1 60
  case false =>
    go_enter Try.func91, Try.ntmps91
    go_wp2_with (first | (go_at_call 67; refine (isID_any _ _).mono ?_; rintro e w' ⟨rfl, hw'⟩; rw [hw']; clear hw' w') | (go_at_call 65; refine (between_any _ _ _ _).mono ?_; rintro e w' ⟨rfl, hw'⟩; rw [hw']; clear hw' w') | (go_at_call 68; refine (isStep_any _ _).mono ?_; rintro e w' ⟨rfl, hw'⟩; rw [hw']; clear hw' w') | (go_at_call 66; refine (isPart_any _ _).mono ?_; rintro e w' ⟨rfl, hw'⟩; rw [hw']; clear hw' w') | (go_at_call 93; refine (isEnd_any _ _ _).mono ?_; rintro e w' ⟨rfl, hw'⟩; rw [hw']; clear hw' w'))
    all_goals go_ret
    all_goals exact ⟨retB (by simp [Nt.may, em, Bool.and_assoc, b0]), by go_grown⟩
  case true =>
    go_enter Try.func91, Try.ntmps91
    go_wp2_with (first | (go_at_call 67; refine (isID_any _ _).mono ?_; rintro e w' ⟨rfl, hw'⟩; rw [hw']; clear hw' w') | (go_at_call 65; refine (between_any _ _ _ _).mono ?_; rintro e w' ⟨rfl, hw'⟩; rw [hw']; clear hw' w') | (go_at_call 68; refine (isStep_any _ _).mono ?_; rintro e w' ⟨rfl, hw'⟩; rw [hw']; clear hw' w') | (go_at_call 66; refine (isPart_any _ _).mono ?_; rintro e w' ⟨rfl, hw'⟩; rw [hw']; clear hw' w') | (go_at_call 93; refine (isEnd_any _ _ _).mono ?_; rintro e w' ⟨rfl, hw'⟩; rw [hw']; clear hw' w'))
    all_goals go_ret
    all_goals exact ⟨retB (by simp [Nt.may, em, Bool.and_assoc, b0]), by go_grown⟩
set_option maxHeartbeats 1000000 in
theorem may4 (i s t p c : Int) (K M : ByteArray) (v : Int) (X : ByteArray) (hX : X.size ≤ 140737488351232) (w : World) :
    Calls Try.prog 91 #[.agg #[.int .i64 4, .int .i64 i, .int .i64 s, .int .i64 t, .int .i64 p, .int .i64 c, .string K, .string M, .int .i64 v, .string X]] w fun e w' => e = .returned (.bool (Nt.may ⟨4, i, s, t, p, c, K, M, v, X⟩)) ∧ Below w.heap.size w w' := by
  cases b0 : btw i 1 60
  case false =>
    go_enter Try.func91, Try.ntmps91
    go_wp2_with (first | (go_at_call 67; refine (isID_any _ _).mono ?_; rintro e w' ⟨rfl, hw'⟩; rw [hw']; clear hw' w') | (go_at_call 65; refine (between_any _ _ _ _).mono ?_; rintro e w' ⟨rfl, hw'⟩; rw [hw']; clear hw' w') | (go_at_call 68; refine (isStep_any _ _).mono ?_; rintro e w' ⟨rfl, hw'⟩; rw [hw']; clear hw' w') | (go_at_call 66; refine (isPart_any _ _).mono ?_; rintro e w' ⟨rfl, hw'⟩; rw [hw']; clear hw' w') | (go_at_call 93; refine (isEnd_any _ _ _).mono ?_; rintro e w' ⟨rfl, hw'⟩; rw [hw']; clear hw' w'))
    all_goals go_ret
    all_goals exact ⟨retB (by simp [Nt.may, em, Bool.and_assoc, b0]), by go_grown⟩
  case true =>
    go_enter Try.func91, Try.ntmps91
    go_wp2_with (first | (go_at_call 67; refine (isID_any _ _).mono ?_; rintro e w' ⟨rfl, hw'⟩; rw [hw']; clear hw' w') | (go_at_call 65; refine (between_any _ _ _ _).mono ?_; rintro e w' ⟨rfl, hw'⟩; rw [hw']; clear hw' w') | (go_at_call 68; refine (isStep_any _ _).mono ?_; rintro e w' ⟨rfl, hw'⟩; rw [hw']; clear hw' w') | (go_at_call 66; refine (isPart_any _ _).mono ?_; rintro e w' ⟨rfl, hw'⟩; rw [hw']; clear hw' w') | (go_at_call 93; refine (isEnd_any _ _ _).mono ?_; rintro e w' ⟨rfl, hw'⟩; rw [hw']; clear hw' w'))
    all_goals go_ret
    all_goals exact ⟨retB (by simp [Nt.may, em, Bool.and_assoc, b0]), by go_grown⟩
set_option maxHeartbeats 1000000 in
theorem may7 (i s t p c : Int) (K M : ByteArray) (v : Int) (X : ByteArray) (hX : X.size ≤ 140737488351232) (w : World) :
    Calls Try.prog 91 #[.agg #[.int .i64 7, .int .i64 i, .int .i64 s, .int .i64 t, .int .i64 p, .int .i64 c, .string K, .string M, .int .i64 v, .string X]] w fun e w' => e = .returned (.bool (Nt.may ⟨7, i, s, t, p, c, K, M, v, X⟩)) ∧ Below w.heap.size w w' := by
  cases b0 : btw i 1 60
  case false =>
    go_enter Try.func91, Try.ntmps91
    go_wp2_with (first | (go_at_call 67; refine (isID_any _ _).mono ?_; rintro e w' ⟨rfl, hw'⟩; rw [hw']; clear hw' w') | (go_at_call 65; refine (between_any _ _ _ _).mono ?_; rintro e w' ⟨rfl, hw'⟩; rw [hw']; clear hw' w') | (go_at_call 68; refine (isStep_any _ _).mono ?_; rintro e w' ⟨rfl, hw'⟩; rw [hw']; clear hw' w') | (go_at_call 66; refine (isPart_any _ _).mono ?_; rintro e w' ⟨rfl, hw'⟩; rw [hw']; clear hw' w') | (go_at_call 93; refine (isEnd_any _ _ _).mono ?_; rintro e w' ⟨rfl, hw'⟩; rw [hw']; clear hw' w'))
    all_goals go_ret
    all_goals exact ⟨retB (by simp [Nt.may, em, Bool.and_assoc, b0]), by go_grown⟩
  case true =>
    go_enter Try.func91, Try.ntmps91
    go_wp2_with (first | (go_at_call 67; refine (isID_any _ _).mono ?_; rintro e w' ⟨rfl, hw'⟩; rw [hw']; clear hw' w') | (go_at_call 65; refine (between_any _ _ _ _).mono ?_; rintro e w' ⟨rfl, hw'⟩; rw [hw']; clear hw' w') | (go_at_call 68; refine (isStep_any _ _).mono ?_; rintro e w' ⟨rfl, hw'⟩; rw [hw']; clear hw' w') | (go_at_call 66; refine (isPart_any _ _).mono ?_; rintro e w' ⟨rfl, hw'⟩; rw [hw']; clear hw' w') | (go_at_call 93; refine (isEnd_any _ _ _).mono ?_; rintro e w' ⟨rfl, hw'⟩; rw [hw']; clear hw' w'))
    all_goals go_ret
    all_goals exact ⟨retB (by simp [Nt.may, em, Bool.and_assoc, b0]), by go_grown⟩
set_option maxHeartbeats 1000000 in
theorem may5 (i s t p c : Int) (K M : ByteArray) (v : Int) (X : ByteArray) (hX : X.size ≤ 140737488351232) (w : World) :
    Calls Try.prog 91 #[.agg #[.int .i64 5, .int .i64 i, .int .i64 s, .int .i64 t, .int .i64 p, .int .i64 c, .string K, .string M, .int .i64 v, .string X]] w fun e w' => e = .returned (.bool (Nt.may ⟨5, i, s, t, p, c, K, M, v, X⟩)) ∧ Below w.heap.size w w' := by
  cases b0 : btw i 1 60
  case false =>
    go_enter Try.func91, Try.ntmps91
    go_wp2_with (first | (go_at_call 67; refine (isID_any _ _).mono ?_; rintro e w' ⟨rfl, hw'⟩; rw [hw']; clear hw' w') | (go_at_call 65; refine (between_any _ _ _ _).mono ?_; rintro e w' ⟨rfl, hw'⟩; rw [hw']; clear hw' w') | (go_at_call 68; refine (isStep_any _ _).mono ?_; rintro e w' ⟨rfl, hw'⟩; rw [hw']; clear hw' w') | (go_at_call 66; refine (isPart_any _ _).mono ?_; rintro e w' ⟨rfl, hw'⟩; rw [hw']; clear hw' w') | (go_at_call 93; refine (isEnd_any _ _ _).mono ?_; rintro e w' ⟨rfl, hw'⟩; rw [hw']; clear hw' w'))
    all_goals go_ret
    all_goals exact ⟨retB (by simp [Nt.may, em, Bool.and_assoc, b0]), by go_grown⟩
  case true =>
    cases b1 : btw s 0 7
    case false =>
      go_enter Try.func91, Try.ntmps91
      go_wp2_with (first | (go_at_call 67; refine (isID_any _ _).mono ?_; rintro e w' ⟨rfl, hw'⟩; rw [hw']; clear hw' w') | (go_at_call 65; refine (between_any _ _ _ _).mono ?_; rintro e w' ⟨rfl, hw'⟩; rw [hw']; clear hw' w') | (go_at_call 68; refine (isStep_any _ _).mono ?_; rintro e w' ⟨rfl, hw'⟩; rw [hw']; clear hw' w') | (go_at_call 66; refine (isPart_any _ _).mono ?_; rintro e w' ⟨rfl, hw'⟩; rw [hw']; clear hw' w') | (go_at_call 93; refine (isEnd_any _ _ _).mono ?_; rintro e w' ⟨rfl, hw'⟩; rw [hw']; clear hw' w'))
      all_goals go_ret
      all_goals exact ⟨retB (by simp [Nt.may, em, Bool.and_assoc, b0, b1]), by go_grown⟩
    case true =>
      go_enter Try.func91, Try.ntmps91
      go_wp2_with (first | (go_at_call 67; refine (isID_any _ _).mono ?_; rintro e w' ⟨rfl, hw'⟩; rw [hw']; clear hw' w') | (go_at_call 65; refine (between_any _ _ _ _).mono ?_; rintro e w' ⟨rfl, hw'⟩; rw [hw']; clear hw' w') | (go_at_call 68; refine (isStep_any _ _).mono ?_; rintro e w' ⟨rfl, hw'⟩; rw [hw']; clear hw' w') | (go_at_call 66; refine (isPart_any _ _).mono ?_; rintro e w' ⟨rfl, hw'⟩; rw [hw']; clear hw' w') | (go_at_call 93; refine (isEnd_any _ _ _).mono ?_; rintro e w' ⟨rfl, hw'⟩; rw [hw']; clear hw' w'))
      all_goals go_ret
      all_goals exact ⟨retB (by simp [Nt.may, em, Bool.and_assoc, b0, b1]), by go_grown⟩
set_option maxHeartbeats 1000000 in
theorem may6 (i s t p c : Int) (K M : ByteArray) (v : Int) (X : ByteArray) (hX : X.size ≤ 140737488351232) (w : World) :
    Calls Try.prog 91 #[.agg #[.int .i64 6, .int .i64 i, .int .i64 s, .int .i64 t, .int .i64 p, .int .i64 c, .string K, .string M, .int .i64 v, .string X]] w fun e w' => e = .returned (.bool (Nt.may ⟨6, i, s, t, p, c, K, M, v, X⟩)) ∧ Below w.heap.size w w' := by
  cases b0 : btw i 1 60
  case false =>
    go_enter Try.func91, Try.ntmps91
    go_wp2_with (first | (go_at_call 67; refine (isID_any _ _).mono ?_; rintro e w' ⟨rfl, hw'⟩; rw [hw']; clear hw' w') | (go_at_call 65; refine (between_any _ _ _ _).mono ?_; rintro e w' ⟨rfl, hw'⟩; rw [hw']; clear hw' w') | (go_at_call 68; refine (isStep_any _ _).mono ?_; rintro e w' ⟨rfl, hw'⟩; rw [hw']; clear hw' w') | (go_at_call 66; refine (isPart_any _ _).mono ?_; rintro e w' ⟨rfl, hw'⟩; rw [hw']; clear hw' w') | (go_at_call 93; refine (isEnd_any _ _ _).mono ?_; rintro e w' ⟨rfl, hw'⟩; rw [hw']; clear hw' w'))
    go_region
    go_wp2_with (first | (go_at_call 67; refine (isID_any _ _).mono ?_; rintro e w' ⟨rfl, hw'⟩; rw [hw']; clear hw' w') | (go_at_call 65; refine (between_any _ _ _ _).mono ?_; rintro e w' ⟨rfl, hw'⟩; rw [hw']; clear hw' w') | (go_at_call 68; refine (isStep_any _ _).mono ?_; rintro e w' ⟨rfl, hw'⟩; rw [hw']; clear hw' w') | (go_at_call 66; refine (isPart_any _ _).mono ?_; rintro e w' ⟨rfl, hw'⟩; rw [hw']; clear hw' w') | (go_at_call 93; refine (isEnd_any _ _ _).mono ?_; rintro e w' ⟨rfl, hw'⟩; rw [hw']; clear hw' w'))
    all_goals go_ret
    all_goals exact ⟨retB (by simp [Nt.may, em, Bool.and_assoc, b0]), by go_grown⟩
  case true =>
    cases b1 : btw s 0 7
    case false =>
      go_enter Try.func91, Try.ntmps91
      go_wp2_with (first | (go_at_call 67; refine (isID_any _ _).mono ?_; rintro e w' ⟨rfl, hw'⟩; rw [hw']; clear hw' w') | (go_at_call 65; refine (between_any _ _ _ _).mono ?_; rintro e w' ⟨rfl, hw'⟩; rw [hw']; clear hw' w') | (go_at_call 68; refine (isStep_any _ _).mono ?_; rintro e w' ⟨rfl, hw'⟩; rw [hw']; clear hw' w') | (go_at_call 66; refine (isPart_any _ _).mono ?_; rintro e w' ⟨rfl, hw'⟩; rw [hw']; clear hw' w') | (go_at_call 93; refine (isEnd_any _ _ _).mono ?_; rintro e w' ⟨rfl, hw'⟩; rw [hw']; clear hw' w'))
      go_region
      go_wp2_with (first | (go_at_call 67; refine (isID_any _ _).mono ?_; rintro e w' ⟨rfl, hw'⟩; rw [hw']; clear hw' w') | (go_at_call 65; refine (between_any _ _ _ _).mono ?_; rintro e w' ⟨rfl, hw'⟩; rw [hw']; clear hw' w') | (go_at_call 68; refine (isStep_any _ _).mono ?_; rintro e w' ⟨rfl, hw'⟩; rw [hw']; clear hw' w') | (go_at_call 66; refine (isPart_any _ _).mono ?_; rintro e w' ⟨rfl, hw'⟩; rw [hw']; clear hw' w') | (go_at_call 93; refine (isEnd_any _ _ _).mono ?_; rintro e w' ⟨rfl, hw'⟩; rw [hw']; clear hw' w'))
      all_goals go_ret
      all_goals exact ⟨retB (by simp [Nt.may, em, Bool.and_assoc, b0, b1]), by go_grown⟩
    case true =>
      cases b2 : btw t 2 5
      case false =>
        go_enter Try.func91, Try.ntmps91
        go_wp2_with (first | (go_at_call 67; refine (isID_any _ _).mono ?_; rintro e w' ⟨rfl, hw'⟩; rw [hw']; clear hw' w') | (go_at_call 65; refine (between_any _ _ _ _).mono ?_; rintro e w' ⟨rfl, hw'⟩; rw [hw']; clear hw' w') | (go_at_call 68; refine (isStep_any _ _).mono ?_; rintro e w' ⟨rfl, hw'⟩; rw [hw']; clear hw' w') | (go_at_call 66; refine (isPart_any _ _).mono ?_; rintro e w' ⟨rfl, hw'⟩; rw [hw']; clear hw' w') | (go_at_call 93; refine (isEnd_any _ _ _).mono ?_; rintro e w' ⟨rfl, hw'⟩; rw [hw']; clear hw' w'))
        go_region
        go_wp2_with (first | (go_at_call 67; refine (isID_any _ _).mono ?_; rintro e w' ⟨rfl, hw'⟩; rw [hw']; clear hw' w') | (go_at_call 65; refine (between_any _ _ _ _).mono ?_; rintro e w' ⟨rfl, hw'⟩; rw [hw']; clear hw' w') | (go_at_call 68; refine (isStep_any _ _).mono ?_; rintro e w' ⟨rfl, hw'⟩; rw [hw']; clear hw' w') | (go_at_call 66; refine (isPart_any _ _).mono ?_; rintro e w' ⟨rfl, hw'⟩; rw [hw']; clear hw' w') | (go_at_call 93; refine (isEnd_any _ _ _).mono ?_; rintro e w' ⟨rfl, hw'⟩; rw [hw']; clear hw' w'))
        all_goals go_ret
        all_goals exact ⟨retB (by simp [Nt.may, em, Bool.and_assoc, b0, b1, b2]), by go_grown⟩
      case true =>
        go_enter Try.func91, Try.ntmps91
        go_wp2_with (first | (go_at_call 67; refine (isID_any _ _).mono ?_; rintro e w' ⟨rfl, hw'⟩; rw [hw']; clear hw' w') | (go_at_call 65; refine (between_any _ _ _ _).mono ?_; rintro e w' ⟨rfl, hw'⟩; rw [hw']; clear hw' w') | (go_at_call 68; refine (isStep_any _ _).mono ?_; rintro e w' ⟨rfl, hw'⟩; rw [hw']; clear hw' w') | (go_at_call 66; refine (isPart_any _ _).mono ?_; rintro e w' ⟨rfl, hw'⟩; rw [hw']; clear hw' w') | (go_at_call 93; refine (isEnd_any _ _ _).mono ?_; rintro e w' ⟨rfl, hw'⟩; rw [hw']; clear hw' w'))
        go_region
        go_wp2_with (first | (go_at_call 67; refine (isID_any _ _).mono ?_; rintro e w' ⟨rfl, hw'⟩; rw [hw']; clear hw' w') | (go_at_call 65; refine (between_any _ _ _ _).mono ?_; rintro e w' ⟨rfl, hw'⟩; rw [hw']; clear hw' w') | (go_at_call 68; refine (isStep_any _ _).mono ?_; rintro e w' ⟨rfl, hw'⟩; rw [hw']; clear hw' w') | (go_at_call 66; refine (isPart_any _ _).mono ?_; rintro e w' ⟨rfl, hw'⟩; rw [hw']; clear hw' w') | (go_at_call 93; refine (isEnd_any _ _ _).mono ?_; rintro e w' ⟨rfl, hw'⟩; rw [hw']; clear hw' w'))
        all_goals go_ret
        all_goals exact ⟨retB (by simp [Nt.may, em, Bool.and_assoc, b0, b1, b2]), by go_grown⟩
set_option maxHeartbeats 1000000 in
theorem may8 (i s t p c : Int) (K M : ByteArray) (v : Int) (X : ByteArray) (hX : X.size ≤ 140737488351232) (w : World) :
    Calls Try.prog 91 #[.agg #[.int .i64 8, .int .i64 i, .int .i64 s, .int .i64 t, .int .i64 p, .int .i64 c, .string K, .string M, .int .i64 v, .string X]] w fun e w' => e = .returned (.bool (Nt.may ⟨8, i, s, t, p, c, K, M, v, X⟩)) ∧ Below w.heap.size w w' := by
  cases b0 : btw i 1 60
  case false =>
    go_enter Try.func91, Try.ntmps91
    go_wp2_with (first | (go_at_call 67; refine (isID_any _ _).mono ?_; rintro e w' ⟨rfl, hw'⟩; rw [hw']; clear hw' w') | (go_at_call 65; refine (between_any _ _ _ _).mono ?_; rintro e w' ⟨rfl, hw'⟩; rw [hw']; clear hw' w') | (go_at_call 68; refine (isStep_any _ _).mono ?_; rintro e w' ⟨rfl, hw'⟩; rw [hw']; clear hw' w') | (go_at_call 66; refine (isPart_any _ _).mono ?_; rintro e w' ⟨rfl, hw'⟩; rw [hw']; clear hw' w') | (go_at_call 93; refine (isEnd_any _ _ _).mono ?_; rintro e w' ⟨rfl, hw'⟩; rw [hw']; clear hw' w'))
    all_goals go_ret
    all_goals exact ⟨retB (by simp [Nt.may, em, Bool.and_assoc, b0]), by go_grown⟩
  case true =>
    cases b1 : btw p 0 3
    case false =>
      go_enter Try.func91, Try.ntmps91
      go_wp2_with (first | (go_at_call 67; refine (isID_any _ _).mono ?_; rintro e w' ⟨rfl, hw'⟩; rw [hw']; clear hw' w') | (go_at_call 65; refine (between_any _ _ _ _).mono ?_; rintro e w' ⟨rfl, hw'⟩; rw [hw']; clear hw' w') | (go_at_call 68; refine (isStep_any _ _).mono ?_; rintro e w' ⟨rfl, hw'⟩; rw [hw']; clear hw' w') | (go_at_call 66; refine (isPart_any _ _).mono ?_; rintro e w' ⟨rfl, hw'⟩; rw [hw']; clear hw' w') | (go_at_call 93; refine (isEnd_any _ _ _).mono ?_; rintro e w' ⟨rfl, hw'⟩; rw [hw']; clear hw' w'))
      all_goals go_ret
      all_goals exact ⟨retB (by simp [Nt.may, em, Bool.and_assoc, b0, b1]), by go_grown⟩
    case true =>
      go_enter Try.func91, Try.ntmps91
      go_wp2_with (first | (go_at_call 67; refine (isID_any _ _).mono ?_; rintro e w' ⟨rfl, hw'⟩; rw [hw']; clear hw' w') | (go_at_call 65; refine (between_any _ _ _ _).mono ?_; rintro e w' ⟨rfl, hw'⟩; rw [hw']; clear hw' w') | (go_at_call 68; refine (isStep_any _ _).mono ?_; rintro e w' ⟨rfl, hw'⟩; rw [hw']; clear hw' w') | (go_at_call 66; refine (isPart_any _ _).mono ?_; rintro e w' ⟨rfl, hw'⟩; rw [hw']; clear hw' w') | (go_at_call 93; refine (isEnd_any _ _ _).mono ?_; rintro e w' ⟨rfl, hw'⟩; rw [hw']; clear hw' w'))
      all_goals go_ret
      all_goals exact ⟨retB (by simp [Nt.may, em, Bool.and_assoc, b0, b1]), by go_grown⟩
set_option maxHeartbeats 1000000 in
theorem may9 (i s t p c : Int) (K M : ByteArray) (v : Int) (X : ByteArray) (hX : X.size ≤ 140737488351232) (w : World) :
    Calls Try.prog 91 #[.agg #[.int .i64 9, .int .i64 i, .int .i64 s, .int .i64 t, .int .i64 p, .int .i64 c, .string K, .string M, .int .i64 v, .string X]] w fun e w' => e = .returned (.bool (Nt.may ⟨9, i, s, t, p, c, K, M, v, X⟩)) ∧ Below w.heap.size w w' := by
  cases b0 : btw i 1 60
  case false =>
    go_enter Try.func91, Try.ntmps91
    go_wp2_with (first | (go_at_call 67; refine (isID_any _ _).mono ?_; rintro e w' ⟨rfl, hw'⟩; rw [hw']; clear hw' w') | (go_at_call 65; refine (between_any _ _ _ _).mono ?_; rintro e w' ⟨rfl, hw'⟩; rw [hw']; clear hw' w') | (go_at_call 68; refine (isStep_any _ _).mono ?_; rintro e w' ⟨rfl, hw'⟩; rw [hw']; clear hw' w') | (go_at_call 66; refine (isPart_any _ _).mono ?_; rintro e w' ⟨rfl, hw'⟩; rw [hw']; clear hw' w') | (go_at_call 93; refine (isEnd_any _ _ _).mono ?_; rintro e w' ⟨rfl, hw'⟩; rw [hw']; clear hw' w'))
    go_region
    go_wp2_with (first | (go_at_call 67; refine (isID_any _ _).mono ?_; rintro e w' ⟨rfl, hw'⟩; rw [hw']; clear hw' w') | (go_at_call 65; refine (between_any _ _ _ _).mono ?_; rintro e w' ⟨rfl, hw'⟩; rw [hw']; clear hw' w') | (go_at_call 68; refine (isStep_any _ _).mono ?_; rintro e w' ⟨rfl, hw'⟩; rw [hw']; clear hw' w') | (go_at_call 66; refine (isPart_any _ _).mono ?_; rintro e w' ⟨rfl, hw'⟩; rw [hw']; clear hw' w') | (go_at_call 93; refine (isEnd_any _ _ _).mono ?_; rintro e w' ⟨rfl, hw'⟩; rw [hw']; clear hw' w'))
    all_goals go_ret
    all_goals exact ⟨retB (by simp [Nt.may, em, Bool.and_assoc, b0]), by go_grown⟩
  case true =>
    cases b1 : endB t c
    case false =>
      go_enter Try.func91, Try.ntmps91
      go_wp2_with (first | (go_at_call 67; refine (isID_any _ _).mono ?_; rintro e w' ⟨rfl, hw'⟩; rw [hw']; clear hw' w') | (go_at_call 65; refine (between_any _ _ _ _).mono ?_; rintro e w' ⟨rfl, hw'⟩; rw [hw']; clear hw' w') | (go_at_call 68; refine (isStep_any _ _).mono ?_; rintro e w' ⟨rfl, hw'⟩; rw [hw']; clear hw' w') | (go_at_call 66; refine (isPart_any _ _).mono ?_; rintro e w' ⟨rfl, hw'⟩; rw [hw']; clear hw' w') | (go_at_call 93; refine (isEnd_any _ _ _).mono ?_; rintro e w' ⟨rfl, hw'⟩; rw [hw']; clear hw' w'))
      go_region
      go_wp2_with (first | (go_at_call 67; refine (isID_any _ _).mono ?_; rintro e w' ⟨rfl, hw'⟩; rw [hw']; clear hw' w') | (go_at_call 65; refine (between_any _ _ _ _).mono ?_; rintro e w' ⟨rfl, hw'⟩; rw [hw']; clear hw' w') | (go_at_call 68; refine (isStep_any _ _).mono ?_; rintro e w' ⟨rfl, hw'⟩; rw [hw']; clear hw' w') | (go_at_call 66; refine (isPart_any _ _).mono ?_; rintro e w' ⟨rfl, hw'⟩; rw [hw']; clear hw' w') | (go_at_call 93; refine (isEnd_any _ _ _).mono ?_; rintro e w' ⟨rfl, hw'⟩; rw [hw']; clear hw' w'))
      all_goals go_ret
      all_goals exact ⟨retB (by simp [Nt.may, em, Bool.and_assoc, b0, b1]), by go_grown⟩
    case true =>
      go_enter Try.func91, Try.ntmps91
      go_wp2_with (first | (go_at_call 67; refine (isID_any _ _).mono ?_; rintro e w' ⟨rfl, hw'⟩; rw [hw']; clear hw' w') | (go_at_call 65; refine (between_any _ _ _ _).mono ?_; rintro e w' ⟨rfl, hw'⟩; rw [hw']; clear hw' w') | (go_at_call 68; refine (isStep_any _ _).mono ?_; rintro e w' ⟨rfl, hw'⟩; rw [hw']; clear hw' w') | (go_at_call 66; refine (isPart_any _ _).mono ?_; rintro e w' ⟨rfl, hw'⟩; rw [hw']; clear hw' w') | (go_at_call 93; refine (isEnd_any _ _ _).mono ?_; rintro e w' ⟨rfl, hw'⟩; rw [hw']; clear hw' w'))
      go_region
      go_wp2_with (first | (go_at_call 67; refine (isID_any _ _).mono ?_; rintro e w' ⟨rfl, hw'⟩; rw [hw']; clear hw' w') | (go_at_call 65; refine (between_any _ _ _ _).mono ?_; rintro e w' ⟨rfl, hw'⟩; rw [hw']; clear hw' w') | (go_at_call 68; refine (isStep_any _ _).mono ?_; rintro e w' ⟨rfl, hw'⟩; rw [hw']; clear hw' w') | (go_at_call 66; refine (isPart_any _ _).mono ?_; rintro e w' ⟨rfl, hw'⟩; rw [hw']; clear hw' w') | (go_at_call 93; refine (isEnd_any _ _ _).mono ?_; rintro e w' ⟨rfl, hw'⟩; rw [hw']; clear hw' w'))
      all_goals go_ret
      all_goals exact ⟨retB (by simp [Nt.may, em, Bool.and_assoc, b0, b1]), by go_grown⟩
set_option maxHeartbeats 1000000 in
theorem may0 (k : Int) (i s t p c : Int) (K M : ByteArray) (v : Int) (X : ByteArray) (hX : X.size ≤ 140737488351232) (h1 : k ≠ 1) (h2 : k ≠ 2) (h3 : k ≠ 3) (h4 : k ≠ 4) (h5 : k ≠ 5) (h6 : k ≠ 6) (h7 : k ≠ 7) (h8 : k ≠ 8) (h9 : k ≠ 9) (w : World) :
    Calls Try.prog 91 #[.agg #[.int .i64 k, .int .i64 i, .int .i64 s, .int .i64 t, .int .i64 p, .int .i64 c, .string K, .string M, .int .i64 v, .string X]] w fun e w' => e = .returned (.bool (Nt.may ⟨k, i, s, t, p, c, K, M, v, X⟩)) ∧ Below w.heap.size w w' := by
  have d1 : (k == 1) = false := by simpa using h1
  have d2 : (k == 2) = false := by simpa using h2
  have d3 : (k == 3) = false := by simpa using h3
  have d4 : (k == 4) = false := by simpa using h4
  have d5 : (k == 5) = false := by simpa using h5
  have d6 : (k == 6) = false := by simpa using h6
  have d7 : (k == 7) = false := by simpa using h7
  have d8 : (k == 8) = false := by simpa using h8
  have d9 : (k == 9) = false := by simpa using h9
  go_enter Try.func91, Try.ntmps91
  go_wp2_with (first | (go_at_call 67; refine (isID_any _ _).mono ?_; rintro e w' ⟨rfl, hw'⟩; rw [hw']; clear hw' w') | (go_at_call 65; refine (between_any _ _ _ _).mono ?_; rintro e w' ⟨rfl, hw'⟩; rw [hw']; clear hw' w') | (go_at_call 68; refine (isStep_any _ _).mono ?_; rintro e w' ⟨rfl, hw'⟩; rw [hw']; clear hw' w') | (go_at_call 66; refine (isPart_any _ _).mono ?_; rintro e w' ⟨rfl, hw'⟩; rw [hw']; clear hw' w') | (go_at_call 93; refine (isEnd_any _ _ _).mono ?_; rintro e w' ⟨rfl, hw'⟩; rw [hw']; clear hw' w'))
  all_goals go_ret
  all_goals exact ⟨retB (by simp [Nt.may, em, Bool.and_assoc, h1, h2, h3, h4, h5, h6, h7, h8, h9]), by go_grown⟩
end Go.Proofs.Ytbgankldnjeohaa
