/- == of records; results of five cells and a value. -/
import Derived.Test.YtaeakednekbekaaDoorRecW
import Derived.ChangeKeysEq
set_option linter.unusedVariables false
set_option maxRecDepth 100000
namespace Go.Proofs.YtaeakednekbekaaDoor
open Go.RowKit CheckMath

theorem items_step (d : Nat) (xs ys : Array Value) (i : Nat) (is : List Nat) (a b : Int) (hx : xs[i]? = some (.int .i64 a)) (hy : ys[i]? = some (.int .i64 b)) (w : World) :
    (Op.eqItems (d + 1) 3 1 xs ys (i :: is)).run Tryd.prog w = if (a == b) = true then (Op.eqItems (d + 1) 3 1 xs ys is).run Tryd.prog w else .ok false w := by
  have he : Tryd.prog.plainKey 3 = true := by kernel_rfl
  have hx2 : xs[i * 1]? = some (.int .i64 a) := by rw [Nat.mul_one]; exact hx
  have hy2 : ys[i * 1]? = some (.int .i64 b) := by rw [Nat.mul_one]; exact hy
  simp only [Op.eqItems, Sem.run_bind, run_part_plain w he hx2, run_part_plain w he hy2, Result.andThen_ok, run_equalIn_int w d 3 .i64 .i64 a b Tryd.underlying3]
  cases a == b <;> simp
theorem items_end (d : Nat) (xs ys : Array Value) (w : World) : (Op.eqItems (d + 1) 3 1 xs ys []).run Tryd.prog w = .ok true w := rfl
/-- == of two arrays of five numbers. -/
theorem eqRecs (a0 a1 a2 a3 a4 b0 b1 b2 b3 b4 : Int) (w : World) : (binOp .eql 47 (.agg #[.int .i64 a0, .int .i64 a1, .int .i64 a2, .int .i64 a3, .int .i64 a4]) (.agg #[.int .i64 b0, .int .i64 b1, .int .i64 b2, .int .i64 b3, .int .i64 b4])).run Tryd.prog w = .ok (.bool (a0 == b0 && (a1 == b1 && (a2 == b2 && (a3 == b3 && a4 == b4))))) w := by
  obtain ⟨i, hi, _⟩ := info_parts infoI
  rw [run_eql_struct, show (10000 : Nat) = 9998 + 1 + 1 from rfl, run_equalIn_array w (9998 + 1) _ _ Tryd.underlying47 hi, show Tryd.prog.cellsOf 3 = 1 by kernel_rfl, show List.range 5 = [0, 1, 2, 3, 4] from rfl,
    items_step _ _ _ 0 _ a0 b0 rfl rfl, items_step _ _ _ 1 _ a1 b1 rfl rfl, items_step _ _ _ 2 _ a2 b2 rfl rfl, items_step _ _ _ 3 _ a3 b3 rfl rfl, items_step _ _ _ 4 _ a4 b4 rfl rfl, items_end]
  cases a0 == b0 <;> cases a1 == b1 <;> cases a2 == b2 <;> cases a3 == b3 <;> cases a4 == b4 <;> rfl
/-- == of two arrays of four numbers. -/
theorem eqFour (d : Nat) (a0 a1 a2 a3 b0 b1 b2 b3 : Int) (w : World) : (Op.equalIn (d + 1 + 1) 26 (.agg #[.int .i64 a0, .int .i64 a1, .int .i64 a2, .int .i64 a3]) (.agg #[.int .i64 b0, .int .i64 b1, .int .i64 b2, .int .i64 b3])).run Tryd.prog w = .ok (a0 == b0 && (a1 == b1 && (a2 == b2 && a3 == b3))) w := by
  obtain ⟨i, hi, _⟩ := info_parts infoI
  rw [run_equalIn_array w (d + 1) _ _ Tryd.underlying26 hi, show Tryd.prog.cellsOf 3 = 1 by kernel_rfl, show List.range 4 = [0, 1, 2, 3] from rfl,
    items_step _ _ _ 0 _ a0 b0 rfl rfl, items_step _ _ _ 1 _ a1 b1 rfl rfl, items_step _ _ _ 2 _ a2 b2 rfl rfl, items_step _ _ _ 3 _ a3 b3 rfl rfl, items_end]
  cases a0 == b0 <;> cases a1 == b1 <;> cases a2 == b2 <;> cases a3 == b3 <;> rfl
theorem costPart0 (x0 x1 x2 x3 x4 : Int) (w : World) : (part 3 #[.int .i64 x0, .int .i64 x1, .int .i64 x2, .int .i64 x3, .int .i64 x4] 0).run Tryd.prog w = .ok (.int .i64 x0) w := by kernel_rfl
theorem costPart1 (x0 x1 x2 x3 x4 : Int) (w : World) : (part 26 #[.int .i64 x0, .int .i64 x1, .int .i64 x2, .int .i64 x3, .int .i64 x4] 1).run Tryd.prog w = .ok (.agg #[.int .i64 x1, .int .i64 x2, .int .i64 x3, .int .i64 x4]) w := by kernel_rfl
theorem eqNum (d : Nat) (a b : Int) (w : World) : (Op.equalIn (d + 1) 3 (.int .i64 a) (.int .i64 b)).run Tryd.prog w = .ok (a == b) w := run_equalIn_int w d 3 .i64 .i64 a b Tryd.underlying3
/-- == of two costs. -/
theorem eqCost (a0 a1 a2 a3 a4 b0 b1 b2 b3 b4 : Int) (w : World) : (Op.equalIn 10000 28 (.agg #[.int .i64 a0, .int .i64 a1, .int .i64 a2, .int .i64 a3, .int .i64 a4]) (.agg #[.int .i64 b0, .int .i64 b1, .int .i64 b2, .int .i64 b3, .int .i64 b4])).run Tryd.prog w = .ok (a0 == b0 && (a1 == b1 && (a2 == b2 && (a3 == b3 && a4 == b4)))) w := by
  have hS : Tryd.prog.underlying 28 = some (.struct (Tryd.prog.fieldsOf 28)) := by kernel_rfl
  have hp : Tryd.prog.stoodInHeld 28 = false := by kernel_rfl
  rw [show (10000 : Nat) = 9997 + 1 + 1 + 1 from rfl, run_equalIn_agg w _ 28 _ _ hS hp]
  simp only [Program.fieldsOf, Tryd.underlying28, Op.eqFields, ne_eq, String.reduceEq, not_false_eq_true, if_true, Sem.run_bind, costPart0, eqNum, Result.andThen_ok]
  have e9 := fun (x1 x2 x3 x4 y1 y2 y3 y4 : Int) => eqFour 9997 x1 x2 x3 x4 y1 y2 y3 y4 w
  cases a0 == b0
  · simp
  · simp only [Bool.not_true, Bool.false_eq_true, if_false, Sem.run_bind, costPart1, Result.andThen_ok]
    rw [show (9997 + 1 + 1 : Nat) = 9997 + 2 from rfl] at e9
    simp only [e9, Result.andThen_ok]
    cases a1 == b1 <;> cases a2 == b2 <;> cases a3 == b3 <;> cases a4 == b4 <;> rfl
theorem neqCost (a0 a1 a2 a3 a4 : Int) (w : World) : (binOp .neq 28 (.agg #[.int .i64 a0, .int .i64 a1, .int .i64 a2, .int .i64 a3, .int .i64 a4]) (.agg #[.int .i64 a0, .int .i64 a1, .int .i64 a2, .int .i64 a3, .int .i64 a4])).run Tryd.prog w = .ok (.bool false) w := by
  rw [run_neq_struct, eqCost]
  simp
theorem recs_zero (w : World) : (binOp .eql 47 (.agg #[.int .i64 0, .int .i64 0, .int .i64 0, .int .i64 0, .int .i64 0]) (.agg #[.int .i64 0, .int .i64 0, .int .i64 0, .int .i64 0, .int .i64 0])).run Tryd.prog w = .ok (.bool true) w := by rw [eqRecs]; rfl
theorem recs_some (f : Nat → Nat) (h : f 4 ≠ 0) (w : World) : (binOp .eql 47 (.agg #[.int .i64 (f 0 : Nat), .int .i64 (f 1 : Nat), .int .i64 (f 2 : Nat), .int .i64 (f 3 : Nat), .int .i64 (f 4 : Nat)]) (.agg #[.int .i64 0, .int .i64 0, .int .i64 0, .int .i64 0, .int .i64 0])).run Tryd.prog w = .ok (.bool false) w := by
  rw [eqRecs]
  have : (((f 4 : Nat) : Int) == 0) = false := by simp; omega
  rw [this]
  simp
/-- The results of a call that hands out a struct of five cells in memory, and a value. -/
theorem results_five_tmp {P : Program} {fn : Func} {p u : Tmp} {ty : TypeId} (h : fn.results = #[.cell p ty, .tmp u]) (tmps : Array Value) (w : World) (g : Nat) (c0 c1 c2 c3 c4 : Value) (d : TypeDesc)
    (hp : tmps.getD p undef = .pointer (some ⟨g, 0, none⟩)) (h0 : w.cell? ⟨g, 0, none⟩ = some c0) (h1 : w.cell? ⟨g, 1, none⟩ = some c1) (h2 : w.cell? ⟨g, 2, none⟩ = some c2) (h3 : w.cell? ⟨g, 3, none⟩ = some c3) (h4 : w.cell? ⟨g, 4, none⟩ = some c4)
    (hu : P.underlying ty = some d) (hd : d.isRow = true) (hi : (P.info? ty).map (·.size) = some 5) : (results fn tmps).run P w = .ok (.tuple #[.agg #[c0, c1, c2, c3, c4], tmps.getD u undef]) w := by
  have hr : w.rangeAt g 0 [c0, c1, c2, c3, c4] := by
    intro j v hj
    rw [Nat.zero_add]
    match j, hj with
    | 0, hj => cases hj; exact h0
    | 1, hj => cases hj; exact h1
    | 2, hj => cases hj; exact h2
    | 3, hj => cases hj; exact h3
    | 4, hj => cases hj; exact h4
  rw [results_cell_tmp h, hp]
  simp [asAddr, run_loadVar_mid w g 0 ty [c0, c1, c2, c3, c4] d hr hu hd hi]
end Go.Proofs.YtaeakednekbekaaDoor
