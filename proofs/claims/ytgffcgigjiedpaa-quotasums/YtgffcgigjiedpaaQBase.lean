/- Budgets in memory: blocks of numbers; == of costs; results of five cells. -/
import Derived.Test.YtgffcgigjiedpaaRes
import Derived.Deep.DeepCutAuto
import Derived.Deep.RegionHeld3
import Derived.Deep.MidRow
import Derived.WideShapes
import Derived.ChangeKeysEq
import Derived.Laws.IdiomCopy
set_option linter.unusedVariables false
set_option maxRecDepth 100000
namespace Go.Proofs.Ytgffcgigjiedpaa
open Go.RowKit

theorem infoI : (Try.prog.info? 3).map (fun i => (i.zero, i.size, i.bytes)) = some (some (.int .i64 0), 1, 8) := by kernel_rfl
theorem info_parts {P : Program} {t : TypeId} {z : Option Value} {s b : Nat} (h : (P.info? t).map (fun i => (i.zero, i.size, i.bytes)) = some (z, s, b)) : ∃ i, P.info? t = some i ∧ i.zero = z ∧ i.size = s ∧ i.bytes = b := by
  cases hi : P.info? t with
  | none => rw [hi] at h; cases h
  | some i =>
    rw [hi] at h
    simp only [Option.map_some, Option.some.injEq, Prod.mk.injEq] at h
    exact ⟨i, rfl, h.1, h.2.1, h.2.2⟩
noncomputable def tt (p : Prop) : Bool := @decide p (Classical.propDecidable p)
theorem tt_yes {p : Prop} (h : p) : tt p = true := by unfold tt; simp [h]
theorem tt_no {p : Prop} (h : ¬ p) : tt p = false := by unfold tt; simp [h]
theorem Has.cell {B : Nat} {w wr : World} {q : Nat} {vs : List Value} {rs : List Res} (h : Has B w rs wr) (hm : BlockR q vs ∈ rs) (j : Nat) (u : Value) (hu : vs[j]? = some u) : wr.cell? ⟨q, j, none⟩ = some u ∧ wr.frozen? ⟨q, j, none⟩ = false := by
  obtain ⟨F, ⟨h1, _⟩, _⟩ := h.get hm
  exact h1 j u hu
/-- A cell of a block written anew. -/
theorem Has.put {B : Nat} {w wr : World} {q : Nat} {vs : List Value} {rs : List Res} (h : Has B w (BlockR q vs :: rs) wr) (j : Nat) (hj : j < vs.length) (u : Value) : Has B w (BlockR q (vs.set j u) :: rs) (wr.setCell ⟨q, j, none⟩ u) := by
  refine h.turn (new := [BlockR q (vs.set j u)]) ?_
  rintro F ⟨h1, h2, rfl⟩
  refine ⟨_, Hold.one ⟨fun i x hx => ?_, by simpa using h2, rfl⟩, chg_set wr ⟨q, j, none⟩ u, fun k hk => Or.inl hk⟩
  have hil : i < vs.length := by have := (List.getElem?_eq_some_iff.1 hx).1; simpa using this
  refine ⟨?_, by rw [World.frozen?_setCell]; exact (h1 i _ (List.getElem?_eq_getElem hil)).2⟩
  by_cases e : i = j
  · subst e
    rw [World.cell?_setCell_same _ _ _ (h1 i _ (List.getElem?_eq_getElem hil)).1]
    rw [List.getElem?_set_self hil] at hx
    exact hx
  · rw [World.cell?_setCell_other _ _ _ _ (fun h => e (by injection h with _ h2; exact h2.symm))]
    rw [List.getElem?_set_ne (fun h => e h.symm)] at hx
    exact (h1 i x hx).1
/-- A new block. -/
theorem Has.box {B : Nat} {w wr : World} {rs : List Res} (h : Has B w rs wr) (vs : List Value) (t : TypeId) : Has B w (BlockR wr.heap.size vs :: rs) (wr.alloc (.cells vs.toArray t)) :=
  h.add (new := [BlockR wr.heap.size vs]) ((Below.refl _ _).alloc (Nat.le_refl _) _) (Hold.one (block_new wr vs t)) (fun k hk => by rw [hk]; exact Nat.le_refl _)

/-- Five numbers: of the participants, then of the orchestrator. -/
abbrev Five := Nat → Int
def upd (f : Five) (i : Nat) (v : Int) : Five := fun j => if j = i then v else f j
/-- The program's quota. -/
def q7 (m n : Int) (f : Five) : List Value := [.int .i64 m, .int .i64 n, .int .i64 (f 0), .int .i64 (f 1), .int .i64 (f 2), .int .i64 (f 3), .int .i64 (f 4)]
/-- The document's. -/
def r7 (m n : Int) (f : Five) : List Value := [.int .i64 m, .int .i64 n, .int .i64 (f 4), .int .i64 (f 0), .int .i64 (f 1), .int .i64 (f 2), .int .i64 (f 3)]
theorem lt5 {i : Nat} (hi : i < 5) : i = 0 ∨ i = 1 ∨ i = 2 ∨ i = 3 ∨ i = 4 := by omega
theorem q7_at (m n : Int) (f : Five) (i : Nat) (hi : i < 5) : (q7 m n f)[2 + i]? = some (.int .i64 (f i)) := by
  rcases lt5 hi with rfl | rfl | rfl | rfl | rfl <;> rfl
theorem q7_set (m n : Int) (f : Five) (i : Nat) (v : Int) (hi : i < 5) : (q7 m n f).set (2 + i) (.int .i64 v) = q7 m n (upd f i v) := by
  rcases lt5 hi with rfl | rfl | rfl | rfl | rfl <;> rfl
theorem q7_live (m n k : Int) (f : Five) : (q7 m n f).set 1 (.int .i64 k) = q7 m k f := rfl
theorem r7_live (m n k : Int) (f : Five) : (r7 m n f).set 1 (.int .i64 k) = r7 m k f := rfl
theorem lt4 {i : Nat} (hi : i < 4) : i = 0 ∨ i = 1 ∨ i = 2 ∨ i = 3 := by omega
theorem r7_at (m n : Int) (f : Five) (i : Nat) (hi : i < 4) : (r7 m n f)[3 + i]? = some (.int .i64 (f i)) := by
  rcases lt4 hi with rfl | rfl | rfl | rfl <;> rfl
theorem r7_set (m n : Int) (f : Five) (i : Nat) (v : Int) (hi : i < 4) : (r7 m n f).set (3 + i) (.int .i64 v) = r7 m n (upd f i v) := by
  rcases lt4 hi with rfl | rfl | rfl | rfl <;> rfl
theorem r7_set4 (m n : Int) (f : Five) (v : Int) : (r7 m n f).set 2 (.int .i64 v) = r7 m n (upd f 4 v) := rfl
/-- What is less by c in the first k. -/
def less (f c : Five) (k : Nat) : Five := fun j => if j < k then f j - c j else f j
theorem less_zero (f c : Five) : less f c 0 = f := by funext j; simp [less]
theorem less_step (f c : Five) (k : Nat) : upd (less f c k) k (f k - c k) = less f c (k + 1) := by
  funext j
  unfold upd less
  by_cases e : j = k
  · subst e; simp
  · by_cases h : j < k
    · simp [e, h, show j < k + 1 by omega]
    · simp [e, h, show ¬ j < k + 1 by omega]
theorem q7_congr {m n : Int} {f g : Five} (h : ∀ j, j < 5 → f j = g j) : q7 m n f = q7 m n g := by
  unfold q7
  rw [h 0 (by omega), h 1 (by omega), h 2 (by omega), h 3 (by omega), h 4 (by omega)]
theorem r7_congr {m n : Int} {f g : Five} (h : ∀ j, j < 5 → f j = g j) : r7 m n f = r7 m n g := by
  unfold r7
  rw [h 0 (by omega), h 1 (by omega), h 2 (by omega), h 3 (by omega), h 4 (by omega)]
theorem index5 (f : Five) (n : Nat) (hn : n < 5) (w : World) : (Instr.index 45 (.agg #[.int .i64 (f 0), .int .i64 (f 1), .int .i64 (f 2), .int .i64 (f 3), .int .i64 (f 4)]) (.int .i64 (n : Int))).run Try.prog w = .ok (.int .i64 (f n)) w := by
  rcases lt5 hn with rfl | rfl | rfl | rfl | rfl <;> rfl
theorem results_five {P : Program} {fn : Func} {p : Tmp} {ty : TypeId} (h : fn.results = #[.cell p ty]) (tmps : Array Value) (w : World) (g : Nat) (c0 c1 c2 c3 c4 : Value) (d : TypeDesc)
    (hp : tmps.getD p undef = .pointer (some ⟨g, 0, none⟩)) (h0 : w.cell? ⟨g, 0, none⟩ = some c0) (h1 : w.cell? ⟨g, 1, none⟩ = some c1) (h2 : w.cell? ⟨g, 2, none⟩ = some c2) (h3 : w.cell? ⟨g, 3, none⟩ = some c3) (h4 : w.cell? ⟨g, 4, none⟩ = some c4)
    (hu : P.underlying ty = some d) (hd : d.isRow = true) (hi : (P.info? ty).map (·.size) = some 5) : (results fn tmps).run P w = .ok (.agg #[c0, c1, c2, c3, c4]) w := by
  have hp' : tmps[p]?.getD undef = .pointer (some ⟨g, 0, none⟩) := by simpa using hp
  have hr : w.rangeAt g 0 [c0, c1, c2, c3, c4] := by
    intro j v hj
    rw [Nat.zero_add]
    match j, hj with
    | 0, hj => cases hj; exact h0
    | 1, hj => cases hj; exact h1
    | 2, hj => cases hj; exact h2
    | 3, hj => cases hj; exact h3
    | 4, hj => cases hj; exact h4
  simp [results, h, hp', asAddr, run_loadVar_mid w g 0 ty [c0, c1, c2, c3, c4] d hr hu hd hi]
/-- Results: a value, and a struct of five cells in memory. -/
theorem results_tmp_five {P : Program} {fn : Func} {p u : Tmp} {ty : TypeId} (h : fn.results = #[.tmp u, .cell p ty]) (tmps : Array Value) (w : World) (g : Nat) (c0 c1 c2 c3 c4 : Value) (d : TypeDesc)
    (hp : tmps.getD p undef = .pointer (some ⟨g, 0, none⟩)) (h0 : w.cell? ⟨g, 0, none⟩ = some c0) (h1 : w.cell? ⟨g, 1, none⟩ = some c1) (h2 : w.cell? ⟨g, 2, none⟩ = some c2) (h3 : w.cell? ⟨g, 3, none⟩ = some c3) (h4 : w.cell? ⟨g, 4, none⟩ = some c4)
    (hu : P.underlying ty = some d) (hd : d.isRow = true) (hi : (P.info? ty).map (·.size) = some 5) : (results fn tmps).run P w = .ok (.tuple #[tmps.getD u undef, .agg #[c0, c1, c2, c3, c4]]) w := by
  have hp' : tmps[p]?.getD undef = .pointer (some ⟨g, 0, none⟩) := by simpa using hp
  have hr : w.rangeAt g 0 [c0, c1, c2, c3, c4] := by
    intro j v hj
    rw [Nat.zero_add]
    match j, hj with
    | 0, hj => cases hj; exact h0
    | 1, hj => cases hj; exact h1
    | 2, hj => cases hj; exact h2
    | 3, hj => cases hj; exact h3
    | 4, hj => cases hj; exact h4
  simp [results, h, hp', asAddr, run_loadVar_mid w g 0 ty [c0, c1, c2, c3, c4] d hr hu hd hi]

/-- copy of rows of numbers, in a region. -/
theorem step_copy_cells {P : Program} (w : World) {ops : Array Oper} {o : Oper} {a : Act} {K : Act → World → Prop} {Q : Exit → Act → World → Prop} {E : Prop} (hgd : o.guard = none) (d s : Operand) (t : TypeId)
    (ho : o.op = .call { callee := .builtin .copy, args := #[d, s], argTypes := #[t, t] }) (elem : TypeId) (ht : P.underlying t = some (.slice elem)) (hsz : (P.info? elem).map (·.size) = some 1)
    (b off dl dc : Nat) (hd : a.eval d = .slice (some ⟨b, off, none⟩) dl dc) (ad : Addr) (sl sc : Nat) (hs : a.eval s = .slice (some ad) sl sc) (cs : List Value) (hn : cs.length = Nat.min sl dl)
    (hsrc : ∀ j v, cs[j]? = some v → w.cell? (ad.add j) = some v) (hc : ∀ j, j < cs.length → (w.cell? ⟨b, off + j, none⟩).isSome = true) (hf : ∀ j, j < cs.length → w.frozen? ⟨b, off + j, none⟩ = false) (h1 : ∀ v ∈ cs, v.oneCell' = true)
    (h : K (a.put o.dst (goInt cs.length)) (w.setCells b off cs)) :
    if Region.wanted o (yielded ops a.tmps) = true then Oper.wp P o a w K Q else E := by
  have hw : Region.wanted o (yielded ops a.tmps) = true := by simp [Region.wanted, hgd]
  rw [if_pos hw]
  have hr := run_copy_cells (P := P) w t t o.type elem b off dl dc ad sl sc cs ht hsz hn hsrc hc hf h1
  unfold Oper.wp execOp
  simp only [ho, resolve, invoke, builtin, Sem.run_bind, Sem.run_pure, Result.andThen_ok, List.map_toArray, List.map_cons, List.map_nil, hs, hd, hr]
  exact h

theorem items_step (d : Nat) (xs ys : Array Value) (i : Nat) (is : List Nat) (a b : Int) (hx : xs[i]? = some (.int .i64 a)) (hy : ys[i]? = some (.int .i64 b)) (w : World) :
    (Op.eqItems (d + 1) 3 1 xs ys (i :: is)).run Try.prog w = if (a == b) = true then (Op.eqItems (d + 1) 3 1 xs ys is).run Try.prog w else .ok false w := by
  have he : Try.prog.plainKey 3 = true := by kernel_rfl
  have hx2 : xs[i * 1]? = some (.int .i64 a) := by rw [Nat.mul_one]; exact hx
  have hy2 : ys[i * 1]? = some (.int .i64 b) := by rw [Nat.mul_one]; exact hy
  simp only [Op.eqItems, Sem.run_bind, run_part_plain w he hx2, run_part_plain w he hy2, Result.andThen_ok, run_equalIn_int w d 3 .i64 .i64 a b Try.underlying3]
  cases a == b <;> simp
theorem items_end (d : Nat) (xs ys : Array Value) (w : World) : (Op.eqItems (d + 1) 3 1 xs ys []).run Try.prog w = .ok true w := rfl
theorem eqFour (d : Nat) (a0 a1 a2 a3 b0 b1 b2 b3 : Int) (w : World) : (Op.equalIn (d + 1 + 1) 22 (.agg #[.int .i64 a0, .int .i64 a1, .int .i64 a2, .int .i64 a3]) (.agg #[.int .i64 b0, .int .i64 b1, .int .i64 b2, .int .i64 b3])).run Try.prog w = .ok (a0 == b0 && (a1 == b1 && (a2 == b2 && a3 == b3))) w := by
  obtain ⟨i, hi, _⟩ := info_parts infoI
  rw [run_equalIn_array w (d + 1) _ _ Try.underlying22 hi, show Try.prog.cellsOf 3 = 1 by kernel_rfl, show List.range 4 = [0, 1, 2, 3] from rfl,
    items_step _ _ _ 0 _ a0 b0 rfl rfl, items_step _ _ _ 1 _ a1 b1 rfl rfl, items_step _ _ _ 2 _ a2 b2 rfl rfl, items_step _ _ _ 3 _ a3 b3 rfl rfl, items_end]
  cases a0 == b0 <;> cases a1 == b1 <;> cases a2 == b2 <;> cases a3 == b3 <;> rfl
theorem costPart0 (x0 x1 x2 x3 x4 : Int) (w : World) : (part 3 #[.int .i64 x0, .int .i64 x1, .int .i64 x2, .int .i64 x3, .int .i64 x4] 0).run Try.prog w = .ok (.int .i64 x0) w := by kernel_rfl
theorem costPart1 (x0 x1 x2 x3 x4 : Int) (w : World) : (part 22 #[.int .i64 x0, .int .i64 x1, .int .i64 x2, .int .i64 x3, .int .i64 x4] 1).run Try.prog w = .ok (.agg #[.int .i64 x1, .int .i64 x2, .int .i64 x3, .int .i64 x4]) w := by kernel_rfl
theorem eqNum (d : Nat) (a b : Int) (w : World) : (Op.equalIn (d + 1) 3 (.int .i64 a) (.int .i64 b)).run Try.prog w = .ok (a == b) w := run_equalIn_int w d 3 .i64 .i64 a b Try.underlying3
theorem eqCost (a0 a1 a2 a3 a4 b0 b1 b2 b3 b4 : Int) (w : World) : (Op.equalIn 10000 32 (.agg #[.int .i64 a0, .int .i64 a1, .int .i64 a2, .int .i64 a3, .int .i64 a4]) (.agg #[.int .i64 b0, .int .i64 b1, .int .i64 b2, .int .i64 b3, .int .i64 b4])).run Try.prog w = .ok (a0 == b0 && (a1 == b1 && (a2 == b2 && (a3 == b3 && a4 == b4)))) w := by
  have hS : Try.prog.underlying 32 = some (.struct (Try.prog.fieldsOf 32)) := by kernel_rfl
  have hp : Try.prog.stoodInHeld 32 = false := by kernel_rfl
  rw [show (10000 : Nat) = 9997 + 1 + 1 + 1 from rfl, run_equalIn_agg w _ 32 _ _ hS hp]
  simp only [Program.fieldsOf, Try.underlying32, Op.eqFields, ne_eq, String.reduceEq, not_false_eq_true, if_true, Sem.run_bind, costPart0, eqNum, Result.andThen_ok]
  have e9 := fun (x1 x2 x3 x4 y1 y2 y3 y4 : Int) => eqFour 9997 x1 x2 x3 x4 y1 y2 y3 y4 w
  cases a0 == b0
  · simp
  · simp only [Bool.not_true, Bool.false_eq_true, if_false, Sem.run_bind, costPart1, Result.andThen_ok]
    rw [show (9997 + 1 + 1 : Nat) = 9997 + 2 from rfl] at e9
    simp only [e9, Result.andThen_ok]
    cases a1 == b1 <;> cases a2 == b2 <;> cases a3 == b3 <;> cases a4 == b4 <;> rfl
theorem neqCost (a0 a1 a2 a3 a4 : Int) (w : World) : (binOp .neq 32 (.agg #[.int .i64 a0, .int .i64 a1, .int .i64 a2, .int .i64 a3, .int .i64 a4]) (.agg #[.int .i64 a0, .int .i64 a1, .int .i64 a2, .int .i64 a3, .int .i64 a4])).run Try.prog w = .ok (.bool false) w := by
  rw [run_neq_struct, eqCost]
  simp
end Go.Proofs.Ytgffcgigjiedpaa
