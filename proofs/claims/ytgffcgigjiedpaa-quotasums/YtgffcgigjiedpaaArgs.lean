/- What the rows share: the settled world; numbers, arrays of four and scripts that came in, read as data. -/
import Derived.Test.YtgffcgigjiedpaaRows
import Derived.Test.YtgffcgigjiedpaaQOps
import Derived.ProofKit
import Derived.OpenShut
import Derived.Below
import Derived.SizedLaws
import Derived.WideKeyArgs
import Derived.Deep.DeepHandedRow
import Derived.Deep.Strs
import Derived.LaidLaws
import Derived.Laws.IdiomArrays
set_option linter.unusedVariables false
namespace Go.Proofs.Ytgffcgigjiedpaa
open Go.ChangeShapes Go.WideShapes Go.ChangeAt Go.RowKit

theorem own : ownKnob Try.prog.godebug = none := by kernel_rfl
theorem Try.laidOut : laidOutB Try.prog = true := by kernel_rfl
noncomputable def holdW (os : Os) : World := World.holding Try.prog os ⟨#[], #[], []⟩
theorem ci : Try.prog.cellsOf 3 = 1 := by kernel_rfl
section
variable {H : Type} {enc : TypeId × Value → H} {w : World} {base : Nat} {spare : Nat → Bool} {held : Bool} {n : Nat}
theorem open_i {c : Value} {x : DataW H × List MemPlace} (h : DataW.trod enc Try.prog w base spare held n 3 [c] = some x) : ∃ z : Int, c = .int .i64 z := by
  obtain ⟨z, e, _⟩ := DataW.trod_int Try.underlying3 h
  exact ⟨z, by simpa using e⟩
theorem four_of {cs : List Value} (h : cs.length = 4) : ∃ a b c d, cs = [a, b, c, d] := by
  match cs, h with
  | [a, b, c, d], _ => exact ⟨a, b, c, d, rfl⟩
theorem open_parts {cs : List Value} {x : DataW H × List MemPlace} (hl : cs.length = 4) (h : DataW.trod enc Try.prog w base spare held n 22 cs = some x) : ∃ a b c d : Int, cs = [.int .i64 a, .int .i64 b, .int .i64 c, .int .i64 d] := by
  obtain ⟨c0, c1, c2, c3, rfl⟩ := four_of hl
  obtain ⟨y0, y1, y2, y3, m, _, h0, h1, h2, h3⟩ := trod_array4 Try.underlying22 ci h
  obtain ⟨a, rfl⟩ := open_i h0
  obtain ⟨b, rfl⟩ := open_i h1
  obtain ⟨c, rfl⟩ := open_i h2
  obtain ⟨d, rfl⟩ := open_i h3
  exact ⟨a, b, c, d, rfl⟩
theorem open_cost {cs : List Value} {x : DataW H × List MemPlace} (h : DataW.trod enc Try.prog w base spare held n 32 cs = some x) : ∃ f : Five, cs = [.int .i64 (f 4), .int .i64 (f 0), .int .i64 (f 1), .int .i64 (f 2), .int .i64 (f 3)] := by
  obtain ⟨xs, m, rfl, hx, hl, hxl, hf⟩ := DataW.trod_struct Try.underlying32 h
  have hl5 : cs.length = 5 := by rw [hl]; kernel_rfl
  have hx2 : xs.length = 2 := by rw [hxl]; rfl
  obtain ⟨c0, c1, c2, c3, c4, rfl⟩ : ∃ c0 c1 c2 c3 c4, cs = [c0, c1, c2, c3, c4] := by
    match cs, hl5 with
    | [c0, c1, c2, c3, c4], _ => exact ⟨c0, c1, c2, c3, c4, rfl⟩
  obtain ⟨x0, x1, rfl⟩ : ∃ x0 x1, xs = [x0, x1] := by
    match xs, hx2 with
    | [x0, x1], _ => exact ⟨x0, x1, rfl⟩
  have f0 : DataW.trod enc Try.prog w base spare held m 3 (([c0, c1, c2, c3, c4].drop 0).take (Try.prog.cellsOf 3)) = some x0 := hf 0 _ rfl
  have f1 : DataW.trod enc Try.prog w base spare held m 22 (([c0, c1, c2, c3, c4].drop 1).take (Try.prog.cellsOf 22)) = some x1 := hf 1 _ rfl
  rw [ci] at f0
  rw [show Try.prog.cellsOf 22 = 4 by kernel_rfl] at f1
  obtain ⟨o, rfl⟩ := open_i f0
  obtain ⟨a, b, c, d, e⟩ := open_parts rfl f1
  simp at e
  obtain ⟨rfl, rfl, rfl, rfl⟩ := e
  exact ⟨fiveOf a b c d o, rfl⟩
theorem open_op {cs : List Value} {x : DataW H × List MemPlace} (h : DataW.trod enc Try.prog w base spare held n 40 cs = some x) : ∃ o : QOp, cs = ocell o := by
  obtain ⟨xs, m, rfl, hx, hl, hxl, hf⟩ := DataW.trod_struct Try.underlying40 h
  have hl6 : cs.length = 6 := by rw [hl]; kernel_rfl
  have hx2 : xs.length = 2 := by rw [hxl]; rfl
  obtain ⟨c0, c1, c2, c3, c4, c5, rfl⟩ : ∃ c0 c1 c2 c3 c4 c5, cs = [c0, c1, c2, c3, c4, c5] := by
    match cs, hl6 with
    | [c0, c1, c2, c3, c4, c5], _ => exact ⟨c0, c1, c2, c3, c4, c5, rfl⟩
  obtain ⟨x0, x1, rfl⟩ : ∃ x0 x1, xs = [x0, x1] := by
    match xs, hx2 with
    | [x0, x1], _ => exact ⟨x0, x1, rfl⟩
  have f0 : DataW.trod enc Try.prog w base spare held m 3 (([c0, c1, c2, c3, c4, c5].drop 0).take (Try.prog.cellsOf 3)) = some x0 := hf 0 _ rfl
  have f1 : DataW.trod enc Try.prog w base spare held m 32 (([c0, c1, c2, c3, c4, c5].drop 1).take (Try.prog.cellsOf 32)) = some x1 := hf 1 _ rfl
  rw [ci] at f0
  rw [show Try.prog.cellsOf 32 = 5 by kernel_rfl] at f1
  obtain ⟨o, rfl⟩ := open_i f0
  obtain ⟨f, e⟩ := open_cost f1
  simp at e
  obtain ⟨rfl, rfl, rfl, rfl, rfl⟩ := e
  exact ⟨⟨o, f⟩, rfl⟩
theorem cells_at {b off m : Nat} {cs : List Value} (h : w.cells? base ⟨b, off, none⟩ m = some cs) (j : Nat) (hj : j < m) : w.cell? ⟨b, off + j, none⟩ = cs[j]? := by
  obtain ⟨_, hl, hc⟩ := World.cells?_some h
  have := hc j hj
  rwa [add_plain] at this
theorem onth_map (f : Nat → QOp) (n j : Nat) (h : j < n) : onth ((List.range n).map f) j = f j := by simp [onth, List.getD, h]
theorem open_ops {cs : List Value} {x : DataW H × List MemPlace} (h : DataW.trod enc Try.prog w 0 (fun _ => true) true n 36 cs = some x) : ∃ sv l, cs = [sv] ∧ ORow w sv l ∧ (l.length = 0 ∨ ∃ (ds sp : List (DataW H)), x.1 = .slice ds sp ∧ ds.length = l.length) := by
  rcases Go.Deep.open_slice Try.underlying36 h with ⟨hcs, hx⟩ | ⟨a, len, cap, m, n', D, Pl, hcs, _, hl, hm, hmm, hx, hcell⟩
  · exact ⟨_, [], hcs, ⟨none, 0, rfl, Nat.le_refl _, fun _ => rfl, fun j hj => by simp at hj⟩, Or.inl rfl⟩
  · simp only [if_true] at hmm
    subst hmm
    have ck : Try.prog.cellsOf 40 = 6 := by kernel_rfl
    rw [ck] at hcell
    have each : ∀ i, i < m → ∃ o : QOp, w.cells? 0 (a.add (i * 6)) 6 = some (ocell o) := fun i hi => by
      obtain ⟨cs', h1, h2⟩ := hcell i hi
      obtain ⟨o, rfl⟩ := open_op h2
      exact ⟨o, h1⟩
    obtain ⟨O, hO⟩ := Go.Deep.choose_lt each
    refine ⟨_, (List.range len).map O, hcs, ⟨some a, m, by simp, by simpa using hl, fun h => (by cases h), fun j hj => ?_⟩, Or.inr ⟨_, _, by rw [hx], by simp⟩⟩
    simp at hj
    obtain ⟨b, off, spot⟩ := a
    have hspot : spot = none := by
      obtain ⟨_, _, hcc⟩ := World.cells?_some (hO 0 (by omega))
      have := hcc 0 (by decide)
      simpa [Addr.add] using World.cell?_spot this
    subst hspot
    have hc := hO j (by omega)
    rw [add_plain] at hc
    have k0 := cells_at hc 0 (by decide)
    refine ⟨b, off, rfl, block_lt_of_cell k0, fun i x hx => ?_⟩
    have hi : i < 6 := by have := (List.getElem?_eq_some_iff.1 hx).1; rw [onth_map O len j hj] at this; exact this
    rw [onth_map O len j hj] at hx
    exact (cells_at hc i hi).trans hx
theorem open_case {cs : List Value} {x : DataW H × List MemPlace} (h : DataW.trod enc Try.prog w 0 (fun _ => true) true n 38 cs = some x) : ∃ (m : Int) (f : Five) (sv : Value) (l : List QOp), cs = [.int .i64 m, .int .i64 (f 4), .int .i64 (f 0), .int .i64 (f 1), .int .i64 (f 2), .int .i64 (f 3), sv] ∧ ORow w sv l ∧
    ∃ y0 y1 y2 y3 : DataW H, x.1 = .agg [y0, y1, y2, y3] ∧ (l.length = 0 ∨ ∃ ds sp, y3 = .slice ds sp ∧ ds.length = l.length) := by
  obtain ⟨xs, m, rfl, hx, hl, hxl, hf⟩ := DataW.trod_struct Try.underlying38 h
  have hl7 : cs.length = 7 := by rw [hl]; kernel_rfl
  have hx4 : xs.length = 4 := by rw [hxl]; rfl
  obtain ⟨c0, c1, c2, c3, c4, c5, c6, rfl⟩ : ∃ c0 c1 c2 c3 c4 c5 c6, cs = [c0, c1, c2, c3, c4, c5, c6] := by
    match cs, hl7 with
    | [c0, c1, c2, c3, c4, c5, c6], _ => exact ⟨c0, c1, c2, c3, c4, c5, c6, rfl⟩
  obtain ⟨x0, x1, x2, x3, rfl⟩ : ∃ x0 x1 x2 x3, xs = [x0, x1, x2, x3] := by
    match xs, hx4 with
    | [x0, x1, x2, x3], _ => exact ⟨x0, x1, x2, x3, rfl⟩
  have f0 : DataW.trod enc Try.prog w 0 (fun _ => true) true m 3 (([c0, c1, c2, c3, c4, c5, c6].drop 0).take (Try.prog.cellsOf 3)) = some x0 := hf 0 _ rfl
  have f1 : DataW.trod enc Try.prog w 0 (fun _ => true) true m 3 (([c0, c1, c2, c3, c4, c5, c6].drop 1).take (Try.prog.cellsOf 3)) = some x1 := hf 1 _ rfl
  have f2 : DataW.trod enc Try.prog w 0 (fun _ => true) true m 22 (([c0, c1, c2, c3, c4, c5, c6].drop 2).take (Try.prog.cellsOf 22)) = some x2 := hf 2 _ rfl
  have f3 : DataW.trod enc Try.prog w 0 (fun _ => true) true m 36 (([c0, c1, c2, c3, c4, c5, c6].drop 6).take (Try.prog.cellsOf 36)) = some x3 := hf 3 _ rfl
  rw [ci] at f0 f1
  rw [show Try.prog.cellsOf 22 = 4 by kernel_rfl] at f2
  rw [show Try.prog.cellsOf 36 = 1 by kernel_rfl] at f3
  obtain ⟨o, rfl⟩ := open_i f0
  obtain ⟨o2, rfl⟩ := open_i f1
  obtain ⟨a, b, c, d, e⟩ := open_parts rfl f2
  simp at e
  obtain ⟨rfl, rfl, rfl, rfl⟩ := e
  obtain ⟨sv, l, e, hr, hd⟩ := open_ops f3
  simp at e
  subst e
  exact ⟨o, fiveOf a b c d o2, _, l, rfl, hr, x0.1, x1.1, x2.1, x3.1, by rw [hx]; rfl, hd⟩
theorem parts_in {v : Value} {d : DataW H} {p : List MemPlace} {b2 : Nat} (hv : Value.okWide Try.prog w .any b2 22 v) (h : DataW.Trod enc Try.prog w 0 (fun _ => true) true 22 v d p) : ∃ a b c d : Int, v = .agg #[.int .i64 a, .int .i64 b, .int .i64 c, .int .i64 d] := by
  obtain ⟨cs, rfl⟩ : ∃ cs, v = .agg cs := by
    simp only [Value.okWide, Try.underlying22] at hv
    obtain ⟨cs, h1, _⟩ := hv
    exact ⟨cs, h1⟩
  obtain ⟨n, hn⟩ := h
  have hl : (Value.agg cs).cells.toList.length = 4 := by
    obtain ⟨_, _, _, _, hl, _⟩ := DataW.trod_array Try.underlying22 hn
    rw [hl]; kernel_rfl
  obtain ⟨a, b, c, d, e⟩ := open_parts hl hn
  exact ⟨a, b, c, d, by rw [show cs = #[.int .i64 a, .int .i64 b, .int .i64 c, .int .i64 d] from Array.toList_inj.1 (by simpa [Value.cells] using e)]⟩
theorem case_in {ts : List TypeId} {ds : List (DataW H)} {b2 : Nat} {v : Value} {d : DataW H} {p : List MemPlace} (hsz : (DataW.weightsEach Try.prog ts ds).all (· ≤ reachBytes) = true) {j : Nat} (ht : ts[j]? = some 38) (hd : ds[j]? = some d)
    (hv : Value.okWide Try.prog w .any b2 38 v) (h : DataW.Trod enc Try.prog w 0 (fun _ => true) true 38 v d p) : ∃ (m : Int) (f : Five) (sv : Value) (l : List QOp), v = .agg #[.int .i64 m, .int .i64 (f 4), .int .i64 (f 0), .int .i64 (f 1), .int .i64 (f 2), .int .i64 (f 3), sv] ∧ ORow w sv l ∧ l.length * 48 ≤ 140737488351232 := by
  obtain ⟨cs, rfl, _⟩ := okWide_struct Try.underlying38 hv
  obtain ⟨n, hn⟩ := h
  obtain ⟨m, f, sv, l, e, hr, y0, y1, y2, y3, rfl, hl⟩ := open_case hn
  refine ⟨m, f, sv, l, by rw [show cs = #[.int .i64 m, .int .i64 (f 4), .int .i64 (f 0), .int .i64 (f 1), .int .i64 (f 2), .int .i64 (f 3), sv] from Array.toList_inj.1 (by simpa [Value.cells] using e)], hr, ?_⟩
  rcases hl with h0 | ⟨es, sp, rfl, hl⟩
  · rw [h0]; decide
  · have hall : ∀ n, n ∈ (DataW.agg [y0, y1, y2, .slice es sp] : DataW H).weights Try.prog 38 → n ≤ reachBytes := fun n hn => by
      have := List.all_eq_true.1 hsz _ (DataW.weights_mem_each ht hd n hn)
      simpa using this
    simp only [DataW.weights, Try.underlying38, DataW.weightsEach, List.map_cons, List.map_nil, List.mem_append] at hall
    simp only [Try.underlying36] at hall
    have h48 := hall ((es.length + sp.length) * Try.prog.bytesOf 40) (by simp)
    rw [show Try.prog.bytesOf 40 = 48 by kernel_rfl] at h48
    have hr : reachBytes = 140737488351232 := rfl
    omega
end
end Go.Proofs.Ytgffcgigjiedpaa
