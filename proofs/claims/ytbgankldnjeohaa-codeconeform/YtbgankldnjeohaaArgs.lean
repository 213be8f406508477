/- What the row shares: the settled world; a note that came in, read as data. -/
import Derived.Test.YtbgankldnjeohaaRows
import Derived.Test.YtbgankldnjeohaaNotesW
import Derived.ProofKit
import Derived.OpenShut
import Derived.Below
import Derived.SizedLaws
import Derived.WideKeyArgs
import Derived.Deep.DeepHandedRow
import Derived.Deep.Strs
import Derived.LaidLaws
set_option linter.unusedVariables false
set_option maxRecDepth 100000
namespace Go.Proofs.Ytbgankldnjeohaa
open Go.ChangeShapes Go.WideShapes Go.ChangeAt Go.RowKit

theorem own : ownKnob Try.prog.godebug = none := by kernel_rfl
theorem Try.laidOut : laidOutB Try.prog = true := by kernel_rfl
noncomputable def holdW (os : Os) : World := World.holding Try.prog os ⟨#[], #[], []⟩
section
variable {H : Type} {enc : TypeId × Value → H} {w : World} {n : Nat}
theorem open_note {cs : List Value} {x : DataW H × List MemPlace} (h : DataW.trod enc Try.prog w 0 (fun _ => true) true n 35 cs = some x) :
    ∃ (k i s t p c v : Int) (K M X : ByteArray), cs = [.int .i64 k, .int .i64 i, .int .i64 s, .int .i64 t, .int .i64 p, .int .i64 c, .string K, .string M, .int .i64 v, .string X] ∧ x.1 = .agg [.lit (.int .i64 k), .lit (.int .i64 i), .lit (.int .i64 s), .lit (.int .i64 t), .lit (.int .i64 p), .lit (.int .i64 c), .lit (.string K.data.toList), .lit (.string M.data.toList), .lit (.int .i64 v), .lit (.string X.data.toList)] := by
  obtain ⟨xs, m, rfl, hx, hl, hxl, hf⟩ := DataW.trod_struct Try.underlying35 h
  have hln : cs.length = 10 := by rw [hl]; kernel_rfl
  have hxn : xs.length = 10 := by rw [hxl]; rfl
  have ci : Try.prog.cellsOf 3 = 1 := by kernel_rfl
  have ck : Try.prog.cellsOf 9 = 1 := by kernel_rfl
  obtain ⟨c0, c1, c2, c3, c4, c5, c6, c7, c8, c9, rfl⟩ : ∃ c0 c1 c2 c3 c4 c5 c6 c7 c8 c9, cs = [c0, c1, c2, c3, c4, c5, c6, c7, c8, c9] := by
    match cs, hln with
    | [c0, c1, c2, c3, c4, c5, c6, c7, c8, c9], _ => exact ⟨c0, c1, c2, c3, c4, c5, c6, c7, c8, c9, rfl⟩
  obtain ⟨x0, x1, x2, x3, x4, x5, x6, x7, x8, x9, rfl⟩ : ∃ x0 x1 x2 x3 x4 x5 x6 x7 x8 x9, xs = [x0, x1, x2, x3, x4, x5, x6, x7, x8, x9] := by
    match xs, hxn with
    | [x0, x1, x2, x3, x4, x5, x6, x7, x8, x9], _ => exact ⟨x0, x1, x2, x3, x4, x5, x6, x7, x8, x9, rfl⟩
  have f0 : DataW.trod enc Try.prog w 0 (fun _ => true) true m 3 (([c0, c1, c2, c3, c4, c5, c6, c7, c8, c9].drop 0).take (Try.prog.cellsOf 3)) = some x0 := hf 0 _ rfl
  have f1 : DataW.trod enc Try.prog w 0 (fun _ => true) true m 3 (([c0, c1, c2, c3, c4, c5, c6, c7, c8, c9].drop 1).take (Try.prog.cellsOf 3)) = some x1 := hf 1 _ rfl
  have f2 : DataW.trod enc Try.prog w 0 (fun _ => true) true m 3 (([c0, c1, c2, c3, c4, c5, c6, c7, c8, c9].drop 2).take (Try.prog.cellsOf 3)) = some x2 := hf 2 _ rfl
  have f3 : DataW.trod enc Try.prog w 0 (fun _ => true) true m 3 (([c0, c1, c2, c3, c4, c5, c6, c7, c8, c9].drop 3).take (Try.prog.cellsOf 3)) = some x3 := hf 3 _ rfl
  have f4 : DataW.trod enc Try.prog w 0 (fun _ => true) true m 3 (([c0, c1, c2, c3, c4, c5, c6, c7, c8, c9].drop 4).take (Try.prog.cellsOf 3)) = some x4 := hf 4 _ rfl
  have f5 : DataW.trod enc Try.prog w 0 (fun _ => true) true m 3 (([c0, c1, c2, c3, c4, c5, c6, c7, c8, c9].drop 5).take (Try.prog.cellsOf 3)) = some x5 := hf 5 _ rfl
  have f6 : DataW.trod enc Try.prog w 0 (fun _ => true) true m 9 (([c0, c1, c2, c3, c4, c5, c6, c7, c8, c9].drop 6).take (Try.prog.cellsOf 9)) = some x6 := hf 6 _ rfl
  have f7 : DataW.trod enc Try.prog w 0 (fun _ => true) true m 9 (([c0, c1, c2, c3, c4, c5, c6, c7, c8, c9].drop 7).take (Try.prog.cellsOf 9)) = some x7 := hf 7 _ rfl
  have f8 : DataW.trod enc Try.prog w 0 (fun _ => true) true m 3 (([c0, c1, c2, c3, c4, c5, c6, c7, c8, c9].drop 8).take (Try.prog.cellsOf 3)) = some x8 := hf 8 _ rfl
  have f9 : DataW.trod enc Try.prog w 0 (fun _ => true) true m 9 (([c0, c1, c2, c3, c4, c5, c6, c7, c8, c9].drop 9).take (Try.prog.cellsOf 9)) = some x9 := hf 9 _ rfl
  rw [ci] at f0 f1 f2 f3 f4 f5 f8
  rw [ck] at f6 f7 f9
  obtain ⟨n0, e0, rfl, b0⟩ := DataW.trod_int Try.underlying3 f0
  obtain ⟨n1, e1, rfl, b1⟩ := DataW.trod_int Try.underlying3 f1
  obtain ⟨n2, e2, rfl, b2⟩ := DataW.trod_int Try.underlying3 f2
  obtain ⟨n3, e3, rfl, b3⟩ := DataW.trod_int Try.underlying3 f3
  obtain ⟨n4, e4, rfl, b4⟩ := DataW.trod_int Try.underlying3 f4
  obtain ⟨n5, e5, rfl, b5⟩ := DataW.trod_int Try.underlying3 f5
  obtain ⟨n6, e6, rfl, b6⟩ := DataW.trod_string Try.underlying9 f6
  obtain ⟨n7, e7, rfl, b7⟩ := DataW.trod_string Try.underlying9 f7
  obtain ⟨n8, e8, rfl, b8⟩ := DataW.trod_int Try.underlying3 f8
  obtain ⟨n9, e9, rfl, b9⟩ := DataW.trod_string Try.underlying9 f9
  obtain rfl : c0 = .int .i64 n0 := by simpa using e0
  obtain rfl : c1 = .int .i64 n1 := by simpa using e1
  obtain rfl : c2 = .int .i64 n2 := by simpa using e2
  obtain rfl : c3 = .int .i64 n3 := by simpa using e3
  obtain rfl : c4 = .int .i64 n4 := by simpa using e4
  obtain rfl : c5 = .int .i64 n5 := by simpa using e5
  obtain rfl : c6 = .string n6 := by simpa using e6
  obtain rfl : c7 = .string n7 := by simpa using e7
  obtain rfl : c8 = .int .i64 n8 := by simpa using e8
  obtain rfl : c9 = .string n9 := by simpa using e9
  exact ⟨n0, n1, n2, n3, n4, n5, n8, n6, n7, n9, rfl, by rw [hx]; rfl⟩
/-- A note that came in. -/
theorem note_in {ts : List TypeId} {ds : List (DataW H)} {base : Nat} {v : Value} {d : DataW H} {p : List MemPlace} (hsz : (DataW.weightsEach Try.prog ts ds).all (· ≤ reachBytes) = true) {j : Nat} (ht : ts[j]? = some 35) (hd : ds[j]? = some d)
    (hv : Value.okWide Try.prog w .any base 35 v) (h : DataW.Trod enc Try.prog w 0 (fun _ => true) true 35 v d p) : ∃ (k i s t p c v0 : Int) (K M X : ByteArray), v = .agg #[.int .i64 k, .int .i64 i, .int .i64 s, .int .i64 t, .int .i64 p, .int .i64 c, .string K, .string M, .int .i64 v0, .string X] ∧ K.size ≤ 140737488351232 ∧ M.size ≤ 140737488351232 ∧ X.size ≤ 140737488351232 := by
  obtain ⟨cs, rfl, _⟩ := okWide_struct Try.underlying35 hv
  obtain ⟨n, hn⟩ := h
  obtain ⟨k, i, s, t, p, c, v0, K, M, X, e, rfl⟩ := open_note hn
  have hall : ∀ n, n ∈ (DataW.agg [.lit (.int .i64 k), .lit (.int .i64 i), .lit (.int .i64 s), .lit (.int .i64 t), .lit (.int .i64 p), .lit (.int .i64 c), .lit (.string K.data.toList), .lit (.string M.data.toList), .lit (.int .i64 v0), .lit (.string X.data.toList)] : DataW H).weights Try.prog 35 → n ≤ reachBytes := fun n hn => by
    have := List.all_eq_true.1 hsz _ (DataW.weights_mem_each ht hd n hn)
    simpa using this
  simp only [DataW.weights, Try.underlying35, DataW.weightsEach, List.map_cons, List.map_nil, List.mem_append] at hall
  have hr : reachBytes = 140737488351232 := rfl
  have a1 := hall K.data.toList.length (by simp)
  have a2 := hall M.data.toList.length (by simp)
  have a3 := hall X.data.toList.length (by simp)
  have l1 : K.data.toList.length = K.size := Array.length_toList
  have l2 : M.data.toList.length = M.size := Array.length_toList
  have l3 : X.data.toList.length = X.size := Array.length_toList
  exact ⟨k, i, s, t, p, c, v0, K, M, X, by rw [show cs = #[.int .i64 k, .int .i64 i, .int .i64 s, .int .i64 t, .int .i64 p, .int .i64 c, .string K, .string M, .int .i64 v0, .string X] from Array.toList_inj.1 (by simpa [Value.cells] using e)], by omega, by omega, by omega⟩
end
end Go.Proofs.Ytbgankldnjeohaa
