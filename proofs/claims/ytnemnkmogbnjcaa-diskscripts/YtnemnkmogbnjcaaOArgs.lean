/- Scripts that came in, read as data. -/
import Derived.Test.YtnemnkmogbnjcaaArgs
import Derived.Test.YtnemnkmogbnjcaaPlaysW
set_option linter.unusedVariables false
namespace Go.Proofs.Ytnemnkmogbnjcaa
open Go.ChangeShapes Go.WideShapes Go.ChangeAt Go.RowKit

theorem open_op {H : Type} {enc : TypeId × Value → H} {w : World} {base : Nat} {spare : Nat → Bool} {held : Bool} {n : Nat} {cs : List Value} {D : DataW H} {Pl : List MemPlace} (h : DataW.trod enc Try.prog w base spare held n 38 cs = some (D, Pl)) :
    ∃ o : DiskMath.Op, cs = [.int .i64 o.Do, .int .i64 o.C, .int .i64 o.File, .int .i64 o.N, .string o.S] ∧ D = .agg [.lit (.int .i64 o.Do), .lit (.int .i64 o.C), .lit (.int .i64 o.File), .lit (.int .i64 o.N), .lit (.string o.S.data.toList)] ∧
      (-9223372036854775808 ≤ o.Do ∧ o.Do ≤ 9223372036854775807) ∧ (-9223372036854775808 ≤ o.C ∧ o.C ≤ 9223372036854775807) ∧ (-9223372036854775808 ≤ o.File ∧ o.File ≤ 9223372036854775807) ∧ (-9223372036854775808 ≤ o.N ∧ o.N ≤ 9223372036854775807) := by
  obtain ⟨xs, m, rfl, hx, hl, hxl, hf⟩ := DataW.trod_struct Try.underlying38 h
  have hl5 : cs.length = 5 := by rw [hl]; kernel_rfl
  have hx5 : xs.length = 5 := by rw [hxl]; rfl
  have ci : Try.prog.cellsOf 3 = 1 := by kernel_rfl
  have cs' : Try.prog.cellsOf 9 = 1 := by kernel_rfl
  obtain ⟨c0, c1, c2, c3, c4, rfl⟩ : ∃ c0 c1 c2 c3 c4, cs = [c0, c1, c2, c3, c4] := by
    match cs, hl5 with
    | [c0, c1, c2, c3, c4], _ => exact ⟨c0, c1, c2, c3, c4, rfl⟩
  obtain ⟨x0, x1, x2, x3, x4, rfl⟩ : ∃ x0 x1 x2 x3 x4, xs = [x0, x1, x2, x3, x4] := by
    match xs, hx5 with
    | [x0, x1, x2, x3, x4], _ => exact ⟨x0, x1, x2, x3, x4, rfl⟩
  have f0 : DataW.trod enc Try.prog w base spare held m 3 (([c0, c1, c2, c3, c4].drop 0).take (Try.prog.cellsOf 3)) = some x0 := hf 0 _ rfl
  have f1 : DataW.trod enc Try.prog w base spare held m 3 (([c0, c1, c2, c3, c4].drop 1).take (Try.prog.cellsOf 3)) = some x1 := hf 1 _ rfl
  have f2 : DataW.trod enc Try.prog w base spare held m 3 (([c0, c1, c2, c3, c4].drop 2).take (Try.prog.cellsOf 3)) = some x2 := hf 2 _ rfl
  have f3 : DataW.trod enc Try.prog w base spare held m 3 (([c0, c1, c2, c3, c4].drop 3).take (Try.prog.cellsOf 3)) = some x3 := hf 3 _ rfl
  have f4 : DataW.trod enc Try.prog w base spare held m 9 (([c0, c1, c2, c3, c4].drop 4).take (Try.prog.cellsOf 9)) = some x4 := hf 4 _ rfl
  rw [ci] at f0 f1 f2 f3
  rw [cs'] at f4
  obtain ⟨n0, e0, rfl, b0⟩ := DataW.trod_int Try.underlying3 f0
  obtain ⟨n1, e1, rfl, b1⟩ := DataW.trod_int Try.underlying3 f1
  obtain ⟨n2, e2, rfl, b2⟩ := DataW.trod_int Try.underlying3 f2
  obtain ⟨n3, e3, rfl, b3⟩ := DataW.trod_int Try.underlying3 f3
  obtain ⟨s4, e4, rfl, b4⟩ := DataW.trod_string Try.underlying9 f4
  obtain rfl : c0 = .int .i64 n0 := by simpa using e0
  obtain rfl : c1 = .int .i64 n1 := by simpa using e1
  obtain rfl : c2 = .int .i64 n2 := by simpa using e2
  obtain rfl : c3 = .int .i64 n3 := by simpa using e3
  obtain rfl : c4 = .string s4 := by simpa using e4
  simp only [Prod.mk.injEq] at hx
  exact ⟨⟨n0, n1, n2, n3, s4⟩, rfl, hx.1, bounds_i64 b0, bounds_i64 b1, bounds_i64 b2, bounds_i64 b3⟩

/-- How a script's datum looks. -/
def ODat {H : Type} (d : DataW H) (l : List DiskMath.Op) : Prop := (d = .nil ∧ l = []) ∨ ∃ sp, d = .slice (l.map fun o => .agg [.lit (.int .i64 o.Do), .lit (.int .i64 o.C), .lit (.int .i64 o.File), .lit (.int .i64 o.N), .lit (.string o.S.data.toList)]) sp
def ORng (o : DiskMath.Op) : Prop := (-9223372036854775808 ≤ o.Do ∧ o.Do ≤ 9223372036854775807) ∧ (-9223372036854775808 ≤ o.C ∧ o.C ≤ 9223372036854775807) ∧ (-9223372036854775808 ≤ o.File ∧ o.File ≤ 9223372036854775807) ∧ (-9223372036854775808 ≤ o.N ∧ o.N ≤ 9223372036854775807)
instance : Inhabited DiskMath.Op := ⟨⟨0, 0, 0, 0, ⟨#[]⟩⟩⟩
theorem cells_at {w : World} {b off n : Nat} {base : Nat} {cs : List Value} (h : w.cells? base ⟨b, off, none⟩ n = some cs) (j : Nat) (hj : j < n) : w.cell? ⟨b, off + j, none⟩ = cs[j]? := by
  obtain ⟨_, hl, hc⟩ := World.cells?_some h
  have := hc j hj
  rwa [add_plain] at this
theorem open_script {H : Type} {enc : TypeId × Value → H} {W : World} {base : Nat} {v : Value} {d : DataW H} {p : List MemPlace} (hv : Value.okWide Try.prog W .any base 34 v) (h : DataW.Trod enc Try.prog W 0 (fun _ => true) true 34 v d p) :
    ∃ l : List DiskMath.Op, ORow W v l ∧ (∀ o ∈ l, ORng o) ∧ ODat d l := by
  obtain ⟨a0, len0, cap0, rfl⟩ := okWide_slice Try.underlying34 hv
  obtain ⟨n, hn⟩ := h
  rcases Go.Deep.open_slice Try.underlying34 hn with ⟨hcs, hx⟩ | ⟨a, len, cap, m, n', D, Pl, hcs, _, hl, hm, hmm, hx, hcell⟩
  · simp [Value.cells] at hcs
    obtain ⟨rfl, rfl, rfl⟩ := hcs
    simp only [Prod.mk.injEq] at hx
    exact ⟨[], ⟨none, 0, rfl, fun j hj => by simp at hj⟩, fun o ho => (by cases ho), Or.inl ⟨hx.1, rfl⟩⟩
  · simp [Value.cells] at hcs
    obtain ⟨rfl, rfl, rfl⟩ := hcs
    simp only [if_true] at hmm
    subst hmm
    simp only [Prod.mk.injEq] at hx
    have ck : Try.prog.cellsOf 38 = 5 := by kernel_rfl
    rw [ck] at hcell
    have each : ∀ i, i < m → ∃ o : DiskMath.Op, W.cells? 0 (a.add (i * 5)) 5 = some [.int .i64 o.Do, .int .i64 o.C, .int .i64 o.File, .int .i64 o.N, .string o.S] ∧ D i = .agg [.lit (.int .i64 o.Do), .lit (.int .i64 o.C), .lit (.int .i64 o.File), .lit (.int .i64 o.N), .lit (.string o.S.data.toList)] ∧ ORng o := fun i hi => by
      obtain ⟨cs', h1, h2⟩ := hcell i hi
      obtain ⟨o, rfl, h4, h5⟩ := open_op h2
      exact ⟨o, h1, h4, h5⟩
    obtain ⟨O, hO⟩ := Go.Deep.choose_lt each
    refine ⟨(List.range len0).map O, ⟨some a, m, by simp, fun j hj => ?_⟩, fun o ho => ?_, Or.inr ⟨(List.range (m - len0)).map fun j => D (len0 + j), ?_⟩⟩
    · simp at hj
      obtain ⟨b, off, spot⟩ := a
      obtain ⟨hc, _, _⟩ := hO j (by omega)
      have hc0 := (hO 0 (by omega)).1
      have hspot : spot = none := by
        obtain ⟨_, _, hcc⟩ := World.cells?_some hc0
        have := hcc 0 (by decide)
        simpa [Addr.add] using World.cell?_spot this
      subst hspot
      rw [add_plain] at hc
      have k0 := cells_at hc 0 (by decide)
      have k1 := cells_at hc 1 (by decide)
      have k2 := cells_at hc 2 (by decide)
      have k3 := cells_at hc 3 (by decide)
      have k4 := cells_at hc 4 (by decide)
      refine ⟨b, off, rfl, block_lt_of_cell k0, ?_, ?_, ?_, ?_, ?_⟩
      · simpa using k0
      · simpa using k1
      · simpa using k2
      · simpa using k3
      · simpa using k4
    · obtain ⟨i, hi, rfl⟩ := List.mem_map.1 ho
      exact (hO i (by have := List.mem_range.1 hi; omega)).2.2
    · rw [hx.1, List.map_map]
      congr 1
      apply List.map_congr_left
      intro i hi
      exact (hO i (by have := List.mem_range.1 hi; omega)).2.1

theorem script_sized {H : Type} {ts : List TypeId} {ds : List (DataW H)} (hsz : (DataW.weightsEach Try.prog ts ds).all (· ≤ reachBytes) = true) {j : Nat} {d : DataW H} {l : List DiskMath.Op} (ht : ts[j]? = some 34) (hd : ds[j]? = some d)
    (h : ODat d l) : l.length ≤ 140737488355328 ∧ ∀ o ∈ l, o.S.size ≤ 140737488351232 := by
  rcases h with ⟨_, rfl⟩ | ⟨sp, rfl⟩
  · exact ⟨by simp, fun s hs => by cases hs⟩
  · refine ⟨?_, fun o ho => ?_⟩
    · have := sized_slice hsz ht hd Try.underlying34
      rw [show Try.prog.bytesOf 38 = 48 by kernel_rfl, List.length_map] at this
      have hr : reachBytes = 140737488351232 := rfl
      omega
    · have := List.all_eq_true.1 hsz o.S.data.toList.length (DataW.weights_mem_each ht hd _ (by
        rw [DataW.weights, Try.underlying34]
        refine List.mem_cons_of_mem _ (List.mem_append_left _ (mem_weightsAll (List.mem_map.2 ⟨o, ho, rfl⟩) ?_))
        rw [DataW.weights, Try.underlying38]
        simp [DataW.weights, DataW.weightsEach]))
      rw [size_data] at this
      exact of_decide_eq_true this
theorem ops_ok {l : List DiskMath.Op} (h1 : ∀ o ∈ l, ORng o) (h2 : ∀ o ∈ l, o.S.size ≤ 140737488351232) : ∀ o ∈ l, OpOk o := fun o ho => ⟨(h1 o ho).1, (h1 o ho).2.1, (h1 o ho).2.2.1, (h1 o ho).2.2.2, h2 o ho⟩

/-- A call that came in by itself. -/
theorem open_one {H : Type} {enc : TypeId × Value → H} {W : World} {base : Nat} {v : Value} {d : DataW H} {p : List MemPlace} (hv : Value.okWide Try.prog W .any base 38 v) (h : DataW.Trod enc Try.prog W 0 (fun _ => true) true 38 v d p) :
    ∃ o : DiskMath.Op, v = .agg #[.int .i64 o.Do, .int .i64 o.C, .int .i64 o.File, .int .i64 o.N, .string o.S] ∧ ORng o ∧ d = .agg [.lit (.int .i64 o.Do), .lit (.int .i64 o.C), .lit (.int .i64 o.File), .lit (.int .i64 o.N), .lit (.string o.S.data.toList)] := by
  obtain ⟨cs, rfl, _⟩ := okWide_struct Try.underlying38 hv
  obtain ⟨n, hn⟩ := h
  obtain ⟨o, h1, h2, h3⟩ := open_op hn
  refine ⟨o, ?_, h3, h2⟩
  have h4 : (Value.agg cs).cells.toList = cs.toList := by simp [Value.cells]
  rw [h4] at h1
  rw [show cs = cs.toList.toArray by simp, h1]
theorem one_sized {H : Type} {ts : List TypeId} {ds : List (DataW H)} (hsz : (DataW.weightsEach Try.prog ts ds).all (· ≤ reachBytes) = true) {j : Nat} {o : DiskMath.Op} (ht : ts[j]? = some 38)
    (hd : ds[j]? = some (.agg [.lit (.int .i64 o.Do), .lit (.int .i64 o.C), .lit (.int .i64 o.File), .lit (.int .i64 o.N), .lit (.string o.S.data.toList)])) : o.S.size ≤ 140737488351232 := by
  have := List.all_eq_true.1 hsz o.S.data.toList.length (DataW.weights_mem_each ht hd _ (by
    rw [DataW.weights, Try.underlying38]
    simp [DataW.weights, DataW.weightsEach]))
  rw [size_data] at this
  exact of_decide_eq_true this
end Go.Proofs.Ytnemnkmogbnjcaa
