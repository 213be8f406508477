/- Scripts of calls that came in, read as data. -/
import Derived.Test.YteadnjagandkfaaArgs
import Derived.Test.YteadnjagandkfaaPairW
set_option linter.unusedVariables false
set_option maxRecDepth 100000
namespace Go.Proofs.Yteadnjagandkfaa
open Go.ChangeShapes Go.WideShapes Go.ChangeAt Go.RowKit

theorem open_op {H : Type} {enc : TypeId × Value → H} {w : World} {base : Nat} {spare : Nat → Bool} {held : Bool} {n : Nat} {cs : List Value} {D : DataW H} {Pl : List MemPlace} (h : DataW.trod enc Try.prog w base spare held n 39 cs = some (D, Pl)) :
    ∃ o : Op, cs = [.int .i64 o.Do, .int .i64 o.Id, .int .i64 o.At] ∧ D = .agg [.lit (.int .i64 o.Do), .lit (.int .i64 o.Id), .lit (.int .i64 o.At)] ∧ OpOk o := by
  obtain ⟨xs, m, rfl, hx, hl, hxl, hf⟩ := DataW.trod_struct Try.underlying39 h
  have hl5 : cs.length = 3 := by rw [hl]; kernel_rfl
  have hx5 : xs.length = 3 := by rw [hxl]; rfl
  have ci : Try.prog.cellsOf 3 = 1 := by kernel_rfl
  obtain ⟨c0, c1, c2, rfl⟩ : ∃ c0 c1 c2, cs = [c0, c1, c2] := by
    match cs, hl5 with
    | [c0, c1, c2], _ => exact ⟨c0, c1, c2, rfl⟩
  obtain ⟨x0, x1, x2, rfl⟩ : ∃ x0 x1 x2, xs = [x0, x1, x2] := by
    match xs, hx5 with
    | [x0, x1, x2], _ => exact ⟨x0, x1, x2, rfl⟩
  have f0 : DataW.trod enc Try.prog w base spare held m 3 (([c0, c1, c2].drop 0).take (Try.prog.cellsOf 3)) = some x0 := hf 0 _ rfl
  have f1 : DataW.trod enc Try.prog w base spare held m 3 (([c0, c1, c2].drop 1).take (Try.prog.cellsOf 3)) = some x1 := hf 1 _ rfl
  have f2 : DataW.trod enc Try.prog w base spare held m 3 (([c0, c1, c2].drop 2).take (Try.prog.cellsOf 3)) = some x2 := hf 2 _ rfl
  rw [ci] at f0 f1 f2
  obtain ⟨n0, e0, rfl, b0⟩ := DataW.trod_int Try.underlying3 f0
  obtain ⟨n1, e1, rfl, b1⟩ := DataW.trod_int Try.underlying3 f1
  obtain ⟨n2, e2, rfl, b2⟩ := DataW.trod_int Try.underlying3 f2
  obtain rfl : c0 = .int .i64 n0 := by simpa using e0
  obtain rfl : c1 = .int .i64 n1 := by simpa using e1
  obtain rfl : c2 = .int .i64 n2 := by simpa using e2
  simp only [Prod.mk.injEq] at hx
  exact ⟨⟨n0, n1, n2⟩, rfl, hx.1, i64_of b0, i64_of b1, i64_of b2⟩

/-- How a script's datum looks. -/
def ODat {H : Type} (d : DataW H) (l : List Op) : Prop := (d = .nil ∧ l = []) ∨ ∃ sp, d = .slice (l.map fun o => .agg [.lit (.int .i64 o.Do), .lit (.int .i64 o.Id), .lit (.int .i64 o.At)]) sp
instance : Inhabited Op := ⟨⟨0, 0, 0⟩⟩
theorem cells_at {w : World} {b off n : Nat} {base : Nat} {cs : List Value} (h : w.cells? base ⟨b, off, none⟩ n = some cs) (j : Nat) (hj : j < n) : w.cell? ⟨b, off + j, none⟩ = cs[j]? := by
  obtain ⟨_, hl, hc⟩ := World.cells?_some h
  have := hc j hj
  rwa [add_plain] at this
theorem open_script {H : Type} {enc : TypeId × Value → H} {W : World} {base : Nat} {v : Value} {d : DataW H} {p : List MemPlace} (hv : Value.okWide Try.prog W .any base 35 v) (h : DataW.Trod enc Try.prog W 0 (fun _ => true) true 35 v d p) :
    ∃ l : List Op, ORow W v l ∧ (∀ o ∈ l, OpOk o) ∧ ODat d l := by
  obtain ⟨a0, len0, cap0, rfl⟩ := okWide_slice Try.underlying35 hv
  obtain ⟨n, hn⟩ := h
  rcases Go.Deep.open_slice Try.underlying35 hn with ⟨hcs, hx⟩ | ⟨a, len, cap, m, n', D, Pl, hcs, _, hl, hm, hmm, hx, hcell⟩
  · simp [Value.cells] at hcs
    obtain ⟨rfl, rfl, rfl⟩ := hcs
    simp only [Prod.mk.injEq] at hx
    exact ⟨[], ⟨none, 0, rfl, Nat.le_refl _, fun _ => rfl, fun j hj => by simp at hj⟩, fun o ho => (by cases ho), Or.inl ⟨hx.1, rfl⟩⟩
  · simp [Value.cells] at hcs
    obtain ⟨rfl, rfl, rfl⟩ := hcs
    simp only [if_true] at hmm
    subst hmm
    simp only [Prod.mk.injEq] at hx
    have ck : Try.prog.cellsOf 39 = 3 := by kernel_rfl
    rw [ck] at hcell
    have each : ∀ i, i < m → ∃ o : Op, W.cells? 0 (a.add (i * 3)) 3 = some [.int .i64 o.Do, .int .i64 o.Id, .int .i64 o.At] ∧ D i = .agg [.lit (.int .i64 o.Do), .lit (.int .i64 o.Id), .lit (.int .i64 o.At)] ∧ OpOk o := fun i hi => by
      obtain ⟨cs', h1, h2⟩ := hcell i hi
      obtain ⟨o, rfl, h4, h5⟩ := open_op h2
      exact ⟨o, h1, h4, h5⟩
    obtain ⟨O, hO⟩ := Go.Deep.choose_lt each
    refine ⟨(List.range len0).map O, ⟨some a, m, by simp, by simpa using hl, fun h => (by cases h), fun j hj => ?_⟩, fun o ho => ?_, Or.inr ⟨(List.range (m - len0)).map fun j => D (len0 + j), ?_⟩⟩
    · simp at hj
      obtain ⟨b, off, spot⟩ := a
      obtain ⟨hc, _, _⟩ := hO j (by omega)
      have hc0 := (hO 0 (by omega)).1
      have hspot : spot = none := by
        obtain ⟨_, _, hcc⟩ := World.cells?_some hc0
        have := hcc 0 (by decide)
        simpa [Addr.add] using World.cell?_spot this
      subst hspot
      rw [add_plain] at hc
      have k0 := cells_at hc 0 (by decide)
      have k1 := cells_at hc 1 (by decide)
      have k2 := cells_at hc 2 (by decide)
      refine ⟨b, off, rfl, block_lt_of_cell k0, ?_, ?_, ?_⟩
      · simpa using k0
      · simpa using k1
      · simpa using k2
    · obtain ⟨i, hi, rfl⟩ := List.mem_map.1 ho
      exact (hO i (by have := List.mem_range.1 hi; omega)).2.2
    · rw [hx.1, List.map_map]
      congr 1
      apply List.map_congr_left
      intro i hi
      exact (hO i (by have := List.mem_range.1 hi; omega)).2.1
theorem script_sized {H : Type} {ts : List TypeId} {ds : List (DataW H)} (hsz : (DataW.weightsEach Try.prog ts ds).all (· ≤ reachBytes) = true) {j : Nat} {d : DataW H} {l : List Op} (ht : ts[j]? = some 35) (hd : ds[j]? = some d)
    (h : ODat d l) : l.length ≤ 5864062014806 := by
  rcases h with ⟨_, rfl⟩ | ⟨sp, rfl⟩
  · simp
  · have := sized_slice hsz ht hd Try.underlying35
    rw [show Try.prog.bytesOf 39 = 24 by kernel_rfl, List.length_map] at this
    have hr : reachBytes = 140737488351232 := rfl
    omega
end Go.Proofs.Yteadnjagandkfaa
