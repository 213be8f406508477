/- The texts IArgs, JArgs, one behind the other. -/
import Derived.Test.YtahkecdlibkokaaDoorArgs
import Derived.Test.YtahkecdlibkokaaDoorScrO
/- Images that came in, read as data. -/
set_option linter.unusedVariables false
set_option maxRecDepth 100000
namespace Go.Proofs.YtahkecdlibkokaaDoor
open Go.ChangeShapes Go.WideShapes Go.ChangeAt Go.RowKit

/-- An image that came in. -/
theorem open_im {H : Type} {enc : TypeId × Value → H} {w : World} {base : Nat} {spare : Nat → Bool} {held : Bool} {n : Nat} {cs : List Value} {D : DataW H} {Pl : List MemPlace} (h : DataW.trod enc Tryd.prog w base spare held n 77 cs = some (D, Pl)) :
    ∃ o : Im, cs = [.string o.Safe, .string o.More] ∧ D = .agg [.lit (.string o.Safe.data.toList), .lit (.string o.More.data.toList)] := by
  obtain ⟨xs, m, rfl, hx, hl, hxl, hf⟩ := DataW.trod_struct Tryd.underlying77 h
  have hl2 : cs.length = 2 := by rw [hl]; kernel_rfl
  have hx2 : xs.length = 2 := by rw [hxl]; rfl
  have cs' : Tryd.prog.cellsOf 9 = 1 := by kernel_rfl
  obtain ⟨c0, c1, rfl⟩ : ∃ c0 c1, cs = [c0, c1] := by
    match cs, hl2 with
    | [c0, c1], _ => exact ⟨c0, c1, rfl⟩
  obtain ⟨x0, x1, rfl⟩ : ∃ x0 x1, xs = [x0, x1] := by
    match xs, hx2 with
    | [x0, x1], _ => exact ⟨x0, x1, rfl⟩
  have f0 : DataW.trod enc Tryd.prog w base spare held m 9 (([c0, c1].drop 0).take (Tryd.prog.cellsOf 9)) = some x0 := hf 0 _ rfl
  have f1 : DataW.trod enc Tryd.prog w base spare held m 9 (([c0, c1].drop 1).take (Tryd.prog.cellsOf 9)) = some x1 := hf 1 _ rfl
  rw [cs'] at f0 f1
  obtain ⟨s0, e0, rfl, b0⟩ := DataW.trod_string Tryd.underlying9 f0
  obtain ⟨s1, e1, rfl, b1⟩ := DataW.trod_string Tryd.underlying9 f1
  obtain rfl : c0 = .string s0 := by simpa using e0
  obtain rfl : c1 = .string s1 := by simpa using e1
  simp only [Prod.mk.injEq] at hx
  exact ⟨⟨s0, s1⟩, rfl, hx.1⟩
def IDat {H : Type} (d : DataW H) (l : List Im) : Prop := (d = .nil ∧ l = []) ∨ ∃ sp, d = .slice (l.map fun o => .agg [.lit (.string o.Safe.data.toList), .lit (.string o.More.data.toList)]) sp
instance : Inhabited Im := ⟨⟨⟨#[]⟩, ⟨#[]⟩⟩⟩
theorem open_images {H : Type} {enc : TypeId × Value → H} {W : World} {base : Nat} {v : Value} {d : DataW H} {p : List MemPlace} (hv : Value.okWide Tryd.prog W .any base 38 v) (h : DataW.Trod enc Tryd.prog W 0 (fun _ => true) true 38 v d p) :
    ∃ l : List Im, IRow W v l ∧ IDat d l := by
  obtain ⟨a0, len0, cap0, rfl⟩ := okWide_slice Tryd.underlying38 hv
  obtain ⟨n, hn⟩ := h
  rcases Go.Deep.open_slice Tryd.underlying38 hn with ⟨hcs, hx⟩ | ⟨a, len, cap, m, n', D, Pl, hcs, _, hl, hm, hmm, hx, hcell⟩
  · simp [Value.cells] at hcs
    obtain ⟨rfl, rfl, rfl⟩ := hcs
    simp only [Prod.mk.injEq] at hx
    exact ⟨[], ⟨none, 0, rfl, fun j hj => by simp at hj⟩, Or.inl ⟨hx.1, rfl⟩⟩
  · simp [Value.cells] at hcs
    obtain ⟨rfl, rfl, rfl⟩ := hcs
    simp only [if_true] at hmm
    subst hmm
    simp only [Prod.mk.injEq] at hx
    have ck : Tryd.prog.cellsOf 77 = 2 := by kernel_rfl
    rw [ck] at hcell
    have each : ∀ i, i < m → ∃ o : Im, W.cells? 0 (a.add (i * 2)) 2 = some [.string o.Safe, .string o.More] ∧ D i = .agg [.lit (.string o.Safe.data.toList), .lit (.string o.More.data.toList)] := fun i hi => by
      obtain ⟨cs', h1, h2⟩ := hcell i hi
      obtain ⟨o, rfl, h4⟩ := open_im h2
      exact ⟨o, h1, h4⟩
    obtain ⟨O, hO⟩ := Go.Deep.choose_lt each
    refine ⟨(List.range len0).map O, ⟨some a, m, by simp, fun j hj => ?_⟩, Or.inr ⟨(List.range (m - len0)).map fun j => D (len0 + j), ?_⟩⟩
    · simp at hj
      obtain ⟨b, off, spot⟩ := a
      obtain ⟨hc, _⟩ := hO j (by omega)
      have hc0 := (hO 0 (by omega)).1
      have hspot : spot = none := by
        obtain ⟨_, _, hcc⟩ := World.cells?_some hc0
        have := hcc 0 (by decide)
        simpa [Addr.add] using World.cell?_spot this
      subst hspot
      rw [add_plain] at hc
      have k0 := cells_at hc 0 (by decide)
      have k1 := cells_at hc 1 (by decide)
      refine ⟨b, off, rfl, block_lt_of_cell k0, ?_, ?_⟩
      · simpa using k0
      · simpa using k1
    · rw [hx.1, List.map_map]
      congr 1
      apply List.map_congr_left
      intro i hi
      exact (hO i (by have := List.mem_range.1 hi; omega)).2
theorem images_sized {H : Type} {ts : List TypeId} {ds : List (DataW H)} (hsz : (DataW.weightsEach Tryd.prog ts ds).all (· ≤ reachBytes) = true) {j : Nat} {d : DataW H} {l : List Im} (ht : ts[j]? = some 38) (hd : ds[j]? = some d)
    (h : IDat d l) : l.length ≤ 140737488355328 ∧ ∀ o ∈ l, o.Safe.size ≤ 140737488351232 ∧ o.More.size ≤ 140737488351232 := by
  rcases h with ⟨_, rfl⟩ | ⟨sp, rfl⟩
  · exact ⟨by simp, fun s hs => by cases hs⟩
  · refine ⟨?_, fun o ho => ⟨?_, ?_⟩⟩
    · have := sized_slice hsz ht hd Tryd.underlying38
      rw [show Tryd.prog.bytesOf 77 = 32 by kernel_rfl, List.length_map] at this
      have hr : reachBytes = 140737488351232 := rfl
      omega
    · have := List.all_eq_true.1 hsz o.Safe.data.toList.length (DataW.weights_mem_each ht hd _ (by
        rw [DataW.weights, Tryd.underlying38]
        refine List.mem_cons_of_mem _ (List.mem_append_left _ (mem_weightsAll (List.mem_map.2 ⟨o, ho, rfl⟩) ?_))
        rw [DataW.weights, Tryd.underlying77]
        simp [DataW.weights, DataW.weightsEach]))
      rw [size_data] at this
      exact of_decide_eq_true this
    · have := List.all_eq_true.1 hsz o.More.data.toList.length (DataW.weights_mem_each ht hd _ (by
        rw [DataW.weights, Tryd.underlying38]
        refine List.mem_cons_of_mem _ (List.mem_append_left _ (mem_weightsAll (List.mem_map.2 ⟨o, ho, rfl⟩) ?_))
        rw [DataW.weights, Tryd.underlying77]
        simp [DataW.weights, DataW.weightsEach]))
      rw [size_data] at this
      exact of_decide_eq_true this
end Go.Proofs.YtahkecdlibkokaaDoor

/- Scripts that came in, read as data. -/
set_option linter.unusedVariables false
set_option maxRecDepth 100000
namespace Go.Proofs.YtahkecdlibkokaaDoor
open Go.ChangeShapes Go.WideShapes Go.ChangeAt Go.RowKit

theorem open_op {H : Type} {enc : TypeId × Value → H} {w : World} {base : Nat} {spare : Nat → Bool} {held : Bool} {n : Nat} {cs : List Value} {D : DataW H} {Pl : List MemPlace} (h : DataW.trod enc Tryd.prog w base spare held n 36 cs = some (D, Pl)) :
    ∃ o : JOp, cs = [.int .i64 o.Do, .int .i64 o.N, .string o.S] ∧ D = .agg [.lit (.int .i64 o.Do), .lit (.int .i64 o.N), .lit (.string o.S.data.toList)] ∧
      (-9223372036854775808 ≤ o.Do ∧ o.Do ≤ 9223372036854775807) ∧ (-9223372036854775808 ≤ o.N ∧ o.N ≤ 9223372036854775807) := by
  obtain ⟨xs, m, rfl, hx, hl, hxl, hf⟩ := DataW.trod_struct Tryd.underlying36 h
  have hl3 : cs.length = 3 := by rw [hl]; kernel_rfl
  have hx3 : xs.length = 3 := by rw [hxl]; rfl
  have ci : Tryd.prog.cellsOf 3 = 1 := by kernel_rfl
  have cs' : Tryd.prog.cellsOf 9 = 1 := by kernel_rfl
  obtain ⟨c0, c1, c2, rfl⟩ : ∃ c0 c1 c2, cs = [c0, c1, c2] := by
    match cs, hl3 with
    | [c0, c1, c2], _ => exact ⟨c0, c1, c2, rfl⟩
  obtain ⟨x0, x1, x2, rfl⟩ : ∃ x0 x1 x2, xs = [x0, x1, x2] := by
    match xs, hx3 with
    | [x0, x1, x2], _ => exact ⟨x0, x1, x2, rfl⟩
  have f0 : DataW.trod enc Tryd.prog w base spare held m 3 (([c0, c1, c2].drop 0).take (Tryd.prog.cellsOf 3)) = some x0 := hf 0 _ rfl
  have f1 : DataW.trod enc Tryd.prog w base spare held m 3 (([c0, c1, c2].drop 1).take (Tryd.prog.cellsOf 3)) = some x1 := hf 1 _ rfl
  have f2 : DataW.trod enc Tryd.prog w base spare held m 9 (([c0, c1, c2].drop 2).take (Tryd.prog.cellsOf 9)) = some x2 := hf 2 _ rfl
  rw [ci] at f0 f1
  rw [cs'] at f2
  obtain ⟨n0, e0, rfl, b0⟩ := DataW.trod_int Tryd.underlying3 f0
  obtain ⟨n1, e1, rfl, b1⟩ := DataW.trod_int Tryd.underlying3 f1
  obtain ⟨s2, e2, rfl, b2⟩ := DataW.trod_string Tryd.underlying9 f2
  obtain rfl : c0 = .int .i64 n0 := by simpa using e0
  obtain rfl : c1 = .int .i64 n1 := by simpa using e1
  obtain rfl : c2 = .string s2 := by simpa using e2
  simp only [Prod.mk.injEq] at hx
  exact ⟨⟨n0, n1, s2⟩, rfl, hx.1, bounds_i64 b0, bounds_i64 b1⟩

/-- How a script's datum looks. -/
def ODat {H : Type} (d : DataW H) (l : List JOp) : Prop := (d = .nil ∧ l = []) ∨ ∃ sp, d = .slice (l.map fun o => .agg [.lit (.int .i64 o.Do), .lit (.int .i64 o.N), .lit (.string o.S.data.toList)]) sp
def ORng (o : JOp) : Prop := (-9223372036854775808 ≤ o.Do ∧ o.Do ≤ 9223372036854775807) ∧ (-9223372036854775808 ≤ o.N ∧ o.N ≤ 9223372036854775807)
instance : Inhabited JOp := ⟨⟨0, 0, ⟨#[]⟩⟩⟩
theorem open_script {H : Type} {enc : TypeId × Value → H} {W : World} {base : Nat} {v : Value} {d : DataW H} {p : List MemPlace} (hv : Value.okWide Tryd.prog W .any base 22 v) (h : DataW.Trod enc Tryd.prog W 0 (fun _ => true) true 22 v d p) :
    ∃ l : List JOp, ORow W v l ∧ (∀ o ∈ l, ORng o) ∧ ODat d l := by
  obtain ⟨a0, len0, cap0, rfl⟩ := okWide_slice Tryd.underlying22 hv
  obtain ⟨n, hn⟩ := h
  rcases Go.Deep.open_slice Tryd.underlying22 hn with ⟨hcs, hx⟩ | ⟨a, len, cap, m, n', D, Pl, hcs, _, hl, hm, hmm, hx, hcell⟩
  · simp [Value.cells] at hcs
    obtain ⟨rfl, rfl, rfl⟩ := hcs
    simp only [Prod.mk.injEq] at hx
    exact ⟨[], ⟨none, 0, rfl, fun j hj => by simp at hj⟩, fun o ho => (by cases ho), Or.inl ⟨hx.1, rfl⟩⟩
  · simp [Value.cells] at hcs
    obtain ⟨rfl, rfl, rfl⟩ := hcs
    simp only [if_true] at hmm
    subst hmm
    simp only [Prod.mk.injEq] at hx
    have ck : Tryd.prog.cellsOf 36 = 3 := by kernel_rfl
    rw [ck] at hcell
    have each : ∀ i, i < m → ∃ o : JOp, W.cells? 0 (a.add (i * 3)) 3 = some [.int .i64 o.Do, .int .i64 o.N, .string o.S] ∧ D i = .agg [.lit (.int .i64 o.Do), .lit (.int .i64 o.N), .lit (.string o.S.data.toList)] ∧ ORng o := fun i hi => by
      obtain ⟨cs', h1, h2⟩ := hcell i hi
      obtain ⟨o, rfl, h4, h5⟩ := open_op h2
      exact ⟨o, h1, h4, h5⟩
    obtain ⟨O, hO⟩ := Go.Deep.choose_lt each
    refine ⟨(List.range len0).map O, ⟨some a, m, by simp, fun j hj => ?_⟩, fun o ho => ?_, Or.inr ⟨(List.range (m - len0)).map fun j => D (len0 + j), ?_⟩⟩
    · simp at hj
      obtain ⟨b, off, spot⟩ := a
      obtain ⟨hc, _, _⟩ := hO j (by omega)
      have hc0 := (hO 0 (by omega)).1
      have hspot : spot = none := by
        obtain ⟨_, _, hcc⟩ := World.cells?_some hc0
        have := hcc 0 (by decide)
        simpa [Addr.add] using World.cell?_spot this
      subst hspot
      rw [add_plain] at hc
      have k0 := cells_at hc 0 (by decide)
      have k1 := cells_at hc 1 (by decide)
      have k2 := cells_at hc 2 (by decide)
      refine ⟨b, off, rfl, block_lt_of_cell k0, ?_, ?_, ?_⟩
      · simpa using k0
      · simpa using k1
      · simpa using k2
    · obtain ⟨i, hi, rfl⟩ := List.mem_map.1 ho
      exact (hO i (by have := List.mem_range.1 hi; omega)).2.2
    · rw [hx.1, List.map_map]
      congr 1
      apply List.map_congr_left
      intro i hi
      exact (hO i (by have := List.mem_range.1 hi; omega)).2.1

theorem script_sized {H : Type} {ts : List TypeId} {ds : List (DataW H)} (hsz : (DataW.weightsEach Tryd.prog ts ds).all (· ≤ reachBytes) = true) {j : Nat} {d : DataW H} {l : List JOp} (ht : ts[j]? = some 22) (hd : ds[j]? = some d)
    (h : ODat d l) : l.length ≤ 140737488355328 ∧ ∀ o ∈ l, o.S.size ≤ 140737488351232 := by
  rcases h with ⟨_, rfl⟩ | ⟨sp, rfl⟩
  · exact ⟨by simp, fun s hs => by cases hs⟩
  · refine ⟨?_, fun o ho => ?_⟩
    · have := sized_slice hsz ht hd Tryd.underlying22
      rw [show Tryd.prog.bytesOf 36 = 32 by kernel_rfl, List.length_map] at this
      have hr : reachBytes = 140737488351232 := rfl
      omega
    · have := List.all_eq_true.1 hsz o.S.data.toList.length (DataW.weights_mem_each ht hd _ (by
        rw [DataW.weights, Tryd.underlying22]
        refine List.mem_cons_of_mem _ (List.mem_append_left _ (mem_weightsAll (List.mem_map.2 ⟨o, ho, rfl⟩) ?_))
        rw [DataW.weights, Tryd.underlying36]
        simp [DataW.weights, DataW.weightsEach]))
      rw [size_data] at this
      exact of_decide_eq_true this
theorem ops_ok {l : List JOp} (h1 : ∀ o ∈ l, ORng o) (h2 : ∀ o ∈ l, o.S.size ≤ 140737488351232) : ∀ o ∈ l, OpOk o := fun o ho => ⟨(h1 o ho).1, (h1 o ho).2, h2 o ho⟩

end Go.Proofs.YtahkecdlibkokaaDoor
