/- What the rows share: the settled world; a definition that came in, read as data. -/
import Derived.Test.YtaeakednekbekaaDoorRows
import Derived.Test.YtaeakednekbekaaDoorCBase
import Derived.ProofKit
import Derived.OpenShut
import Derived.Below
import Derived.SizedLaws
import Derived.WideKeyArgs
import Derived.Deep.DeepHandedRow
import Derived.Deep.Strs
import Derived.LaidLaws
set_option linter.unusedVariables false
namespace Go.Proofs.YtaeakednekbekaaDoor
open Go.ChangeShapes Go.WideShapes Go.ChangeAt Go.RowKit CheckMath

instance : Inhabited StepD := ⟨⟨ByteArray.empty, 0, 0, [], []⟩⟩
theorem Tryd.laidOut : laidOutB Tryd.prog = true := by kernel_rfl
theorem keyAt_map (f : Nat → ByteArray) (n j : Nat) (h : j < n) : keyAt ((List.range n).map f) j = f j := by simp [keyAt, List.getD, h]
theorem needAt_map (f : Nat → Int) (n j : Nat) (h : j < n) : needAt ((List.range n).map f) j = f j := by simp [needAt, List.getD, h]
theorem nth_map (f : Nat → StepD) (n j : Nat) (h : j < n) : nth ((List.range n).map f) j = f j := by simp [nth, List.getD, h]
/-- How the data of lists look. -/
def KDat {H : Type} (d : DataW H) (l : List ByteArray) : Prop := (d = .nil ∧ l = []) ∨ ∃ sp, d = .slice (l.map fun s => .lit (.string s.data.toList)) sp
def IDat {H : Type} (d : DataW H) (l : List Int) : Prop := (d = .nil ∧ l = []) ∨ ∃ sp, d = .slice (l.map fun n => .lit (.int .i64 n)) sp
/-- The rows without what is known of their sizes. -/
def KRow0 (w : World) (v : Value) (xs : List ByteArray) : Prop := ∃ ao cap, v = .slice ao xs.length cap ∧ xs.length ≤ cap ∧ (ao = none → cap = 0) ∧
  ∀ j, j < xs.length → ∃ g o, ao = some ⟨g, o, none⟩ ∧ g < w.heap.size ∧ w.cell? ⟨g, o + j, none⟩ = some (.string (keyAt xs j))
def IRow0 (w : World) (v : Value) (xs : List Int) : Prop := ∃ ao cap, v = .slice ao xs.length cap ∧ xs.length ≤ cap ∧ (ao = none → cap = 0) ∧
  ∀ j, j < xs.length → ∃ g o, ao = some ⟨g, o, none⟩ ∧ g < w.heap.size ∧ w.cell? ⟨g, o + j, none⟩ = some (.int .i64 (needAt xs j))
theorem i64_ok {n : Int} (h : (Lit.int .i64 n).wf = true) : -9223372036854775808 ≤ n ∧ n ≤ 9223372036854775807 := by
  simpa [Lit.wf, IntKind.min, IntKind.max, IntKind.bits, IntKind.signed] using h

section
variable {H : Type} {enc : TypeId × Value → H} {w : World} {n : Nat}
theorem open_keys {cs : List Value} {x : DataW H × List MemPlace} (h : DataW.trod enc Tryd.prog w 0 (fun _ => true) true n 42 cs = some x) : ∃ kv l, cs = [kv] ∧ KRow0 w kv l ∧ KDat x.1 l := by
  rcases Go.Deep.open_strs Tryd.underlying42 Tryd.underlying9 (by kernel_rfl) h with ⟨hcs, hx⟩ | ⟨a, len, cap, m, Sx, hcs, _, hl, hm, hmm, hx, hcell⟩
  · exact ⟨_, [], hcs, ⟨none, 0, rfl, Nat.le_refl _, fun _ => rfl, fun j hj => by simp at hj⟩, Or.inl ⟨by rw [hx], rfl⟩⟩
  · simp only [if_true] at hmm
    subst hmm
    refine ⟨_, (List.range len).map Sx, hcs, ⟨some a, m, by simp, by simpa using hl, fun h => (by cases h), fun j hj => ?_⟩, Or.inr ⟨_, by rw [hx, List.map_map]; rfl⟩⟩
    simp at hj
    obtain ⟨b, off, spot⟩ := a
    have hspot : spot = none := by simpa [Addr.add] using World.cell?_spot (hcell 0 (by omega)).1
    subst hspot
    have := (hcell j (by omega)).1
    rw [add_plain] at this
    refine ⟨b, off, rfl, block_lt_of_cell this, ?_⟩
    rw [this, keyAt_map _ _ _ hj]
theorem open_needs {cs : List Value} {x : DataW H × List MemPlace} (h : DataW.trod enc Tryd.prog w 0 (fun _ => true) true n 32 cs = some x) : ∃ nv l, cs = [nv] ∧ IRow0 w nv l ∧ IDat x.1 l := by
  have ci : Tryd.prog.cellsOf 3 = 1 := by kernel_rfl
  rcases Go.Deep.open_slice Tryd.underlying32 h with ⟨hcs, hx⟩ | ⟨a, len, cap, m, n', D, Pl, hcs, _, hl, hm, hmm, hx, hcell⟩
  · exact ⟨_, [], hcs, ⟨none, 0, rfl, Nat.le_refl _, fun _ => rfl, fun j hj => by simp at hj⟩, Or.inl ⟨by rw [hx], rfl⟩⟩
  · simp only [if_true] at hmm
    subst hmm
    rw [ci] at hcell
    have each : ∀ i, i < m → ∃ v : Int, w.cell? (a.add i) = some (.int .i64 v) ∧ D i = .lit (.int .i64 v) := fun i hi => by
      obtain ⟨cs', h1, h2⟩ := hcell i hi
      obtain ⟨v, e1, e2, _⟩ := DataW.trod_int Tryd.underlying3 h2
      simp only [Prod.mk.injEq] at e2
      refine ⟨v, ?_, e2.1⟩
      obtain ⟨_, _, hc⟩ := World.cells?_some h1
      have := hc 0 (by decide)
      rw [e1, Nat.mul_one] at this
      simpa [Addr.add] using this
    obtain ⟨V, hV⟩ := Go.Deep.choose_lt each
    refine ⟨_, (List.range len).map V, hcs, ⟨some a, m, by simp, by simpa using hl, fun h => (by cases h), fun j hj => ?_⟩, Or.inr ⟨(List.range (m - len)).map fun j => D (len + j), ?_⟩⟩
    · simp at hj
      obtain ⟨b, off, spot⟩ := a
      have hspot : spot = none := by simpa [Addr.add] using World.cell?_spot (hV 0 (by omega)).1
      subst hspot
      have := (hV j (by omega)).1
      rw [add_plain] at this
      refine ⟨b, off, rfl, block_lt_of_cell this, ?_⟩
      rw [this, needAt_map _ _ _ hj]
    · rw [hx, List.map_map]
      show DataW.slice _ _ = _
      congr 1
      apply List.map_congr_left
      intro i hi
      exact (hV i (by have := List.mem_range.1 hi; omega)).2
/-- A step's cells and its data. -/
def StDat (d : DataW H) (s : StepD) : Prop := ∃ dk dn, d = .agg [.lit (.string s.name.data.toList), .lit (.int .i64 s.kind), .lit (.int .i64 s.part), dk, dn] ∧ KDat dk s.keys ∧ IDat dn s.needs
theorem open_step {cs : List Value} {x : DataW H × List MemPlace} (h : DataW.trod enc Tryd.prog w 0 (fun _ => true) true n 44 cs = some x) :
    ∃ (s : StepD) (kv nv : Value), cs = [.string s.name, .int .i64 s.kind, .int .i64 s.part, kv, nv] ∧ KRow0 w kv s.keys ∧ IRow0 w nv s.needs ∧ StDat x.1 s := by
  obtain ⟨xs, m, rfl, hx, hl, hxl, hf⟩ := DataW.trod_struct Tryd.underlying44 h
  have hl5 : cs.length = 5 := by rw [hl]; kernel_rfl
  have hx5 : xs.length = 5 := by rw [hxl]; rfl
  have ci : Tryd.prog.cellsOf 3 = 1 := by kernel_rfl
  have cs1 : Tryd.prog.cellsOf 9 = 1 := by kernel_rfl
  have ck : Tryd.prog.cellsOf 42 = 1 := by kernel_rfl
  have cn : Tryd.prog.cellsOf 32 = 1 := by kernel_rfl
  obtain ⟨c0, c1, c2, c3, c4, rfl⟩ : ∃ c0 c1 c2 c3 c4, cs = [c0, c1, c2, c3, c4] := by
    match cs, hl5 with
    | [c0, c1, c2, c3, c4], _ => exact ⟨c0, c1, c2, c3, c4, rfl⟩
  obtain ⟨x0, x1, x2, x3, x4, rfl⟩ : ∃ x0 x1 x2 x3 x4, xs = [x0, x1, x2, x3, x4] := by
    match xs, hx5 with
    | [x0, x1, x2, x3, x4], _ => exact ⟨x0, x1, x2, x3, x4, rfl⟩
  have f0 : DataW.trod enc Tryd.prog w 0 (fun _ => true) true m 9 (([c0, c1, c2, c3, c4].drop 0).take (Tryd.prog.cellsOf 9)) = some x0 := hf 0 _ rfl
  have f1 : DataW.trod enc Tryd.prog w 0 (fun _ => true) true m 3 (([c0, c1, c2, c3, c4].drop 1).take (Tryd.prog.cellsOf 3)) = some x1 := hf 1 _ rfl
  have f2 : DataW.trod enc Tryd.prog w 0 (fun _ => true) true m 3 (([c0, c1, c2, c3, c4].drop 2).take (Tryd.prog.cellsOf 3)) = some x2 := hf 2 _ rfl
  have f3 : DataW.trod enc Tryd.prog w 0 (fun _ => true) true m 42 (([c0, c1, c2, c3, c4].drop 3).take (Tryd.prog.cellsOf 42)) = some x3 := hf 3 _ rfl
  have f4 : DataW.trod enc Tryd.prog w 0 (fun _ => true) true m 32 (([c0, c1, c2, c3, c4].drop 4).take (Tryd.prog.cellsOf 32)) = some x4 := hf 4 _ rfl
  rw [cs1] at f0
  rw [ci] at f1 f2
  rw [ck] at f3
  rw [cn] at f4
  obtain ⟨n0, e0, rfl, b0⟩ := DataW.trod_string Tryd.underlying9 f0
  obtain ⟨n1, e1, rfl, b1⟩ := DataW.trod_int Tryd.underlying3 f1
  obtain ⟨n2, e2, rfl, b2⟩ := DataW.trod_int Tryd.underlying3 f2
  obtain ⟨kv, kl, e3, hk, dk⟩ := open_keys f3
  obtain ⟨nv, nl, e4, hn, dn⟩ := open_needs f4
  obtain rfl : c0 = .string n0 := by simpa using e0
  obtain rfl : c1 = .int .i64 n1 := by simpa using e1
  obtain rfl : c2 = .int .i64 n2 := by simpa using e2
  obtain rfl : c3 = kv := by simpa using e3
  obtain rfl : c4 = nv := by simpa using e4
  exact ⟨⟨n0, n1, n2, kl, nl⟩, c3, c4, rfl, hk, hn, x3.1, x4.1, by rw [hx]; rfl, dk, dn⟩
theorem cells_at {b off k base : Nat} {cs : List Value} (h : w.cells? base ⟨b, off, none⟩ k = some cs) (j : Nat) (hj : j < k) : w.cell? ⟨b, off + j, none⟩ = cs[j]? := by
  obtain ⟨_, hl, hc⟩ := World.cells?_some h
  have := hc j hj
  rwa [add_plain] at this
/-- The steps' row, and its data. -/
def DRow0 (w : World) (v : Value) (ss : List StepD) : Prop := ∃ ao cap, v = .slice ao ss.length cap ∧ ss.length ≤ cap ∧ (ao = none → cap = 0) ∧
  ∀ j, j < ss.length → ∃ g o, ao = some ⟨g, o, none⟩ ∧ g < w.heap.size ∧ w.cell? ⟨g, o + j * 5, none⟩ = some (.string (nth ss j).name) ∧ w.cell? ⟨g, o + j * 5 + 1, none⟩ = some (.int .i64 (nth ss j).kind) ∧ w.cell? ⟨g, o + j * 5 + 2, none⟩ = some (.int .i64 (nth ss j).part) ∧
    ∃ kv nv, w.cell? ⟨g, o + j * 5 + 3, none⟩ = some kv ∧ w.cell? ⟨g, o + j * 5 + 4, none⟩ = some nv ∧ KRow0 w kv (nth ss j).keys ∧ IRow0 w nv (nth ss j).needs
def SDat (d : DataW H) (ss : List StepD) : Prop := (d = .nil ∧ ss = []) ∨ ∃ ds sp, d = .slice ds sp ∧ ds.length = ss.length ∧ ∀ j, j < ss.length → ∃ e, ds[j]? = some e ∧ StDat e (nth ss j)
theorem open_steps {cs : List Value} {x : DataW H × List MemPlace} (h : DataW.trod enc Tryd.prog w 0 (fun _ => true) true n 22 cs = some x) : ∃ sv ss, cs = [sv] ∧ DRow0 w sv ss ∧ SDat x.1 ss := by
  have ck : Tryd.prog.cellsOf 44 = 5 := by kernel_rfl
  rcases Go.Deep.open_slice Tryd.underlying22 h with ⟨hcs, hx⟩ | ⟨a, len, cap, m, n', D, Pl, hcs, _, hl, hm, hmm, hx, hcell⟩
  · exact ⟨_, [], hcs, ⟨none, 0, rfl, Nat.le_refl _, fun _ => rfl, fun j hj => by simp at hj⟩, Or.inl ⟨by rw [hx], rfl⟩⟩
  · simp only [if_true] at hmm
    subst hmm
    rw [ck] at hcell
    have each : ∀ i, i < m → ∃ q : StepD × Value × Value, w.cells? 0 (a.add (i * 5)) 5 = some [.string q.1.name, .int .i64 q.1.kind, .int .i64 q.1.part, q.2.1, q.2.2] ∧ KRow0 w q.2.1 q.1.keys ∧ IRow0 w q.2.2 q.1.needs ∧ StDat (D i) q.1 := fun i hi => by
      obtain ⟨cs', h1, h2⟩ := hcell i hi
      obtain ⟨s, kv, nv, rfl, h3, h4, h5⟩ := open_step h2
      exact ⟨⟨s, kv, nv⟩, h1, h3, h4, h5⟩
    obtain ⟨V, hV⟩ := Go.Deep.choose_lt each
    refine ⟨_, (List.range len).map fun i => (V i).1, hcs, ⟨some a, m, by simp, by simpa using hl, fun h => (by cases h), fun j hj => ?_⟩, Or.inr ⟨(List.range len).map D, (List.range (m - len)).map fun j => D (len + j), by rw [hx], by simp, fun j hj => ?_⟩⟩
    · simp at hj
      obtain ⟨b, off, spot⟩ := a
      have hspot : spot = none := by
        obtain ⟨_, _, hcc⟩ := World.cells?_some (hV 0 (by omega)).1
        have := hcc 0 (by decide)
        simpa [Addr.add] using World.cell?_spot this
      subst hspot
      obtain ⟨hc, hk, hn, _⟩ := hV j (by omega)
      rw [add_plain] at hc
      have k0 := cells_at hc 0 (by decide)
      rw [nth_map _ _ _ hj]
      exact ⟨b, off, rfl, block_lt_of_cell k0, by simpa using k0, by simpa using cells_at hc 1 (by decide), by simpa using cells_at hc 2 (by decide), _, _, by simpa using cells_at hc 3 (by decide), by simpa using cells_at hc 4 (by decide), hk, hn⟩
    · simp at hj
      rw [nth_map _ _ _ hj]
      exact ⟨D j, by simp [hj], (hV j (by omega)).2.2.2⟩
theorem open_def {v : Value} {d : DataW H} {p : List MemPlace} (h : DataW.Trod enc Tryd.prog w 0 (fun _ => true) true 24 v d p) : ∃ (D : DefD) (sv : Value), v.cells.toList = [.string D.name, sv] ∧ DRow0 w sv D.steps ∧ ∃ sd, d = .agg [.lit (.string D.name.data.toList), sd] ∧ SDat sd D.steps := by
  obtain ⟨n, h⟩ := h
  obtain ⟨xs, m, rfl, hx, hl, hxl, hf⟩ := DataW.trod_struct Tryd.underlying24 h
  have hl5 : v.cells.toList.length = 2 := by rw [hl]; kernel_rfl
  have hx5 : xs.length = 2 := by rw [hxl]; rfl
  have cs1 : Tryd.prog.cellsOf 9 = 1 := by kernel_rfl
  have ck : Tryd.prog.cellsOf 22 = 1 := by kernel_rfl
  generalize v.cells.toList = cs at *
  obtain ⟨c0, c1, rfl⟩ : ∃ c0 c1, cs = [c0, c1] := by
    match cs, hl5 with
    | [c0, c1], _ => exact ⟨c0, c1, rfl⟩
  obtain ⟨x0, x1, rfl⟩ : ∃ x0 x1, xs = [x0, x1] := by
    match xs, hx5 with
    | [x0, x1], _ => exact ⟨x0, x1, rfl⟩
  have f0 : DataW.trod enc Tryd.prog w 0 (fun _ => true) true m 9 (([c0, c1].drop 0).take (Tryd.prog.cellsOf 9)) = some x0 := hf 0 _ rfl
  have f1 : DataW.trod enc Tryd.prog w 0 (fun _ => true) true m 22 (([c0, c1].drop 1).take (Tryd.prog.cellsOf 22)) = some x1 := hf 1 _ rfl
  rw [cs1] at f0
  rw [ck] at f1
  obtain ⟨n0, e0, rfl, b0⟩ := DataW.trod_string Tryd.underlying9 f0
  obtain ⟨sv, ss, e1, hs, ds⟩ := open_steps f1
  obtain rfl : c0 = .string n0 := by simpa using e0
  obtain rfl : c1 = sv := by simpa using e1
  refine ⟨⟨n0, ss⟩, c1, rfl, hs, x1.1, ?_, ds⟩
  simp only [Prod.mk.injEq] at hx
  rw [hx.1]
  rfl

theorem weightsAll_mem {P : Program} {e : TypeId} {n : Nat} : ∀ {ds : List (DataW H)} {d : DataW H}, d ∈ ds → n ∈ d.weights P e → n ∈ DataW.weightsAll P e ds
  | x :: ds, d, h, hn => by
    simp only [DataW.weightsAll, List.mem_append]
    rcases List.mem_cons.1 h with rfl | h
    · exact Or.inl hn
    · exact Or.inr (weightsAll_mem h hn)
theorem keys_sized {v : Value} {l : List ByteArray} {d : DataW H} (hs : ∀ n ∈ d.weights Tryd.prog 42, n ≤ reachBytes) (hd : KDat d l) (h : KRow0 w v l) : KRow w v l := by
  obtain ⟨ao, cap, h1, h2, h3, h4⟩ := h
  have hr : reachBytes = 140737488351232 := rfl
  refine ⟨ao, cap, h1, h2, h3, ?_, h4⟩
  rcases hd with ⟨_, rfl⟩ | ⟨sp, rfl⟩
  · exact ⟨by simp, fun x hx => by cases hx⟩
  · simp only [DataW.weights, Tryd.underlying42, List.mem_cons, List.mem_append] at hs
    refine ⟨?_, fun x hx => ?_⟩
    · have := hs _ (Or.inl rfl)
      rw [show Tryd.prog.bytesOf 9 = 16 by kernel_rfl, List.length_map] at this
      omega
    · have := hs x.data.toList.length (Or.inr (Or.inl (weightsAll_mem (List.mem_map.2 ⟨x, hx, rfl⟩) (by simp [DataW.weights]))))
      have e : x.data.toList.length = x.size := Array.length_toList
      omega
theorem needs_sized {v : Value} {l : List Int} {d : DataW H} (hs : ∀ n ∈ d.weights Tryd.prog 32, n ≤ reachBytes) (hd : IDat d l) (h : IRow0 w v l) : IRow w v l := by
  obtain ⟨ao, cap, h1, h2, h3, h4⟩ := h
  have hr : reachBytes = 140737488351232 := rfl
  refine ⟨ao, cap, h1, h2, h3, ?_, h4⟩
  rcases hd with ⟨_, rfl⟩ | ⟨sp, rfl⟩
  · simp
  · simp only [DataW.weights, Tryd.underlying32, List.mem_cons, List.mem_append] at hs
    have := hs _ (Or.inl rfl)
    rw [show Tryd.prog.bytesOf 3 = 8 by kernel_rfl, List.length_map] at this
    omega
theorem steps_sized {v : Value} {ss : List StepD} {d : DataW H} (hs : ∀ n ∈ d.weights Tryd.prog 22, n ≤ reachBytes) (hd : SDat d ss) (h : DRow0 w v ss) : DRow w v ss ∧ ss.length * 80 ≤ 140737488351232 := by
  obtain ⟨ao, cap, h1, h2, h3, h4⟩ := h
  have hr : reachBytes = 140737488351232 := rfl
  rcases hd with ⟨_, rfl⟩ | ⟨ds, sp, rfl, hl, hds⟩
  · exact ⟨⟨ao, cap, h1, h2, h3, by simp, fun j hj => by simp at hj⟩, by simp⟩
  · simp only [DataW.weights, Tryd.underlying22, List.mem_cons, List.mem_append] at hs
    have h80 := hs _ (Or.inl rfl)
    rw [show Tryd.prog.bytesOf 44 = 80 by kernel_rfl, hl] at h80
    refine ⟨⟨ao, cap, h1, h2, h3, by omega, fun j hj => ?_⟩, by omega⟩
    obtain ⟨g, o, k1, k2, c0, c1, c2, kv, nv, c3, c4, c5, c6⟩ := h4 j hj
    obtain ⟨e, he, dk, dn, rfl, hk, hn⟩ := hds j hj
    have hsub : ∀ n, n ∈ (DataW.agg [.lit (.string (nth ss j).name.data.toList), .lit (.int .i64 (nth ss j).kind), .lit (.int .i64 (nth ss j).part), dk, dn] : DataW H).weights Tryd.prog 44 → n ≤ reachBytes := fun n hn => hs n (Or.inr (Or.inl (weightsAll_mem (List.mem_of_getElem? he) hn)))
    simp only [DataW.weights, Tryd.underlying44, DataW.weightsEach, List.map_cons, List.map_nil, List.mem_append] at hsub
    exact ⟨g, o, k1, k2, c0, c1, c2, kv, nv, c3, c4, keys_sized (fun n hn => hsub n (by simp [hn])) hk c5, needs_sized (fun n hn => hsub n (by simp [hn])) hn c6⟩
/-- A definition that came in. -/
theorem def_in {ts : List TypeId} {ds : List (DataW H)} {base : Nat} {v : Value} {d : DataW H} {p : List MemPlace} (hsz : (DataW.weightsEach Tryd.prog ts ds).all (· ≤ reachBytes) = true) {j : Nat} (ht : ts[j]? = some 24) (hd : ds[j]? = some d)
    (hv : Value.okWide Tryd.prog w .any base 24 v) (h : DataW.Trod enc Tryd.prog w 0 (fun _ => true) true 24 v d p) : ∃ D : DefD, DefIn w v D ∧ D.steps.length * 80 ≤ 140737488351232 := by
  obtain ⟨D, sv, hc, hs, sd, rfl, hdat⟩ := open_def h
  obtain ⟨cs, rfl, _⟩ := okWide_struct Tryd.underlying24 hv
  have hall : ∀ n, n ∈ (DataW.agg [.lit (.string D.name.data.toList), sd] : DataW H).weights Tryd.prog 24 → n ≤ reachBytes := fun n hn => by
    have := List.all_eq_true.1 hsz _ (DataW.weights_mem_each ht hd n hn)
    simpa using this
  simp only [DataW.weights, Tryd.underlying24, DataW.weightsEach, List.map_cons, List.map_nil, List.mem_append] at hall
  obtain ⟨hr, h80⟩ := steps_sized (fun n hn => hall n (by simp [hn])) hdat hs
  refine ⟨D, ⟨sv, ?_, hr⟩, h80⟩
  have : cs = #[.string D.name, sv] := by
    have e : (Value.agg cs).cells = cs := rfl
    rw [e] at hc
    exact Array.toList_inj.1 (by simpa using hc)
  rw [this]
end
end Go.Proofs.YtaeakednekbekaaDoor
