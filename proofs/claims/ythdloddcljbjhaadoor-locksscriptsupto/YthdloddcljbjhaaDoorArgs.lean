/- What the rows share: scripts and lists of keys that came in, read as data; their bulk. -/
import Derived.Test.YthdloddcljbjhaaDoorRows
import Derived.Test.YthdloddcljbjhaaDoorLawP
import Derived.ProofKit
import Derived.OpenShut
import Derived.Below
import Derived.SizedLaws
import Derived.WideKeyArgs
import Derived.Deep.DeepHandedRow
import Derived.Deep.Strs
import Derived.LaidLaws
set_option linter.unusedVariables false
namespace Go.Proofs.YthdloddcljbjhaaDoor
open Go.ChangeShapes Go.WideShapes Go.ChangeAt Go.RowKit CheckMath

theorem Tryd.laidOut : laidOutB Tryd.prog = true := by kernel_rfl
theorem keyAt_map (f : Nat → ByteArray) (n j : Nat) (h : j < n) : keyAt ((List.range n).map f) j = f j := by simp [keyAt, List.getD, h]
theorem onth_map (f : Nat → LOp) (n j : Nat) (h : j < n) : onth ((List.range n).map f) j = f j := by simp [onth, List.getD, h]
/-- How the data of a list of keys look. -/
def KDat {H : Type} (d : DataW H) (l : List ByteArray) : Prop := (d = .nil ∧ l = []) ∨ ∃ sp, d = .slice (l.map fun s => .lit (.string s.data.toList)) sp
/-- A row of keys without what is known of its sizes. -/
def KRow0 (w : World) (v : Value) (xs : List ByteArray) : Prop := ∃ ao cap, v = .slice ao xs.length cap ∧ xs.length ≤ cap ∧ (ao = none → cap = 0) ∧
  ∀ j, j < xs.length → ∃ g o, ao = some ⟨g, o, none⟩ ∧ g < w.heap.size ∧ w.cell? ⟨g, o + j, none⟩ = some (.string (keyAt xs j))
theorem KRow0.sized {w : World} {v : Value} {xs : List ByteArray} (h : KRow0 w v xs) (hl : xs.length ≤ 1048576) (hs : ∀ s, s ∈ xs → s.size ≤ 1048576) : KRow w v xs := by
  obtain ⟨ao, cap, h1, h2, h3, h4⟩ := h
  exact ⟨ao, cap, h1, h2, h3, ⟨by omega, fun x hx => by have := hs x hx; omega⟩, h4⟩
theorem i64_ok {n : Int} (h : (Lit.int .i64 n).wf = true) : -9223372036854775808 ≤ n ∧ n ≤ 9223372036854775807 := by
  simpa [Lit.wf, IntKind.min, IntKind.max, IntKind.bits, IntKind.signed] using h
section
variable {H : Type} {enc : TypeId × Value → H} {w : World} {n : Nat}
/-- How the data of a script look. -/
def OpDat (d : DataW H) (o : LOp) : Prop := ∃ dk, d = .agg [.lit (.int .i64 o.Do), .lit (.int .i64 o.inst), dk] ∧ KDat dk o.keys
def OpsDat : List (DataW H) → List LOp → Prop
  | [], [] => True
  | d :: ds, o :: l => OpDat d o ∧ OpsDat ds l
  | _, _ => False
def ODat (d : DataW H) (l : List LOp) : Prop := (d = .nil ∧ l = []) ∨ ∃ ds sp, d = .slice ds sp ∧ OpsDat ds l
theorem opsDat_map (D : Nat → DataW H) (V : Nat → LOp) : ∀ L : List Nat, (∀ i ∈ L, OpDat (D i) (V i)) → OpsDat (L.map D) (L.map V)
  | [], _ => trivial
  | i :: L, h => ⟨h i List.mem_cons_self, opsDat_map D V L (fun j hj => h j (List.mem_cons_of_mem _ hj))⟩
theorem open_keys {cs : List Value} {x : DataW H × List MemPlace} (h : DataW.trod enc Tryd.prog w 0 (fun _ => true) true n 27 cs = some x) : ∃ kv l, cs = [kv] ∧ KRow0 w kv l ∧ KDat x.1 l := by
  rcases Go.Deep.open_strs Tryd.underlying27 Tryd.underlying9 (by kernel_rfl) h with ⟨hcs, hx⟩ | ⟨a, len, cap, m, Sx, hcs, _, hl, hm, hmm, hx, hcell⟩
  · exact ⟨_, [], hcs, ⟨none, 0, rfl, Nat.le_refl _, fun _ => rfl, fun j hj => by simp at hj⟩, Or.inl ⟨by rw [hx], rfl⟩⟩
  · simp only [if_true] at hmm
    subst hmm
    refine ⟨_, (List.range len).map Sx, hcs, ⟨some a, m, by simp, by simpa using hl, fun h => (by cases h), fun j hj => ?_⟩, Or.inr ⟨_, by rw [hx, List.map_map]; rfl⟩⟩
    simp at hj
    obtain ⟨b, off, spot⟩ := a
    have hspot : spot = none := by simpa [Addr.add] using World.cell?_spot (hcell 0 (by omega)).1
    subst hspot
    have := (hcell j (by omega)).1
    rw [add_plain] at this
    refine ⟨b, off, rfl, block_lt_of_cell this, ?_⟩
    rw [this, keyAt_map _ _ _ hj]
theorem cells_at {b off k base : Nat} {cs : List Value} (h : w.cells? base ⟨b, off, none⟩ k = some cs) (j : Nat) (hj : j < k) : w.cell? ⟨b, off + j, none⟩ = cs[j]? := by
  obtain ⟨_, hl, hc⟩ := World.cells?_some h
  have := hc j hj
  rwa [add_plain] at this
theorem open_op {cs : List Value} {x : DataW H × List MemPlace} (h : DataW.trod enc Tryd.prog w 0 (fun _ => true) true n 29 cs = some x) :
    ∃ (o : LOp) (kv : Value), cs = [.int .i64 o.Do, .int .i64 o.inst, kv] ∧ KRow0 w kv o.keys ∧ (-9223372036854775808 ≤ o.inst ∧ o.inst ≤ 9223372036854775807) ∧ OpDat x.1 o := by
  obtain ⟨xs, m, rfl, hx, hl, hxl, hf⟩ := DataW.trod_struct Tryd.underlying29 h
  have hl3 : cs.length = 3 := by rw [hl]; kernel_rfl
  have hx3 : xs.length = 3 := by rw [hxl]; rfl
  have ci : Tryd.prog.cellsOf 3 = 1 := by kernel_rfl
  have ck : Tryd.prog.cellsOf 27 = 1 := by kernel_rfl
  obtain ⟨c0, c1, c2, rfl⟩ : ∃ c0 c1 c2, cs = [c0, c1, c2] := by
    match cs, hl3 with
    | [c0, c1, c2], _ => exact ⟨c0, c1, c2, rfl⟩
  obtain ⟨x0, x1, x2, rfl⟩ : ∃ x0 x1 x2, xs = [x0, x1, x2] := by
    match xs, hx3 with
    | [x0, x1, x2], _ => exact ⟨x0, x1, x2, rfl⟩
  have f0 : DataW.trod enc Tryd.prog w 0 (fun _ => true) true m 3 (([c0, c1, c2].drop 0).take (Tryd.prog.cellsOf 3)) = some x0 := hf 0 _ rfl
  have f1 : DataW.trod enc Tryd.prog w 0 (fun _ => true) true m 3 (([c0, c1, c2].drop 1).take (Tryd.prog.cellsOf 3)) = some x1 := hf 1 _ rfl
  have f2 : DataW.trod enc Tryd.prog w 0 (fun _ => true) true m 27 (([c0, c1, c2].drop 2).take (Tryd.prog.cellsOf 27)) = some x2 := hf 2 _ rfl
  rw [ci] at f0 f1
  rw [ck] at f2
  obtain ⟨n0, e0, rfl, b0⟩ := DataW.trod_int Tryd.underlying3 f0
  obtain ⟨n1, e1, rfl, b1⟩ := DataW.trod_int Tryd.underlying3 f1
  obtain ⟨kv, kl, e2, hk, dk⟩ := open_keys f2
  obtain rfl : c0 = .int .i64 n0 := by simpa using e0
  obtain rfl : c1 = .int .i64 n1 := by simpa using e1
  obtain rfl : c2 = kv := by simpa using e2
  exact ⟨⟨n0, n1, kl⟩, c2, rfl, hk, i64_ok b1, x2.1, by rw [hx]; rfl, dk⟩
/-- A script's row without what is known of its sizes. -/
def ORow0 (w : World) (v : Value) (l : List LOp) : Prop := ∃ ao cap, v = .slice ao l.length cap ∧ l.length ≤ cap ∧ (ao = none → cap = 0) ∧
  ∀ j, j < l.length → ∃ g o kv, ao = some ⟨g, o, none⟩ ∧ g < w.heap.size ∧ w.cell? ⟨g, o + j * 3, none⟩ = some (.int .i64 (onth l j).Do) ∧ w.cell? ⟨g, o + j * 3 + 1, none⟩ = some (.int .i64 (onth l j).inst) ∧ w.cell? ⟨g, o + j * 3 + 2, none⟩ = some kv ∧
    KRow0 w kv (onth l j).keys ∧ -9223372036854775808 ≤ (onth l j).inst ∧ (onth l j).inst ≤ 9223372036854775807
theorem open_ops {cs : List Value} {x : DataW H × List MemPlace} (h : DataW.trod enc Tryd.prog w 0 (fun _ => true) true n 22 cs = some x) : ∃ sv l, cs = [sv] ∧ ORow0 w sv l ∧ ODat x.1 l := by
  have ck : Tryd.prog.cellsOf 29 = 3 := by kernel_rfl
  rcases Go.Deep.open_slice Tryd.underlying22 h with ⟨hcs, hx⟩ | ⟨a, len, cap, m, n', D, Pl, hcs, _, hl, hm, hmm, hx, hcell⟩
  · exact ⟨_, [], hcs, ⟨none, 0, rfl, Nat.le_refl _, fun _ => rfl, fun j hj => by simp at hj⟩, Or.inl ⟨by rw [hx], rfl⟩⟩
  · simp only [if_true] at hmm
    subst hmm
    rw [ck] at hcell
    have each : ∀ i, i < m → ∃ q : LOp × Value, w.cells? 0 (a.add (i * 3)) 3 = some [.int .i64 q.1.Do, .int .i64 q.1.inst, q.2] ∧ KRow0 w q.2 q.1.keys ∧ (-9223372036854775808 ≤ q.1.inst ∧ q.1.inst ≤ 9223372036854775807) ∧ OpDat (D i) q.1 := fun i hi => by
      obtain ⟨cs', h1, h2⟩ := hcell i hi
      obtain ⟨s, kv, rfl, h3, h4, h5⟩ := open_op h2
      exact ⟨⟨s, kv⟩, h1, h3, h4, h5⟩
    obtain ⟨V, hV⟩ := Go.Deep.choose_lt each
    refine ⟨_, (List.range len).map fun i => (V i).1, hcs, ⟨some a, m, by simp, by simpa using hl, fun h => (by cases h), fun j hj => ?_⟩, Or.inr ⟨(List.range len).map D, (List.range (m - len)).map fun j => D (len + j), by rw [hx], opsDat_map D (fun i => (V i).1) _ (fun i hi => (hV i (by have := List.mem_range.1 hi; omega)).2.2.2)⟩⟩
    simp at hj
    obtain ⟨b, off, spot⟩ := a
    have hspot : spot = none := by
      obtain ⟨_, _, hcc⟩ := World.cells?_some (hV 0 (by omega)).1
      have := hcc 0 (by decide)
      simpa [Addr.add] using World.cell?_spot this
    subst hspot
    obtain ⟨hc, hk, hi, _⟩ := hV j (by omega)
    rw [add_plain] at hc
    have k0 := cells_at hc 0 (by decide)
    rw [onth_map _ _ _ hj]
    exact ⟨b, off, _, rfl, block_lt_of_cell k0, by simpa using k0, by simpa using cells_at hc 1 (by decide), by simpa using cells_at hc 2 (by decide), hk, hi.1, hi.2⟩
/-- A list of keys that came in. -/
theorem keys_in {base : Nat} {v : Value} {d : DataW H} {p : List MemPlace} (hv : Value.okWide Tryd.prog w .any base 27 v) (h : DataW.Trod enc Tryd.prog w 0 (fun _ => true) true 27 v d p) : ∃ l, KRow0 w v l ∧ KDat d l := by
  obtain ⟨a0, len0, cap0, rfl⟩ := okWide_slice Tryd.underlying27 hv
  obtain ⟨n, hn⟩ := h
  obtain ⟨kv, l, e, hr, hd⟩ := open_keys hn
  simp [Value.cells] at e
  subst e
  exact ⟨l, hr, hd⟩
/-- A script that came in. -/
theorem ops_in {base : Nat} {v : Value} {d : DataW H} {p : List MemPlace} (hv : Value.okWide Tryd.prog w .any base 22 v) (h : DataW.Trod enc Tryd.prog w 0 (fun _ => true) true 22 v d p) : ∃ l, ORow0 w v l ∧ ODat d l := by
  obtain ⟨a0, len0, cap0, rfl⟩ := okWide_slice Tryd.underlying22 hv
  obtain ⟨n, hn⟩ := h
  obtain ⟨kv, l, e, hr, hd⟩ := open_ops hn
  simp [Value.cells] at e
  subst e
  exact ⟨l, hr, hd⟩
theorem keys_bulk {d : DataW H} {l : List ByteArray} (h : KDat d l) : l.length + 1 ≤ Rows.uptoBulk d ∧ ∀ s, s ∈ l → s.size ≤ Rows.uptoBulk d := by
  rcases h with ⟨rfl, rfl⟩ | ⟨sp, rfl⟩
  · exact ⟨Nat.le_refl _, fun s hs => by cases hs⟩
  · have key : ∀ l : List ByteArray, l.length ≤ Rows.uptoBulkAll (H := H) (l.map fun s => .lit (.string s.data.toList)) ∧ ∀ s, s ∈ l → s.size ≤ Rows.uptoBulkAll (H := H) (l.map fun s => .lit (.string s.data.toList)) := by
      intro l
      induction l with
      | nil => exact ⟨Nat.zero_le _, fun s hs => by cases hs⟩
      | cons a l ih =>
        simp only [List.map_cons, Rows.uptoBulkAll, Rows.uptoBulk, List.length_cons]
        have e : a.data.toList.length = a.size := Array.length_toList
        refine ⟨by omega, fun s hs => ?_⟩
        rcases List.mem_cons.1 hs with rfl | hs
        · omega
        · have := ih.2 s hs; omega
    obtain ⟨k1, k2⟩ := key l
    simp only [Rows.uptoBulk]
    exact ⟨by omega, fun s hs => by have := k2 s hs; omega⟩
theorem ops_bulk : ∀ {ds : List (DataW H)} {l : List LOp}, OpsDat ds l → tot l + 4 * l.length ≤ Rows.uptoBulkAll ds ∧ ∀ o, o ∈ l → ∀ s, s ∈ o.keys → s.size ≤ Rows.uptoBulkAll ds
  | [], [], _ => ⟨Nat.le_refl _, fun o ho => by cases ho⟩
  | [], _ :: _, h => h.elim
  | _ :: _, [], h => h.elim
  | d :: ds, o :: l, ⟨⟨dk, e, hk⟩, h⟩ => by
    obtain ⟨k1, k2⟩ := ops_bulk h
    obtain ⟨b1, b2⟩ := keys_bulk hk
    subst e
    simp only [Rows.uptoBulkAll, Rows.uptoBulk, List.length_cons]
    have et : tot (o :: l) = o.keys.length + tot l := by unfold tot; simp
    refine ⟨by omega, fun x hx s hs => ?_⟩
    rcases List.mem_cons.1 hx with rfl | hx
    · have := b2 s hs; omega
    · have := k2 x hx s hs; omega
theorem script_bulk {d : DataW H} {l : List LOp} (h : ODat d l) : (tot l = 0 ∨ tot l + 5 ≤ Rows.uptoBulk d) ∧ l.length + 1 ≤ Rows.uptoBulk d ∧ ∀ o, o ∈ l → ∀ s, s ∈ o.keys → s.size ≤ Rows.uptoBulk d := by
  rcases h with ⟨rfl, rfl⟩ | ⟨ds, sp, rfl, h⟩
  · exact ⟨Or.inl rfl, Nat.le_refl _, fun o ho => by cases ho⟩
  · obtain ⟨k1, k2⟩ := ops_bulk h
    simp only [Rows.uptoBulk]
    refine ⟨?_, by omega, fun o ho s hs => by have := k2 o ho s hs; omega⟩
    cases l with
    | nil => exact Or.inl rfl
    | cons o l => right; simp only [List.length_cons] at k1; omega
theorem keys_le (l : List LOp) (j : Nat) (h : j < l.length) : (onth l j).keys.length ≤ tot l := by
  have h1 := tot_take l j h
  have h2 := tot_le l (j + 1)
  omega
theorem ORow0.sized {v : Value} {l : List LOp} (h : ORow0 w v l) (ht : tot l ≤ 1048576) (hl : l.length ≤ 1048576) (hs : ∀ o, o ∈ l → ∀ s, s ∈ o.keys → s.size ≤ 1048576) : ORow w v l := by
  obtain ⟨ao, cap, h1, h2, h3, h4⟩ := h
  refine ⟨ao, cap, h1, h2, h3, hl, fun j hj => ?_⟩
  obtain ⟨g, o, kv, k1, k2, k3, k4, k5, k6, k7, k8⟩ := h4 j hj
  have hm : onth l j ∈ l := by simp [onth, List.getD, hj]
  have hk := hs _ hm
  have := keys_le l j hj
  exact ⟨g, o, kv, k1, k2, k3, k4, k5, k6.sized (by omega) hk, hk, k7, k8⟩
end
end Go.Proofs.YthdloddcljbjhaaDoor
