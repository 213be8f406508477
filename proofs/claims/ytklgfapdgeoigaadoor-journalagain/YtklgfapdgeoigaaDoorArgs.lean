/- What the rows share: the settled world, and arguments read as data. -/
import Derived.Test.YtklgfapdgeoigaaDoorRows
import Derived.Test.YtklgfapdgeoigaaDoorBase
import Derived.Test.YtklgfapdgeoigaaDoorLaidDW
import Derived.ProofKit
import Derived.OpenShut
import Derived.Below
import Derived.SizedLaws
import Derived.WideKeyArgs
import Derived.Deep.DeepHandedRow
import Derived.Deep.Strs
import Derived.LaidLaws
set_option linter.unusedVariables false
set_option maxRecDepth 100000
namespace Go.Proofs.YtklgfapdgeoigaaDoor
open Go.ChangeShapes Go.WideShapes Go.ChangeAt Go.RowKit

theorem own : ownKnob Tryd.prog.godebug = none := by kernel_rfl
theorem Tryd.laidOut : laidOutB Tryd.prog = true := by kernel_rfl
noncomputable def holdW (os : Os) : World := World.holding Tryd.prog os ⟨#[], #[], []⟩

/-- A list of texts that came in. -/
theorem open_list {H : Type} {enc : TypeId × Value → H} {W : World} {base t e : Nat} {v : Value} {d : DataW H} {p : List MemPlace} (ht : Tryd.prog.underlying t = some (.slice e)) (he : Tryd.prog.underlying e = some .string) (hc : Tryd.prog.cellsOf e = 1)
    (hv : Value.okWide Tryd.prog W .any base t v) (h : DataW.Trod enc Tryd.prog W 0 (fun _ => true) true t v d p) :
    ∃ xs : List (List UInt8), SRow W v xs ∧ ((d = .nil ∧ xs = []) ∨ ∃ sp, d = .slice (xs.map fun s => .lit (.string s)) sp) := by
  obtain ⟨a0, len0, cap0, rfl⟩ := okWide_slice ht hv
  obtain ⟨n, hn⟩ := h
  rcases Go.Deep.open_strs ht he hc hn with ⟨hcs, hx⟩ | ⟨a, len, cap, m, Sx, hcs, _, hl, hm, hmm, hx, hcell⟩
  · simp [Value.cells] at hcs
    obtain ⟨rfl, rfl, rfl⟩ := hcs
    simp only [Prod.mk.injEq] at hx
    exact ⟨[], ⟨none, 0, rfl, ⟨Nat.le_refl _, fun _ => rfl⟩, fun j hj => by simp at hj⟩, Or.inl ⟨hx.1, rfl⟩⟩
  · simp [Value.cells] at hcs
    obtain ⟨rfl, rfl, rfl⟩ := hcs
    simp only [if_true] at hmm
    subst hmm
    simp only [Prod.mk.injEq] at hx
    refine ⟨(List.range len0).map fun i => (Sx i).data.toList, ⟨some a, m, by simp, ⟨by simpa using hl, fun h => by cases h⟩, fun j hj => ?_⟩, Or.inr ⟨(List.range (m - len0)).map fun j => DataW.lit (Lit.string (Sx (len0 + j)).data.toList), by rw [hx.1]; simp⟩⟩
    simp at hj
    obtain ⟨b, off, spot⟩ := a
    have hspot : spot = none := by simpa [Addr.add] using World.cell?_spot (hcell 0 (by omega)).1
    subst hspot
    refine ⟨b, off, rfl, ?_⟩
    have := (hcell j (by omega)).1
    rw [add_plain] at this
    rw [this]
    simp [strV_data]
theorem mem_weightsAll {H : Type} {P : Program} {e : TypeId} {k : Nat} {d : DataW H} : ∀ {l : List (DataW H)}, d ∈ l → k ∈ d.weights P e → k ∈ DataW.weightsAll P e l
  | x :: r, h, hk => by
    rw [DataW.weightsAll]
    rcases List.mem_cons.1 h with rfl | h
    · exact List.mem_append_left _ hk
    · exact List.mem_append_right _ (mem_weightsAll h hk)
theorem list_sized {H : Type} {ts : List TypeId} {ds : List (DataW H)} (hsz : (DataW.weightsEach Tryd.prog ts ds).all (· ≤ reachBytes) = true) {j : Nat} {t e : TypeId} {d : DataW H} {xs : List (List UInt8)} (ht : ts[j]? = some t) (hd : ds[j]? = some d)
    (hu : Tryd.prog.underlying t = some (.slice e)) (hb : Tryd.prog.bytesOf e = 16) (h : (d = .nil ∧ xs = []) ∨ ∃ sp, d = .slice (xs.map fun s => .lit (.string s)) sp) : xs.length * 16 ≤ 140737488351232 ∧ ∀ s ∈ xs, s.length ≤ 140737488351232 := by
  rcases h with ⟨_, rfl⟩ | ⟨sp, rfl⟩
  · exact ⟨by simp, fun s hs => by cases hs⟩
  · refine ⟨?_, fun s hs => ?_⟩
    · have := sized_slice hsz ht hd hu
      rw [hb, List.length_map] at this
      have hr : reachBytes = 140737488351232 := rfl
      omega
    · have := List.all_eq_true.1 hsz s.length (DataW.weights_mem_each ht hd _ (by
        rw [DataW.weights, hu]
        refine List.mem_cons_of_mem _ (List.mem_append_left _ (mem_weightsAll (List.mem_map.2 ⟨s, hs, rfl⟩) ?_))
        simp [DataW.weights]))
      exact of_decide_eq_true this

theorem cells_at {w : World} {b off n : Nat} {base : Nat} {cs : List Value} (h : w.cells? base ⟨b, off, none⟩ n = some cs) (j : Nat) (hj : j < n) : w.cell? ⟨b, off + j, none⟩ = cs[j]? := by
  obtain ⟨_, hl, hc⟩ := World.cells?_some h
  have := hc j hj
  rwa [add_plain] at this
/-- An image that came in. -/
theorem open_im {H : Type} {enc : TypeId × Value → H} {w : World} {base : Nat} {spare : Nat → Bool} {held : Bool} {n : Nat} {cs : List Value} {D : DataW H} {Pl : List MemPlace} (h : DataW.trod enc Tryd.prog w base spare held n 77 cs = some (D, Pl)) :
    ∃ o : Im, cs = [.string o.Safe, .string o.More] ∧ D = .agg [.lit (.string o.Safe.data.toList), .lit (.string o.More.data.toList)] := by
  obtain ⟨xs, m, rfl, hx, hl, hxl, hf⟩ := DataW.trod_struct Tryd.underlying77 h
  have hl2 : cs.length = 2 := by rw [hl]; kernel_rfl
  have hx2 : xs.length = 2 := by rw [hxl]; rfl
  have cs' : Tryd.prog.cellsOf 9 = 1 := by kernel_rfl
  obtain ⟨c0, c1, rfl⟩ : ∃ c0 c1, cs = [c0, c1] := by
    match cs, hl2 with
    | [c0, c1], _ => exact ⟨c0, c1, rfl⟩
  obtain ⟨x0, x1, rfl⟩ : ∃ x0 x1, xs = [x0, x1] := by
    match xs, hx2 with
    | [x0, x1], _ => exact ⟨x0, x1, rfl⟩
  have f0 : DataW.trod enc Tryd.prog w base spare held m 9 (([c0, c1].drop 0).take (Tryd.prog.cellsOf 9)) = some x0 := hf 0 _ rfl
  have f1 : DataW.trod enc Tryd.prog w base spare held m 9 (([c0, c1].drop 1).take (Tryd.prog.cellsOf 9)) = some x1 := hf 1 _ rfl
  rw [cs'] at f0 f1
  obtain ⟨s0, e0, rfl, b0⟩ := DataW.trod_string Tryd.underlying9 f0
  obtain ⟨s1, e1, rfl, b1⟩ := DataW.trod_string Tryd.underlying9 f1
  obtain rfl : c0 = .string s0 := by simpa using e0
  obtain rfl : c1 = .string s1 := by simpa using e1
  simp only [Prod.mk.injEq] at hx
  exact ⟨⟨s0, s1⟩, rfl, hx.1⟩
def IDat {H : Type} (d : DataW H) (l : List Im) : Prop := (d = .nil ∧ l = []) ∨ ∃ sp, d = .slice (l.map fun o => .agg [.lit (.string o.Safe.data.toList), .lit (.string o.More.data.toList)]) sp
instance : Inhabited Im := ⟨⟨⟨#[]⟩, ⟨#[]⟩⟩⟩
theorem open_images {H : Type} {enc : TypeId × Value → H} {W : World} {base : Nat} {v : Value} {d : DataW H} {p : List MemPlace} (hv : Value.okWide Tryd.prog W .any base 38 v) (h : DataW.Trod enc Tryd.prog W 0 (fun _ => true) true 38 v d p) :
    ∃ l : List Im, IRow W v l ∧ IDat d l := by
  obtain ⟨a0, len0, cap0, rfl⟩ := okWide_slice Tryd.underlying38 hv
  obtain ⟨n, hn⟩ := h
  rcases Go.Deep.open_slice Tryd.underlying38 hn with ⟨hcs, hx⟩ | ⟨a, len, cap, m, n', D, Pl, hcs, _, hl, hm, hmm, hx, hcell⟩
  · simp [Value.cells] at hcs
    obtain ⟨rfl, rfl, rfl⟩ := hcs
    simp only [Prod.mk.injEq] at hx
    exact ⟨[], ⟨none, 0, rfl, fun j hj => by simp at hj⟩, Or.inl ⟨hx.1, rfl⟩⟩
  · simp [Value.cells] at hcs
    obtain ⟨rfl, rfl, rfl⟩ := hcs
    simp only [if_true] at hmm
    subst hmm
    simp only [Prod.mk.injEq] at hx
    have ck : Tryd.prog.cellsOf 77 = 2 := by kernel_rfl
    rw [ck] at hcell
    have each : ∀ i, i < m → ∃ o : Im, W.cells? 0 (a.add (i * 2)) 2 = some [.string o.Safe, .string o.More] ∧ D i = .agg [.lit (.string o.Safe.data.toList), .lit (.string o.More.data.toList)] := fun i hi => by
      obtain ⟨cs', h1, h2⟩ := hcell i hi
      obtain ⟨o, rfl, h4⟩ := open_im h2
      exact ⟨o, h1, h4⟩
    obtain ⟨O, hO⟩ := Go.Deep.choose_lt each
    refine ⟨(List.range len0).map O, ⟨some a, m, by simp, fun j hj => ?_⟩, Or.inr ⟨(List.range (m - len0)).map fun j => D (len0 + j), ?_⟩⟩
    · simp at hj
      obtain ⟨b, off, spot⟩ := a
      obtain ⟨hc, _⟩ := hO j (by omega)
      have hc0 := (hO 0 (by omega)).1
      have hspot : spot = none := by
        obtain ⟨_, _, hcc⟩ := World.cells?_some hc0
        have := hcc 0 (by decide)
        simpa [Addr.add] using World.cell?_spot this
      subst hspot
      rw [add_plain] at hc
      have k0 := cells_at hc 0 (by decide)
      have k1 := cells_at hc 1 (by decide)
      refine ⟨b, off, rfl, block_lt_of_cell k0, ?_, ?_⟩
      · simpa using k0
      · simpa using k1
    · rw [hx.1, List.map_map]
      congr 1
      apply List.map_congr_left
      intro i hi
      exact (hO i (by have := List.mem_range.1 hi; omega)).2
theorem images_sized {H : Type} {ts : List TypeId} {ds : List (DataW H)} (hsz : (DataW.weightsEach Tryd.prog ts ds).all (· ≤ reachBytes) = true) {j : Nat} {d : DataW H} {l : List Im} (ht : ts[j]? = some 38) (hd : ds[j]? = some d)
    (h : IDat d l) : l.length ≤ 140737488355328 ∧ ∀ o ∈ l, o.Safe.size ≤ 140737488351232 ∧ o.More.size ≤ 140737488351232 := by
  rcases h with ⟨_, rfl⟩ | ⟨sp, rfl⟩
  · exact ⟨by simp, fun s hs => by cases hs⟩
  · refine ⟨?_, fun o ho => ⟨?_, ?_⟩⟩
    · have := sized_slice hsz ht hd Tryd.underlying38
      rw [show Tryd.prog.bytesOf 77 = 32 by kernel_rfl, List.length_map] at this
      have hr : reachBytes = 140737488351232 := rfl
      omega
    · have := List.all_eq_true.1 hsz o.Safe.data.toList.length (DataW.weights_mem_each ht hd _ (by
        rw [DataW.weights, Tryd.underlying38]
        refine List.mem_cons_of_mem _ (List.mem_append_left _ (mem_weightsAll (List.mem_map.2 ⟨o, ho, rfl⟩) ?_))
        rw [DataW.weights, Tryd.underlying77]
        simp [DataW.weights, DataW.weightsEach]))
      rw [size_data] at this
      exact of_decide_eq_true this
    · have := List.all_eq_true.1 hsz o.More.data.toList.length (DataW.weights_mem_each ht hd _ (by
        rw [DataW.weights, Tryd.underlying38]
        refine List.mem_cons_of_mem _ (List.mem_append_left _ (mem_weightsAll (List.mem_map.2 ⟨o, ho, rfl⟩) ?_))
        rw [DataW.weights, Tryd.underlying77]
        simp [DataW.weights, DataW.weightsEach]))
      rw [size_data] at this
      exact of_decide_eq_true this
end Go.Proofs.YtklgfapdgeoigaaDoor
