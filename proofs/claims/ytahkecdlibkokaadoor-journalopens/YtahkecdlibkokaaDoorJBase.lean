/- A journal in memory over its disk; what its calls leave alone; the walks of put and sizeOf. -/
import Derived.Test.YtahkecdlibkokaaDoorHeadW
import Derived.ScopeJumps
import Derived.WalkMore
set_option linter.unusedVariables false
set_option maxRecDepth 100000
namespace Go.Proofs.YtahkecdlibkokaaDoor
open Go.RowKit
open JournalMath DiskMath
open Fr (Tab tab_below tab_drewN)
open Dk (PDisk Chg fp DIn din_below din_same din_drewN pdisk_below pdisk_chg)

/-- The journal's own cells: its disk, its file, its generation, its count. -/
structure JCells (w : World) (bj bd f g n : Nat) : Prop where
  lt : bj < w.heap.size
  disk : w.cell? ⟨bj, 0, none⟩ = some (.pointer (some ⟨bd, 0, none⟩))
  file : w.cell? ⟨bj, 1, none⟩ = some (.int .i64 (f : Int))
  gen : w.cell? ⟨bj, 2, none⟩ = some (.int .i64 (g : Int))
  count : w.cell? ⟨bj, 3, none⟩ = some (.int .i64 (n : Int))
  free : ∀ j, w.frozen? ⟨bj, j, none⟩ = false
theorem JCells.block {w w' : World} {bj bd f g n : Nat} (h : JCells w bj bd f g n) (hb : w'.heap[bj]? = w.heap[bj]?) (hs : w.heap.size ≤ w'.heap.size) : JCells w' bj bd f g n :=
  ⟨Nat.lt_of_lt_of_le h.lt hs, (World.cell?_of_block (w := w) (a := ⟨bj, 0, none⟩) hb).trans h.disk, (World.cell?_of_block (w := w) (a := ⟨bj, 1, none⟩) hb).trans h.file, (World.cell?_of_block (w := w) (a := ⟨bj, 2, none⟩) hb).trans h.gen,
    (World.cell?_of_block (w := w) (a := ⟨bj, 3, none⟩) hb).trans h.count, fun j => (World.frozen?_of_block (w := w) (a := ⟨bj, j, none⟩) hb).trans (h.free j)⟩
theorem JCells.setFile {w : World} {bj bd f g n : Nat} (h : JCells w bj bd f g n) (x : Nat) : JCells (w.setCell ⟨bj, 1, none⟩ (.int .i64 (x : Int))) bj bd x g n :=
  ⟨by simpa using h.lt, (World.cell?_setCell_other w _ _ _ (by simp)).trans h.disk, World.cell?_setCell_same w _ _ h.file, (World.cell?_setCell_other w _ _ _ (by simp)).trans h.gen, (World.cell?_setCell_other w _ _ _ (by simp)).trans h.count, fun j => by rw [World.frozen?_setCell]; exact h.free j⟩
theorem JCells.setGen {w : World} {bj bd f g n : Nat} (h : JCells w bj bd f g n) (x : Nat) : JCells (w.setCell ⟨bj, 2, none⟩ (.int .i64 (x : Int))) bj bd f x n :=
  ⟨by simpa using h.lt, (World.cell?_setCell_other w _ _ _ (by simp)).trans h.disk, (World.cell?_setCell_other w _ _ _ (by simp)).trans h.file, World.cell?_setCell_same w _ _ h.gen, (World.cell?_setCell_other w _ _ _ (by simp)).trans h.count, fun j => by rw [World.frozen?_setCell]; exact h.free j⟩
theorem JCells.setCount {w : World} {bj bd f g n : Nat} (h : JCells w bj bd f g n) (x : Nat) : JCells (w.setCell ⟨bj, 3, none⟩ (.int .i64 (x : Int))) bj bd f g x :=
  ⟨by simpa using h.lt, (World.cell?_setCell_other w _ _ _ (by simp)).trans h.disk, (World.cell?_setCell_other w _ _ _ (by simp)).trans h.file, (World.cell?_setCell_other w _ _ _ (by simp)).trans h.gen, World.cell?_setCell_same w _ _ h.count, fun j => by rw [World.frozen?_setCell]; exact h.free j⟩

/-- A journal and its disk, none of whose blocks is among those of T; and those are as they were in w. -/
def JIn (T : Nat → Prop) (w : World) (bj bd : Nat) (s : JS) (w1 : World) : Prop :=
  ∃ V, PDisk w1 bd V s.d ∧ JCells w1 bj bd s.f s.g s.n ∧ (∀ k, fp bd V k ∨ k = bj → k < w.heap.size → ¬ T k) ∧ ¬ fp bd V bj ∧ Chg (fun k => ¬ T k) w w1
theorem JIn.cells {T : Nat → Prop} {w w1 : World} {bj bd : Nat} {s : JS} (h : JIn T w bj bd s w1) : JCells w1 bj bd s.f s.g s.n := h.choose_spec.2.1
theorem JIn.chg {T : Nat → Prop} {w w1 : World} {bj bd : Nat} {s : JS} (h : JIn T w bj bd s w1) : Chg (fun k => ¬ T k) w w1 := h.choose_spec.2.2.2.2
theorem jin_below {T : Nat → Prop} {w w1 w2 : World} {bj bd : Nat} {s : JS} (h : JIn T w bj bd s w1) (hb : Below w1.heap.size w1 w2) : JIn T w bj bd s w2 := by
  obtain ⟨V, h1, h2, h3, h4, h5⟩ := h
  exact ⟨V, pdisk_below h1 hb, h2.block (hb.block bj h2.lt) hb.size, h3, h4, h5.trans (Dk.chg_below (S := fun _ => False) hb) (fun _ _ h => h.elim)⟩
theorem jin_drewN {T : Nat → Prop} {w w1 w2 : World} {bj bd : Nat} {s : JS} (h : JIn T w bj bd s w1) (e : ∃ q, w2 = w1.drewN q) : JIn T w bj bd s w2 := by
  obtain ⟨q, rfl⟩ := e
  exact jin_below h (below_drewN (Below.refl _ _) q)
/-- The crc's table is as it was. -/
theorem tab_chg {T : Nat → Prop} {w w1 : World} (hc : Chg (fun k => ¬ T k) w w1) (hG : T 0) (hT : Tab w) : Tab w1 := fun i hi => by
  have h0 := hT i hi
  have hlt := block_lt_of_cell h0
  rw [World.cell?_of_block (w := w) (a := ⟨0, i, none⟩) (hc.block _ hlt (fun hn => hn hG))]
  exact h0
theorem tab_din {T : Nat → Prop} {w w1 : World} {b : Nat} {d : DS} (hD : DIn T w b d w1) (hG : T 0) (hT : Tab w) : Tab w1 := by
  obtain ⟨V, _, _, hc⟩ := hD
  exact tab_chg hc hG hT
theorem tab_jin {T : Nat → Prop} {w w1 : World} {bj bd : Nat} {s : JS} (h : JIn T w bj bd s w1) (hG : T 0) (hT : Tab w) : Tab w1 := tab_chg h.chg hG hT
theorem tab_lt {w : World} (hT : Tab w) : 0 < w.heap.size := block_lt_of_cell (hT 0 (by decide))
/-- A call on the journal's disk. -/
theorem jin_disk {T : Nat → Prop} {w w1 : World} {bj bd : Nat} {s : JS} (h : JIn T w bj bd s w1) (hG : T 0) (hT : Tab w) : ∃ T' : Nat → Prop, DIn T' w1 bd s.d w1 ∧ T' 0 ∧ Tab w1 ∧ ∀ d' w2, DIn T' w1 bd d' w2 → JIn T w bj bd ⟨d', s.f, s.g, s.n⟩ w2 := by
  have hT1 := tab_jin h hG hT
  obtain ⟨V, h1, h2, h3, h4, h5⟩ := h
  refine ⟨fun k => k < w1.heap.size ∧ ¬ fp bd V k, ⟨V, h1, fun k hk _ ht => ht.2 hk, Chg.refl _ _⟩, ⟨tab_lt hT1, fun hf => h3 _ (Or.inl hf) (tab_lt hT) hG⟩, hT1, ?_⟩
  rintro d' w2 ⟨V2, k1, k2, k3⟩
  have hb : w2.heap[bj]? = w1.heap[bj]? := k3.block bj h2.lt (fun hn => hn ⟨h2.lt, h4⟩)
  have hV : ∀ k, fp bd V2 k → k < w1.heap.size → fp bd V k := fun k hk hlt => Classical.byContradiction fun hn => k2 k hk hlt ⟨hlt, hn⟩
  have hsz := h5.size
  refine ⟨V2, k1, h2.block hb k3.size, fun k hk hlt => ?_, fun hf => h4 (hV bj hf h2.lt), h5.trans k3 (fun k hk hn => ?_)⟩
  · rcases hk with hk | hk
    · exact h3 k (Or.inl (hV k hk (by omega))) hlt
    · exact h3 k (Or.inr hk) hlt
  · by_cases hf : fp bd V k
    · exact h3 k (Or.inl hf) hk
    · exact absurd ⟨by omega, hf⟩ hn
theorem jin_set {T : Nat → Prop} {w w1 : World} {bj bd : Nat} {s s' : JS} (h : JIn T w bj bd s w1) (i : Nat) (u : Value) (hd : s'.d = s.d) (hc : JCells w1 bj bd s.f s.g s.n → JCells (w1.setCell ⟨bj, i, none⟩ u) bj bd s'.f s'.g s'.n) : JIn T w bj bd s' (w1.setCell ⟨bj, i, none⟩ u) := by
  obtain ⟨V, h1, h2, h3, h4, h5⟩ := h
  refine ⟨V, by rw [hd]; exact pdisk_chg h1 (Dk.chg_set w1 ⟨bj, i, none⟩ u) (fun k hk e => h4 (by have e2 : k = bj := e; rw [← e2]; exact hk)), hc h2, h3, h4, h5.trans (Dk.chg_set w1 ⟨bj, i, none⟩ u) (fun k hk e => h3 k (Or.inr e) hk)⟩

theorem put_any {T : Nat → Prop} {w w1 : World} {b : Nat} {d : DS} (f : Nat) (hf : f < 4) (r : ByteArray) (hr : r.size ≤ 200000) (hD : DIn T w b d w1) (hk : Ok d) (hG : T 0) (hT : Tab w) :
    Calls Tryd.prog 53 #[.pointer (some ⟨b, 0, none⟩), .int .i64 (f : Int), .string r] w1 fun e w' => e = .returned (.int .i64 (aApp d f (FrameMath.wrap r.data.toList)).2) ∧ DIn T w b (aApp d f (FrameMath.wrap r.data.toList)).1 w' := by
  have hwl : (FrameMath.wrap r.data.toList).length = r.size + 8 := by rw [FrameMath.wrap_length, size_data]
  have C1 : Hid (∀ w, Tab w → Calls Tryd.prog 63 #[.string r] w fun e w' => e = .returned (.tuple #[.string ⟨(FrameMath.wrap r.data.toList).toArray⟩, .int .i64 0]) ∧ Below w.heap.size w w') := fun w hT => Fr.wrap_any r hr w hT
  have C2 : Hid (∀ w2, DIn T w b d w2 → Calls Tryd.prog 40 #[.pointer (some ⟨b, 0, none⟩), .int .i64 (f : Int), .string ⟨(FrameMath.wrap r.data.toList).toArray⟩] w2 fun e w' => e = .returned (.int .i64 (aApp d f (FrameMath.wrap r.data.toList)).2) ∧ DIn T w b (aApp d f (FrameMath.wrap r.data.toList)).1 w') := by
    intro w2 hD2
    have := Dk.append_all (f : Int) ⟨(FrameMath.wrap r.data.toList).toArray⟩ (by rw [strV_size, hwl]; omega) hD2 hk
    rw [mk_data] at this
    exact this
  have hT1 := tab_din hD hG hT
  have HD : Hid (DIn T w b d w1) := hD
  generalize FrameMath.wrap r.data.toList = fr at *
  generalize ByteArray.mk fr.toArray = fb at *
  generalize (aApp d f fr).2 = er at *
  generalize (aApp d f fr).1 = d' at *
  clear hD hwl
  go_enter Tryd.func53, Tryd.ntmps53
  go_wp2_with fail
  refine (C1.out _ hT1).mono ?_
  rintro e w2 ⟨rfl, hb⟩
  have HD2 : Hid (DIn T w b d w2) := din_below HD.out hb
  clear hb
  go_wp2_with fail
  refine (C2.out _ HD2.out).mono ?_
  rintro e w3 ⟨rfl, hD3⟩
  go_wp2_with fail
  go_ret
  exact ⟨rfl, hD3⟩

theorem sizeOf_any {T : Nat → Prop} {w w1 : World} {b : Nat} {d : DS} (f : Nat) (hf : f < 4) (hD : DIn T w b d w1) :
    Calls Tryd.prog 44 #[.pointer (some ⟨b, 0, none⟩), .int .i64 (f : Int)] w1 fun e w' => e = .returned (.int .i64 ((d.F f).length : Int)) ∧ DIn T w b d w' := by
  have C1 : Hid (∀ w2, DIn T w b d w2 → Calls Tryd.prog 20 #[.pointer (some ⟨b, 0, none⟩), .int .i64 (f : Int)] w2 fun e w' => e = .returned (.tuple #[.int .i64 ((d.F f).length : Int), .int .i64 (d.S f : Int), .int .i64 0]) ∧ DIn T w b d w') := fun w2 h => Dk.size_all f hf h
  have HD : Hid (DIn T w b d w1) := hD
  generalize (d.F f).length = n at *
  generalize d.S f = m at *
  clear hD
  go_enter Tryd.func44, Tryd.ntmps44
  go_wp2_with fail
  refine (C1.out _ HD.out).mono ?_
  rintro e w2 ⟨rfl, hD2⟩
  go_wp2_with fail
  go_ret
  exact ⟨rfl, hD2⟩

/-- A scope in which the run jumps back once. -/
theorem wp_scope_once {P : Program} {a : Act} {w : World} {Q : Exit → Act → World → Prop} {c rest : Code} (l : Nat) (hf : findLabel c l = some rest)
    (first : c.wp P (Exit.jump l (fun a w => rest.wp P (Exit.jump l (fun _ _ => False) Q) a w) Q) a w) : (Code.scope c).wp P Q a w :=
  wp_scope_jumps l _ (fun _ _ => 0) hf first (fun a w h => Code.wp_mono (fun e a w hq => by cases e <;> first | exact hq | exact hq.2.elim) h)
end Go.Proofs.YtahkecdlibkokaaDoor
