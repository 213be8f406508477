/- The library's sort of texts that are held, by Compare: from its own contract, a premise here. -/
import Derived.Test.YthdloddcljbjhaaDoorHeldW
import Derived.Test.YthdloddcljbjhaaDoorSortM
import Derived.Test.YthdloddcljbjhaaDoorDrawnW
import Derived.Test.YthdloddcljbjhaaDoorNmComp
import Derived.Shelf.SlSortCmp.Kit1
set_option linter.unusedVariables false
set_option maxRecDepth 100000
namespace Go.Proofs.YthdloddcljbjhaaDoor
open Go.RowKit CheckMath
open Go.Sort (SWO PermIn SortedIn Holds putRow putCells grow)

theorem swoT : SWO (ltOf cfT) where
  irrefl x := lt_irrefl x.1
  trans x y z h1 h2 := lt_trans x.1 y.1 z.1 h1 h2
  ntrans x y z h1 h2 := lt_ntrans x.1 y.1 z.1 h1 h2
/-- The library's contract of slices.SortFunc at texts and Compare. -/
def SortLaw : Prop := ∀ (blk cap : Nat) (d : Array Txt) (w : World), CmpLays1 Tryd.prog 31 #[] encT cfT blk 0 d.size w → Holds encT w blk 0 d → blk < w.heap.size → d.size < 4611686018427387904 →
  Calls Tryd.prog 30 #[.slice (some ⟨blk, 0, none⟩) d.size cap, .func (.func 31) #[] #[]] w fun e w' =>
    e = .returned (.tuple #[]) ∧ ∃ d' n os, PermIn 0 d.size d d' ∧ SortedIn (ltOf cfT) 0 d.size d' ∧ w' = sortWorld encT w blk 0 n d' os
theorem grownBy_sortT {w : World} {g n : Nat} {os : Array Obj} (d : Array Txt) : w.grownBy (sortWorld encT w g 0 n d os) (some g) := by
  unfold sortWorld
  refine ⟨rfl, rfl, rfl, by simp, fun k hk hne => ?_⟩
  rw [Sort.heap_grow_old _ _ (by simpa using hk)]
  have : g ≠ k := fun e => hne (by rw [e])
  simp [putRow, Sort.mapBlock, Sort.ahead, Array.getElem?_modify, this]
theorem lays (w w0 : World) (hT : Nm.Tabs w0) (hb : Below w0.heap.size w0 w) (blk : Nat) (hblk : w0.heap.size ≤ blk) (size : Nat) : CmpLays1 Tryd.prog 31 #[] encT cfT blk 0 size w := by
  intro m os dk hs x y
  have hg := grownBy_sortT (w := w) (g := blk) (n := m) (os := os) dk
  have hb2 : Below w0.heap.size w0 (sortWorld encT w blk 0 m dk os) := ⟨hg.os.trans hb.os, hg.tape.trans hb.tape, hg.output.trans hb.output, Nat.le_trans hb.size hg.size, fun k hk => (hg.block k (Nat.lt_of_lt_of_le hk hb.size) (fun e => by injection e with e; omega)).trans (hb.block k hk)⟩
  have hT2 : Nm.Tabs (sortWorld encT w blk 0 m dk os) := Utf8Tabs_below hT hb2
  exact Drawn.calls_grow (Nm.compare_any x.1 y.1 (Nat.le_trans y.2 (by decide)) _ hT2)
/-- .. at no element. -/
def SortNone : Prop := ∀ (cap : Nat) (w : World), Calls Tryd.prog 30 #[.slice none 0 cap, .func (.func 31) #[] #[]] w fun e w' => e = .returned (.tuple #[]) ∧ w' = w
theorem take_sortT (cur : Array Value) (ts : List Txt) (h : ts.length ≤ cur.size) : (putCells encT 0 ts.toArray cur).toList.take ts.length = ts.map encT := by
  apply List.ext_getElem?
  intro j
  by_cases hj : j < ts.length
  · rw [List.getElem?_take_of_lt hj, Array.getElem?_toList]
    simp [putCells, hj, show j < cur.size by omega]
  · rw [List.getElem?_take_eq_none (by omega), List.getElem?_eq_none (by simp; omega)]
theorem heap_sortT {w : World} {g n : Nat} {os : Array Obj} {cur : Array Value} {e : TypeId} {fr : Nat × Nat} (d : Array Txt) (hb : w.heap[g]? = some (.cells cur e fr)) :
    (sortWorld encT w g 0 n d os).heap[g]? = some (.cells (putCells encT 0 d cur) e fr) := by
  have hg : g < w.heap.size := (Array.getElem?_eq_some_iff.1 hb).1
  unfold sortWorld
  rw [Sort.heap_grow_old _ _ (by simpa using hg)]
  simp [putRow, Sort.mapBlock, Sort.ahead, Array.getElem?_modify, hb, Sort.onCells]
theorem rising_of {d : Array Txt} (h : SortedIn (ltOf cfT) 0 d.size d) : Rising (d.toList.map (·.1)) := by
  unfold Rising
  rw [List.pairwise_map, List.pairwise_iff_getElem]
  intro i j hi hj hij
  have h1 : i < d.size := by simpa using hi
  have h2 : j < d.size := by simpa using hj
  have := h i j (Nat.zero_le _) hij h2
  rw [getElem!_pos d j h2, getElem!_pos d i h1] at this
  simp only [Array.getElem_toList]
  exact this
set_option maxHeartbeats 1000000 in
theorem sorts_has {w : World} {rs : List Res} (hT : Nm.Tabs w) (hS : SortLaw) (hN : SortNone) : Sorts w.heap.size w rs SortTo := by
  intro wq v l hs hlen h
  have own := h.ownK List.mem_cons_self
  have hbw := h.bel
  rcases own.2 with ⟨rfl, h0⟩ | ⟨g, cap, cur, rfl, hb, hg, hnc, hcm, hcs, htake⟩
  · have e := List.eq_nil_of_length_eq_zero h0
    subst e
    exact (hN 0 wq).mono fun e w' ⟨k1, k2⟩ => ⟨k1, [], ⟨List.Perm.refl _, List.Pairwise.nil⟩, by rw [k2]; exact h⟩
  · have hgB : w.heap.size ≤ g := by
      obtain ⟨F, ⟨_, rfl⟩, hF⟩ := h.get List.mem_cons_self
      exact hF g rfl
    have htl : (txts l hs).length = l.length := by rw [← List.length_map (f := (·.1)), txts_val]
    have hvals : l.map (fun s => Value.string s) = (txts l hs).map encT := by
      conv => lhs; rw [← txts_val l hs]
      rw [List.map_map]
      rfl
    have hd : (txts l hs).toArray.size = l.length := by simpa using htl
    have hH : Holds encT wq g 0 (txts l hs).toArray := by
      intro j hj
      have hj' : j < (txts l hs).length := by simpa using hj
      refine ⟨?_, by simp [World.frozen?, hg]⟩
      have h1 : (cur.toList.take (l.length * 1))[j]? = ((txts l hs).map encT)[j]? := by rw [htake, hvals]
      rw [List.getElem?_take_of_lt (by omega)] at h1
      simp only [World.cell?, hg, Nat.zero_add]
      simp only [Option.isSome_none, Bool.false_eq_true, if_false]
      rw [← Array.getElem?_toList, h1]
      simp [hj']
    have C := hS g cap (txts l hs).toArray wq (lays wq w hT hbw g hgB _) hH (Array.getElem?_eq_some_iff.1 hg).1 (by omega)
    rw [hd] at C
    refine C.mono ?_
    rintro e w' ⟨k1, d', n, os, ⟨hsz, _, hperm⟩, hso, rfl⟩
    rw [hd] at hsz
    have hd' : d'.size = l.length := hsz
    have hl2 : (d'.toList.map (·.1)).length = l.length := by simp [hd']
    refine ⟨k1, d'.toList.map (·.1), ⟨?_, ?_⟩, ?_⟩
    · have hx1 : d'.extract 0 l.length = d' := by rw [← hd']; simp
      have hx2 : (txts l hs).toArray.extract 0 l.length = (txts l hs).toArray := by rw [← hd]; simp
      rw [hx1, hx2] at hperm
      have := hperm.map (·.1)
      simp only [txts_val] at this
      exact this
    · rw [← hd'] at hso
      exact rising_of hso
    · refine h.turn (new := [KR (.slice (some ⟨g, 0, none⟩) l.length cap) (d'.toList.map (·.1))]) ?_
      rintro F ⟨_, rfl⟩
      refine ⟨_, Hold.one ⟨?_, rfl⟩, chg_grown (grownBy_sortT _), fun k hk => Or.inl hk⟩
      rw [hl2, List.map_map]
      have e1 : d'.toList.map ((fun s => Value.string s) ∘ (·.1)) = d'.toList.map encT := rfl
      rw [e1]
      have hdl : d'.toList.length = l.length := by simpa using hd'
      refine ⟨by simp [hd'], .inr ⟨g, cap, _, rfl, Nat.zero_le _, heap_sortT _ hg, hnc, hcm, by simp [putCells, hcs], ?_⟩⟩
      rw [Nat.mul_one, ← hdl]
      exact take_sortT cur d'.toList (by omega)
end Go.Proofs.YthdloddcljbjhaaDoor
