/- The program's journal beside blocks of the law's own. -/
import Derived.Test.YtklgfapdgeoigaaDoorBegunW
import Derived.Test.YtklgfapdgeoigaaDoorPlayM
set_option linter.unusedVariables false
set_option maxRecDepth 100000
namespace Go.Proofs.YtklgfapdgeoigaaDoor
open Go.RowKit
open JournalMath DiskMath
open Fr (Tab tab_below tab_drewN)
open Dk (PDisk RDisk ROk DIn Chg fp fp_lt rdisk_below rdisk_chg chg_below pdisk_below pdisk_chg)

/-- A journal and its disk from block B on, none of whose blocks is among those of N. -/
def Sole (B : Nat) (w : World) (bj bd : Nat) (s : JS) (N : Nat → Prop) (wr : World) : Prop :=
  ∃ V, PDisk wr bd V s.d ∧ JCells wr bj bd s.f s.g s.n ∧ ¬ fp bd V bj ∧ (∀ k, fp bd V k ∨ k = bj → B ≤ k) ∧ (∀ k, N k → k < wr.heap.size ∧ ¬ (fp bd V k ∨ k = bj)) ∧ Below B w wr
theorem Sole.bel {B : Nat} {w wr : World} {bj bd : Nat} {s : JS} {N : Nat → Prop} (h : Sole B w bj bd s N wr) : Below B w wr := h.choose_spec.2.2.2.2.2
/-- A call on the journal. -/
theorem Sole.call {B : Nat} {w wr : World} {bj bd : Nat} {s s' : JS} {N : Nat → Prop} {f : FuncId} {args : Array Value} {r : Value} (h : Sole B w bj bd s N wr) (hB : B ≤ wr.heap.size) (hT : Tab w) (hBw : w.heap.size ≤ B)
    (hc : ∀ (T : Nat → Prop), JIn T wr bj bd s wr → T 0 → Tab wr → Calls Tryd.prog f args wr fun e w' => e = .returned r ∧ JIn T wr bj bd s' w') :
    Calls Tryd.prog f args wr fun e w' => e = .returned r ∧ Sole B w bj bd s' N w' ∧ (∀ k, N k → w'.heap[k]? = wr.heap[k]?) ∧ wr.heap.size ≤ w'.heap.size := by
  obtain ⟨V, h1, h2, h3, h4, h5, h6⟩ := h
  have hT1 : Tab wr := fun i hi => by
    have h0 := hT i hi
    have hlt := block_lt_of_cell h0
    rw [h6.cell (p := ⟨0, i, none⟩) (by simp only at hlt ⊢; omega)]
    exact h0
  have hG : 0 < wr.heap.size ∧ ¬ (fp bd V 0 ∨ 0 = bj) := ⟨tab_lt hT1, fun hf => by have := h4 _ hf; have := tab_lt hT; omega⟩
  refine (hc (fun k => k < wr.heap.size ∧ ¬ (fp bd V k ∨ k = bj)) ⟨V, h1, h2, fun k hk _ ht => ht.2 hk, h3, Chg.refl _ _⟩ hG hT1).mono ?_
  rintro e w' ⟨k1, V2, g1, g2, g3, g4, g5⟩
  have hV : ∀ k, fp bd V2 k ∨ k = bj → k < wr.heap.size → fp bd V k ∨ k = bj := fun k hk hlt => Classical.byContradiction fun hn => g3 k hk hlt ⟨hlt, hn⟩
  refine ⟨k1, ⟨V2, g1, g2, g4, fun k hk => ?_, fun k hk => ⟨by have := (h5 k hk).1; have := g5.size; omega, fun hf => (h5 k hk).2 (hV k hf (h5 k hk).1)⟩, h6.trans ⟨g5.os, g5.tape, g5.output, g5.size, fun k hk => g5.block k (by omega) (fun hn => hn ⟨by omega, fun hf => by have := h4 k hf; omega⟩)⟩⟩, fun k hk => g5.block k (h5 k hk).1 (fun hn => hn (h5 k hk)), g5.size⟩
  by_cases hlt : k < wr.heap.size
  · exact h4 k (hV k hk hlt)
  · omega
/-- What the law writes into its own blocks. -/
theorem Sole.own {B : Nat} {w wr w2 : World} {bj bd : Nat} {s : JS} {N N' : Nat → Prop} (h : Sole B w bj bd s N wr) (hB : B ≤ wr.heap.size) (hc : Chg N wr w2) (hNB : ∀ k, N k → B ≤ k) (hN : ∀ k, N' k → (N k ∨ wr.heap.size ≤ k) ∧ k < w2.heap.size) : Sole B w bj bd s N' w2 := by
  obtain ⟨V, h1, h2, h3, h4, h5, h6⟩ := h
  refine ⟨V, pdisk_chg h1 hc (fun k hk hn => (h5 k hn).2 (Or.inl hk)), h2.block (hc.block _ h2.lt (fun hn => (h5 _ hn).2 (Or.inr rfl))) hc.size, h3, h4, fun k hk => ⟨(hN k hk).2, fun hf => ?_⟩, h6.trans ⟨hc.os, hc.tape, hc.output, hc.size, fun k hk => hc.block k (by omega) (fun hn => by have := hNB k hn; omega)⟩⟩
  rcases (hN k hk).1 with h | h
  · exact (h5 k h).2 hf
  · rcases hf with hf | hf
    · have := fp_lt h1 k hf; omega
    · have := h2.lt; omega
theorem Quad.sole {B : Nat} {w w1 : World} {bd bj bx by_ : Nat} {s : JS} (h : Quad B w bd bj bx by_ s w1) : Sole B w bj bd s (fun _ => False) w1 := by
  obtain ⟨V, g1, g2, g3, g4, g5, g6, g7, g8, g9, g10, g11, g12⟩ := h
  exact ⟨V, g1, g2, g6, fun k hk => by
    rcases hk with hk | hk
    · exact g5 k (Or.inl hk)
    · exact g5 k (Or.inr (Or.inl hk)), fun k hk => hk.elim, g12⟩
/-- What was told, in memory: three cells at block B, and the row of its records. -/
structure ToldAt (B : Nat) (sn : ByteArray) (v : Value) (rs : List (List UInt8)) (sf : Nat) (wr : World) : Prop where
  cs : wr.cell? ⟨B, 0, none⟩ = some (.string sn)
  cr : wr.cell? ⟨B, 1, none⟩ = some v
  cn : wr.cell? ⟨B, 2, none⟩ = some (.int .i64 (sf : Int))
  free : ∀ j, wr.frozen? ⟨B, j, none⟩ = false
  own : wr.ownsRow (B + 1) 9 1 v rs.length (rs.map strV)
/-- The told ones stay where their blocks do. -/
theorem ToldAt.blocks {B sf : Nat} {sn : ByteArray} {v : Value} {rs : List (List UInt8)} {wr w' : World} (h : ToldAt B sn v rs sf wr) (h1 : w'.heap[B]? = wr.heap[B]?) (h2 : ∀ g, v.ownBlock = some g → w'.heap[g]? = wr.heap[g]?) : ToldAt B sn v rs sf w' := by
  refine ⟨(World.cell?_of_block (w := wr) (a := ⟨B, 0, none⟩) h1).trans h.cs, (World.cell?_of_block (w := wr) (a := ⟨B, 1, none⟩) h1).trans h.cr, (World.cell?_of_block (w := wr) (a := ⟨B, 2, none⟩) h1).trans h.cn, fun j => (World.frozen?_of_block (w := wr) (a := ⟨B, j, none⟩) h1).trans (h.free j), ?_⟩
  refine ⟨h.own.1, ?_⟩
  rcases h.own.2 with h0 | ⟨g, cap, cur, hv, hb, hgg, rest⟩
  · exact Or.inl h0
  · refine Or.inr ⟨g, cap, cur, hv, hb, ?_, rest⟩
    rw [h2 g (by rw [hv]; rfl)]
    exact hgg
theorem ToldAt.below {B sf : Nat} {sn : ByteArray} {v : Value} {rs : List (List UInt8)} {wr w' : World} (h : ToldAt B sn v rs sf wr) (hb : Below wr.heap.size wr w') : ToldAt B sn v rs sf w' :=
  h.blocks (hb.block _ (block_lt_of_cell h.cs)) (fun g hg => hb.block _ (h.own.lt g hg).2)
theorem ToldAt.row {B sf : Nat} {sn : ByteArray} {v : Value} {rs : List (List UInt8)} {wr : World} (h : ToldAt B sn v rs sf wr) (i : Nat) (u : Value) : (wr.setCell ⟨B, i, none⟩ u).ownsRow (B + 1) 9 1 v rs.length (rs.map strV) :=
  ownsRow_setCell_other h.own (a := ⟨B, i, none⟩) (fun e => by have : B + 1 ≤ B := (h.own.lt _ e).1; omega) u
/-- How many are safe, written anew. -/
theorem ToldAt.safe {B sf : Nat} {sn : ByteArray} {v : Value} {rs : List (List UInt8)} {wr : World} (h : ToldAt B sn v rs sf wr) (n : Nat) : ToldAt B sn v rs n (wr.setCell ⟨B, 2, none⟩ (.int .i64 (n : Int))) := by
  refine ⟨?_, ?_, World.cell?_setCell_same wr _ _ h.cn, fun j => ?_, h.row 2 _⟩
  · rw [World.cell?_setCell_other _ _ _ _ (by simp)]; exact h.cs
  · rw [World.cell?_setCell_other _ _ _ _ (by simp)]; exact h.cr
  · rw [World.frozen?_setCell]; exact h.free j
/-- All of it written anew, with no records. -/
theorem ToldAt.anew {B sf : Nat} {sn : ByteArray} {v : Value} {rs : List (List UInt8)} {wr : World} (h : ToldAt B sn v rs sf wr) (sn' : ByteArray) :
    ToldAt B sn' (.slice none 0 0) [] 0 (((wr.setCell ⟨B, 0, none⟩ (.string sn')).setCell ⟨B, 1, none⟩ (.slice none 0 0)).setCell ⟨B, 2, none⟩ (.int .i64 0)) := by
  have o : ∀ (w : World) (i j : Nat) (u : Value), i ≠ j → (w.setCell ⟨B, j, none⟩ u).cell? ⟨B, i, none⟩ = w.cell? ⟨B, i, none⟩ := fun w i j u h => World.cell?_setCell_other w _ _ _ (fun e => h (congrArg Addr.off e).symm)
  refine ⟨?_, ?_, ?_, fun j => ?_, World.ownsRow_nil _ _ _ _⟩
  · rw [o _ 0 2 _ (by decide), o _ 0 1 _ (by decide)]; exact World.cell?_setCell_same wr _ _ h.cs
  · rw [o _ 1 2 _ (by decide)]; exact World.cell?_setCell_same _ _ _ ((o _ 1 0 _ (by decide)).trans h.cr)
  · exact World.cell?_setCell_same _ _ _ ((o _ 2 1 _ (by decide)).trans ((o _ 2 0 _ (by decide)).trans h.cn))
  · rw [World.frozen?_setCell, World.frozen?_setCell, World.frozen?_setCell]; exact h.free j
/-- A record more. -/
theorem ToldAt.push {B sf : Nat} {sn : ByteArray} {v v' : Value} {rs : List (List UInt8)} {r : List UInt8} {wr w1 : World} {o : Obj} (h : ToldAt B sn v rs sf wr)
    (hown' : w1.ownsRow (B + 1) 9 1 v' (rs.length + 1) (rs.map strV ++ [strV r])) (hg : (wr.alloc o).grownBy w1 v.ownBlock) :
    w1.cell? ⟨B, 1, none⟩ = some v ∧ w1.frozen? ⟨B, 1, none⟩ = false ∧ ToldAt B sn v' (rs ++ [r]) sf (w1.setCell ⟨B, 1, none⟩ v') ∧ Chg (fun k => k = B ∨ v.ownBlock = some k) wr (w1.setCell ⟨B, 1, none⟩ v') ∧ ∀ g, v'.ownBlock = some g → g < (w1.setCell ⟨B, 1, none⟩ v').heap.size := by
  have k := block_lt_of_cell h.cs
  simp only at k
  have hb : Below (B + 1) wr w1 := ((Below.refl _ wr).alloc (by omega) o).grown hg (by simp; omega) (fun j hj => (h.own.lt j hj).1)
  have c := fun j => hb.cell (p := ⟨B, j, none⟩) (by simp)
  have f1 : w1.frozen? ⟨B, 1, none⟩ = false := (hb.frozen (p := ⟨B, 1, none⟩) (by simp)).trans (h.free 1)
  refine ⟨(c 1).trans h.cr, f1, ⟨?_, World.cell?_setCell_same w1 _ _ ((c 1).trans h.cr), ?_, fun j => ?_, ?_⟩, ?_, fun g hg' => by simpa using (hown'.lt g hg').2⟩
  · rw [World.cell?_setCell_other _ _ _ _ (by simp), c]; exact h.cs
  · rw [World.cell?_setCell_other _ _ _ _ (by simp), c]; exact h.cn
  · rw [World.frozen?_setCell]; exact (hb.frozen (p := ⟨B, j, none⟩) (by simp)).trans (h.free j)
  · exact own_cast (by simp) (by simp) (ownsRow_setCell_other hown' (a := ⟨B, 1, none⟩) (fun e => by have : B + 1 ≤ B := (hown'.lt _ e).1; omega) v')
  · have hc1 : Chg (fun k => v.ownBlock = some k) wr w1 := by
      refine ⟨hg.os, hg.tape, hg.output, by have := hg.size; simp at this; omega, fun j hj hn => ?_⟩
      rw [hg.block j (by simp; omega) (fun e => hn e.symm)]
      exact heap_alloc_old wr o hj
    exact (hc1.mono (fun k _ hk => Or.inr hk)).trans (Dk.chg_set w1 ⟨B, 1, none⟩ v') (fun k _ hk => Or.inl hk)
end Go.Proofs.YtklgfapdgeoigaaDoor
