/- The walk of the journal's look: what a file has. -/
import Derived.Test.YtahkecdlibkokaaDoorNewW
set_option linter.unusedVariables false
set_option maxRecDepth 100000
namespace Go.Proofs.YtahkecdlibkokaaDoor
open Go.RowKit
open JournalMath DiskMath
open FrameMath (scan)
open Fr (Tab tab_below tab_drewN)
open Dk (PDisk Chg fp DIn din_below din_same din_drewN pdisk_below pdisk_chg fp_lt)

/-- The variable f of look, at block B: its four cells, and the row of its records. -/
structure LookAt (B : Nat) (g : Nat) (sn : ByteArray) (v : Value) (acc : List (List UInt8)) (n : Nat) (wr : World) : Prop where
  cg : wr.cell? ⟨B, 0, none⟩ = some (.int .i64 (g : Int))
  cs : wr.cell? ⟨B, 1, none⟩ = some (.string sn)
  cr : wr.cell? ⟨B, 2, none⟩ = some v
  cn : wr.cell? ⟨B, 3, none⟩ = some (.int .i64 (n : Int))
  free : ∀ j, wr.frozen? ⟨B, j, none⟩ = false
  own : wr.ownsRow (B + 1) 9 1 v acc.length (acc.map strV)
theorem LookAt.below {B g n : Nat} {sn : ByteArray} {v : Value} {acc : List (List UInt8)} {wr w' : World} (h : LookAt B g sn v acc n wr) (hb : Below wr.heap.size wr w') : LookAt B g sn v acc n w' := by
  have k := block_lt_of_cell h.cg
  exact ⟨(hb.cell (p := ⟨B, 0, none⟩) k).trans h.cg, (hb.cell (p := ⟨B, 1, none⟩) k).trans h.cs, (hb.cell (p := ⟨B, 2, none⟩) k).trans h.cr, (hb.cell (p := ⟨B, 3, none⟩) k).trans h.cn, fun j => (hb.frozen (p := ⟨B, j, none⟩) k).trans (h.free j), own_below h.own hb⟩
theorem LookAt.set {B g n : Nat} {sn : ByteArray} {v : Value} {acc : List (List UInt8)} {wr : World} (h : LookAt B g sn v acc n wr) (i : Nat) (u : Value) : (wr.setCell ⟨B, i, none⟩ u).ownsRow (B + 1) 9 1 v acc.length (acc.map strV) :=
  ownsRow_setCell_other h.own (a := ⟨B, i, none⟩) (fun e => by have : B + 1 ≤ B := (h.own.lt _ e).1; omega) u
/-- The head was read. -/
theorem LookAt.head {B g n : Nat} {sn : ByteArray} {v : Value} {acc : List (List UInt8)} {wr : World} (h : LookAt B g sn v acc n wr) (g' : Nat) (sn' : ByteArray) :
    LookAt B g' sn' v acc n ((wr.setCell ⟨B, 0, none⟩ (.int .i64 (g' : Int))).setCell ⟨B, 1, none⟩ (.string sn')) := by
  have d1 : (wr.setCell ⟨B, 0, none⟩ (.int .i64 (g' : Int))).cell? ⟨B, 1, none⟩ = some (.string sn) := (World.cell?_setCell_other wr _ _ _ (by simp)).trans h.cs
  refine ⟨?_, World.cell?_setCell_same _ _ _ d1, ?_, ?_, fun j => ?_, ?_⟩
  · rw [World.cell?_setCell_other _ _ _ _ (by simp)]; exact World.cell?_setCell_same wr _ _ h.cg
  · rw [World.cell?_setCell_other _ _ _ _ (by simp), World.cell?_setCell_other _ _ _ _ (by simp)]; exact h.cr
  · rw [World.cell?_setCell_other _ _ _ _ (by simp), World.cell?_setCell_other _ _ _ _ (by simp)]; exact h.cn
  · rw [World.frozen?_setCell, World.frozen?_setCell]; exact h.free j
  · exact ownsRow_setCell_other (h.set 0 _) (a := ⟨B, 1, none⟩) (fun e => by have : B + 1 ≤ B := (h.own.lt _ e).1; omega) _
/-- The size was written. -/
theorem LookAt.size {B g n : Nat} {sn : ByteArray} {v : Value} {acc : List (List UInt8)} {wr : World} (h : LookAt B g sn v acc n wr) (m : Nat) : LookAt B g sn v acc m (wr.setCell ⟨B, 3, none⟩ (.int .i64 (m : Int))) := by
  refine ⟨?_, ?_, ?_, World.cell?_setCell_same wr _ _ h.cn, fun j => ?_, h.set 3 _⟩
  · rw [World.cell?_setCell_other _ _ _ _ (by simp)]; exact h.cg
  · rw [World.cell?_setCell_other _ _ _ _ (by simp)]; exact h.cs
  · rw [World.cell?_setCell_other _ _ _ _ (by simp)]; exact h.cr
  · rw [World.frozen?_setCell]; exact h.free j
/-- A record was put behind the others. -/
theorem LookAt.push {B g n : Nat} {sn : ByteArray} {v v' : Value} {acc : List (List UInt8)} {r : List UInt8} {wr w1 : World} {o : Obj} (h : LookAt B g sn v acc n wr)
    (hown' : w1.ownsRow (B + 1) 9 1 v' (acc.length + 1) (acc.map strV ++ [strV r])) (hg : (wr.alloc o).grownBy w1 v.ownBlock) :
    LookAt B g sn v acc n wr ∧ w1.cell? ⟨B, 2, none⟩ = some v ∧ w1.frozen? ⟨B, 2, none⟩ = false ∧ LookAt B g sn v' (acc ++ [r]) n (w1.setCell ⟨B, 2, none⟩ v') ∧ ∀ C a, C ≤ B → Below C a wr → Below C a (w1.setCell ⟨B, 2, none⟩ v') := by
  have k := block_lt_of_cell h.cg
  simp only at k
  have hb : Below (B + 1) wr w1 := ((Below.refl _ wr).alloc (by omega) o).grown hg (by simp; omega) (fun j hj => (h.own.lt j hj).1)
  have c := fun j => hb.cell (p := ⟨B, j, none⟩) (by simp)
  have f2 : w1.frozen? ⟨B, 2, none⟩ = false := (hb.frozen (p := ⟨B, 2, none⟩) (by simp)).trans (h.free 2)
  refine ⟨h, (c 2).trans h.cr, f2, ⟨?_, ?_, World.cell?_setCell_same w1 _ _ ((c 2).trans h.cr), ?_, fun j => ?_, ?_⟩, fun C a hC ha => ?_⟩
  · rw [World.cell?_setCell_other _ _ _ _ (by simp), c]; exact h.cg
  · rw [World.cell?_setCell_other _ _ _ _ (by simp), c]; exact h.cs
  · rw [World.cell?_setCell_other _ _ _ _ (by simp), c]; exact h.cn
  · rw [World.frozen?_setCell]; exact (hb.frozen (p := ⟨B, j, none⟩) (by simp)).trans (h.free j)
  · exact own_cast (by simp) (by simp) (ownsRow_setCell_other hown' (a := ⟨B, 2, none⟩) (fun e => by have : B + 1 ≤ B := (hown'.lt _ e).1; omega) v')
  · exact ((ha.alloc (by omega) o).grown hg (by simp; omega) (fun j hj => by have := (h.own.lt j hj).1; omega)).setCell (p := ⟨B, 2, none⟩) hC _

/-- What look has found behind k records. -/
structure Upto (xs : List (List UInt8)) (k g : Nat) (sn : ByteArray) (acc : List (List UInt8)) (n : Nat) : Prop where
  zero : k = 0 → g = 0 ∧ sn = ⟨#[]⟩ ∧ acc = [] ∧ n = 0
  more : ∀ h t, xs = h :: t → 0 < k → g = (readHead h).1 ∧ g ≠ 0 ∧ sn = ⟨(readHead h).2.toArray⟩ ∧ acc = t.take (k - 1) ∧ (∀ r ∈ t.take (k - 1), short r = true) ∧ n = FrameMath.used (h :: t.take (k - 1))
theorem while_take (t : List (List UInt8)) (m : Nat) (h1 : ∀ r ∈ t.take m, short r = true) (h2 : ∀ r, t[m]? = some r → short r = false) : t.takeWhile short = t.take m := by
  induction t generalizing m with
  | nil => simp
  | cons x t ih =>
    cases m with
    | zero =>
      have := h2 x rfl
      simp [List.takeWhile, this]
    | succ m =>
      have hx := h1 x (by simp)
      rw [List.takeWhile_cons, if_pos hx, List.take_succ_cons]
      congr 1
      exact ih m (fun r hr => h1 r (by simp [hr])) (fun r hr => h2 r (by simpa using hr))
/-- Where look ends, it has found what the document says. -/
theorem Upto.ends {xs : List (List UInt8)} {k g : Nat} {sn : ByteArray} {acc : List (List UInt8)} {n : Nat} (h : Upto xs k g sn acc n) (hk : k ≤ xs.length) (he : ∀ r, xs[k]? = some r → 0 < k ∧ short r = false) : foundOf xs = ⟨g, sn.data.toList, acc, n⟩ := by
  cases xs with
  | nil =>
    obtain ⟨rfl, rfl, rfl, rfl⟩ := h.zero (by simpa using hk)
    rfl
  | cons x t =>
    have hk0 : 0 < k := by
      cases k with
      | zero => exact (he x rfl).1
      | succ k => omega
    obtain ⟨h1, h2, h3, h4, h5, h6⟩ := h.more x t rfl hk0
    have hw : t.takeWhile short = t.take (k - 1) := while_take t (k - 1) h5 (fun r hr => (he r (by
      rw [show k = (k - 1) + 1 by omega]; simpa using hr)).2)
    rw [foundOf_yes x t (by omega), hw, ← h4, h1, h3, mk_data, h6, ← h4]
end Go.Proofs.YtahkecdlibkokaaDoor
