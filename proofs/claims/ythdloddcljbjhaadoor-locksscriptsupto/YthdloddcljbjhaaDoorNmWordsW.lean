/- The walk of Words, in package name. -/
import Derived.Test.YthdloddcljbjhaaDoorNmComp
import Derived.OwnWalk
import Derived.Deep.DeepMust
import Derived.WalkSmall
import Derived.Laws.OwnMore
set_option linter.unusedVariables false
set_option maxRecDepth 100000
namespace Go.Proofs.YthdloddcljbjhaaDoor.Nm
open Go.RowKit

theorem infoS : (Tryd.prog.info? 9).map (fun i => (i.zero, i.size, i.bytes)) = some (some (.string ⟨#[]⟩), 1, 16) := by kernel_rfl

/-- A text as a value. -/
def strV (l : List UInt8) : Value := .string ⟨l.toArray⟩
theorem strV_data (s : ByteArray) : strV s.data.toList = .string s := by unfold strV; simp
theorem extract_data (s : ByteArray) (a b : Nat) : (s.extract a b).data.toList = (s.data.toList.drop a).take (b - a) := by
  simp [ByteArray.data_extract, Array.toList_extract, List.extract]
theorem strV_extract (s : ByteArray) (a b : Nat) : .string (s.extract a b) = strV ((s.data.toList.drop a).take (b - a)) := by
  rw [← strV_data, extract_data]

theorem wd_blank_in (r : Nat) (c cur : List UInt8) (ps : List (Nat × List UInt8)) (hb : NameMath.blank r = true) (hc : cur ≠ []) : NameMath.wd ((r, c) :: ps) cur = cur :: NameMath.wd ps [] := by
  simp [NameMath.wd, hb, hc]
theorem wd_blank_out (r : Nat) (c : List UInt8) (ps : List (Nat × List UInt8)) (hb : NameMath.blank r = true) : NameMath.wd ((r, c) :: ps) [] = NameMath.wd ps [] := by
  simp [NameMath.wd, hb]
theorem wd_letter (r : Nat) (c cur : List UInt8) (ps : List (Nat × List UInt8)) (hb : NameMath.blank r = false) : NameMath.wd ((r, c) :: ps) cur = NameMath.wd ps (cur ++ c) := by
  simp [NameMath.wd, hb]
theorem piece_ne (L : List UInt8) (a b : Nat) (h : a < b) (hb : b ≤ L.length) : (L.drop a).take (b - a) ≠ [] := by
  intro e
  have := congrArg List.length e
  simp at this
  omega
theorem piece_more (L : List UInt8) (a b k : Nat) (h : a ≤ b) : (L.drop a).take (b - a) ++ (L.drop b).take k = (L.drop a).take (b + k - a) := by
  have e : L.drop b = (L.drop a).drop (b - a) := by rw [List.drop_drop]; congr 1; omega
  rw [e, ← List.take_add]
  congr 1
  omega
/-- Behind an append onto a row of the call's own: the iterator stands as it stood; what was there is as it was. -/
theorem after_append {w w2 w' : World} {o it : Obj} {e : TypeId} {sz n : Nat} {v : Value} {xs : List Value} (hb2 : Below w.heap.size w w2) (hz : w.heap.size < w2.heap.size) (hit2 : w2.heap[w.heap.size]? = some it)
    (hown2 : w2.ownsRow (w.heap.size + 1) e sz v n xs) (hg : (w2.alloc o).grownBy w' v.ownBlock) : w'.heap[w.heap.size]? = some it ∧ Below w.heap.size w w' := by
  have hne : ∀ k, v.ownBlock = some k → w.heap.size + 1 ≤ k := fun k h => (hown2.lt k h).1
  constructor
  · rw [hg.block w.heap.size (by simp; omega) (fun h => by have := hne _ h.symm; omega), heap_alloc_old w2 o hz]
    exact hit2
  · exact (hb2.alloc hb2.size o).grown hg (by simp; have := hb2.size; omega) (fun k h => by have := hne k h; omega)
theorem one_cell (s : ByteArray) : ∀ u ∈ [Value.string s], u.oneCell' = true := by intro u hu; simp at hu; subst hu; rfl
theorem one_new (w : World) (u : Value) (t : TypeId) : ∀ (j : Nat) (x : Value), [u][j]? = some x → (w.alloc (.cells #[u] t)).cell? ((⟨w.heap.size, 0, none⟩ : Addr).add j) = some x := cell_one_new w u t

end Go.Proofs.YthdloddcljbjhaaDoor.Nm