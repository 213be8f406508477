/- The document's Drop. -/
import Derived.Test.YthdloddcljbjhaaDoorRefB
set_option linter.unusedVariables false
set_option maxRecDepth 100000
namespace Go.Proofs.YthdloddcljbjhaaDoor
open Go.RowKit CheckMath

theorem infoL : (Tryd.prog.info? 55).map (fun i => (i.zero, i.size, i.bytes)) = some (some (.agg #[.string ⟨#[]⟩, .int .i64 0]), 2, 24) := by kernel_rfl
theorem two_one (s : ByteArray) (x : Int) : ∀ u ∈ [Value.string s, .int .i64 x], u.oneCell' = true := by intro u hu; simp at hu; rcases hu with rfl | rfl <;> rfl
/-- What the others have, by the row. -/
def leftL (L : List Lk) (i : Int) : List Lk := L.filter fun x => decide (x.2 ≠ i)
theorem leftL_yes (L : List Lk) (i : Int) (k : Nat) (hk : k < L.length) (h : (lkAt L k).2 ≠ i) : leftL (L.take (k + 1)) i = leftL (L.take k) i ++ [lkAt L k] := by
  unfold leftL
  rw [List.take_succ_eq_append_getElem hk, List.filter_append]
  have e : lkAt L k = L[k] := by simp [lkAt, List.getD, hk]
  rw [e] at h ⊢
  simp [h]
theorem leftL_no (L : List Lk) (i : Int) (k : Nat) (hk : k < L.length) (h : (lkAt L k).2 = i) : leftL (L.take (k + 1)) i = leftL (L.take k) i := by
  unfold leftL
  rw [List.take_succ_eq_append_getElem hk, List.filter_append]
  have e : lkAt L k = L[k] := by simp [lkAt, List.getD, hk]
  rw [e] at h
  simp [h]
theorem leftL_len (L : List Lk) (i : Int) (k : Nat) : (leftL (L.take k) i).length ≤ k := by
  unfold leftL
  exact Nat.le_trans (List.length_filter_le _ _) (by rw [List.length_take]; omega)
theorem Has.growL {B : Nat} {w wr w2 : World} {v v' : Value} {xs ys : List Lk} {rs : List Res} (h : Has B w (LR v xs :: rs) wr)
    (ho : w2.ownsRow 0 55 2 v' ys.length (lcells ys)) (hw : ∀ g, v'.ownBlock = some g → v.ownBlock = some g ∨ wr.heap.size ≤ g) (hc : Chg (fun k => v.ownBlock = some k) wr w2) : Has B w (LR v' ys :: rs) w2 := by
  refine h.turn (new := [LR v' ys]) ?_
  rintro F ⟨_, rfl⟩
  exact ⟨_, Hold.one ⟨ho, rfl⟩, hc, hw⟩
end Go.Proofs.YthdloddcljbjhaaDoor
