/- The document's Due, reckoned: behind each of the ids. -/
import Derived.Test.YteadnjagandkfaaRefD
set_option linter.unusedVariables false
set_option maxRecDepth 100000
namespace Go.Proofs.Yteadnjagandkfaa
open Go.RowKit
open WheelMath RetryMath
open Go.Maps (Keyed)

/-- Behind the first k ids. -/
def dueTo (tab : List Int) (now : Int) (A : Ws) (k : Nat) : Ws := fun j => if j ≤ (k : Int) then dueA tab now A j else A j
theorem dueTo_next {tab : List Int} {now : Int} {A : Ws} {k : Nat} (hk : 1 ≤ k) : dueTo tab now A k = upd (dueTo tab now A (k - 1)) (k : Int) (dueA tab now A (k : Int)) := by
  funext j
  unfold dueTo
  by_cases e : j = (k : Int)
  · subst e; rw [upd_same, if_pos (Int.le_refl _)]
  · rw [upd_other _ _ e]
    by_cases h : j ≤ (k : Int)
    · rw [if_pos h, if_pos (by omega)]
    · rw [if_neg h, if_neg (by omega)]
theorem dueTo_at {tab : List Int} {now : Int} {A : Ws} {k : Nat} (hk : 1 ≤ k) : dueTo tab now A (k - 1) (k : Int) = A (k : Int) := by
  unfold dueTo
  rw [if_neg (by omega)]
theorem dueTo_zero {n : Int} {tab : List Int} {now : Int} {A : Ws} (h : AOk n A) : dueTo tab now A 0 = A := by
  funext j
  unfold dueTo dueA
  split
  · cases e : A j with
    | none => rfl
    | some y => have := h j y e; omega
  · rfl
theorem dueTo_all {n : Int} {tab : List Int} {now : Int} {A : Ws} (h : AOk n A) : dueTo tab now A 60 = dueA tab now A := by
  funext j
  unfold dueTo
  split
  · rfl
  · unfold dueA
    cases e : A j with
    | none => rfl
    | some y => have := h j y e; omega
theorem ids60_next {k : Nat} (hk : 1 ≤ k) : ids60 k = ids60 (k - 1) ++ [(k : Int)] := by
  obtain ⟨m, rfl⟩ : ∃ m, k = m + 1 := ⟨k - 1, by omega⟩
  rw [ids60_succ]
  simp
theorem dueL_next {A : Ws} {now : Int} {k : Nat} (hk : 1 ≤ k) : dueL A now k = dueL A now (k - 1) ++ (if isDue A now (k : Int) then [(k : Int)] else []) := by
  unfold dueL
  rw [ids60_next hk, List.filter_append]
  congr 1
  cases h : isDue A now (k : Int) <;> simp [h]
theorem lateL_next {A : Ws} {now : Int} {k : Nat} (hk : 1 ≤ k) : lateL A now k = lateL A now (k - 1) ++ (if isLate A now (k : Int) then [(k : Int)] else []) := by
  unfold lateL
  rw [ids60_next hk, List.filter_append]
  congr 1
  cases h : isLate A now (k : Int) <;> simp [h]
section
variable {B : Nat} {w : World} {rs : List Res}
/-- A number behind a row of one's own. -/
theorem Has.snoc {ao : Option Addr} {cap : Nat} {l : List Int} {wa w2 : World} {g' cap' : Nat} {t : Int} (ha : Has B w (IRowR (.slice ao l.length cap) l :: rs) wa)
    (ho : w2.ownsRow 0 3 1 (.slice (some ⟨g', 0, none⟩) (l.length + 1) cap') (l.length + 1) ((l.map fun n => Value.int .i64 n) ++ [.int .i64 t])) (hwh : (Value.slice ao l.length cap).ownBlock = some g' ∨ wa.heap.size ≤ g') (hch : Chg (fun k => (Value.slice ao l.length cap).ownBlock = some k) wa w2) :
    Has B w (IRowR (.slice (some ⟨g', 0, none⟩) (l ++ [t]).length cap') (l ++ [t]) :: rs) w2 := by
  have hlen : (l ++ [t]).length = l.length + 1 := by simp
  have e2 : (l ++ [t]).map (fun n => Value.int .i64 n) = (l.map fun n => Value.int .i64 n) ++ [.int .i64 t] := by simp
  have x := ha.grow (v' := .slice (some ⟨g', 0, none⟩) (l.length + 1) cap') (m := l.length + 1) (ys := (l.map fun n => Value.int .i64 n) ++ [.int .i64 t]) ho (fun g1 hg1 => by
    have : g' = g1 := by simpa [Value.ownBlock] using hg1
    subst this
    exact hwh) hch
  show Has B w (OwnR 3 1 _ (l ++ [t]).length ((l ++ [t]).map fun n => Value.int .i64 n) :: rs) w2
  rw [hlen, e2]
  exact x
/-- What Due holds at one of the ids: the copy of the one, the document's retry, the two rows, the table. -/
abbrev DS (wb : Nat) (y : Option Wt) (x : Nat) (v : Value) (dl : Int) (A : Ws) (a1 : Option Addr) (c1 : Nat) (K : List Int) (a2 : Option Addr) (c2 : Nat) (L : List Int) (tab : List Int) (rs : List Res) : List Res :=
  BlockR wb [xcell y 0, xcell y 1, xcell y 2, xcell y 3, xcell y 4] :: XR x v dl A :: IRowR (.slice a1 K.length c1) K :: IRowR (.slice a2 L.length c2) L :: IRowR v tab :: rs
variable {wb : Nat} {y : Option Wt} {x : Nat} {v : Value} {dl : Int} {A : Ws} {a1 : Option Addr} {c1 : Nat} {K : List Int} {a2 : Option Addr} {c2 : Nat} {L : List Int} {tab : List Int} {wr : World}
theorem ds_again : (DS wb y x v dl A a1 c1 K a2 c2 L tab rs).Perm (IRowR (.slice a1 K.length c1) K :: BlockR wb [xcell y 0, xcell y 1, xcell y 2, xcell y 3, xcell y 4] :: XR x v dl A :: IRowR (.slice a2 L.length c2) L :: IRowR v tab :: rs) := List.perm_middle (l₁ := [_, _]) (l₂ := _ :: _ :: rs)
theorem ds_late : (DS wb y x v dl A a1 c1 K a2 c2 L tab rs).Perm (IRowR (.slice a2 L.length c2) L :: BlockR wb [xcell y 0, xcell y 1, xcell y 2, xcell y 3, xcell y 4] :: XR x v dl A :: IRowR (.slice a1 K.length c1) K :: IRowR v tab :: rs) := List.perm_middle (l₁ := [_, _, _]) (l₂ := _ :: rs)
/-- The copy's cells, and whether they may be written. -/
theorem Has.dsCell (h : Has B w (DS wb y x v dl A a1 c1 K a2 c2 L tab rs) wr) (k : Nat) (hk : k < 5) : wr.cell? ⟨wb, k, none⟩ = some (xcell y k) ∧ wr.frozen? ⟨wb, k, none⟩ = false := by
  rcases (show k = 0 ∨ k = 1 ∨ k = 2 ∨ k = 3 ∨ k = 4 by omega) with rfl | rfl | rfl | rfl | rfl
  · exact h.cell List.mem_cons_self 0 _ rfl
  · exact h.cell List.mem_cons_self 1 _ rfl
  · exact h.cell List.mem_cons_self 2 _ rfl
  · exact h.cell List.mem_cons_self 3 _ rfl
  · exact h.cell List.mem_cons_self 4 _ rfl
/-- A cell of the copy, written anew. -/
theorem Has.dsPut (h : Has B w (DS wb y x v dl A a1 c1 K a2 c2 L tab rs) wr) (k0 : Nat) (hk : k0 < 5) (z : Option Wt) (u : Value) (hu : u = xcell z k0) (hA : ∀ k, k < 5 → k ≠ k0 → xcell y k = xcell z k) : Has B w (DS wb z x v dl A a1 c1 K a2 c2 L tab rs) (wr.setCell ⟨wb, k0, none⟩ u) := by
  have e : [xcell y 0, xcell y 1, xcell y 2, xcell y 3, xcell y 4].set k0 u = [xcell z 0, xcell z 1, xcell z 2, xcell z 3, xcell z 4] := by
    rcases (show k0 = 0 ∨ k0 = 1 ∨ k0 = 2 ∨ k0 = 3 ∨ k0 = 4 by omega) with rfl | rfl | rfl | rfl | rfl
    · simp only [List.set_cons_zero, hu, hA 1 (by omega) (by omega), hA 2 (by omega) (by omega), hA 3 (by omega) (by omega), hA 4 (by omega) (by omega)]
    · simp only [List.set_cons_zero, List.set_cons_succ, hu, hA 0 (by omega) (by omega), hA 2 (by omega) (by omega), hA 3 (by omega) (by omega), hA 4 (by omega) (by omega)]
    · simp only [List.set_cons_zero, List.set_cons_succ, hu, hA 0 (by omega) (by omega), hA 1 (by omega) (by omega), hA 3 (by omega) (by omega), hA 4 (by omega) (by omega)]
    · simp only [List.set_cons_zero, List.set_cons_succ, hu, hA 0 (by omega) (by omega), hA 1 (by omega) (by omega), hA 2 (by omega) (by omega), hA 4 (by omega) (by omega)]
    · simp only [List.set_cons_zero, List.set_cons_succ, hu, hA 0 (by omega) (by omega), hA 1 (by omega) (by omega), hA 2 (by omega) (by omega), hA 3 (by omega) (by omega)]
  have p := h.put k0 (by simpa using hk) u
  rw [e] at p
  exact p
/-- The copy goes back. -/
theorem Has.dsBack (h : Has B w (DS wb y x v dl A a1 c1 K a2 c2 L tab rs) wr) (m : Nat) (hm : m < 61) : Has B w (XR x v dl (upd A m y) :: IRowR (.slice a1 K.length c1) K :: IRowR (.slice a2 L.length c2) L :: IRowR v tab :: rs) (put5 wr x (2 + m * 5) (xcell y 0) (xcell y 1) (xcell y 2) (xcell y 3) (xcell y 4)).drew :=
  (h.drop.xput m hm y).below (Below.refl _ _).drew
/-- What is at hand at the id: all that region 17 reads and writes. -/
structure AtId (wr : World) (wb x m : Nat) (y : Option Wt) (z : Option Wt) : Prop where
  b : ∀ k, k < 5 → wr.cell? ⟨wb, k, none⟩ = some (xcell y k)
  c : ∀ k, k < 5 → wr.cell? ⟨x, 2 + m * 5 + k, none⟩ = some (xcell z k)
  f : ∀ j, wr.frozen? ⟨x, j, none⟩ = false
theorem Has.atId (h : Has B w (DS wb y x v dl A a1 c1 K a2 c2 L tab rs) wr) (m : Nat) (hm : m < 61) : AtId wr wb x m y (A (m : Int)) := by
  obtain ⟨_, _, hc, hf⟩ := h.xr (x := x) (v := v) (dl := dl) (A := A) (by simp)
  exact ⟨fun k hk => (h.dsCell k hk).1, fun k hk => hc m k hm hk, hf⟩
end
end Go.Proofs.Yteadnjagandkfaa
