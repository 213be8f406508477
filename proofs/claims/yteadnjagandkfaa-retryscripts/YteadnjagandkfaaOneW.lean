/- One instance alone: what a Due and a Moved do to it. -/
import Derived.Test.YteadnjagandkfaaFitW
set_option linter.unusedVariables false
set_option maxRecDepth 100000
namespace Go.Proofs.Yteadnjagandkfaa
open Go.RowKit
open WheelMath RetryMath
open Go.Maps (Keyed)

def one (id : Int) (x : Wt) : Ws := upd none0 id (some x)
theorem one_self (id : Int) (x : Wt) : one id x id = some x := upd_same _ _ _
theorem one_other (id : Int) (x : Wt) {j : Int} (h : j ≠ id) : one id x j = none := upd_other _ _ h
theorem filter_one (id : Int) (h1 : 1 ≤ id) (h2 : id ≤ 60) (p : Int → Bool) (hp : ∀ j, j ≠ id → p j = false) : (ids60 60).filter p = if p id then [id] else [] := by
  refine rising_uniq ((ids60_rising 60).filter _) ?_ (fun x => ?_)
  · split <;> simp
  · rw [List.mem_filter, mem_ids60]
    by_cases e : x = id
    · subst e
      cases hx : p x <;> simp <;> omega
    · have := hp x e
      split <;> simp [this, e]
theorem dueL_one (id : Int) (h1 : 1 ≤ id) (h2 : id ≤ 60) (x : Wt) (now : Int) : dueL (one id x) now 60 = if decide (x.again ≤ now) then [id] else [] := by
  have h := filter_one id h1 h2 (isDue (one id x) now) (fun j hj => by unfold isDue; rw [one_other id x hj])
  unfold dueL
  rw [h]
  unfold isDue
  rw [one_self]
theorem lateL_one (id : Int) (h1 : 1 ≤ id) (h2 : id ≤ 60) (x : Wt) (now : Int) : lateL (one id x) now 60 = if !x.told && decide (x.late ≤ now) then [id] else [] := by
  have h := filter_one id h1 h2 (isLate (one id x) now) (fun j hj => by unfold isLate; rw [one_other id x hj])
  unfold lateL
  rw [h]
  unfold isLate
  rw [one_self]
theorem dueA_one (tab : List Int) (now id : Int) (x : Wt) : dueA tab now (one id x) = one id (dueW tab now x) := by
  funext j
  unfold dueA
  by_cases e : j = id
  · subst e; rw [one_self, one_self]; rfl
  · rw [one_other id x e, one_other id _ e]; rfl
theorem upd_one (id : Int) (x y : Wt) : upd (one id x) id (some y) = one id y := by
  funext j
  by_cases e : j = id
  · subst e; rw [upd_same, one_self]
  · rw [upd_other _ _ e, one_other id x e, one_other id y e]
/-- The one, where the law asks at a time. -/
def wt (tr nx dl now : Int) : Wt := ⟨tr, nx, dl, decide (dl < now)⟩
theorem dueW_no {tab : List Int} {tr nx dl now : Int} (h : now < nx) : dueW tab now (wt tr nx dl now) = wt tr nx dl (now + 1) := by
  unfold dueW wt
  simp only [Wt.mk.injEq]
  refine ⟨if_neg (by omega), if_neg (by omega), trivial, ?_⟩
  by_cases e : dl < now
  · simp [e, show dl < now + 1 by omega]
  · by_cases e2 : dl ≤ now
    · simp [e, e2, show dl < now + 1 by omega]
    · simp [e, e2, show ¬ dl < now + 1 by omega]
theorem dueW_yes {tab : List Int} {tr dl now : Int} : dueW tab now (wt tr now dl now) = wt (tr + 1) (later now (dly tab (tr + 1))) dl (now + 1) := by
  unfold dueW wt
  simp only [Wt.mk.injEq]
  refine ⟨if_pos (Int.le_refl _), if_pos (Int.le_refl _), trivial, ?_⟩
  by_cases e : dl < now
  · simp [e, show dl < now + 1 by omega]
  · by_cases e2 : dl ≤ now
    · simp [e, e2, show dl < now + 1 by omega]
    · simp [e, e2, show ¬ dl < now + 1 by omega]
theorem movW_wt (tab : List Int) (tr nx dl now t : Int) : movW tab t (wt tr nx dl now) = wt 0 (later t (dly tab 0)) dl now := rfl
theorem later_small {now n : Int} (h : 0 ≤ now) (h1 : now ≤ 200) (h2 : 0 ≤ n) (h3 : n ≤ 1000) : later now n = now + n := by
  unfold later M
  rw [if_neg (by omega)]
section
variable {B : Nat} {w wr : World} {q : Nat} {tab : List Int} {dl N : Int} {rs : List Res}
theorem due_one {id tr nx now : Int} (h : Has B w (RtR q tab dl N (one id (wt tr nx dl now)) :: rs) wr) (ht : may tab = true) (hN : 0 ≤ N) (hN2 : N ≤ 17592186044416) (h1 : 1 ≤ id) (h2 : id ≤ 60) (hn : Tick now) (hx : now ≤ nx) :
    Calls Try.prog 22 #[.pointer (some ⟨q, 0, none⟩), .int .i64 now] wr fun e w' => ∃ ai ci aj cj n1 n2 l1 l2, n1 ≤ 1 ∧ n2 ≤ 1 ∧ e = .returned (.tuple #[.slice ai n1 ci, .slice aj n2 cj]) ∧ Hid (l1.length ≤ 1 ∧ l2.length ≤ 1 ∧ decide (id ∈ l1) = (now == nx) ∧ decide (id ∈ l2) = (now == dl)) ∧
      Hid (Has B w (RtR q tab dl (N + 1) (one id (dueW tab now (wt tr nx dl now))) :: IRowR (.slice aj n2 cj) l2 :: IRowR (.slice ai n1 ci) l1 :: rs) w') := by
  refine (pDue h ht hN hN2 now).mono ?_
  rintro e w' ⟨ai, ci, aj, cj, he, hh⟩
  have e1 : dueX (one id (wt tr nx dl now)) now = if decide (nx ≤ now) then [id] else [] := (if_pos hn).trans (dueL_one id h1 h2 _ now)
  have e2 : lateX (one id (wt tr nx dl now)) now = if !(decide (dl < now)) && decide (dl ≤ now) then [id] else [] := (if_pos hn).trans (lateL_one id h1 h2 _ now)
  have e3 : dueAX tab now (one id (wt tr nx dl now)) = one id (dueW tab now (wt tr nx dl now)) := (if_pos hn).trans (dueA_one tab now id _)
  rw [e3] at hh
  have k1 : (dueX (one id (wt tr nx dl now)) now).length ≤ 1 := by rw [e1]; split <;> simp
  have k2 : (lateX (one id (wt tr nx dl now)) now).length ≤ 1 := by rw [e2]; split <;> simp
  refine ⟨ai, ci, aj, cj, _, _, dueX (one id (wt tr nx dl now)) now, lateX (one id (wt tr nx dl now)) now, k1, k2, he, ⟨k1, k2, ?_, ?_⟩, hh⟩
  · rw [e1]
    by_cases e : now = nx
    · simp [e]
    · simp [e, show ¬ nx ≤ now by omega]
  · rw [e2]
    by_cases e : now = dl
    · simp [e]
    · by_cases e5 : dl < now
      · simp [e, e5]
      · simp [e, e5, show ¬ dl ≤ now by omega]
theorem moved_one {id tr nx now t : Int} (h : Has B w (RtR q tab dl N (one id (wt tr nx dl now)) :: rs) wr) (ht : may tab = true) (hN : 0 ≤ N) (hN2 : N ≤ 17592186044416) (h1 : 1 ≤ id) (h2 : id ≤ 60) (hn : Tick t) :
    Calls Try.prog 18 #[.pointer (some ⟨q, 0, none⟩), .int .i64 id, .int .i64 t] wr fun e w' => e = .returned (.int .i64 0) ∧ Has B w (RtR q tab dl (N + 1) (one id (wt 0 (later t (dly tab 0)) dl now)) :: rs) w' := by
  have e1 : movOk (one id (wt tr nx dl now)) id t = true := by unfold movOk; rw [one_self]; simp [hn]
  have e2 : movA tab (one id (wt tr nx dl now)) id t = one id (wt 0 (later t (dly tab 0)) dl now) := by
    unfold movA
    rw [e1, if_pos rfl, one_self]
    exact upd_one id _ _
  have x := pMoved h ht hN hN2 id t ⟨by omega, by omega⟩
  rw [e1, e2] at x
  exact x
theorem begin_one {id : Int} (h : Has B w (RtR q tab dl N none0 :: rs) wr) (ht : may tab = true) (hd : 1 ≤ dl) (hd2 : dl ≤ 1073741824) (hN : 0 ≤ N) (hN2 : N ≤ 17592186044416) (h1 : 1 ≤ id) (h2 : id ≤ 60) :
    Calls Try.prog 16 #[.pointer (some ⟨q, 0, none⟩), .int .i64 id, .int .i64 0] wr fun e w' => e = .returned (.int .i64 0) ∧ Has B w (RtR q tab dl (N + 1) (one id (wt 0 (dly tab 0) dl 1)) :: rs) w' := by
  have e1 : begOk none0 id 0 = true := by
    unfold begOk none0
    simp [show Tick 0 by decide]
    omega
  have hb := dly_bounds ht 0
  have e2 : begA tab dl none0 id 0 = one id (wt 0 (dly tab 0) dl 1) := by
    unfold begA
    rw [e1, if_pos rfl]
    unfold one begW wt
    have a1 : later 0 (dly tab 0) = dly tab 0 := by rw [later_small (by omega) (by omega) (by omega) (by omega)]; omega
    have a2 : later 0 dl = dl := by unfold later M; rw [if_neg (by omega)]; omega
    have a3 : decide (dl < 1) = false := by simp; omega
    rw [a1, a2, a3]
  have x := pBegin h ht hd hd2 hN hN2 id 0 ⟨by omega, by omega⟩
  rw [e1, e2] at x
  exact x
theorem stop_one {id : Int} {x : Wt} (h : Has B w (RtR q tab dl N (one id x) :: rs) wr) (hid : I64 id) :
    Calls Try.prog 20 #[.pointer (some ⟨q, 0, none⟩), .int .i64 id] wr fun e w' => e = .returned (.int .i64 0) ∧ Has B w (RtR q tab dl N none0 :: rs) w' := by
  have y := pStop h id hid
  have e2 : stpA (one id x) id = none0 := by
    funext j
    unfold stpA
    by_cases e : j = id
    · subst e; rw [upd_same]; rfl
    · rw [upd_other _ _ e, one_other id x e]; rfl
  rw [one_self, e2] at y
  exact y
theorem stop_none0 {id : Int} (h : Has B w (RtR q tab dl N none0 :: rs) wr) (hid : I64 id) :
    Calls Try.prog 20 #[.pointer (some ⟨q, 0, none⟩), .int .i64 id] wr fun e w' => e = .returned (.int .i64 1) ∧ Has B w rs w' :=
  (pStop h id hid).mono (fun e w' ⟨he, hh⟩ => ⟨he, hh.drop⟩)
end
end Go.Proofs.Yteadnjagandkfaa
