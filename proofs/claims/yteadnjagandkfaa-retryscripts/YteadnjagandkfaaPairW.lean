/- Two retries: one in which all wait, one in which one waits alone; calls of a script that came in. -/
import Derived.Test.YteadnjagandkfaaOneW
set_option linter.unusedVariables false
set_option maxRecDepth 100000
namespace Go.Proofs.Yteadnjagandkfaa
open Go.RowKit
open WheelMath RetryMath
open Go.Maps (Keyed)

/-- A call of a script. -/
structure Op where
  Do : Int
  Id : Int
  At : Int
/-- A slice value that leads to the calls of a script. -/
def ORow (w : World) (v : Value) (l : List Op) : Prop := ∃ ao cap, v = .slice ao l.length cap ∧ l.length ≤ cap ∧ (ao = none → cap = 0) ∧ ∀ j, (h : j < l.length) → ∃ g o, ao = some ⟨g, o, none⟩ ∧ g < w.heap.size ∧
  w.cell? ⟨g, o + j * 3, none⟩ = some (.int .i64 l[j].Do) ∧ w.cell? ⟨g, o + j * 3 + 1, none⟩ = some (.int .i64 l[j].Id) ∧ w.cell? ⟨g, o + j * 3 + 2, none⟩ = some (.int .i64 l[j].At)
/-- What is known of each call. -/
def OpOk (o : Op) : Prop := I64 o.Do ∧ I64 o.Id ∧ I64 o.At
theorem orow_below {w w' : World} {v : Value} {l : List Op} (h : ORow w v l) (hb : Below w.heap.size w w') : ORow w' v l := by
  obtain ⟨ao, cap, rfl, hc, hn, hr⟩ := h
  refine ⟨ao, cap, rfl, hc, hn, fun j hj => ?_⟩
  obtain ⟨g, o, h1, h2, k0, k1, k2⟩ := hr j hj
  have hc : ∀ x, w'.cell? ⟨g, x, none⟩ = w.cell? ⟨g, x, none⟩ := fun x => hb.cell (p := ⟨g, x, none⟩) h2
  exact ⟨g, o, h1, Nat.lt_of_lt_of_le h2 hb.size, by rw [hc]; exact k0, by rw [hc]; exact k1, by rw [hc]; exact k2⟩

/-- What waits, of one alone. -/
def restr (A : Ws) (id : Int) : Ws := fun j => if j = id then A id else none
theorem restr_self (A : Ws) (id : Int) : restr A id id = A id := by unfold restr; simp
theorem restr_other (A : Ws) {id j : Int} (h : j ≠ id) : restr A id j = none := by unfold restr; simp [h]
theorem restr_upd_self (A : Ws) (id : Int) (x : Option Wt) : restr (upd A id x) id = upd (restr A id) id x := by
  funext j
  by_cases e : j = id
  · subst e; rw [restr_self, upd_same, upd_same]
  · rw [restr_other _ e, upd_other _ _ e, restr_other _ e]
theorem restr_upd_other (A : Ws) {id k : Int} (h : k ≠ id) (x : Option Wt) : restr (upd A k x) id = restr A id := by
  funext j
  unfold restr
  rw [upd_other A x (fun e => h e.symm)]
theorem restr_none (id : Int) : restr none0 id = none0 := by
  funext j
  unfold restr none0
  split <;> rfl
theorem begOk_restr (A : Ws) (id now : Int) : begOk (restr A id) id now = begOk A id now := by unfold begOk; rw [restr_self]
theorem movOk_restr (A : Ws) (id now : Int) : movOk (restr A id) id now = movOk A id now := by unfold movOk; rw [restr_self]
theorem begA_self (tab : List Int) (dl : Int) (A : Ws) (id now : Int) : restr (begA tab dl A id now) id = begA tab dl (restr A id) id now := by
  unfold begA
  rw [begOk_restr]
  split
  · exact restr_upd_self A id _
  · rfl
theorem begA_other (tab : List Int) (dl : Int) (A : Ws) {id k : Int} (h : k ≠ id) (now : Int) : restr (begA tab dl A k now) id = restr A id := by
  unfold begA
  split
  · exact restr_upd_other A h _
  · rfl
theorem movA_self (tab : List Int) (A : Ws) (id now : Int) : restr (movA tab A id now) id = movA tab (restr A id) id now := by
  unfold movA
  rw [movOk_restr, restr_self]
  split
  · exact restr_upd_self A id _
  · rfl
theorem movA_other (tab : List Int) (A : Ws) {id k : Int} (h : k ≠ id) (now : Int) : restr (movA tab A k now) id = restr A id := by
  unfold movA
  split
  · exact restr_upd_other A h _
  · rfl
theorem dueA_restr (tab : List Int) (now : Int) (A : Ws) (id : Int) : restr (dueAX tab now A) id = dueAX tab now (restr A id) := by
  unfold dueAX
  split
  · funext j
    unfold dueA
    by_cases e : j = id
    · subst e; rw [restr_self, restr_self]
    · rw [restr_other _ e, restr_other _ e]; rfl
  · rfl
theorem isDue_restr (A : Ws) (now id : Int) : isDue (restr A id) now id = isDue A now id := by unfold isDue; rw [restr_self]
theorem isLate_restr (A : Ws) (now id : Int) : isLate (restr A id) now id = isLate A now id := by unfold isLate; rw [restr_self]
theorem filter_alone (id : Int) (h1 : 1 ≤ id) (h2 : id ≤ 60) (p : Int → Bool) (hp : ∀ j, j ≠ id → p j = false) : ((ids60 60).filter p).length ≤ 1 := by
  rw [filter_one id h1 h2 p hp]
  split <;> simp
theorem due_restr (A : Ws) (now id : Int) (h1 : 1 ≤ id) (h2 : id ≤ 60) : decide (id ∈ dueX (restr A id) now) = decide (id ∈ dueX A now) ∧ (dueX (restr A id) now).length ≤ 1 := by
  unfold dueX dueL
  split
  · refine ⟨by simp only [List.mem_filter, isDue_restr], filter_alone id h1 h2 _ (fun j hj => ?_)⟩
    unfold isDue
    rw [restr_other A hj]
  · exact ⟨rfl, by simp⟩
theorem late_restr (A : Ws) (now id : Int) (h1 : 1 ≤ id) (h2 : id ≤ 60) : decide (id ∈ lateX (restr A id) now) = decide (id ∈ lateX A now) ∧ (lateX (restr A id) now).length ≤ 1 := by
  unfold lateX lateL
  split
  · refine ⟨by simp only [List.mem_filter, isLate_restr], filter_alone id h1 h2 _ (fun j hj => ?_)⟩
    unfold isLate
    rw [restr_other A hj]
  · exact ⟨rfl, by simp⟩
theorem dueX_len (A : Ws) (now : Int) : (dueX A now).length ≤ 60 := by
  unfold dueX
  split
  · exact dueL_len A now 60
  · simp
theorem lateX_len (A : Ws) (now : Int) : (lateX A now).length ≤ 60 := by
  unfold lateX
  split
  · exact lateL_len A now 60
  · simp
section
variable {B : Nat} {w wr : World} {q s : Nat} {tab : List Int} {dl N : Int} {A : Ws} {id : Int} {rs : List Res}
/-- Both beside one another. -/
abbrev Two (q s : Nat) (tab : List Int) (dl N : Int) (A : Ws) (id : Int) (rs : List Res) : List Res := RtR q tab dl N A :: RtR s tab dl N (restr A id) :: rs
theorem b_no (h : Has B w (Two q s tab dl N A id rs) wr) (ht : may tab = true) (hd : 1 ≤ dl) (hd2 : dl ≤ 1073741824) (hN : 0 ≤ N) (hN2 : N ≤ 17592186044416) (k now : Int) (hk : I64 k) (hne : k ≠ id) :
    Calls Try.prog 16 #[.pointer (some ⟨q, 0, none⟩), .int .i64 k, .int .i64 now] wr fun e w' => ∃ c, e = .returned (.int .i64 c) ∧ Hid (∃ A', Has B w (Two q s tab dl (N + 1) A' id rs) w') :=
  (pBegin h ht hd hd2 hN hN2 k now hk).mono (fun e w' ⟨he, hh⟩ => ⟨_, he, begA tab dl A k now, by
    have x := ((hh.perm (List.Perm.swap _ _ _)).rtMore).perm (List.Perm.swap _ _ _)
    rw [← begA_other tab dl A hne now] at x
    exact x⟩)
theorem b_yes (h : Has B w (Two q s tab dl N A id rs) wr) (ht : may tab = true) (hd : 1 ≤ dl) (hd2 : dl ≤ 1073741824) (hN : 0 ≤ N) (hN2 : N ≤ 17592186044416) (now : Int) (hk : I64 id) : ∃ c : Int,
    Calls Try.prog 16 #[.pointer (some ⟨q, 0, none⟩), .int .i64 id, .int .i64 now] wr fun e w' => e = .returned (.int .i64 c) ∧ Hid (Calls Try.prog 16 #[.pointer (some ⟨s, 0, none⟩), .int .i64 id, .int .i64 now] w' fun e w'' => e = .returned (.int .i64 c) ∧ Hid (∃ A', Has B w (Two q s tab dl (N + 1) A' id rs) w'')) := by
  refine ⟨code (begOk A id now), (pBegin h ht hd hd2 hN hN2 id now hk).mono (fun e w' ⟨he, hh⟩ => ⟨he, ?_⟩)⟩
  have y := pBegin (hh.perm (List.Perm.swap _ _ _)) ht hd hd2 hN hN2 id now hk
  rw [begOk_restr] at y
  exact y.mono (fun e w'' ⟨he, hh⟩ => ⟨he, begA tab dl A id now, by
    rw [← begA_self] at hh
    exact hh.perm (List.Perm.swap _ _ _)⟩)
theorem m_no (h : Has B w (Two q s tab dl N A id rs) wr) (ht : may tab = true) (hN : 0 ≤ N) (hN2 : N ≤ 17592186044416) (k now : Int) (hk : I64 k) (hne : k ≠ id) :
    Calls Try.prog 18 #[.pointer (some ⟨q, 0, none⟩), .int .i64 k, .int .i64 now] wr fun e w' => ∃ c, e = .returned (.int .i64 c) ∧ Hid (∃ A', Has B w (Two q s tab dl (N + 1) A' id rs) w') :=
  (pMoved h ht hN hN2 k now hk).mono (fun e w' ⟨he, hh⟩ => ⟨_, he, movA tab A k now, by
    have x := ((hh.perm (List.Perm.swap _ _ _)).rtMore).perm (List.Perm.swap _ _ _)
    rw [← movA_other tab A hne now] at x
    exact x⟩)
theorem m_yes (h : Has B w (Two q s tab dl N A id rs) wr) (ht : may tab = true) (hN : 0 ≤ N) (hN2 : N ≤ 17592186044416) (now : Int) (hk : I64 id) : ∃ c : Int,
    Calls Try.prog 18 #[.pointer (some ⟨q, 0, none⟩), .int .i64 id, .int .i64 now] wr fun e w' => e = .returned (.int .i64 c) ∧ Hid (Calls Try.prog 18 #[.pointer (some ⟨s, 0, none⟩), .int .i64 id, .int .i64 now] w' fun e w'' => e = .returned (.int .i64 c) ∧ Hid (∃ A', Has B w (Two q s tab dl (N + 1) A' id rs) w'')) := by
  refine ⟨code (movOk A id now), (pMoved h ht hN hN2 id now hk).mono (fun e w' ⟨he, hh⟩ => ⟨he, ?_⟩)⟩
  have y := pMoved (hh.perm (List.Perm.swap _ _ _)) ht hN hN2 id now hk
  rw [movOk_restr] at y
  exact y.mono (fun e w'' ⟨he, hh⟩ => ⟨he, movA tab A id now, by
    rw [← movA_self] at hh
    exact hh.perm (List.Perm.swap _ _ _)⟩)
theorem s_no (h : Has B w (Two q s tab dl N A id rs) wr) (k : Int) (hk : I64 k) (hne : k ≠ id) :
    Calls Try.prog 20 #[.pointer (some ⟨q, 0, none⟩), .int .i64 k] wr fun e w' => ∃ c, e = .returned (.int .i64 c) ∧ Hid (∃ A', Has B w (Two q s tab dl (N + 1) A' id rs) w') :=
  (pStop h k hk).mono (fun e w' ⟨he, hh⟩ => ⟨_, he, stpA A k, by
    have x := (((hh.rtMore).perm (List.Perm.swap _ _ _)).rtMore).perm (List.Perm.swap _ _ _)
    rw [← restr_upd_other A hne none] at x
    exact x⟩)
theorem s_yes (h : Has B w (Two q s tab dl N A id rs) wr) (hk : I64 id) : ∃ c : Int,
    Calls Try.prog 20 #[.pointer (some ⟨q, 0, none⟩), .int .i64 id] wr fun e w' => e = .returned (.int .i64 c) ∧ Hid (Calls Try.prog 20 #[.pointer (some ⟨s, 0, none⟩), .int .i64 id] w' fun e w'' => e = .returned (.int .i64 c) ∧ Hid (∃ A', Has B w (Two q s tab dl (N + 1) A' id rs) w'')) := by
  refine ⟨code (A id).isSome, (pStop h id hk).mono (fun e w' ⟨he, hh⟩ => ⟨he, ?_⟩)⟩
  have y := pStop (hh.perm (List.Perm.swap _ _ _)) id hk
  rw [restr_self] at y
  exact y.mono (fun e w'' ⟨he, hh⟩ => ⟨he, stpA A id, by
    have e1 : stpA (restr A id) id = restr (stpA A id) id := (restr_upd_self A id none).symm
    rw [e1] at hh
    exact ((hh.rtMore).perm (List.Perm.swap _ _ _)).rtMore⟩)
/-- A Due of both. -/
theorem d_both (h : Has B w (Two q s tab dl N A id rs) wr) (ht : may tab = true) (hN : 0 ≤ N) (hN2 : N ≤ 17592186044416) (now : Int) (h1 : 1 ≤ id) (h2 : id ≤ 60) :
    Calls Try.prog 22 #[.pointer (some ⟨q, 0, none⟩), .int .i64 now] wr fun e w' => ∃ aa ca na ab cb nb, e = .returned (.tuple #[.slice aa na ca, .slice ab nb cb]) ∧
      Hid (Calls Try.prog 22 #[.pointer (some ⟨s, 0, none⟩), .int .i64 now] w' fun e w'' => ∃ ac cc nc ad cd nd b1 b2, nc ≤ 1 ∧ nd ≤ 1 ∧ e = .returned (.tuple #[.slice ac nc cc, .slice ad nd cd]) ∧
        Hid (∃ la lb lc ld A', la.length ≤ 60 ∧ lb.length ≤ 60 ∧ lc.length ≤ 60 ∧ ld.length ≤ 60 ∧ decide (id ∈ la) = b1 ∧ decide (id ∈ lc) = b1 ∧ decide (id ∈ lb) = b2 ∧ decide (id ∈ ld) = b2 ∧
          Has B w (IRowR (.slice aa na ca) la :: IRowR (.slice ab nb cb) lb :: IRowR (.slice ac nc cc) lc :: IRowR (.slice ad nd cd) ld :: Two q s tab dl (N + 1) A' id rs) w'')) := by
  refine (pDue h ht hN hN2 now).mono ?_
  rintro e w' ⟨aa, ca, ab, cb, he, hh⟩
  refine ⟨aa, ca, _, ab, cb, _, he, ?_⟩
  have hp : Has B w (RtR s tab dl N (restr A id) :: RtR q tab dl (N + 1) (dueAX tab now A) :: IRowR (.slice ab (lateX A now).length cb) (lateX A now) :: IRowR (.slice aa (dueX A now).length ca) (dueX A now) :: rs) w' := hh.perm (List.perm_middle (l₁ := [_, _, _]) (l₂ := rs))
  refine (pDue hp ht hN hN2 now).mono ?_
  rintro e2 w'' ⟨ac, cc, ad, cd, he2, hh2⟩
  have r1 := due_restr A now id h1 h2
  have r2 := late_restr A now id h1 h2
  refine ⟨ac, cc, _, ad, cd, _, decide (id ∈ dueX A now), decide (id ∈ lateX A now), r1.2, r2.2, he2, dueX A now, lateX A now, dueX (restr A id) now, lateX (restr A id) now, dueAX tab now A, dueX_len _ _, lateX_len _ _, by have := r1.2; omega, by have := r2.2; omega, rfl, r1.1, rfl, r2.1, ?_⟩
  rw [← dueA_restr] at hh2
  refine hh2.perm ?_
  have p1 : ∀ (a b c d e f : Res), (a :: b :: c :: d :: e :: f :: rs).Perm (f :: e :: c :: b :: d :: a :: rs) := fun a b c d e f => by
    have h1 : (a :: b :: c :: d :: e :: f :: rs).Perm (f :: a :: b :: c :: d :: e :: rs) := List.perm_middle (l₁ := [a, b, c, d, e]) (l₂ := rs) (a := f)
    have h2 : (a :: b :: c :: d :: e :: rs).Perm (e :: a :: b :: c :: d :: rs) := List.perm_middle (l₁ := [a, b, c, d]) (l₂ := rs) (a := e)
    have h3 : (a :: b :: c :: d :: rs).Perm (c :: a :: b :: d :: rs) := List.perm_middle (l₁ := [a, b]) (l₂ := d :: rs) (a := c)
    have h4 : (a :: b :: d :: rs).Perm (b :: d :: a :: rs) := (List.Perm.swap _ _ _).trans ((List.Perm.swap _ _ _).cons b)
    exact h1.trans ((h2.trans ((h3.trans (h4.cons c)).cons e)).cons f)
  exact p1 _ _ _ _ _ _
end
end Go.Proofs.Yteadnjagandkfaa
