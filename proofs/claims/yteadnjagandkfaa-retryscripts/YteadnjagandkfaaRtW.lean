/- A retry of the program's as one thing that is held; what each call does to who waits. -/
import Derived.Test.YteadnjagandkfaaRDueW
set_option linter.unusedVariables false
set_option maxRecDepth 100000
namespace Go.Proofs.Yteadnjagandkfaa
open Go.RowKit
open WheelMath RetryMath
open Go.Maps (Keyed)

theorem Hold.split {w : World} : ∀ {xs ys : List Res} {U : Nat → Prop}, Hold w (xs ++ ys) U → ∃ F G, Hold w xs F ∧ Hold w ys G ∧ (∀ k, F k → ¬ G k) ∧ ∀ k, U k ↔ F k ∨ G k
  | [], ys, U, h => ⟨fun _ => False, U, fun k => id, h, fun k h => h.elim, fun k => by simp⟩
  | r :: rs, ys, U, h => by
    obtain ⟨F, G, h1, h2, h3, h4⟩ := h
    obtain ⟨X, Y, k1, k2, k3, k4⟩ := Hold.split h2
    refine ⟨fun k => F k ∨ X k, Y, ⟨F, X, h1, k1, fun k hk hx => h3 k hk ((k4 k).2 (Or.inl hx)), fun k => Iff.rfl⟩, k2, ?_, fun k => ?_⟩
    · rintro k (hk | hk) hy
      · exact h3 k hk ((k4 k).2 (Or.inr hy))
      · exact k3 k hk hy
    · show U k ↔ (F k ∨ X k) ∨ Y k
      rw [h4, k4, or_assoc]
structure Ok (n : Nat) (N : Int) (A : Ws) (ra rl : List T) : Prop where
  cap : (n : Int) ≤ 64 * N
  aok : AOk N A
  again : Tells ra (fA A)
  late : Tells rl (fL A)
/-- A retry at q: its table, its deadline; N calls at most; who waits. -/
def RtR (q : Nat) (tab : List Int) (dl N : Int) (A : Ws) : Res where
  inv w F := ∃ p n ra rl, p.q = q ∧ Ok n N A ra rl ∧ Hold w (Rt p n tab dl (fT A) ra rl []) F
  lt := by rintro w F ⟨p, n, ra, rl, _, _, h⟩ k hk; exact h.lt k hk
  chg := by rintro w w' F S ⟨p, n, ra, rl, h1, h2, h⟩ hc hS; exact ⟨p, n, ra, rl, h1, h2, h.chg hc hS⟩
section
variable {B : Nat} {w wr : World} {q : Nat} {tab : List Int} {dl N : Int} {A : Ws} {rs : List Res}
theorem Has.rtOpen (h : Has B w (RtR q tab dl N A :: rs) wr) : ∃ p n ra rl, p.q = q ∧ Ok n N A ra rl ∧ Has B w (Rt p n tab dl (fT A) ra rl rs) wr := by
  obtain ⟨h1, h2, U, ⟨F, G, ⟨p, n, ra, rl, k1, k2, k3⟩, g2, g3, g4⟩, h4⟩ := h
  obtain ⟨X, x1, x2⟩ := k3.append g2 g3
  exact ⟨p, n, ra, rl, k1, k2, h1, h2, X, x1, fun k hk => h4 k ((g4 k).2 ((x2 k).1 hk))⟩
theorem Has.rtShut {p : Pl} {n : Nat} {ra rl : List T} (hq : p.q = q) (hk : Ok n N A ra rl) (h : Has B w (Rt p n tab dl (fT A) ra rl rs) wr) : Has B w (RtR q tab dl N A :: rs) wr := by
  obtain ⟨h1, h2, U, h3, h4⟩ := h
  obtain ⟨F, G, f1, f2, f3, f4⟩ := Hold.split (xs := Rt p n tab dl (fT A) ra rl []) (ys := rs) h3
  exact ⟨h1, h2, U, ⟨F, G, ⟨p, n, ra, rl, hq, hk, f1⟩, f2, f3, f4⟩, h4⟩
end
/-- OK, or ErrArg. -/
def code (b : Bool) : Int := if b then 0 else 1
def begOk (A : Ws) (id now : Int) : Bool := decide (1 ≤ id) && decide (id ≤ 60) && decide (Tick now) && (A id).isNone
def begW (tab : List Int) (dl now : Int) : Wt := ⟨0, later now (dly tab 0), later now dl, false⟩
def begA (tab : List Int) (dl : Int) (A : Ws) (id now : Int) : Ws := if begOk A id now then upd A id (some (begW tab dl now)) else A
def movOk (A : Ws) (id now : Int) : Bool := (A id).isSome && decide (Tick now)
def movW (tab : List Int) (now : Int) (x : Wt) : Wt := ⟨0, later now (dly tab 0), x.late, x.told⟩
def movA (tab : List Int) (A : Ws) (id now : Int) : Ws := if movOk A id now then upd A id ((A id).map (movW tab now)) else A
def stpA (A : Ws) (id : Int) : Ws := upd A id none
def dueX (A : Ws) (now : Int) : List Int := if Tick now then dueL A now 60 else []
def lateX (A : Ws) (now : Int) : List Int := if Tick now then lateL A now 60 else []
def dueAX (tab : List Int) (now : Int) (A : Ws) : Ws := if Tick now then dueA tab now A else A

theorem fT_upd (A : Ws) (id : Int) (x : Option Wt) : fT (upd A id x) = updT (fT A) id (x.map (·.tries)) := by
  funext j
  unfold fT upd updT
  by_cases e : j = id <;> simp [e]
theorem fA_upd (A : Ws) (id : Int) (x : Option Wt) (j : Int) : updT (fA A) id (x.map (·.again)) j = fA (upd A id x) j := by
  unfold fA upd updT
  by_cases e : j = id <;> simp [e]
theorem fL_upd (A : Ws) (id : Int) (x : Wt) (h : x.told = false) (j : Int) : updT (fL A) id (some x.late) j = fL (upd A id (some x)) j := by
  unfold fL upd updT
  by_cases e : j = id
  · simp [e, h]
  · simp [e]
theorem fL_none (A : Ws) (id : Int) (j : Int) : updT (fL A) id none j = fL (upd A id none) j := by
  unfold fL upd updT
  by_cases e : j = id <;> simp [e]
theorem fL_mov (A : Ws) (id : Int) (x y : Wt) (hA : A id = some x) (h1 : y.late = x.late) (h2 : y.told = x.told) (j : Int) : fL A j = fL (upd A id (some y)) j := by
  unfold fL upd
  by_cases e : j = id
  · subst e; simp [hA, h1, h2]
  · simp [e]
theorem aok_beg {N : Int} {A : Ws} (h : AOk N A) (hN : 0 ≤ N) {tab : List Int} (ht : may tab = true) {dl : Int} (hd : 1 ≤ dl) {id now : Int} : AOk (N + 1) (begA tab dl A id now) := by
  unfold begA
  split
  · rename_i hb
    simp only [begOk, Bool.and_eq_true, decide_eq_true_eq] at hb
    refine (h.mono (by omega)).upd (fun x hx => ?_)
    cases hx
    exact ⟨hb.1.1.1, hb.1.1.2, by show (0 : Int) ≤ 0; omega, by show (0 : Int) ≤ N + 1; omega, later_tick hb.1.2 (by have := dly_bounds ht 0; omega), later_tick hb.1.2 (by omega)⟩
  · exact h.mono (by omega)
theorem aok_mov {N : Int} {A : Ws} (h : AOk N A) (hN : 0 ≤ N) {tab : List Int} (ht : may tab = true) {id now : Int} : AOk (N + 1) (movA tab A id now) := by
  unfold movA
  split
  · rename_i hb
    simp only [movOk, Bool.and_eq_true, decide_eq_true_eq] at hb
    refine (h.mono (by omega)).upd (fun x hx => ?_)
    cases e : A id with
    | none => rw [e] at hx; cases hx
    | some y =>
      rw [e] at hx
      cases hx
      obtain ⟨a, b, c, d, e1, f⟩ := h id y e
      exact ⟨a, b, by show (0 : Int) ≤ 0; omega, by show (0 : Int) ≤ N + 1; omega, later_tick hb.2 (by have := dly_bounds ht 0; omega), f⟩
  · exact h.mono (by omega)
theorem aok_stp {N : Int} {A : Ws} (h : AOk N A) (id : Int) : AOk N (stpA A id) := h.upd (fun x hx => by cases hx)
theorem aok_due {N : Int} {A : Ws} (h : AOk N A) {tab : List Int} (ht : may tab = true) (now : Int) : AOk (N + 1) (dueAX tab now A) := by
  unfold dueAX
  split
  · rename_i hb
    exact h.due ht hb
  · exact h.mono (by omega)
section
variable {B : Nat} {w wr : World} {q : Nat} {tab : List Int} {dl N : Int} {A : Ws} {rs : List Res}
theorem Has.rtMore (h : Has B w (RtR q tab dl N A :: rs) wr) : Has B w (RtR q tab dl (N + 1) A :: rs) wr := by
  obtain ⟨p, n, ra, rl, hq, hk, hh⟩ := h.rtOpen
  exact hh.rtShut hq ⟨by have := hk.cap; omega, hk.aok.mono (by omega), hk.again, hk.late⟩
theorem Has.rtTo {M : Int} (hM : N ≤ M) (h : Has B w (RtR q tab dl N A :: rs) wr) : Has B w (RtR q tab dl M A :: rs) wr := by
  obtain ⟨p, n, ra, rl, hq, hk, hh⟩ := h.rtOpen
  exact hh.rtShut hq ⟨by have := hk.cap; omega, hk.aok.mono hM, hk.again, hk.late⟩
theorem pBegin (h : Has B w (RtR q tab dl N A :: rs) wr) (ht : may tab = true) (hd : 1 ≤ dl) (hd2 : dl ≤ 1073741824) (hN : 0 ≤ N) (hN2 : N ≤ 17592186044416) (id now : Int) (hid : I64 id) :
    Calls Try.prog 16 #[.pointer (some ⟨q, 0, none⟩), .int .i64 id, .int .i64 now] wr fun e w' => e = .returned (.int .i64 (code (begOk A id now))) ∧ Has B w (RtR q tab dl (N + 1) (begA tab dl A id now) :: rs) w' := by
  have hA' : AOk (N + 1) (begA tab dl A id now) := by
    obtain ⟨p, n, ra, rl, rfl, hk, hh⟩ := h.rtOpen
    exact aok_beg hk.aok hN ht hd
  cases hb : begOk A id now with
  | false =>
    have he : begA tab dl A id now = A := by unfold begA; rw [hb]; rfl
    rw [he]
    have h0 := h.rtMore
    obtain ⟨p, n, ra, rl, rfl, hk, hh⟩ := h.rtOpen
    refine (begin_no hh id now hid ?_).mono fun e w' ⟨he, hw⟩ => ⟨he, by rw [hw]; exact h0⟩
    by_cases x1 : id < 1
    · exact Or.inl x1
    by_cases x2 : 60 < id
    · exact Or.inr (Or.inl x2)
    by_cases x3 : Tick now
    · right; right; right
      have : decide (1 ≤ id) = true := by simp; omega
      have h2 : decide (id ≤ 60) = true := by simp; omega
      simp only [begOk, this, h2, decide_eq_true x3, Bool.true_and] at hb
      unfold fT
      cases hx : A id with
      | none => rw [hx] at hb; cases hb
      | some x => rfl
    · exact Or.inr (Or.inr (Or.inl x3))
  | true =>
    have he : begA tab dl A id now = upd A id (some (begW tab dl now)) := by unfold begA; rw [hb]; rfl
    rw [he] at hA' ⊢
    obtain ⟨p, n, ra, rl, rfl, hk, hh⟩ := h.rtOpen
    simp only [begOk, Bool.and_eq_true, decide_eq_true_eq] at hb
    obtain ⟨⟨⟨h1, h2⟩, hn⟩, hf⟩ := hb
    have hf' : (fT A id).isSome = false := by
      unfold fT
      cases hx : A id with
      | none => rfl
      | some x => rw [hx] at hf; cases hf
    refine (begin_yes hh ht hd hd2 id now h1 h2 hn hf' (by have := hk.cap; omega) hk.again.1 hk.late.1).mono fun e w' ⟨he, hh'⟩ => ⟨he, ?_⟩
    have t1 := (tells_set hk.again (lim_A hk.aok) h1 h2 (later_tick hn (n := dly tab 0) (by have := dly_bounds ht 0; omega))).2
    have t2 := (tells_set hk.late (lim_L hk.aok) h1 h2 (later_tick hn (n := dl) (by omega))).2
    have e1 : updT (fT A) id (some 0) = fT (upd A id (some (begW tab dl now))) := (fT_upd A id (some (begW tab dl now))).symm
    rw [e1] at hh'
    exact hh'.rtShut rfl ⟨by have := hk.cap; omega, hA', tells_congr t1 (fA_upd A id (some (begW tab dl now))), tells_congr t2 (fL_upd A id (begW tab dl now) rfl)⟩
theorem pMoved (h : Has B w (RtR q tab dl N A :: rs) wr) (ht : may tab = true) (hN : 0 ≤ N) (hN2 : N ≤ 17592186044416) (id now : Int) (hid : I64 id) :
    Calls Try.prog 18 #[.pointer (some ⟨q, 0, none⟩), .int .i64 id, .int .i64 now] wr fun e w' => e = .returned (.int .i64 (code (movOk A id now))) ∧ Has B w (RtR q tab dl (N + 1) (movA tab A id now) :: rs) w' := by
  have hA' : AOk (N + 1) (movA tab A id now) := by
    obtain ⟨p, n, ra, rl, rfl, hk, hh⟩ := h.rtOpen
    exact aok_mov hk.aok hN ht
  cases hb : movOk A id now with
  | false =>
    have he : movA tab A id now = A := by unfold movA; rw [hb]; rfl
    rw [he]
    have h0 := h.rtMore
    obtain ⟨p, n, ra, rl, rfl, hk, hh⟩ := h.rtOpen
    refine (moved_no hh id now hid ?_).mono fun e w' ⟨he, hw⟩ => ⟨he, by rw [hw]; exact h0⟩
    by_cases x3 : Tick now
    · left
      simp only [movOk, decide_eq_true x3, Bool.and_true] at hb
      unfold fT
      cases hx : A id with
      | none => rfl
      | some x => rw [hx] at hb; cases hb
    · exact Or.inr x3
  | true =>
    have he : movA tab A id now = upd A id ((A id).map (movW tab now)) := by unfold movA; rw [hb]; rfl
    obtain ⟨p, n, ra, rl, rfl, hk, hh⟩ := h.rtOpen
    simp only [movOk, Bool.and_eq_true, decide_eq_true_eq] at hb
    obtain ⟨hf, hn⟩ := hb
    obtain ⟨x, hx⟩ := Option.isSome_iff_exists.1 hf
    rw [hx] at he
    rw [he] at hA' ⊢
    obtain ⟨h1, h2, _⟩ := hk.aok id x hx
    have hf' : (fT A id).isSome = true := by unfold fT; rw [hx]; rfl
    refine (moved_yes hh ht id now h1 h2 hn hf' (by have := hk.cap; omega) hk.again.1).mono fun e w' ⟨he, hh'⟩ => ⟨he, ?_⟩
    have t1 := (tells_set hk.again (lim_A hk.aok) h1 h2 (later_tick hn (n := dly tab 0) (by have := dly_bounds ht 0; omega))).2
    have e1 : updT (fT A) id (some 0) = fT (upd A id (some (movW tab now x))) := (fT_upd A id (some (movW tab now x))).symm
    rw [e1] at hh'
    exact hh'.rtShut rfl ⟨by have := hk.cap; omega, hA', tells_congr t1 (fA_upd A id (some (movW tab now x))), tells_congr hk.late (fL_mov A id x _ hx rfl rfl)⟩
theorem pStop (h : Has B w (RtR q tab dl N A :: rs) wr) (id : Int) (hid : I64 id) :
    Calls Try.prog 20 #[.pointer (some ⟨q, 0, none⟩), .int .i64 id] wr fun e w' => e = .returned (.int .i64 (code (A id).isSome)) ∧ Has B w (RtR q tab dl N (stpA A id) :: rs) w' := by
  have h0 := h
  obtain ⟨p, n, ra, rl, rfl, hk, hh⟩ := h.rtOpen
  cases hx : A id with
  | none =>
    have he : stpA A id = A := by
      funext j
      unfold stpA upd
      by_cases e : j = id
      · subst e; simp [hx]
      · simp [e]
    rw [he]
    exact (stop_no hh id hid (by unfold fT; rw [hx]; rfl)).mono fun e w' ⟨he, hw⟩ => ⟨he, by rw [hw]; exact h0⟩
  | some x =>
    refine (stop_yes hh id hid (by unfold fT; rw [hx]; rfl) hk.again.1 hk.late.1).mono fun e w' ⟨he, hh'⟩ => ⟨he, ?_⟩
    have e1 : updT (fT A) id none = fT (stpA A id) := (fT_upd A id none).symm
    rw [e1] at hh'
    exact hh'.rtShut rfl ⟨hk.cap, aok_stp hk.aok id, tells_congr (tells_rem hk.again id) (fA_upd A id none), tells_congr (tells_rem hk.late id) (fL_none A id)⟩
theorem pDue (h : Has B w (RtR q tab dl N A :: rs) wr) (ht : may tab = true) (hN : 0 ≤ N) (hN2 : N ≤ 17592186044416) (now : Int) :
    Calls Try.prog 22 #[.pointer (some ⟨q, 0, none⟩), .int .i64 now] wr fun e w' => ∃ ai ci aj cj, e = .returned (.tuple #[.slice ai (dueX A now).length ci, .slice aj (lateX A now).length cj]) ∧
      Has B w (RtR q tab dl (N + 1) (dueAX tab now A) :: IRowR (.slice aj (lateX A now).length cj) (lateX A now) :: IRowR (.slice ai (dueX A now).length ci) (dueX A now) :: rs) w' := by
  have h0 := h
  obtain ⟨p, n, ra, rl, rfl, hk, hh⟩ := h.rtOpen
  have hA' := aok_due hk.aok ht now
  by_cases hn : Tick now
  · have e1 : dueX A now = dueL A now 60 := if_pos hn
    have e2 : lateX A now = lateL A now 60 := if_pos hn
    have e3 : dueAX tab now A = dueA tab now A := if_pos hn
    rw [e1, e2, e3]
    rw [e3] at hA'
    refine (dueF_yes hh ht hk.aok (by omega) hk.again hk.late now hn (by have := hk.cap; omega)).mono ?_
    rintro e w' ⟨ai, ci, aj, cj, ra', he, hta, hh'⟩
    exact ⟨ai, ci, aj, cj, he, hh'.rtShut rfl ⟨by have := hk.cap; have := dueL_len A now 60; omega, hA', hta, tells_congr (tells_left hk.late now) (fL_due tab now A)⟩⟩
  · have e1 : dueX A now = [] := if_neg hn
    have e2 : lateX A now = [] := if_neg hn
    have e3 : dueAX tab now A = A := if_neg hn
    rw [e1, e2, e3]
    refine (dueF_no now hn _).mono ?_
    rintro e w' ⟨he, hw⟩
    rw [hw]
    refine ⟨none, 0, none, 0, he, ?_⟩
    have x := (h0.rtMore.nil 3 1).nil 3 1
    exact x.perm (List.perm_middle (l₁ := [_, _]) (l₂ := rs))
theorem pNew_yes (h : Has B w rs wr) (v : Value) (tab : List Int) (hl : tab.length ≤ 140737488355328) (hr : IRow wr v tab) (dl : Int) (hm : may tab = true) (hd : 1 ≤ dl) (hd2 : dl ≤ 1073741824) :
    Calls Try.prog 8 #[v, .int .i64 dl] wr fun e w' => ∃ q, e = .returned (.tuple #[.pointer (some ⟨q, 0, none⟩), .int .i64 0]) ∧ Has B w (RtR q tab dl 0 none0 :: rs) w' := by
  refine (new_yes h v tab hl hr dl hm hd hd2).mono ?_
  rintro e w' ⟨p, he, hh⟩
  have e1 : (fun _ => none : Tb) = fT none0 := rfl
  rw [e1] at hh
  exact ⟨p.q, he, hh.rtShut rfl ⟨by omega, aok_none 0, tells_congr tells_nil (fun _ => rfl), tells_congr tells_nil (fun _ => rfl)⟩⟩
end
end Go.Proofs.Yteadnjagandkfaa
