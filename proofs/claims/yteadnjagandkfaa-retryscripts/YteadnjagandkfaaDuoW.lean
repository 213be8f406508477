/- A retry and the document's beside it, as one state; what each call of a script does to both. -/
import Derived.Test.YteadnjagandkfaaRefE
set_option linter.unusedVariables false
set_option maxRecDepth 100000
namespace Go.Proofs.Yteadnjagandkfaa
open Go.RowKit
open WheelMath RetryMath
open Go.Maps (Keyed)

/-- Both: the program's at q, the document's at x. -/
abbrev Both (q x : Nat) (xv : Value) (tab : List Int) (dl N : Int) (A : Ws) (rs : List Res) : List Res := RtR q tab dl N A :: XR x xv dl A :: IRowR xv tab :: rs
section
variable {B : Nat} {w wr : World} {q x : Nat} {xv : Value} {tab : List Int} {dl N : Int} {A : Ws} {rs : List Res}
theorem Has.rtOk (h : Has B w (RtR q tab dl N A :: rs) wr) : AOk N A := by
  obtain ⟨p, n, ra, rl, _, hk, _⟩ := h.rtOpen
  exact hk.aok
theorem bo_perm {r : Res} : (r :: Both q x xv tab dl N A rs).Perm (Both q x xv tab dl N A (r :: rs)) := (List.perm_middle (l₁ := [_, _, _]) (l₂ := rs) (a := r)).symm
/-- The program's done, the document's to come. -/
theorem bo_ref {M : Int} {A' : Ws} : (RtR q tab dl M A' :: XR x xv dl A :: IRowR xv tab :: rs).Perm (XR x xv dl A :: IRowR xv tab :: RtR q tab dl M A' :: rs) := (List.perm_middle (l₁ := [_, _]) (l₂ := rs) (a := RtR q tab dl M A')).symm
/-- A call's outcome at both: the same number, and both as they are then. -/
abbrev Twice (B : Nat) (w : World) (q x : Nat) (xv : Value) (tab : List Int) (dl N : Int) (rs : List Res) (f : Nat) (args : Array Value) (g : Nat) (args2 : Array Value) (wr : World) : Prop :=
  ∃ c : Int, Calls Try.prog f args wr fun e w' => e = .returned (.int .i64 c) ∧ (∃ rs', Has B w (rs' ++ rs) w') ∧ Hid (Calls Try.prog g args2 w' fun e w'' => e = .returned (.int .i64 c) ∧ (∃ rs', Has B w (rs' ++ rs) w'') ∧ Hid (∃ A', Has B w (Both q x xv tab dl (N + 1) A' rs) w''))
theorem two_begin (h : Has B w (Both q x xv tab dl N A rs) wr) (ht : may tab = true) (hd : 1 ≤ dl) (hd2 : dl ≤ 1073741824) (hN : 0 ≤ N) (hN2 : N ≤ 17592186044416) (id now : Int) (hid : I64 id) :
    Twice B w q x xv tab dl N rs 16 #[.pointer (some ⟨q, 0, none⟩), .int .i64 id, .int .i64 now] 17 #[.pointer (some ⟨x, 0, none⟩), .int .i64 id, .int .i64 now] wr := by
  have hA := h.rtOk
  refine ⟨code (begOk A id now), (pBegin h ht hd hd2 hN hN2 id now hid).mono fun e w' ⟨he, hh⟩ => ⟨he, ⟨[_, _, _], hh⟩, ?_⟩⟩
  refine (rBegin (hh.perm bo_ref) hA ht hd hd2 id now).mono fun e w'' ⟨he, h2⟩ => ?_
  have h3 : Has B w (Both q x xv tab dl (N + 1) (begA tab dl A id now) rs) w'' := h2.perm bo_ref.symm
  exact ⟨he, ⟨[_, _, _], h3⟩, _, h3⟩
theorem two_moved (h : Has B w (Both q x xv tab dl N A rs) wr) (ht : may tab = true) (hN : 0 ≤ N) (hN2 : N ≤ 17592186044416) (id now : Int) (hid : I64 id) :
    Twice B w q x xv tab dl N rs 18 #[.pointer (some ⟨q, 0, none⟩), .int .i64 id, .int .i64 now] 19 #[.pointer (some ⟨x, 0, none⟩), .int .i64 id, .int .i64 now] wr := by
  have hA := h.rtOk
  refine ⟨code (movOk A id now), (pMoved h ht hN hN2 id now hid).mono fun e w' ⟨he, hh⟩ => ⟨he, ⟨[_, _, _], hh⟩, ?_⟩⟩
  refine (rMoved (hh.perm bo_ref) hA ht id now).mono fun e w'' ⟨he, h2⟩ => ?_
  have h3 : Has B w (Both q x xv tab dl (N + 1) (movA tab A id now) rs) w'' := h2.perm bo_ref.symm
  exact ⟨he, ⟨[_, _, _], h3⟩, _, h3⟩
theorem two_stop (h : Has B w (Both q x xv tab dl N A rs) wr) (id : Int) (hid : I64 id) :
    Twice B w q x xv tab dl N rs 20 #[.pointer (some ⟨q, 0, none⟩), .int .i64 id] 21 #[.pointer (some ⟨x, 0, none⟩), .int .i64 id] wr := by
  have hA := h.rtOk
  refine ⟨code (A id).isSome, (pStop h id hid).mono fun e w' ⟨he, hh⟩ => ⟨he, ⟨[_, _, _], hh⟩, ?_⟩⟩
  refine (rStop (hh.perm bo_ref) hA id).mono fun e w'' ⟨he, h2⟩ => ?_
  have h3 : Has B w (Both q x xv tab dl (N + 1) (stpA A id) rs) w'' := (h2.perm bo_ref.symm).rtMore
  exact ⟨he, ⟨[_, _, _], h3⟩, _, h3⟩
/-- What the document's Due answers, and does. -/
theorem rDue (h : Has B w (XR x xv dl A :: IRowR xv tab :: rs) wr) (hA : AOk N A) (hN2 : N ≤ 17592186044416) (ht : may tab = true) (now : Int) :
    Calls Try.prog 23 #[.pointer (some ⟨x, 0, none⟩), .int .i64 now] wr fun e w' => ∃ a1 c1 a2 c2, e = .returned (.tuple #[.slice a1 (dueX A now).length c1, .slice a2 (lateX A now).length c2]) ∧
      Has B w (XR x xv dl (dueAX tab now A) :: IRowR (.slice a1 (dueX A now).length c1) (dueX A now) :: IRowR (.slice a2 (lateX A now).length c2) (lateX A now) :: IRowR xv tab :: rs) w' := by
  by_cases hn : Tick now
  · have e1 : dueX A now = dueL A now 60 := if_pos hn
    have e2 : lateX A now = lateL A now 60 := if_pos hn
    have e3 : dueAX tab now A = dueA tab now A := if_pos hn
    rw [e1, e2, e3]
    exact rDue_yes h hA hN2 ht now hn
  · have e1 : dueX A now = [] := if_neg hn
    have e2 : lateX A now = [] := if_neg hn
    have e3 : dueAX tab now A = A := if_neg hn
    rw [e1, e2, e3]
    refine (rDue_no now hn _).mono ?_
    rintro e w' ⟨he, hw⟩
    rw [hw]
    exact ⟨none, 0, none, 0, he, ((h.nil 3 1).nil 3 1).perm (List.perm_middle (l₁ := [_, _]) (l₂ := _ :: rs))⟩
/-- Four rows that a Due of both brings: who is due, who is late, of either. -/
abbrev Four (a1 : Option Addr) (c1 : Nat) (a2 : Option Addr) (c2 : Nat) (a3 : Option Addr) (c3 : Nat) (a4 : Option Addr) (c4 : Nat) (n1 n2 : Nat) (D L : List Int) (rs : List Res) : List Res :=
  IRowR (.slice a1 n1 c1) D :: IRowR (.slice a2 n2 c2) L :: IRowR (.slice a3 n1 c3) D :: IRowR (.slice a4 n2 c4) L :: rs
theorem two_due (h : Has B w (Both q x xv tab dl N A rs) wr) (ht : may tab = true) (hN : 0 ≤ N) (hN2 : N ≤ 17592186044416) (now : Int) :
    Calls Try.prog 22 #[.pointer (some ⟨q, 0, none⟩), .int .i64 now] wr fun e w' => ∃ a1 c1 a2 c2 n1 n2, e = .returned (.tuple #[.slice a1 n1 c1, .slice a2 n2 c2]) ∧ (∃ rs', Has B w (rs' ++ rs) w') ∧
      Hid (Calls Try.prog 23 #[.pointer (some ⟨x, 0, none⟩), .int .i64 now] w' fun e w'' => ∃ a3 c3 a4 c4, e = .returned (.tuple #[.slice a3 n1 c3, .slice a4 n2 c4]) ∧ (∃ rs', Has B w (rs' ++ rs) w'') ∧
        Hid (∃ D L A', D.length ≤ 60 ∧ L.length ≤ 60 ∧ Has B w (Four a1 c1 a2 c2 a3 c3 a4 c4 n1 n2 D L (Both q x xv tab dl (N + 1) A' rs)) w'')) := by
  have hA := h.rtOk
  refine (pDue h ht hN hN2 now).mono ?_
  rintro e w' ⟨ai, ci, aj, cj, he, hh⟩
  have hp : Has B w (XR x xv dl A :: IRowR xv tab :: RtR q tab dl (N + 1) (dueAX tab now A) :: IRowR (.slice aj (lateX A now).length cj) (lateX A now) :: IRowR (.slice ai (dueX A now).length ci) (dueX A now) :: rs) w' := by
    have p1 := hh.perm (List.perm_middle (l₁ := [_, _, _]) (l₂ := _ :: rs) (a := XR x xv dl A))
    exact p1.perm (List.Perm.cons _ (List.perm_middle (l₁ := [_, _, _]) (l₂ := rs) (a := IRowR xv tab)))
  refine ⟨ai, ci, aj, cj, _, _, he, ⟨[_, _, _, _, _], hp⟩, ?_⟩
  refine (rDue hp hA hN2 ht now).mono ?_
  rintro e2 w'' ⟨a3, c3, a4, c4, he2, h2⟩
  refine ⟨a3, c3, a4, c4, he2, ⟨[_, _, _, _, _, _, _], h2⟩, dueX A now, lateX A now, dueAX tab now A, dueX_len _ _, lateX_len _ _, ?_⟩
  have p7 : ∀ (a b c d e f g : Res), (a :: b :: c :: d :: e :: f :: g :: rs).Perm (g :: f :: b :: c :: e :: a :: d :: rs) := fun a b c d e f g => by
    have h1 : (a :: b :: c :: d :: e :: f :: g :: rs).Perm (g :: a :: b :: c :: d :: e :: f :: rs) := List.perm_middle (l₁ := [a, b, c, d, e, f]) (l₂ := rs) (a := g)
    have h2 : (a :: b :: c :: d :: e :: f :: rs).Perm (f :: a :: b :: c :: d :: e :: rs) := List.perm_middle (l₁ := [a, b, c, d, e]) (l₂ := rs) (a := f)
    have h3 : (a :: b :: c :: d :: e :: rs).Perm (b :: a :: c :: d :: e :: rs) := List.Perm.swap _ _ _
    have h4 : (a :: c :: d :: e :: rs).Perm (c :: a :: d :: e :: rs) := List.Perm.swap _ _ _
    have h5 : (a :: d :: e :: rs).Perm (e :: a :: d :: rs) := List.perm_middle (l₁ := [a, d]) (l₂ := rs) (a := e)
    exact h1.trans ((h2.trans ((h3.trans ((h4.trans (h5.cons c)).cons b)).cons f)).cons g)
  exact h2.perm (p7 _ _ _ _ _ _ _)
end
end Go.Proofs.Yteadnjagandkfaa
