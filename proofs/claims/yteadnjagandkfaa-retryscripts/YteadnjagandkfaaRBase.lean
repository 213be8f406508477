/- What is held: blocks, rows of numbers, wheels, a map of numbers by numbers; a retry of the program's. -/
import Derived.Test.YteadnjagandkfaaDueW
import Derived.Test.YteadnjagandkfaaRMath
import Derived.Deep.RegionHeld3
import Derived.Deep.DeepCutAuto
import Derived.Deep.DeepMust
import Derived.Maps.RangeWalk
import Derived.Maps.OwnOps
import Derived.Maps.OwnSet
import Derived.Maps.Ext
import Derived.WideShapes
set_option linter.unusedVariables false
set_option maxRecDepth 100000
namespace Go.Proofs.Yteadnjagandkfaa
open Go.RowKit
open WheelMath RetryMath
open Go.Maps (Keyed)

def iV (n : Int) : Value := .int .i64 n
/-- A row of one's own, of whatever elements. -/
def OwnR (t : TypeId) (size : Nat) (v : Value) (n : Nat) (xs : List Value) : Res where
  inv w F := w.ownsRow 0 t size v n xs ∧ F = fun k => v.ownBlock = some k
  lt := by rintro w F ⟨h, rfl⟩ k hk; exact (h.lt k hk).2
  chg := by rintro w w' F S ⟨h, rfl⟩ hc hS; exact ⟨own_chg h hc (fun g hg => hS g hg), rfl⟩
abbrev IRowR (v : Value) (l : List Int) : Res := OwnR 3 1 v l.length (l.map fun n => .int .i64 n)
theorem Has.own {B : Nat} {w wr : World} {t : TypeId} {size n : Nat} {v : Value} {xs : List Value} {rs : List Res} (h : Has B w rs wr) (hm : OwnR t size v n xs ∈ rs) : wr.ownsRow 0 t size v n xs := by
  obtain ⟨F, ⟨ho, _⟩, _⟩ := h.get hm
  exact ho
theorem Has.cell {B : Nat} {w wr : World} {q : Nat} {vs : List Value} {rs : List Res} (h : Has B w rs wr) (hm : BlockR q vs ∈ rs) (j : Nat) (u : Value) (hu : vs[j]? = some u) : wr.cell? ⟨q, j, none⟩ = some u ∧ wr.frozen? ⟨q, j, none⟩ = false := by
  obtain ⟨F, ⟨h1, _⟩, _⟩ := h.get hm
  exact h1 j u hu
/-- A cell of a block written anew. -/
theorem Has.put {B : Nat} {w wr : World} {q : Nat} {vs : List Value} {rs : List Res} (h : Has B w (BlockR q vs :: rs) wr) (j : Nat) (hj : j < vs.length) (u : Value) : Has B w (BlockR q (vs.set j u) :: rs) (wr.setCell ⟨q, j, none⟩ u) := by
  refine h.turn (new := [BlockR q (vs.set j u)]) ?_
  rintro F ⟨h1, h2, rfl⟩
  refine ⟨_, Hold.one ⟨fun i x hx => ?_, by simpa using h2, rfl⟩, chg_set wr ⟨q, j, none⟩ u, fun k hk => Or.inl hk⟩
  have hil : i < vs.length := by have := (List.getElem?_eq_some_iff.1 hx).1; simpa using this
  refine ⟨?_, by rw [World.frozen?_setCell]; exact (h1 i _ (List.getElem?_eq_getElem hil)).2⟩
  by_cases e : i = j
  · subst e
    rw [World.cell?_setCell_same _ _ _ (h1 i _ (List.getElem?_eq_getElem hil)).1]
    rw [List.getElem?_set_self hil] at hx
    exact hx
  · rw [World.cell?_setCell_other _ _ _ _ (fun h => e (by injection h with _ h2; exact h2.symm))]
    rw [List.getElem?_set_ne (fun h => e h.symm)] at hx
    exact (h1 i x hx).1
/-- Cells behind a row of one's own: what an append leaves. -/
theorem Has.grow {B : Nat} {w wr w2 : World} {t : TypeId} {size n m : Nat} {v v' : Value} {xs ys : List Value} {rs : List Res} (h : Has B w (OwnR t size v n xs :: rs) wr)
    (ho : w2.ownsRow 0 t size v' m ys) (hw : ∀ g, v'.ownBlock = some g → v.ownBlock = some g ∨ wr.heap.size ≤ g) (hc : Chg (fun k => v.ownBlock = some k) wr w2) : Has B w (OwnR t size v' m ys :: rs) w2 := by
  refine h.turn (new := [OwnR t size v' m ys]) ?_
  rintro F ⟨_, rfl⟩
  exact ⟨_, Hold.one ⟨ho, rfl⟩, hc, hw⟩
/-- A new block. -/
theorem Has.box {B : Nat} {w wr : World} {rs : List Res} (h : Has B w rs wr) (vs : List Value) (t : TypeId) : Has B w (BlockR wr.heap.size vs :: rs) (wr.alloc (.cells vs.toArray t)) :=
  h.add (new := [BlockR wr.heap.size vs]) ((Below.refl _ _).alloc (Nat.le_refl _) _) (Hold.one (block_new wr vs t)) (fun k hk => by rw [hk]; exact Nat.le_refl _)
/-- A row of one's own that a call brought. -/
theorem Has.row {B : Nat} {w wr w' : World} {rs : List Res} {t : TypeId} {size n : Nat} {v : Value} {xs : List Value} (h : Has B w rs wr) (ho : w'.ownsRow wr.heap.size t size v n xs) (hb : Below wr.heap.size wr w') : Has B w (OwnR t size v n xs :: rs) w' :=
  h.add (new := [OwnR t size v n xs]) hb (Hold.one ⟨own_base ho (Nat.zero_le _), rfl⟩) (fun k hk => (ho.lt k hk).1)
/-- An empty row. -/
theorem Has.nil {B : Nat} {w wr : World} {rs : List Res} (h : Has B w rs wr) (t : TypeId) (size : Nat) : Has B w (OwnR t size (.slice none 0 0) 0 [] :: rs) wr :=
  h.add (new := [OwnR t size (.slice none 0 0) 0 []]) (Below.refl _ _) (Hold.one ⟨World.ownsRow_nil _ _ _ _, rfl⟩) (fun k hk => by cases hk)

/-- A wheel. -/
def WhR (b : Nat) (r : List T) : Res where
  inv w F := ∃ v l, PW w b v l ∧ l.Perm r ∧ F = fpw b v
  lt := by rintro w F ⟨v, l, h, _, rfl⟩ k hk; exact fpw_lt h k hk
  chg := by rintro w w' F S ⟨v, l, h, hp, rfl⟩ hc hS; exact ⟨v, l, pw_chg h hc hS, hp, rfl⟩
theorem whr_ok {w w' : World} {b : Nat} {v : Value} {r' : List T} (h : WOk w b v r' w') : ∃ Fn, Hold w' [WhR b r'] Fn ∧ Chg (fpw b v) w w' ∧ ∀ k, Fn k → fpw b v k ∨ w.heap.size ≤ k := by
  obtain ⟨v', l', h1, h2, h3, h4⟩ := h
  exact ⟨_, Hold.one ⟨v', l', h1, h2, rfl⟩, h3, h4⟩
section
variable {B : Nat} {w wr : World} {rs : List Res} {b : Nat} {r : List T}
theorem wnew_any (h : Has B w rs wr) : Calls Try.prog 31 #[] wr fun e w' => ∃ b, e = .returned (.pointer (some ⟨b, 0, none⟩)) ∧ Has B w (WhR b [] :: rs) w' :=
  (new_any wr).mono (fun e w' ⟨he, hp, hb⟩ => ⟨_, he, h.add (new := [WhR wr.heap.size []]) hb (Hold.one ⟨_, [], hp, List.Perm.refl _, rfl⟩) (fun k hk => by
    rcases hk with rfl | hk
    · exact Nat.le_refl _
    · cases hk)⟩)
theorem wset_any (h : Has B w (WhR b r :: rs) wr) (hg : WheelMath.Good r) (id tm : Int) :
    Calls Try.prog 36 #[.pointer (some ⟨b, 0, none⟩), .int .i64 id, .int .i64 tm] wr fun e w' => e = .returned (.int .i64 (aSet r id tm).2) ∧ Has B w (WhR b (aSet r id tm).1 :: rs) w' := by
  refine (h.call (P := Try.prog) (r := WhR b r) (Q := fun e new => e = .returned (.int .i64 (aSet r id tm).2) ∧ new = [WhR b (aSet r id tm).1]) ?_).mono (fun e w' ⟨new, ⟨he, hn⟩, hh⟩ => ⟨he, by rw [hn] at hh; exact hh⟩)
  rintro w0 F ⟨v, l, hP, hp, rfl⟩
  have hl : l.length ≤ 200 := by rw [hp.length_eq]; exact hg.len
  have ok : ∀ (c : Int) (e : Ending) (w' : World), (aSet r id tm).2 = c → e = .returned (.int .i64 c) → WOk w0 b v (aSet r id tm).1 w' → ∃ new Fn, (e = .returned (.int .i64 (aSet r id tm).2) ∧ new = [WhR b (aSet r id tm).1]) ∧ Hold w' new Fn ∧ Chg (fpw b v) w0 w' ∧ ∀ k, Fn k → fpw b v k ∨ w0.heap.size ≤ k := fun c e w' hc he hw => by
    obtain ⟨Fn, k1, k2, k3⟩ := whr_ok hw
    exact ⟨_, Fn, ⟨by rw [hc]; exact he, rfl⟩, k1, k2, k3⟩
  by_cases h1 : id < 0 ∨ tm < 0 ∨ 1073741824 < tm
  · have e : aSet r id tm = (r, 1) := by unfold aSet; rw [if_pos h1]
    refine (set_bad _ id tm h1 w0).mono fun e' w' ⟨he, hw⟩ => ok 1 e' w' (by rw [e]) he (by rw [hw, e]; exact WOk.same hP hp (Below.refl _ _))
  · have h2 : 0 ≤ id ∧ 0 ≤ tm ∧ tm ≤ 1073741824 := by omega
    cases hk : place l id with
    | some k =>
      have hh : has r id := (has_perm hp id).1 (has_place hk)
      have e : aSet r id tm = (ins (id, tm) (rem r id), 0) := by unfold aSet; rw [if_neg h1, if_neg (fun x => x.1 hh)]
      exact (set_hit w0 b v l r hl hP hp hg.ids id tm k hk h2.1 h2.2.1 h2.2.2).mono fun e' w' ⟨he, hw⟩ => ok 0 e' w' (by rw [e]) he (by rw [e]; exact hw)
    | none =>
      have hh : ¬ has r id := fun x => place_none hk ((has_perm hp id).2 x)
      by_cases hf : 200 ≤ r.length
      · have e : aSet r id tm = (r, 2) := by unfold aSet; rw [if_neg h1, if_pos ⟨hh, hf⟩]
        refine (set_full w0 b v l (by rw [hp.length_eq]; have := hg.len; omega) hP id tm hk h2.1 h2.2.1 h2.2.2).mono fun e' w' ⟨he, hw⟩ => ok 2 e' w' (by rw [e]) he (by rw [e]; exact WOk.same hP hp hw)
      · have e : aSet r id tm = (ins (id, tm) (rem r id), 0) := by unfold aSet; rw [if_neg h1, if_neg (fun x => hf x.2)]
        exact (set_new w0 b v l r (by rw [hp.length_eq]; omega) hP hp id tm hk h2.1 h2.2.1 h2.2.2).mono fun e' w' ⟨he, hw⟩ => ok 0 e' w' (by rw [e]) he (by rw [e]; exact hw)
theorem wstop_any (h : Has B w (WhR b r :: rs) wr) (hg : WheelMath.Good r) (id : Int) :
    Calls Try.prog 39 #[.pointer (some ⟨b, 0, none⟩), .int .i64 id] wr fun e w' => (∃ x : Bool, e = .returned (.bool x)) ∧ Has B w (WhR b (rem r id) :: rs) w' := by
  refine (h.call (P := Try.prog) (r := WhR b r) (Q := fun e new => (∃ x : Bool, e = .returned (.bool x)) ∧ new = [WhR b (rem r id)]) ?_).mono (fun e w' ⟨new, ⟨he, hn⟩, hh⟩ => ⟨he, by rw [hn] at hh; exact hh⟩)
  rintro w0 F ⟨v, l, hP, hp, rfl⟩
  have hl : l.length ≤ 200 := by rw [hp.length_eq]; exact hg.len
  have ok : ∀ (c : Bool) (e : Ending) (w' : World), e = .returned (.bool c) → WOk w0 b v (rem r id) w' → ∃ new Fn, ((∃ x : Bool, e = .returned (.bool x)) ∧ new = [WhR b (rem r id)]) ∧ Hold w' new Fn ∧ Chg (fpw b v) w0 w' ∧ ∀ k, Fn k → fpw b v k ∨ w0.heap.size ≤ k := fun c e w' he hw => by
    obtain ⟨Fn, k1, k2, k3⟩ := whr_ok hw
    exact ⟨_, Fn, ⟨⟨c, he⟩, rfl⟩, k1, k2, k3⟩
  cases hk : place l id with
  | some k => exact (stop_hit w0 b v l r hl hP hp hg.ids id k hk).mono fun e' w' ⟨he, hw⟩ => ok true e' w' he hw
  | none =>
    have hh : ¬ has r id := fun x => place_none hk ((has_perm hp id).2 x)
    refine (stop_none w0 b v l hl hP id hk).mono fun e' w' ⟨he, hw⟩ => ok false e' w' he ?_
    rw [rem_none hh]
    exact WOk.same hP hp hw
theorem wdue_any (h : Has B w (WhR b r :: rs) wr) (hg : WheelMath.Good r) (now : Int) :
    Calls Try.prog 41 #[.pointer (some ⟨b, 0, none⟩), .int .i64 now] wr fun e w' => ∃ vi, e = .returned vi ∧ Has B w (IRowR vi (told r now) :: WhR b (left r now) :: rs) w' := by
  refine (h.call (P := Try.prog) (r := WhR b r) (Q := fun e new => ∃ vi, e = .returned vi ∧ new = [IRowR vi (told r now), WhR b (left r now)]) ?_).mono (fun e w' ⟨new, ⟨vi, he, hn⟩, hh⟩ => ⟨vi, he, by rw [hn] at hh; exact hh⟩)
  rintro w0 F ⟨v, l, hP, hp, rfl⟩
  refine (due_any w0 b v l r hP hp hg now).mono ?_
  rintro e w' ⟨vi, he, ho, ⟨v', l', k1, k2, k3, k4⟩, hd⟩
  refine ⟨_, fun k => vi.ownBlock = some k ∨ fpw b v' k, ⟨vi, he, rfl⟩, ⟨_, _, ⟨own_base ho (Nat.zero_le _), rfl⟩, Hold.one ⟨v', l', k1, k2, rfl⟩, fun k hk => hd v' k1.cell k hk, fun k => Iff.rfl⟩, k3, ?_⟩
  rintro k (hk | hk)
  · exact Or.inr (ho.lt k hk).1
  · exact k4 k hk
end

/-- Numbers by numbers. -/
theorem lawI : Keyed Try.prog 3 := Go.Maps.int_keyed Try.underlying3
theorem zeroI (w : World) : (zeroValue 3).run Try.prog w = .ok (.int .i64 0) w := by kernel_rfl
def kI (i : Int) : Lit := .int .i64 i
theorem kI_inj {a b : Int} (h : kI a = kI b) : a = b := by unfold kI at h; injection h
theorem kI_key (a : Int) : WideAt.IsKeyLit (kI a) := by unfold kI; trivial
def I64 (i : Int) : Prop := -9223372036854775808 ≤ i ∧ i ≤ 9223372036854775807
theorem wfI {i : Int} (h : I64 i) : (Lit.int .i64 i).wf = true := WalkArith.wf_i64 h
theorem keyI {i : Int} (h : I64 i) : keyOf Try.prog 3 (.int .i64 i) = some (kI i) := Go.Maps.keyOf_int_mk Try.underlying3 (wfI h)
abbrev Tb := Int → Option Int
def AgrI (D : DataW Unit) (f : Tb) : Prop := Go.Maps.IsMap D ∧ ∀ i, (Go.Maps.has D (kI i) = true ↔ f i ≠ none) ∧ D.atKey (kI i) (.lit (.int .i64 0)) = .lit (.int .i64 ((f i).getD 0))
theorem agrI_start : AgrI (.map []) (fun _ => none) := ⟨Go.Maps.isMap_empty, fun s => ⟨by simp [Go.Maps.has_eq], rfl⟩⟩
theorem AgrI.put {D : DataW Unit} {f : Tb} (h : AgrI D f) (k i : Int) : AgrI (D.put (kI k) (.lit (.int .i64 i))) (updT f k (some i)) := by
  refine ⟨h.1.put _ _, fun x => ?_⟩
  unfold updT
  by_cases e : x = k
  · subst e
    rw [if_pos rfl, Go.Maps.has_put_same h.1 (kI_key _), Go.Maps.atKey_put_same h.1 (kI_key _)]
    exact ⟨by simp, rfl⟩
  · have hk : kI x ≠ kI k := fun hh => e (kI_inj hh)
    rw [if_neg e, Go.Maps.has_put_other hk, Go.Maps.atKey_put_other hk]
    exact h.2 x
theorem AgrI.del {D : DataW Unit} {f : Tb} (h : AgrI D f) (k : Int) : AgrI (D.del (kI k)) (updT f k none) := by
  refine ⟨h.1.del _, fun x => ?_⟩
  unfold updT
  by_cases e : x = k
  · subst e
    rw [if_pos rfl, Go.Maps.has_del_same, Go.Maps.atKey_del_same]
    exact ⟨by simp, rfl⟩
  · have hk : kI x ≠ kI k := fun hh => e (kI_inj hh)
    rw [if_neg e, Go.Maps.has_del_other hk, Go.Maps.atKey_del_other hk]
    exact h.2 x
theorem ownsMap_chg {S : Nat → Prop} {w w' : World} {bm n : Nat} {D : DataW Unit} {k : TypeId} {R : Value → Option (DataW Unit × List MemPlace)} (h : w.ownsMap Try.prog k R bm n D) (hc : Chg S w w') (hS : ¬ S bm) : w'.ownsMap Try.prog k R bm n D := by
  have hlt := h.lt
  obtain ⟨es, clock, hb, F, hs, hD⟩ := h
  exact ⟨es, clock, (hc.block bm hlt hS).trans hb, F, hs, hD⟩
/-- A map of numbers by numbers, of at most n entries. -/
def MapR (bm n : Nat) (f : Tb) : Res where
  inv w F := (∃ D : DataW Unit, w.ownsMap Try.prog 3 (plainElem Try.prog 3) bm n D ∧ AgrI D f) ∧ F = fun k => k = bm
  lt := by
    rintro w F ⟨⟨D, hD, _⟩, rfl⟩ k rfl
    exact hD.lt
  chg := by
    rintro w w' F S ⟨⟨D, hD, hA⟩, rfl⟩ hc hS
    exact ⟨⟨D, ownsMap_chg hD hc (hS bm rfl), hA⟩, rfl⟩
theorem chg_map {w w' : World} {bm : Nat} (h : w.grownBy w' (some bm)) : Chg (fun k => k = bm) w w' := ⟨h.os, h.tape, h.output, h.size, fun k hk hn => h.block k hk (fun e => hn (Option.some.inj e))⟩
theorem has_map {B : Nat} {w wr : World} {bm n : Nat} {f : Tb} {rs : List Res} (h : Has B w rs wr) (hm : MapR bm n f ∈ rs) : ∃ D : DataW Unit, wr.ownsMap Try.prog 3 (plainElem Try.prog 3) bm n D ∧ AgrI D f := by
  obtain ⟨F, ⟨h1, _⟩, _⟩ := h.get hm
  exact h1
theorem Has.mapTo {B : Nat} {w wr w' : World} {bm n n' : Nat} {f f' : Tb} {D : DataW Unit} {rs : List Res} (h : Has B w (MapR bm n f :: rs) wr) (ho : w'.ownsMap Try.prog 3 (plainElem Try.prog 3) bm n' D) (hA : AgrI D f') (hg : Chg (fun k => k = bm) wr w') : Has B w (MapR bm n' f' :: rs) w' := by
  refine h.turn (new := [MapR bm n' f']) ?_
  rintro F ⟨_, rfl⟩
  exact ⟨_, Hold.one ⟨⟨D, ho, hA⟩, rfl⟩, hg, fun k hk => Or.inl hk⟩
/-- 'v, ok := m[key]' of such a map. -/
theorem wpList_who {P : Program} (w : World) {ops : Array Oper} {rest : List Oper} {o : Oper} {a : Act} {Q : Exit → Act → World → Prop} (hg : o.guard = none) (m x : Operand) (hop : o.op = Op.lookup 52 m x true) (bm n : Nat) (D : DataW Unit) (f : Tb)
    (hm : a.eval m = .map (some bm)) (hD : w.ownsMap Try.prog 3 (plainElem Try.prog 3) bm n D) (hA : AgrI D f) (i : Int) (hx : a.eval x = .int .i64 i) (hi : I64 i)
    (hK : wpList Try.prog ops Q rest (a.put o.dst (.tuple #[.int .i64 ((f i).getD 0), .bool (f i).isSome])) w) : wpList Try.prog ops Q (o :: rest) a w := by
  refine wpList_lookup_own_ok_int w hg m x 52 hop 3 3 .i64 lawI Try.underlying52 Try.underlying3 (zeroI _) bm n D hm hD _ _ hx (keyI hi) ?_
  intro c hat hwc
  have e : c = (f i).getD 0 := by
    have := (hA.2 i).2.symm.trans hat
    injection this with e; injection e with _ e; exact e.symm
  have e2 : Go.Maps.has D (kI i) = (f i).isSome := by
    have := (hA.2 i).1
    cases h : Go.Maps.has D (kI i) <;> cases hf : f i <;> simp_all
  rw [e, e2]
  exact hK
end Go.Proofs.Yteadnjagandkfaa
