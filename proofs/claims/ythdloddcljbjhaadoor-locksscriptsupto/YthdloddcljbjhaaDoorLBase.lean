/- A table of locks in memory: a block that leads to a map; what the map holds, as a function of keys. -/
import Derived.Test.YthdloddcljbjhaaDoorCBase
import Derived.Maps.RangeWalk
import Derived.Maps.OwnOps
import Derived.Maps.OwnSet
import Derived.Maps.Ext
import Derived.Sort.EncStr
import Derived.WideShapes
import Derived.StringKeys
set_option linter.unusedVariables false
set_option maxRecDepth 100000
namespace Go.Proofs.YthdloddcljbjhaaDoor
open Go.RowKit CheckMath
open Go.Maps (Keyed)

theorem law : Keyed Tryd.prog 9 := Go.Maps.string_keyed Tryd.underlying9
theorem zeroI (w : World) : (zeroValue 3).run Tryd.prog w = .ok (.int .i64 0) w := by kernel_rfl
def kl (s : ByteArray) : Lit := .string s.data.toList
theorem kl_inj {s t : ByteArray} (h : kl s = kl t) : s = t := by
  unfold kl at h
  injection h with h
  have e : s.data = t.data := Array.toList_inj.1 h
  cases s; cases t; cases e; rfl
theorem kl_key (s : ByteArray) : WideAt.IsKeyLit (kl s) := by unfold kl; trivial
theorem key_mk (s : ByteArray) (hs : s.size ≤ maxLen) : keyOf Tryd.prog 9 (.string s) = some (kl s) := Go.WideMaps.keyOf_string_mk Tryd.underlying9 hs
/-- Who has which key: nobody is 0. -/
abbrev Hd := ByteArray → Int
def Agr (D : DataW Unit) (T : Hd) : Prop := Go.Maps.IsMap D ∧ ∀ s, (Go.Maps.has D (kl s) = true ↔ T s ≠ 0) ∧ D.atKey (kl s) (.lit (.int .i64 0)) = .lit (.int .i64 (T s))
def setT (T : Hd) (s : ByteArray) (i : Int) : Hd := fun x => if x = s then i else T x
theorem agr_start : Agr (.map []) (fun _ => 0) := ⟨Go.Maps.isMap_empty, fun s => ⟨by simp [Go.Maps.has_eq], rfl⟩⟩
theorem Agr.put {D : DataW Unit} {T : Hd} (h : Agr D T) (s : ByteArray) (i : Int) (hi : i ≠ 0) : Agr (D.put (kl s) (.lit (.int .i64 i))) (setT T s i) := by
  refine ⟨h.1.put _ _, fun x => ?_⟩
  unfold setT
  by_cases e : x = s
  · subst e
    rw [if_pos rfl, Go.Maps.has_put_same h.1 (kl_key _), Go.Maps.atKey_put_same h.1 (kl_key _)]
    exact ⟨by simp [hi], rfl⟩
  · have hk : kl x ≠ kl s := fun hh => e (kl_inj hh)
    rw [if_neg e, Go.Maps.has_put_other hk, Go.Maps.atKey_put_other hk]
    exact h.2 x
theorem Agr.del {D : DataW Unit} {T : Hd} (h : Agr D T) (s : ByteArray) : Agr (D.del (kl s)) (setT T s 0) := by
  refine ⟨h.1.del _, fun x => ?_⟩
  unfold setT
  by_cases e : x = s
  · subst e
    rw [if_pos rfl, Go.Maps.has_del_same, Go.Maps.atKey_del_same]
    exact ⟨by simp, rfl⟩
  · have hk : kl x ≠ kl s := fun hh => e (kl_inj hh)
    rw [if_neg e, Go.Maps.has_del_other hk, Go.Maps.atKey_del_other hk]
    exact h.2 x
/-- A table at block tb, its map at bm. -/
structure TabIn (w : World) (tb bm n : Nat) (T : Hd) : Prop where
  cell : w.cell? ⟨tb, 0, none⟩ = some (.map (some bm))
  off : tb ≠ bm
  own : ∃ D : DataW Unit, w.ownsMap Tryd.prog 9 (plainElem Tryd.prog 3) bm n D ∧ Agr D T
theorem ownsMap_chg {S : Nat → Prop} {w w' : World} {bm n : Nat} {D : DataW Unit} {k : TypeId} {R : Value → Option (DataW Unit × List MemPlace)} (h : w.ownsMap Tryd.prog k R bm n D) (hc : Chg S w w') (hS : ¬ S bm) : w'.ownsMap Tryd.prog k R bm n D := by
  have hlt := h.lt
  obtain ⟨es, clock, hb, F, hs, hD⟩ := h
  exact ⟨es, clock, (hc.block bm hlt hS).trans hb, F, hs, hD⟩
def TabR (tb n : Nat) (T : Hd) : Res where
  inv w F := ∃ bm, TabIn w tb bm n T ∧ F = fun k => k = tb ∨ k = bm
  lt := by
    rintro w F ⟨bm, h, rfl⟩ k (rfl | rfl)
    · exact block_lt_of_cell h.cell
    · obtain ⟨D, hD, _⟩ := h.own
      exact hD.lt
  chg := by
    rintro w w' F S ⟨bm, h, rfl⟩ hc hS
    obtain ⟨D, hD, hA⟩ := h.own
    refine ⟨bm, ⟨?_, h.off, D, ownsMap_chg hD hc (hS bm (Or.inr rfl)), hA⟩, rfl⟩
    exact (World.cell?_of_block (w := w) (a := ⟨tb, 0, none⟩) (hc.block tb (block_lt_of_cell h.cell) (hS tb (Or.inl rfl)))).trans h.cell
theorem chg_map {w w' : World} {bm : Nat} (h : w.grownBy w' (some bm)) : Chg (fun k => k = bm) w w' := ⟨h.os, h.tape, h.output, h.size, fun k hk hn => h.block k hk (fun e => hn (Option.some.inj e))⟩
theorem has_get {B : Nat} {w wr : World} {tb n : Nat} {T : Hd} {rs : List Res} (h : Has B w rs wr) (hm : TabR tb n T ∈ rs) : ∃ bm, TabIn wr tb bm n T := by
  obtain ⟨F, ⟨bm, h1, _⟩, _⟩ := h.get hm
  exact ⟨bm, h1⟩

/-- 'v, ok := m[key]' of a table's map. -/
theorem wpList_who (w : World) {ops : Array Oper} {rest : List Oper} {o : Oper} {a : Act} {Q : Exit → Act → World → Prop} (hg : o.guard = none) (m x : Operand) (hop : o.op = Op.lookup 46 m x true) (bm n : Nat) (D : DataW Unit) (T : Hd)
    (hm : a.eval m = .map (some bm)) (hD : w.ownsMap Tryd.prog 9 (plainElem Tryd.prog 3) bm n D) (hA : Agr D T) (s : ByteArray) (hx : a.eval x = .string s) (hs : s.size ≤ maxLen)
    (hK : wpList Tryd.prog ops Q rest (a.put o.dst (.tuple #[.int .i64 (T s), .bool (T s != 0)])) w) : wpList Tryd.prog ops Q (o :: rest) a w := by
  refine wpList_lookup_own_ok_int w hg m x 46 hop 9 3 .i64 law Tryd.underlying46 Tryd.underlying3 (zeroI _) bm n D hm hD _ _ hx (key_mk s hs) ?_
  intro c hat hwc
  have e : c = T s := by
    have := (hA.2 s).2.symm.trans hat
    injection this with e; injection e with _ e; exact e.symm
  have e2 : Go.Maps.has D (kl s) = (T s != 0) := by
    have := (hA.2 s).1
    cases h : Go.Maps.has D (kl s)
    · rw [h] at this
      have h0 : T s = 0 := by
        apply Classical.byContradiction
        intro h0
        exact absurd (this.2 h0) (by decide)
      rw [h0]; rfl
    · have h0 := this.1 h
      exact (by simpa using h0 : (T s != 0) = true).symm
  rw [e, e2]
  exact hK
theorem new_any {B : Nat} {w wr : World} {rs : List Res} (h : Has B w rs wr) : Calls Tryd.prog 24 #[] wr fun e w' => ∃ tb, e = .returned (.pointer (some ⟨tb, 0, none⟩)) ∧ Has B w (TabR tb 0 (fun _ => 0) :: rs) w' := by
  have hmm := @run_makeMap Tryd.prog
  have HO : Hid (((wr.alloc (.map #[] 0)).alloc (.cells #[.map (some wr.heap.size)] 48)).ownsMap Tryd.prog 9 (plainElem (H := Unit) Tryd.prog 3) wr.heap.size 0 (.map [])) := (World.ownsMap_made wr Tryd.prog 9 _).alloc _
  have HN : Hid (Has B w (TabR (wr.heap.size + 1) 0 (fun _ => 0) :: rs) ((wr.alloc (.map #[] 0)).alloc (.cells #[.map (some wr.heap.size)] 48))) := by
    refine h.add (new := [TabR (wr.heap.size + 1) 0 (fun _ => 0)]) (((Below.refl _ _).alloc (Nat.le_refl _) _).alloc (by rw [World.size_alloc]; omega) _) (Hold.one ⟨wr.heap.size, ⟨?_, (by simp), _, HO.out, agr_start⟩, rfl⟩) (fun k hk => by rcases hk with e | e <;> omega)
    have := World.cell?_alloc_new (wr.alloc (.map #[] 0)) #[.map (some wr.heap.size)] 48 0
    rw [World.size_alloc] at this
    exact this
  clear h HO
  go_enter Tryd.func24, Tryd.ntmps24
  go_wp2_with fail
  go_ret
  exact ⟨_, rfl, HN.out⟩
theorem holder_any {B : Nat} {w wr : World} {rs : List Res} {tb n : Nat} {T : Hd} (h : Has B w rs wr) (hm : TabR tb n T ∈ rs) (s : ByteArray) (hs : s.size ≤ 1048576) :
    Calls Tryd.prog 16 #[.pointer (some ⟨tb, 0, none⟩), .string s] wr fun e w' => e = .returned (.int .i64 (T s)) ∧ w' = wr := by
  obtain ⟨bm, h1⟩ := has_get h hm
  obtain ⟨D, hD, hA⟩ := h1.own
  have c0 := h1.cell
  have hkey := key_mk s (by unfold maxLen; omega)
  have HA : Hid (Agr D T) := hA
  clear h hm h1 hA
  go_enter Tryd.func16, Tryd.ntmps16
  go_wp2_with (at_lookup; refine wpList_lookup_own_int _ rfl _ _ 46 rfl 9 3 .i64 law Tryd.underlying46 Tryd.underlying3 (zeroI _) bm n D rfl hD _ _ rfl hkey ?_; intro c hat hwc)
  have e : c = T s := by
    have := (HA.out.2 s).2.symm.trans hat
    injection this with e; injection e with _ e; exact e.symm
  go_ret
  exact ⟨by rw [e]; rfl, rfl⟩
end Go.Proofs.YthdloddcljbjhaaDoor
