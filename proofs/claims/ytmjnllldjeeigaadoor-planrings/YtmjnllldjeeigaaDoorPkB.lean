/- The texts CopyB, GroupW, ListW, WebW, SeqW, DirW, PlanM, OrderM, InW, AheadW, one behind the other. -/
import Derived.Test.YtmjnllldjeeigaaDoorPkA
import Derived.Deep.AppendLies
import Derived.Deep.RegionLaw
import Derived.Deep.MidRow
import Derived.WideShapes
import Derived.Laws.Bits64b
import Derived.RangeFuncNested
import Derived.RangeFuncBound
import Derived.RangeFuncCalls
import Derived.RangeFuncLeaves
import Derived.Shelf.Abstract
import Derived.Shelf.RegionOpen
import Derived.OwnWalkIn
import Derived.TacticsInMore
import Derived.LoopNIn
import Derived.LoopIn
import Derived.OrdersIn
import Derived.Deep.RegionHeld3
/- A definition of one's own in memory: its block, its rows. -/
set_option linter.unusedVariables false
set_option maxRecDepth 100000
namespace Go.Proofs.YtmjnllldjeeigaaDoor
open Go.RowKit CheckMath

theorem infoI : (Tryd.prog.info? 3).map (fun i => (i.zero, i.size, i.bytes)) = some (some (.int .i64 0), 1, 8) := by kernel_rfl
theorem infoS : (Tryd.prog.info? 9).map (fun i => (i.zero, i.size, i.bytes)) = some (some (.string ⟨#[]⟩), 1, 16) := by kernel_rfl
theorem infoP : (Tryd.prog.info? 42).map (fun i => (i.zero, i.size, i.bytes)) = some (some (.agg #[.string ⟨#[]⟩, .int .i64 0, .int .i64 0, .slice none 0 0, .slice none 0 0]), 5, 80) := by kernel_rfl
theorem info_parts {P : Program} {t : TypeId} {z : Option Value} {s b : Nat} (h : (P.info? t).map (fun i => (i.zero, i.size, i.bytes)) = some (z, s, b)) : ∃ i, P.info? t = some i ∧ i.zero = z ∧ i.size = s ∧ i.bytes = b := by
  cases hi : P.info? t with
  | none => rw [hi] at h; cases h
  | some i =>
    rw [hi] at h
    simp only [Option.map_some, Option.some.injEq, Prod.mk.injEq] at h
    exact ⟨i, rfl, h.1, h.2.1, h.2.2⟩
/-- A row of one's own, of whatever elements. -/
def OwnR (t : TypeId) (size : Nat) (v : Value) (n : Nat) (xs : List Value) : Res where
  inv w F := w.ownsRow 0 t size v n xs ∧ F = fun k => v.ownBlock = some k
  lt := by rintro w F ⟨h, rfl⟩ k hk; exact (h.lt k hk).2
  chg := by rintro w w' F S ⟨h, rfl⟩ hc hS; exact ⟨own_chg h hc (fun g hg => hS g hg), rfl⟩
theorem Has.own {B : Nat} {w wr : World} {t : TypeId} {size n : Nat} {v : Value} {xs : List Value} {rs : List Res} (h : Has B w rs wr) (hm : OwnR t size v n xs ∈ rs) : wr.ownsRow 0 t size v n xs := by
  obtain ⟨F, ⟨ho, _⟩, _⟩ := h.get hm
  exact ho
theorem Has.cell {B : Nat} {w wr : World} {q : Nat} {vs : List Value} {rs : List Res} (h : Has B w rs wr) (hm : BlockR q vs ∈ rs) (j : Nat) (u : Value) (hu : vs[j]? = some u) : wr.cell? ⟨q, j, none⟩ = some u ∧ wr.frozen? ⟨q, j, none⟩ = false := by
  obtain ⟨F, ⟨h1, _⟩, _⟩ := h.get hm
  exact h1 j u hu
/-- A cell of a block written anew. -/
theorem Has.put {B : Nat} {w wr : World} {q : Nat} {vs : List Value} {rs : List Res} (h : Has B w (BlockR q vs :: rs) wr) (j : Nat) (hj : j < vs.length) (u : Value) : Has B w (BlockR q (vs.set j u) :: rs) (wr.setCell ⟨q, j, none⟩ u) := by
  refine h.turn (new := [BlockR q (vs.set j u)]) ?_
  rintro F ⟨h1, h2, rfl⟩
  refine ⟨_, Hold.one ⟨fun i x hx => ?_, by simpa using h2, rfl⟩, chg_set wr ⟨q, j, none⟩ u, fun k hk => Or.inl hk⟩
  have hil : i < vs.length := by have := (List.getElem?_eq_some_iff.1 hx).1; simpa using this
  refine ⟨?_, by rw [World.frozen?_setCell]; exact (h1 i _ (List.getElem?_eq_getElem hil)).2⟩
  by_cases e : i = j
  · subst e
    rw [World.cell?_setCell_same _ _ _ (h1 i _ (List.getElem?_eq_getElem hil)).1]
    rw [List.getElem?_set_self hil] at hx
    exact hx
  · rw [World.cell?_setCell_other _ _ _ _ (fun h => e (by injection h with _ h2; exact h2.symm))]
    rw [List.getElem?_set_ne (fun h => e h.symm)] at hx
    exact (h1 i x hx).1
/-- Cells behind a row of one's own: what an append leaves. -/
theorem Has.grow {B : Nat} {w wr w2 : World} {t : TypeId} {size n m : Nat} {v v' : Value} {xs ys : List Value} {rs : List Res} (h : Has B w (OwnR t size v n xs :: rs) wr)
    (ho : w2.ownsRow 0 t size v' m ys) (hw : ∀ g, v'.ownBlock = some g → v.ownBlock = some g ∨ wr.heap.size ≤ g) (hc : Chg (fun k => v.ownBlock = some k) wr w2) : Has B w (OwnR t size v' m ys :: rs) w2 := by
  refine h.turn (new := [OwnR t size v' m ys]) ?_
  rintro F ⟨_, rfl⟩
  exact ⟨_, Hold.one ⟨ho, rfl⟩, hc, hw⟩
/-- A new block. -/
theorem Has.box {B : Nat} {w wr : World} {rs : List Res} (h : Has B w rs wr) (vs : List Value) (t : TypeId) : Has B w (BlockR wr.heap.size vs :: rs) (wr.alloc (.cells vs.toArray t)) :=
  h.add (new := [BlockR wr.heap.size vs]) ((Below.refl _ _).alloc (Nat.le_refl _) _) (Hold.one (block_new wr vs t)) (fun k hk => by rw [hk]; exact Nat.le_refl _)
/-- A new row. -/
theorem Has.row {B : Nat} {w wr w2 : World} {t : TypeId} {size n : Nat} {v : Value} {xs : List Value} {rs : List Res} (h : Has B w rs wr) (ho : w2.ownsRow wr.heap.size t size v n xs) (hb : Below wr.heap.size wr w2) : Has B w (OwnR t size v n xs :: rs) w2 :=
  h.add (new := [OwnR t size v n xs]) hb (Hold.one ⟨own_base ho (Nat.zero_le _), rfl⟩) (fun k hk => by
    obtain ⟨ao, cap, rfl, _, _, hr⟩ := own_form ho
    cases ao with
    | none => simp [Value.ownBlock] at hk
    | some p =>
      obtain ⟨g, rfl, hg, _⟩ := hr p rfl
      have : g = k := by simpa [Value.ownBlock] using hk
      omega)
/-- append of a row of one-cell elements, whatever it is, to nil. -/
theorem run_append_nil {P : Program} (w : World) (t ty e : TypeId) (i : TypeInfo) (z : Value) (bytes : Nat) (ht : P.underlying t = some (.slice e)) (hi : P.info? e = some i) (hz : i.zero = some z) (hsize : i.size = 1) (hby : i.bytes = bytes) (hzs : z.cells.size = 1)
    (ao : Option Addr) (m c : Nat) (news : List Value) (hl : news.length = m) (hn0 : ao = none → m = 0 ∧ c = 0) (hnews : ∀ ad, ao = some ad → ∀ j u, news[j]? = some u → w.cell? (ad.add j) = some u) (h1 : ∀ u ∈ news, u.oneCell' = true)
    (h63 : m ≤ maxLen) (hbytes : m * bytes ≤ 140737488355328) : ∃ v' w', (Builtin.append_ #[t, t] ty #[.slice none 0 0, .slice ao m c]).run P w = .ok v' w' ∧ w'.ownsRow w.heap.size e 1 v' m news ∧ Below w.heap.size w w' := by
  cases ao with
  | none =>
    obtain ⟨rfl, rfl⟩ := hn0 rfl
    obtain rfl : news = [] := List.eq_nil_of_length_eq_zero hl
    exact ⟨_, w, run_append_owned_none (P := P) w 0 t ty e i 1 ht hi (.slice none 0 0) 0 [] (hsize ▸ World.ownsRow_nil _ _ _ _), World.ownsRow_nil _ _ _ _, Below.refl _ _⟩
  | some ad =>
    obtain ⟨v', w', hr, h2, h3, _, _⟩ := run_append_own_at (P := P) w w.heap.size t ty e i z 1 bytes ht hi hz hsize hby hzs (by decide) (.slice none 0 0) 0 [] (World.ownsRow_nil _ _ _ _) ad m c news (by omega) (hnews ad rfl) h1 (by omega) (by rw [Nat.zero_add]; exact hbytes) (Nat.le_refl _)
    refine ⟨v', w', hr, own_cast (by omega) (by simp) h2, ⟨h3.os, h3.tape, h3.output, h3.size, fun k hk => h3.block k hk (by simp [Value.ownBlock])⟩⟩
theorem step_append_nil {P : Program} (w : World) {ops : Array Oper} {o : Oper} {a : Act} {K : Act → World → Prop} {Q : Exit → Act → World → Prop} {E : Prop} (hgd : o.guard = none) (s x : Operand) (t : TypeId)
    (ho : o.op = .call { callee := .builtin .append, args := #[s, x], argTypes := #[t, t] }) (e : TypeId) (i : TypeInfo) (z : Value) (bytes : Nat) (ht : P.underlying t = some (.slice e)) (hi : P.info? e = some i) (hz : i.zero = some z) (hsize : i.size = 1) (hby : i.bytes = bytes) (hzs : z.cells.size = 1)
    (hs : a.eval s = .slice none 0 0) (ao : Option Addr) (m c : Nat) (hx : a.eval x = .slice ao m c) (news : List Value) (hl : news.length = m) (hn0 : ao = none → m = 0 ∧ c = 0) (hnews : ∀ ad, ao = some ad → ∀ j u, news[j]? = some u → w.cell? (ad.add j) = some u) (h1 : ∀ u ∈ news, u.oneCell' = true)
    (h63 : m ≤ maxLen) (hbytes : m * bytes ≤ 140737488355328) (h : ∀ v' w', w'.ownsRow w.heap.size e 1 v' m news → Below w.heap.size w w' → K (a.put o.dst v') w') :
    if Region.wanted o (yielded ops a.tmps) = true then Oper.wp P o a w K Q else E := by
  have hw : Region.wanted o (yielded ops a.tmps) = true := by simp [Region.wanted, hgd]
  rw [if_pos hw]
  obtain ⟨v', w', hr, h2, h3⟩ := run_append_nil (P := P) w t o.type e i z bytes ht hi hz hsize hby hzs ao m c news hl hn0 hnews h1 h63 hbytes
  unfold Oper.wp execOp
  simp only [ho, resolve, invoke, builtin, Sem.run_bind, Sem.run_pure, Result.andThen_ok, List.map_toArray, List.map_cons, List.map_nil, hs, hx, hr]
  exact h v' w' h2 h3

/-- A step with the slices that lie in its cells. -/
structure Cm where
  st : StepD
  kv : Value
  nv : Value
def ccell (x : Cm) : List Value := [.string x.st.name, .int .i64 x.st.kind, .int .i64 x.st.part, x.kv, x.nv]
def ccells (xs : List Cm) : List Value := xs.flatMap ccell
theorem ccells_append (xs ys : List Cm) : ccells (xs ++ ys) = ccells xs ++ ccells ys := by simp [ccells]
theorem ccells_len (xs : List Cm) : (ccells xs).length = xs.length * 5 := by
  unfold ccells
  induction xs with
  | nil => rfl
  | cons x xs ih => rw [List.flatMap_cons, List.length_append, ih, List.length_cons, show (ccell x).length = 5 from rfl]; omega
abbrev KR (v : Value) (l : List ByteArray) : Res := OwnR 9 1 v l.length (l.map fun s => .string s)
abbrev NR (v : Value) (l : List Int) : Res := OwnR 3 1 v l.length (l.map fun n => .int .i64 n)
def cRes (x : Cm) : List Res := [KR x.kv x.st.keys, NR x.nv x.st.needs]
/-- The steps' row, and each step's own rows. -/
def rowsRes (v : Value) (xs : List Cm) : List Res := OwnR 42 5 v xs.length (ccells xs) :: xs.flatMap cRes
theorem ccells_at : ∀ (xs : List Cm) (j : Nat) (h : j < xs.length), (ccells xs)[j * 5]? = some (.string xs[j].st.name) ∧ (ccells xs)[j * 5 + 1]? = some (.int .i64 xs[j].st.kind) ∧ (ccells xs)[j * 5 + 2]? = some (.int .i64 xs[j].st.part) ∧ (ccells xs)[j * 5 + 3]? = some xs[j].kv ∧ (ccells xs)[j * 5 + 4]? = some xs[j].nv
  | x :: xs, 0, _ => ⟨rfl, rfl, rfl, rfl, rfl⟩
  | x :: xs, j + 1, h => by
    have := ccells_at xs j (by simpa using h)
    have e : ccells (x :: xs) = ccell x ++ ccells xs := rfl
    have hl : (ccell x).length = 5 := rfl
    refine ⟨?_, ?_, ?_, ?_, ?_⟩
    · rw [e, List.getElem?_append_right (by rw [hl]; omega), hl, show (j + 1) * 5 - 5 = j * 5 by omega]; exact this.1
    · rw [e, List.getElem?_append_right (by rw [hl]; omega), hl, show (j + 1) * 5 + 1 - 5 = j * 5 + 1 by omega]; exact this.2.1
    · rw [e, List.getElem?_append_right (by rw [hl]; omega), hl, show (j + 1) * 5 + 2 - 5 = j * 5 + 2 by omega]; exact this.2.2.1
    · rw [e, List.getElem?_append_right (by rw [hl]; omega), hl, show (j + 1) * 5 + 3 - 5 = j * 5 + 3 by omega]; exact this.2.2.2.1
    · rw [e, List.getElem?_append_right (by rw [hl]; omega), hl, show (j + 1) * 5 + 4 - 5 = j * 5 + 4 by omega]; exact this.2.2.2.2
/-- What is known of the sizes. -/
def StOk (s : StepD) : Prop := s.keys.length * 16 ≤ 140737488355328 ∧ (∀ x, x ∈ s.keys → x.size ≤ 140737488355328) ∧ s.needs.length * 8 ≤ 140737488355328
theorem krow_own {w : World} {B : Nat} {v : Value} {l : List ByteArray} (h : w.ownsRow B 9 1 v l.length (l.map fun s => .string s)) (hl : l.length ≤ 140737488355328) (hx : ∀ x, x ∈ l → x.size ≤ 140737488355328) : KRow w v l := by
  obtain ⟨ao, cap, rfl, h1, h2, h3⟩ := own_form h
  refine ⟨ao, cap, rfl, h1, fun e => (h2 e).2, ⟨hl, hx⟩, fun j hj => ?_⟩
  cases ao with
  | none => have := (h2 rfl).1; omega
  | some p =>
    obtain ⟨g, rfl, _, k2, k3, _, _⟩ := h3 p rfl
    exact ⟨g, 0, rfl, k2, by rw [Nat.zero_add, k3 _ (by omega)]; simp [keyAt, List.getD, hj]⟩
theorem irow_own {w : World} {B : Nat} {v : Value} {l : List Int} (h : w.ownsRow B 3 1 v l.length (l.map fun n => .int .i64 n)) (hl : l.length ≤ 140737488355328) : IRow w v l := by
  obtain ⟨ao, cap, rfl, h1, h2, h3⟩ := own_form h
  refine ⟨ao, cap, rfl, h1, fun e => (h2 e).2, hl, fun j hj => ?_⟩
  cases ao with
  | none => have := (h2 rfl).1; omega
  | some p =>
    obtain ⟨g, rfl, _, k2, k3, _, _⟩ := h3 p rfl
    exact ⟨g, 0, rfl, k2, by rw [Nat.zero_add, k3 _ (by omega)]; simp [needAt, List.getD, hj]⟩
theorem drow_own {B : Nat} {w wr : World} {rs : List Res} {v : Value} {xs : List Cm} (h : Has B w rs wr) (hm : ∀ r, r ∈ rowsRes v xs → r ∈ rs) (hl : xs.length ≤ 140737488355328) (hok : ∀ x, x ∈ xs → StOk x.st) : DRow wr v (xs.map (·.st)) := by
  have ho := h.own (hm _ List.mem_cons_self)
  obtain ⟨ao, cap, rfl, h1, h2, h3⟩ := own_form ho
  refine ⟨ao, cap, by rw [List.length_map], by rw [List.length_map]; exact h1, fun e => (h2 e).2, by rw [List.length_map]; exact hl, fun j hj => ?_⟩
  rw [List.length_map] at hj
  cases ao with
  | none => have := (h2 rfl).1; omega
  | some p =>
    obtain ⟨g, rfl, _, k2, k3, _, _⟩ := h3 p rfl
    have hn : nth (xs.map (·.st)) j = xs[j].st := by simp [nth, List.getD, hj]
    obtain ⟨t0, t1, t2, t3, t4⟩ := ccells_at xs j hj
    have hx := List.getElem_mem hj
    obtain ⟨o1, o2, o3⟩ := hok _ hx
    have hmem : ∀ r, r ∈ cRes xs[j] → r ∈ rs := fun r hr => hm r (List.mem_cons_of_mem _ (List.mem_flatMap.2 ⟨_, hx, hr⟩))
    have hk := h.own (hmem (KR xs[j].kv xs[j].st.keys) (by simp [cRes]))
    have hn2 := h.own (hmem (NR xs[j].nv xs[j].st.needs) (by simp [cRes]))
    refine ⟨g, 0, rfl, k2, ?_⟩
    rw [hn, Nat.zero_add]
    exact ⟨by rw [k3 _ (by omega)]; exact t0, by rw [k3 _ (by omega)]; exact t1, by rw [k3 _ (by omega)]; exact t2, _, _, by rw [k3 _ (by omega)]; exact t3, by rw [k3 _ (by omega)]; exact t4, krow_own hk (by omega) o2, irow_own hn2 (by omega)⟩

/-- A result of two cells. -/
theorem results_cell2 {P : Program} {fn : Func} {p : Tmp} {ty : TypeId} (h : fn.results = #[.cell p ty]) (tmps : Array Value) (w : World) (g : Nat) (c0 c1 : Value) (d : TypeDesc)
    (hp : tmps.getD p undef = .pointer (some ⟨g, 0, none⟩)) (h0 : w.cell? ⟨g, 0, none⟩ = some c0) (h1 : w.cell? ⟨g, 1, none⟩ = some c1)
    (hu : P.underlying ty = some d) (hd : d.isRow = true) (hi : (P.info? ty).map (·.size) = some 2) : (results fn tmps).run P w = .ok (.agg #[c0, c1]) w := by
  have hp' : tmps[p]?.getD undef = .pointer (some ⟨g, 0, none⟩) := by simpa using hp
  have hr : w.rangeAt g 0 [c0, c1] := by
    intro j v hj
    rw [Nat.zero_add]
    match j, hj with
    | 0, hj => cases hj; exact h0
    | 1, hj => cases hj; exact h1
  simp [results, h, hp', asAddr, run_loadVar_mid w g 0 ty [c0, c1] d hr hu hd hi]
theorem cells_new (w : World) (vs : List Value) (t : TypeId) : ∀ (j : Nat) (x : Value), vs[j]? = some x → (w.alloc (.cells vs.toArray t)).cell? ((⟨w.heap.size, 0, none⟩ : Addr).add j) = some x := by
  intro j x h
  rw [Go.WideShapes.add_plain, Nat.zero_add, World.cell?_alloc_new]
  simpa using h
theorem one_five (a : ByteArray) (b c : Int) (x y : Option Addr) (n m p q : Nat) : ∀ u ∈ [Value.string a, .int .i64 b, .int .i64 c, .slice x n p, .slice y m q], u.oneCell' = true := by
  intro u hu
  simp only [List.mem_cons, List.not_mem_nil, or_false] at hu
  rcases hu with rfl | rfl | rfl | rfl | rfl <;> rfl
/-- A step more. -/
theorem rows_more {B : Nat} {w wr : World} {sb ob rb db : Nat} {vs vo vr vd : List Value} {v : Value} {xs : List Cm} {x : Cm} {n : Nat} {ys : List Value} (h : Has B w (BlockR ob vo :: OwnR 42 5 v n ys :: BlockR sb vs :: NR x.nv x.st.needs :: KR x.kv x.st.keys :: BlockR rb vr :: BlockR db vd :: xs.flatMap cRes) wr) (hn : n = (xs ++ [x]).length) (hy : ys = ccells (xs ++ [x])) :
    Has B w (BlockR ob vo :: BlockR rb vr :: BlockR db vd :: rowsRes v (xs ++ [x])) wr := by
  subst hn hy
  have h1 := (h.perm (List.perm_middle (l₁ := [BlockR ob vo, OwnR 42 5 v _ _]) (a := BlockR sb vs))).drop
  refine h1.perm (List.Perm.cons _ ?_)
  unfold rowsRes
  rw [List.flatMap_append, List.flatMap_cons, List.flatMap_nil, List.append_nil]
  refine (List.Perm.append_right (xs.flatMap cRes) (List.perm_append_comm (l₁ := [OwnR 42 5 v _ _, NR x.nv x.st.needs, KR x.kv x.st.keys]) (l₂ := [BlockR rb vr, BlockR db vd]))).trans ?_
  refine List.Perm.cons _ (List.Perm.cons _ (List.Perm.cons _ ?_))
  exact (List.perm_append_comm (l₁ := [NR x.nv x.st.needs, KR x.kv x.st.keys]) (l₂ := xs.flatMap cRes)).trans (List.Perm.append_left _ (List.Perm.swap _ _ _))
end Go.Proofs.YtmjnllldjeeigaaDoor

/- The walks of group's methods, in package plan: a group is a number below 256, its bits are the steps. -/
set_option linter.unusedVariables false
set_option maxRecDepth 100000
namespace Go.Proofs.YtmjnllldjeeigaaDoor
open Go.RowKit CheckMath
open Go.Proofs.YtmjnllldjeeigaaDoor.Nm

theorem div_cast (g i : Nat) : (g : Int) / 2 ^ i = ((g / 2 ^ i : Nat) : Int) := by
  rw [Int.natCast_ediv]
  simp
theorem has_bits (g i : Nat) (hg : g < 256) : (bits BinOp.and IntKind.u64 ((g : Int) / 2 ^ i) 1 == 1) = g.testBit i := by
  have h1 : g / 2 ^ i ≤ g := Nat.div_le_self _ _
  rw [div_cast, show (1 : Int) = ((1 : Nat) : Int) from rfl, bits_and_u64_nat _ _ (by omega) (by omega), Nat.and_one_is_mod, Nat.testBit_eq_decide_div_mod_eq]
  by_cases h : g / 2 ^ i % 2 = 1
  · simp [h]
  · rw [decide_eq_false h, beq_eq_false_iff_ne]
    omega
theorem pow_wrap (i : Nat) (hi : i < 8) : IntKind.u64.wrap (2 ^ i) = ((2 ^ i : Nat) : Int) := by
  have : i = 0 ∨ i = 1 ∨ i = 2 ∨ i = 3 ∨ i = 4 ∨ i = 5 ∨ i = 6 ∨ i = 7 := by omega
  rcases this with rfl | rfl | rfl | rfl | rfl | rfl | rfl | rfl <;> decide
theorem pow_lt (i : Nat) (hi : i < 8) : 2 ^ i < 256 := by
  have : i = 0 ∨ i = 1 ∨ i = 2 ∨ i = 3 ∨ i = 4 ∨ i = 5 ∨ i = 6 ∨ i = 7 := by omega
  rcases this with rfl | rfl | rfl | rfl | rfl | rfl | rfl | rfl <;> decide
/-- A step more. -/
def plus (g i : Nat) : Nat := g ||| 2 ^ i
theorem plus_lt {g i : Nat} (hg : g < 256) (hi : i < 8) : plus g i < 256 := Nat.or_lt_two_pow (n := 8) hg (pow_lt i hi)
theorem plus_bit (g i j : Nat) : (plus g i).testBit j = (g.testBit j || decide (i = j)) := by
  unfold plus
  rw [Nat.testBit_or, Nat.testBit_two_pow]
theorem within_bits (g o : Nat) (hg : g < 256) (ho : o < 256) : (bits BinOp.andNot IntKind.u64 (g : Int) (o : Int) == 0) = tt (∀ i, g.testBit i = true → o.testBit i = true) := by
  have hb : bits BinOp.andNot IntKind.u64 (g : Int) (o : Int) = IntKind.u64.wrap (((BitVec.ofInt 64 (g : Int) &&& ~~~ BitVec.ofInt 64 (o : Int)).toNat : Nat) : Int) := rfl
  have hlt := (BitVec.ofInt 64 (g : Int) &&& ~~~ BitVec.ofInt 64 (o : Int)).isLt
  have hz : IntKind.u64.wrap (((BitVec.ofInt 64 (g : Int) &&& ~~~ BitVec.ofInt 64 (o : Int)).toNat : Nat) : Int) = (((BitVec.ofInt 64 (g : Int) &&& ~~~ BitVec.ofInt 64 (o : Int)).toNat : Nat) : Int) := by rw [IntKind.wrap_u64]; omega
  rw [hb, hz, BitVec.ofInt_natCast, BitVec.ofInt_natCast]
  by_cases h : ∀ i, g.testBit i = true → o.testBit i = true
  · rw [tt_yes h]
    have : (BitVec.ofNat 64 g &&& ~~~ BitVec.ofNat 64 o) = 0#64 := by
      apply BitVec.eq_of_getLsbD_eq
      intro i hi
      rw [BitVec.getLsbD_and, BitVec.getLsbD_not, BitVec.getLsbD_ofNat, BitVec.getLsbD_ofNat]
      cases e : g.testBit i with
      | false => simp
      | true => simp [h i e, hi]
    rw [this]
    rfl
  · rw [tt_no h, beq_eq_false_iff_ne]
    intro e
    apply h
    intro i hi
    have e2 : (BitVec.ofNat 64 g &&& ~~~ BitVec.ofNat 64 o) = 0#64 := BitVec.eq_of_toNat_eq (by simpa using e)
    have h8 : i < 64 := by
      rcases Nat.lt_or_ge i 64 with k | k
      · exact k
      · rw [Nat.testBit_lt_two_pow (Nat.lt_of_lt_of_le hg (Nat.le_trans (by decide : (256 : Nat) ≤ 2 ^ 64) (Nat.pow_le_pow_right (by decide) k)))] at hi
        cases hi
    have e3 := congrArg (fun b => b.getLsbD i) e2
    simp only [BitVec.getLsbD_and, BitVec.getLsbD_not, BitVec.getLsbD_ofNat, hi, h8, decide_true, Bool.true_and] at e3
    simpa using e3
theorem meets_bits (g o : Nat) (hg : g < 256) (ho : o < 256) : (bits BinOp.and IntKind.u64 (g : Int) (o : Int) != 0) = tt (∃ i, g.testBit i = true ∧ o.testBit i = true) := by
  rw [bits_and_u64_nat _ _ (by omega) (by omega)]
  by_cases h : ∃ i, g.testBit i = true ∧ o.testBit i = true
  · rw [tt_yes h]
    obtain ⟨i, h1, h2⟩ := h
    have : ¬ (g &&& o) = 0 := fun e => by
      have := Nat.testBit_and g o i
      rw [e, h1, h2] at this
      simp at this
    simp [this]
  · rw [tt_no h]
    have : (g &&& o) = 0 := by
      apply Nat.eq_of_testBit_eq
      intro i
      rw [Nat.testBit_and, Nat.zero_testBit]
      cases e1 : g.testBit i with
      | false => rfl
      | true =>
        cases e2 : o.testBit i with
        | false => rfl
        | true => exact absurd ⟨i, e1, e2⟩ h
    simp [this]

theorem gHas_any (g i : Nat) (hg : g < 256) (hi : i < 8) (w : World) :
    Calls Tryd.prog 45 #[.int .u64 (g : Int), .int .i64 (i : Int)] w fun e w' => e = .returned (.bool (g.testBit i)) ∧ w' = w := by
  have HB : Hid ((bits BinOp.and IntKind.u64 ((g : Int) / 2 ^ i) 1 == 1) = g.testBit i) := has_bits g i hg
  go_enter Tryd.func45, Tryd.ntmps45
  go_wp2
  go_ret
  exact ⟨ret_bool HB.out, rfl⟩
theorem gWith_any (g i : Nat) (hg : g < 256) (hi : i < 8) (w : World) :
    Calls Tryd.prog 46 #[.int .u64 (g : Int), .int .i64 (i : Int)] w fun e w' => e = .returned (.int .u64 (plus g i : Int)) ∧ w' = w := by
  have HB : Hid (bits BinOp.or IntKind.u64 (g : Int) (IntKind.u64.wrap (2 ^ i)) = (plus g i : Int)) := by
    show _ = _
    rw [pow_wrap i hi, bits_or_u64_nat _ _ (by omega) (by have := pow_lt i hi; omega)]
    rfl
  go_enter Tryd.func46, Tryd.ntmps46
  go_wp2
  go_ret
  exact ⟨ret_int HB.out, rfl⟩
theorem gWithin_any (g o : Nat) (hg : g < 256) (ho : o < 256) (w : World) :
    Calls Tryd.prog 49 #[.int .u64 (g : Int), .int .u64 (o : Int)] w fun e w' => e = .returned (.bool (tt (∀ i, g.testBit i = true → o.testBit i = true))) ∧ w' = w := by
  have HB := within_bits g o hg ho
  have HB2 : Hid ((bits BinOp.andNot IntKind.u64 (g : Int) (o : Int) == 0) = tt (∀ i, g.testBit i = true → o.testBit i = true)) := HB
  clear HB
  generalize tt (∀ i, g.testBit i = true → o.testBit i = true) = r at *
  go_enter Tryd.func49, Tryd.ntmps49
  go_wp2
  go_ret
  exact ⟨ret_bool HB2.out, rfl⟩
theorem gMeets_any (g o : Nat) (hg : g < 256) (ho : o < 256) (w : World) :
    Calls Tryd.prog 52 #[.int .u64 (g : Int), .int .u64 (o : Int)] w fun e w' => e = .returned (.bool (tt (∃ i, g.testBit i = true ∧ o.testBit i = true))) ∧ w' = w := by
  have HB2 : Hid ((bits BinOp.and IntKind.u64 (g : Int) (o : Int) != 0) = tt (∃ i, g.testBit i = true ∧ o.testBit i = true)) := meets_bits g o hg ho
  generalize tt (∃ i, g.testBit i = true ∧ o.testBit i = true) = r at *
  go_enter Tryd.func52, Tryd.ntmps52
  go_wp2
  go_ret
  exact ⟨ret_bool HB2.out, rfl⟩
end Go.Proofs.YtmjnllldjeeigaaDoor

/- The walks of group's list and of web's hasStep, in package plan. -/
set_option linter.unusedVariables false
set_option maxRecDepth 100000
namespace Go.Proofs.YtmjnllldjeeigaaDoor
open Go.RowKit CheckMath
open Go.Proofs.YtmjnllldjeeigaaDoor.Nm

/-- The steps of a group that are less than n, rising. -/
def gl (g n : Nat) : List Nat := (List.range n).filter fun i => g.testBit i
theorem gl_yes {g n : Nat} (h : g.testBit n = true) : gl g (n + 1) = gl g n ++ [n] := by simp [gl, List.range_succ, List.filter_append, h]
theorem gl_no {g n : Nat} (h : g.testBit n = false) : gl g (n + 1) = gl g n := by simp [gl, List.range_succ, List.filter_append, h]
theorem gl_len (g n : Nat) : (gl g n).length ≤ n := by
  have := List.length_filter_le (fun i => g.testBit i) (List.range n)
  rw [List.length_range] at this
  exact this
theorem gl_mem {g n i : Nat} : i ∈ gl g n ↔ i < n ∧ g.testBit i = true := by simp [gl]
def nV (i : Nat) : Value := .int .i64 (i : Int)
theorem one_iV (n : Nat) : ∀ u ∈ [nV n], u.oneCell' = true := by intro u hu; simp at hu; subst hu; rfl

set_option maxHeartbeats 2000000 in
theorem gList_any (g : Nat) (hg : g < 256) (w : World) :
    Calls Tryd.prog 26 #[.int .u64 (g : Int)] w fun e w' => ∃ v, e = .returned v ∧ w'.ownsRow w.heap.size 3 1 v (gl g 8).length ((gl g 8).map nV) ∧ Below w.heap.size w w' := by
  obtain ⟨i0, hi, hz0, hz1, hz2⟩ := info_parts infoI
  go_enter Tryd.func26, Tryd.ntmps26
  go_wp2
  go_loopw [3, 4, 5] (fun v _ k wr => ∃ n : Nat, n ≤ 8 ∧ k = .int .i64 (n : Int) ∧ Hid (wr.ownsRow w.heap.size 3 1 v (gl g n).length ((gl g n).map nV)) ∧ Hid (Below w.heap.size w wr)) (fun _ _ k _ => 8 - (intOf k).toNat)
  case atStart => exact ⟨0, Nat.zero_le _, rfl, World.ownsRow_nil _ _ _ _, Below.refl _ _⟩
  case round =>
    obtain ⟨n, hn, rfl, HO, HB⟩ := hrel
    by_cases hlt : n < 8
    · have hltI : (n : Int) < 8 := by omega
      have C : Hid (Calls Tryd.prog 45 #[.int .u64 (g : Int), .int .i64 (n : Int)] wr fun e w' => e = .returned (.bool (g.testBit n)) ∧ w' = wr) := gHas_any g n hg hlt wr
      have hgl := gl_len g n
      have hown := HO.out
      cases hb : g.testBit n with
      | true =>
        rw [hb] at C
        have HL : Hid (gl g (n + 1) = gl g n ++ [n]) := gl_yes hb
        clear hb
        go_wp2_with fail
        refine C.out.mono ?_
        rintro e w1 ⟨rfl, hw1⟩
        rw [hw1]
        clear hw1 w1 C
        go_wp2_with (at_builtin; refine wpList_append_own _ rfl _ _ 26 rfl w.heap.size 3 i0 (.int .i64 0) 1 8 Tryd.underlying26 hi hz0 hz1 hz2 rfl (by decide) _ _ _ rfl (hown.alloc _) ⟨_, 0, none⟩ 1 1 [nV n] rfl rfl (cells_new _ _ _) (one_iV _) (by unfold maxLen; omega) (by omega) (by simp; have := HB.out.size; omega) ?_)
        intro v' w' hown' hgrow hnn
        have HB' : Hid (Below w.heap.size w w') := (HB.out.alloc HB.out.size _).grown hgrow (by simp; have := HB.out.size; omega) (fun k h => (hown.lt k h).1)
        have HO3 : Hid (w'.ownsRow w.heap.size 3 1 v' (gl g (n + 1)).length ((gl g (n + 1)).map nV)) := by
          rw [HL.out, List.map_append, List.length_append]; exact hown'
        clear hown' hgrow hnn hown HO HB
        go_wp2
        exact ⟨⟨n + 1, by omega, by go_num, HO3, HB'⟩, by simp [intOf]; omega⟩
      | false =>
        rw [hb] at C
        have HO3 : Hid (wr.ownsRow w.heap.size 3 1 u3 (gl g (n + 1)).length ((gl g (n + 1)).map nV)) := by rw [gl_no hb]; exact hown
        clear hb
        go_wp2_with fail
        refine C.out.mono ?_
        rintro e w1 ⟨rfl, hw1⟩
        rw [hw1]
        clear hw1 w1 C
        go_wp2
        exact ⟨⟨n + 1, by omega, by go_num, HO3, HB⟩, by simp [intOf]; omega⟩
    · obtain rfl : n = 8 := by omega
      go_wp2
      go_ret
      exact ⟨_, rfl, HO.out, HB.out⟩
end Go.Proofs.YtmjnllldjeeigaaDoor

/- The walks of web's hasStep, next and behind, in package plan. -/
set_option linter.unusedVariables false
set_option maxRecDepth 100000
namespace Go.Proofs.YtmjnllldjeeigaaDoor
open Go.RowKit CheckMath
open Go.Proofs.YtmjnllldjeeigaaDoor.Nm

def webC (n : Nat) (a : Nat → Nat) : Array Value := #[.int .i64 (n : Int), .int .u64 (a 0 : Int), .int .u64 (a 1 : Int), .int .u64 (a 2 : Int), .int .u64 (a 3 : Int), .int .u64 (a 4 : Int), .int .u64 (a 5 : Int), .int .u64 (a 6 : Int), .int .u64 (a 7 : Int)]
def webV (n : Nat) (a : Nat → Nat) : Value := .agg (webC n a)
theorem webC_at (n : Nat) (a : Nat → Nat) (i : Nat) (hi : i < 8) : (webC n a)[i + 1]? = some (.int .u64 (a i : Int)) := by
  have : i = 0 ∨ i = 1 ∨ i = 2 ∨ i = 3 ∨ i = 4 ∨ i = 5 ∨ i = 6 ∨ i = 7 := by omega
  rcases this with rfl | rfl | rfl | rfl | rfl | rfl | rfl | rfl <;> rfl
/-- A web in its box. -/
theorem box_web (n : Nat) (a : Nat → Nat) (w wq : World) (hb : Below (w.alloc (.cells (webC n a) 50)).heap.size (w.alloc (.cells (webC n a) 50)) wq) :
    Below w.heap.size w wq ∧ wq.cell? ⟨w.heap.size, 0, none⟩ = some (.int .i64 (n : Int)) ∧ ∀ i, i < 8 → wq.cell? ⟨w.heap.size, 1 + i, none⟩ = some (.int .u64 (a i : Int)) := by
  have h1 : Below w.heap.size w (w.alloc (.cells (webC n a) 50)) := (Below.refl _ _).alloc (Nat.le_refl _) _
  refine ⟨h1.trans (hb.mono h1.size), ?_, fun i hi => ?_⟩
  · rw [hb.cell (p := ⟨w.heap.size, 0, none⟩) (by simp), World.cell?_alloc_new]; rfl
  · rw [hb.cell (p := ⟨w.heap.size, 1 + i, none⟩) (by simp), World.cell?_alloc_new, Nat.add_comm]; exact webC_at n a i hi

set_option maxHeartbeats 1000000 in
theorem hasStep_any (n : Nat) (a : Nat → Nat) (i : Int) (w : World) :
    Calls Tryd.prog 25 #[webV n a, .int .i64 i] w fun e w' => e = .returned (.bool (decide (0 ≤ i ∧ i < n))) ∧ Below w.heap.size w w' := by
  unfold webV webC
  by_cases h0 : 0 ≤ i
  · by_cases h1 : i < n
    · have HE : Hid (decide (0 ≤ i ∧ i < (n : Int)) = true) := decide_eq_true ⟨h0, h1⟩
      generalize decide (0 ≤ i ∧ i < (n : Int)) = r at *
      go_enter Tryd.func25, Tryd.ntmps25
      go_wp2
      go_ret
      rw [HE.out]
      exact ⟨rfl, (Below.refl _ _).alloc (Nat.le_refl _) _⟩
    · have HE : Hid (decide (0 ≤ i ∧ i < (n : Int)) = false) := decide_eq_false (fun h => h1 h.2)
      generalize decide (0 ≤ i ∧ i < (n : Int)) = r at *
      go_enter Tryd.func25, Tryd.ntmps25
      go_wp2
      go_ret
      rw [HE.out]
      exact ⟨rfl, (Below.refl _ _).alloc (Nat.le_refl _) _⟩
  · have HE : Hid (decide (0 ≤ i ∧ i < (n : Int)) = false) := decide_eq_false (fun h => h0 h.1)
    generalize decide (0 ≤ i ∧ i < (n : Int)) = r at *
    go_enter Tryd.func25, Tryd.ntmps25
    go_wp2
    go_ret
    rw [HE.out]
    exact ⟨rfl, (Below.refl _ _).alloc (Nat.le_refl _) _⟩

/-- The least step that was not told, of which all that are ahead were: next's answer. -/
def Ripe (a : Nat → Nat) (told i : Nat) : Prop := told.testBit i = false ∧ ∀ j, (a i).testBit j = true → told.testBit j = true
noncomputable def nextI (n : Nat) (a : Nat → Nat) (told : Nat) : Int := firstI (Ripe a told) n
def nextV (r : Int) : Value := if r = -1 then .tuple #[.int .i64 0, .bool false] else .tuple #[.int .i64 r, .bool true]
theorem nextV_no : nextV (-1) = .tuple #[.int .i64 0, .bool false] := by unfold nextV; rw [if_pos rfl]
theorem nextV_yes (m : Nat) : nextV (m : Int) = .tuple #[.int .i64 (m : Int), .bool true] := by unfold nextV; rw [if_neg (by omega)]
set_option maxHeartbeats 4000000 in
theorem next_web (n : Nat) (a : Nat → Nat) (hn : n ≤ 8) (ha : ∀ i, i < 8 → a i < 256) (told : Nat) (ht : told < 256) (w : World) :
    Calls Tryd.prog 64 #[webV n a, .int .u64 (told : Int)] w fun e w' => e = .returned (nextV (nextI n a told)) ∧ Below w.heap.size w w' := by
  have HW : Hid (∀ wq, Below (w.alloc (.cells (webC n a) 50)).heap.size (w.alloc (.cells (webC n a) 50)) wq → Below w.heap.size w wq ∧ wq.cell? ⟨w.heap.size, 0, none⟩ = some (.int .i64 (n : Int)) ∧ ∀ i, i < 8 → wq.cell? ⟨w.heap.size, 1 + i, none⟩ = some (.int .u64 (a i : Int))) := fun wq hb => box_web n a w wq hb
  have HB0 : Hid (Below (w.alloc (.cells (webC n a) 50)).heap.size (w.alloc (.cells (webC n a) 50)) (w.alloc (.cells (webC n a) 50))) := Below.refl _ _
  have HA : Hid (∀ i, i < 8 → a i < 256) := ha
  have HF0 : Hid (nextI n a told = firstF (Ripe a told) 0 (n - 0)) := rfl
  clear ha
  generalize nextI n a told = r at *
  unfold webV
  unfold webC at *
  go_enter Tryd.func64, Tryd.ntmps64
  go_wp2
  generalize (w.alloc (.cells #[.int .i64 (n : Int), .int .u64 (a 0 : Int), .int .u64 (a 1 : Int), .int .u64 (a 2 : Int), .int .u64 (a 3 : Int), .int .u64 (a 4 : Int), .int .u64 (a 5 : Int), .int .u64 (a 6 : Int), .int .u64 (a 7 : Int)] 50)) = w0 at *
  go_loopw [6, 9] (fun _ k wr => ∃ m : Nat, m ≤ n ∧ k = .int .i64 (m : Int) ∧ Hid (Below w0.heap.size w0 wr) ∧ Hid (r = firstF (Ripe a told) m (n - m))) (fun _ k _ => n - (intOf k).toNat)
  case atStart => exact ⟨0, Nat.zero_le _, rfl, HB0, HF0⟩
  case round =>
    obtain ⟨m, hm, rfl, HB, HF⟩ := hrel
    obtain ⟨hbw, p0, p1⟩ := HW.out _ HB.out
    by_cases hlt : m < n
    · have hltI : (m : Int) < (n : Int) := by omega
      have hm8 : (m : Int) < 8 := by omega
      have q1 := p1 m (by omega)
      have C1 : Hid (Calls Tryd.prog 45 #[.int .u64 (told : Int), .int .i64 (m : Int)] wr fun e w' => e = .returned (.bool (told.testBit m)) ∧ w' = wr) := gHas_any told m ht (by omega) wr
      have C2 : Hid (Calls Tryd.prog 49 #[.int .u64 (a m : Int), .int .u64 (told : Int)] wr fun e w' => e = .returned (.bool (tt (∀ i, (a m).testBit i = true → told.testBit i = true))) ∧ w' = wr) := gWithin_any (a m) told (HA.out m (by omega)) ht wr
      rw [show n - m = (n - (m + 1)) + 1 by omega, firstF] at HF
      clear p1
      cases hb : told.testBit m with
      | true =>
        rw [hb] at C1
        have HF2 : Hid (r = firstF (Ripe a told) (m + 1) (n - (m + 1))) := by show r = _; rw [HF.out, if_neg (by rw [tt_no (fun h => by rw [h.1] at hb; cases hb)]; simp)]
        clear HF hb C2
        go_wp2_with fail
        refine C1.out.mono ?_
        rintro e w1 ⟨rfl, hw1⟩
        rw [hw1]
        clear hw1 w1 C1
        go_wp2
        exact ⟨⟨m + 1, by omega, by go_num, HB, HF2⟩, by simp [intOf]; omega⟩
      | false =>
        rw [hb] at C1
        by_cases hr : ∀ i, (a m).testBit i = true → told.testBit i = true
        · rw [tt_yes hr] at C2
          have HF2 : Hid (r = (m : Int)) := by show r = _; rw [HF.out, if_pos (tt_yes ⟨hb, hr⟩)]
          have HBW : Hid (Below w.heap.size w wr) := hbw
          clear HF hb hr hbw
          go_wp2_with fail
          refine C1.out.mono ?_
          rintro e w1 ⟨rfl, hw1⟩
          rw [hw1]
          clear hw1 w1 C1
          go_wp2_with fail
          refine C2.out.mono ?_
          rintro e w1 ⟨rfl, hw1⟩
          rw [hw1]
          clear hw1 w1 C2
          go_wp2
          go_ret2
          refine ⟨?_, HBW.out⟩
          rw [HF2.out, nextV_yes]
          rfl
        · rw [tt_no hr] at C2
          have HF2 : Hid (r = firstF (Ripe a told) (m + 1) (n - (m + 1))) := by show r = _; rw [HF.out, if_neg (by rw [tt_no (fun h => hr h.2)]; simp)]
          clear HF hb hr hbw
          go_wp2_with fail
          refine C1.out.mono ?_
          rintro e w1 ⟨rfl, hw1⟩
          rw [hw1]
          clear hw1 w1 C1
          go_wp2_with fail
          refine C2.out.mono ?_
          rintro e w1 ⟨rfl, hw1⟩
          rw [hw1]
          clear hw1 w1 C2
          go_wp2
          exact ⟨⟨m + 1, by omega, by go_num, HB, HF2⟩, by simp [intOf]; omega⟩
    · have hltI : ¬ (m : Int) < (n : Int) := by omega
      have HE : r = -1 := by rw [HF.out, show n - m = 0 by omega]; rfl
      have HE2 : Hid (r = -1) := HE
      clear HE HF p1
      go_wp2
      go_ret2
      refine ⟨?_, hbw⟩
      rw [HE2.out, nextV_no]
      rfl

/-- The steps behind a step, of those less than m. -/
def behindG (a : Nat → Nat) (i : Nat) : Nat → Nat
  | 0 => 0
  | m + 1 => if (a m).testBit i = true then plus (behindG a i m) m else behindG a i m
theorem behindG_lt (a : Nat → Nat) (i : Nat) : ∀ m, m ≤ 8 → behindG a i m < 256
  | 0, _ => by show 0 < 256; decide
  | m + 1, h => by
    unfold behindG
    split
    · exact plus_lt (behindG_lt a i m (by omega)) (by omega)
    · exact behindG_lt a i m (by omega)
theorem behindG_bit (a : Nat → Nat) (i : Nat) : ∀ m j, (behindG a i m).testBit j = true ↔ j < m ∧ (a j).testBit i = true
  | 0, j => by simp [behindG]
  | m + 1, j => by
    unfold behindG
    by_cases h : (a m).testBit i = true
    · rw [if_pos h, plus_bit, Bool.or_eq_true, behindG_bit a i m j, decide_eq_true_eq]
      constructor
      · rintro (⟨h1, h2⟩ | rfl)
        · exact ⟨by omega, h2⟩
        · exact ⟨by omega, h⟩
      · rintro ⟨h1, h2⟩
        by_cases e : m = j
        · exact Or.inr e
        · exact Or.inl ⟨by omega, h2⟩
    · rw [if_neg h, behindG_bit a i m j]
      constructor
      · rintro ⟨h1, h2⟩; exact ⟨by omega, h2⟩
      · rintro ⟨h1, h2⟩
        by_cases e : j = m
        · subst e; exact absurd h2 h
        · exact ⟨by omega, h2⟩
theorem behindG_yes {a : Nat → Nat} {i m : Nat} (h : (a m).testBit i = true) : behindG a i (m + 1) = plus (behindG a i m) m := by rw [behindG, if_pos h]
theorem behindG_no {a : Nat → Nat} {i m : Nat} (h : (a m).testBit i = false) : behindG a i (m + 1) = behindG a i m := by rw [behindG, if_neg (by rw [h]; simp)]
set_option maxHeartbeats 4000000 in
theorem behind_web (n : Nat) (a : Nat → Nat) (hn : n ≤ 8) (ha : ∀ i, i < 8 → a i < 256) (i : Nat) (hi : i < 8) (w : World) :
    Calls Tryd.prog 27 #[webV n a, .int .i64 (i : Int)] w fun e w' => e = .returned (.int .u64 (behindG a i n : Int)) ∧ Below w.heap.size w w' := by
  have HW : Hid (∀ wq, Below (w.alloc (.cells (webC n a) 50)).heap.size (w.alloc (.cells (webC n a) 50)) wq → Below w.heap.size w wq ∧ wq.cell? ⟨w.heap.size, 0, none⟩ = some (.int .i64 (n : Int)) ∧ ∀ i, i < 8 → wq.cell? ⟨w.heap.size, 1 + i, none⟩ = some (.int .u64 (a i : Int))) := fun wq hb => box_web n a w wq hb
  have HB0 : Hid (Below (w.alloc (.cells (webC n a) 50)).heap.size (w.alloc (.cells (webC n a) 50)) (w.alloc (.cells (webC n a) 50))) := Below.refl _ _
  have HA : Hid (∀ i, i < 8 → a i < 256) := ha
  clear ha
  unfold webV
  unfold webC at *
  go_enter Tryd.func27, Tryd.ntmps27
  go_wp2
  generalize (w.alloc (.cells #[.int .i64 (n : Int), .int .u64 (a 0 : Int), .int .u64 (a 1 : Int), .int .u64 (a 2 : Int), .int .u64 (a 3 : Int), .int .u64 (a 4 : Int), .int .u64 (a 5 : Int), .int .u64 (a 6 : Int), .int .u64 (a 7 : Int)] 50)) = w0 at *
  go_loopw [5, 6, 9] (fun g _ k wr => ∃ m : Nat, m ≤ n ∧ k = .int .i64 (m : Int) ∧ g = .int .u64 (behindG a i m : Int) ∧ Hid (Below w0.heap.size w0 wr)) (fun _ _ k _ => n - (intOf k).toNat)
  case atStart => exact ⟨0, Nat.zero_le _, rfl, rfl, HB0⟩
  case round =>
    obtain ⟨m, hm, rfl, rfl, HB⟩ := hrel
    obtain ⟨hbw, p0, p1⟩ := HW.out _ HB.out
    by_cases hlt : m < n
    · have hltI : (m : Int) < (n : Int) := by omega
      have hm8 : (m : Int) < 8 := by omega
      have q1 := p1 m (by omega)
      have C1 : Hid (Calls Tryd.prog 45 #[.int .u64 (a m : Int), .int .i64 (i : Int)] wr fun e w' => e = .returned (.bool ((a m).testBit i)) ∧ w' = wr) := gHas_any (a m) i (HA.out m (by omega)) hi wr
      have C2 : Hid (Calls Tryd.prog 46 #[.int .u64 (behindG a i m : Int), .int .i64 (m : Int)] wr fun e w' => e = .returned (.int .u64 (plus (behindG a i m) m : Int)) ∧ w' = wr) := gWith_any (behindG a i m) m (behindG_lt a i m (by omega)) (by omega) wr
      clear p1 hbw
      cases hb : (a m).testBit i with
      | true =>
        rw [hb] at C1
        have HG : Hid (behindG a i (m + 1) = plus (behindG a i m) m) := behindG_yes hb
        clear hb
        go_wp2_with fail
        refine C1.out.mono ?_
        rintro e w1 ⟨rfl, hw1⟩
        rw [hw1]
        clear hw1 w1 C1
        go_wp2_with fail
        refine C2.out.mono ?_
        rintro e w1 ⟨rfl, hw1⟩
        rw [hw1]
        clear hw1 w1 C2
        go_wp2
        exact ⟨⟨m + 1, by omega, by go_num, by rw [HG.out], HB⟩, by simp [intOf]; omega⟩
      | false =>
        rw [hb] at C1
        have HG : Hid (behindG a i (m + 1) = behindG a i m) := behindG_no hb
        clear hb C2
        go_wp2_with fail
        refine C1.out.mono ?_
        rintro e w1 ⟨rfl, hw1⟩
        rw [hw1]
        clear hw1 w1 C1
        go_wp2
        exact ⟨⟨m + 1, by omega, by go_num, by rw [HG.out], HB⟩, by simp [intOf]; omega⟩
    · have hltI : ¬ (m : Int) < (n : Int) := by omega
      have HE : Hid (n = m) := by show n = m; omega
      clear p1
      go_wp2
      go_ret
      rw [HE.out]
      exact ⟨rfl, hbw⟩
end Go.Proofs.YtmjnllldjeeigaaDoor

/- The walk of web's order: it tells the ripe steps, one a round. -/
set_option linter.unusedVariables false
set_option maxRecDepth 100000
namespace Go.Proofs.YtmjnllldjeeigaaDoor
open Go.RowKit Go.Shelf CheckMath

theorem HidMk {p : Prop} (h : p) : Hid p := h
/-- What was told, as a group. -/
def toldG (xs : List Nat) : Nat := xs.foldl plus 0
theorem toldG_more (xs : List Nat) (x : Nat) : toldG (xs ++ [x]) = plus (toldG xs) x := by simp [toldG]
theorem toldG_lt {xs : List Nat} (h : ∀ x, x ∈ xs → x < 8) : toldG xs < 256 := by
  have : ∀ (ys : List Nat) (g : Nat), g < 256 → (∀ x, x ∈ ys → x < 8) → ys.foldl plus g < 256 := by
    intro ys
    induction ys with
    | nil => exact fun g hg _ => hg
    | cons y ys ih => exact fun g hg hy => ih (plus g y) (plus_lt hg (hy y List.mem_cons_self)) (fun x hx => hy x (List.mem_cons_of_mem _ hx))
  exact this xs 0 (by decide) h
theorem toldG_bit (xs : List Nat) (j : Nat) : (toldG xs).testBit j = true ↔ j ∈ xs := by
  have : ∀ (ys : List Nat) (g : Nat), (ys.foldl plus g).testBit j = true ↔ g.testBit j = true ∨ j ∈ ys := by
    intro ys
    induction ys with
    | nil => intro g; simp
    | cons y ys ih =>
      intro g
      rw [List.foldl_cons, ih, plus_bit]
      simp only [Bool.or_eq_true, decide_eq_true_eq, List.mem_cons]
      constructor
      · rintro ((h | h) | h)
        · exact Or.inl h
        · exact Or.inr (Or.inl h.symm)
        · exact Or.inr (Or.inr h)
      · rintro (h | h | h)
        · exact Or.inl (Or.inl h)
        · exact Or.inl (Or.inr h.symm)
        · exact Or.inr h
  rw [toldG, this]
  simp
/-- These steps are what order tells. -/
structure OrderOf (n : Nat) (a : Nat → Nat) (xs : List Nat) : Prop where
  lt : ∀ x, x ∈ xs → x < n
  next : ∀ k, (hk : k < xs.length) → nextI n a (toldG (xs.take k)) = (xs[k] : Nat)
  last : nextI n a (toldG xs) = -1
  new : ∀ k, (hk : k < xs.length) → ¬ xs[k] ∈ xs.take k

theorem plus_gt {g x : Nat} (h : g.testBit x = false) : g < plus g x := by
  have h1 : g ≤ plus g x := Nat.left_le_or
  have h2 : g ≠ plus g x := fun e => by
    have := plus_bit g x x
    rw [← e, h] at this
    simp at this
  omega
theorem take_snoc {xs : List Nat} {k : Nat} (h : k < xs.length) : xs.take (k + 1) = xs.take k ++ [xs[k]] := List.take_succ_eq_append_getElem h
def nextS (xs : List Nat) (k : Nat) (i is : Value) : Prop := (∃ h : k < xs.length, i = .int .i64 (xs[k] : Nat) ∧ is = .bool true) ∨ (k = xs.length ∧ i = .int .i64 0 ∧ is = .bool false)
theorem nextV_S {n : Nat} {a : Nat → Nat} {xs : List Nat} (hx : OrderOf n a xs) (k : Nat) (hk : k ≤ xs.length) : ∃ i is, nextV (nextI n a (toldG (xs.take k))) = .tuple #[i, is] ∧ nextS xs k i is := by
  by_cases h : k < xs.length
  · rw [hx.next k h, nextV_yes]
    exact ⟨_, _, rfl, Or.inl ⟨h, rfl, rfl⟩⟩
  · have e : k = xs.length := by omega
    subst e
    rw [List.take_length, hx.last, nextV_no]
    exact ⟨_, _, rfl, Or.inr ⟨rfl, rfl, rfl⟩⟩

set_option maxHeartbeats 1000000 in
theorem order_tells (n : Nat) (a : Nat → Nat) (hn : n ≤ 8) (ha : ∀ i, i < 8 → a i < 256) (xs : List Nat) (hx : OrderOf n a xs) (m : Nat) (w : World) : SeqTells (P := Tryd.prog) Fence.wide m 44 (webV n a) xs w := by
  intro l J W hW hJ hY h0
  have HJ : Hid (∀ k W1 W2, J k W1 → Below W1.heap.size W1 W2 → J k W2) := hJ
  have CN : Hid (∀ (told : Nat) (wq : World), told < 256 → Calls Tryd.prog 64 #[.agg #[.int .i64 (n : Int), .int .u64 (a 0 : Int), .int .u64 (a 1 : Int), .int .u64 (a 2 : Int), .int .u64 (a 3 : Int), .int .u64 (a 4 : Int), .int .u64 (a 5 : Int), .int .u64 (a 6 : Int), .int .u64 (a 7 : Int)], .int .u64 (told : Int)] wq fun e w' => e = .returned (nextV (nextI n a told)) ∧ Below wq.heap.size wq w') := fun told wq ht => next_web n a hn ha told ht wq
  have HX : Hid (OrderOf n a xs) := hx
  have HLT : Hid (∀ k, toldG (xs.take k) < 256) := fun k => toldG_lt (fun x hx => by have := HX.out.lt x (List.mem_of_mem_take hx); omega)
  have HY : Hid (∀ k W1, (hk : k < xs.length) → J k W1 → W.heap.size < W1.heap.size → YieldAt Fence.wide (m - 1) Tryd.prog l #[.int .i64 (xs[k] : Nat)] W1 fun e W2 => e = .returned (.bool true) ∧ J (k + 1) W2 ∧ Chg (fun b => b ≠ W.heap.size) W1 W2) := hY
  have HJ0 : Hid (J 0 W) := h0
  have HB0 : Hid (BlockR W.heap.size [.int .i64 (n : Int), .int .u64 (a 0 : Int), .int .u64 (a 1 : Int), .int .u64 (a 2 : Int), .int .u64 (a 3 : Int), .int .u64 (a 4 : Int), .int .u64 (a 5 : Int), .int .u64 (a 6 : Int), .int .u64 (a 7 : Int)] |>.inv (W.alloc (.cells #[.int .i64 (n : Int), .int .u64 (a 0 : Int), .int .u64 (a 1 : Int), .int .u64 (a 2 : Int), .int .u64 (a 3 : Int), .int .u64 (a 4 : Int), .int .u64 (a 5 : Int), .int .u64 (a 6 : Int), .int .u64 (a 7 : Int)] 50)) (fun k => k = W.heap.size)) := block_new W [.int .i64 (n : Int), .int .u64 (a 0 : Int), .int .u64 (a 1 : Int), .int .u64 (a 2 : Int), .int .u64 (a 3 : Int), .int .u64 (a 4 : Int), .int .u64 (a 5 : Int), .int .u64 (a 6 : Int), .int .u64 (a 7 : Int)] 50
  have hJ1 : J 0 (W.alloc (.cells #[.int .i64 (n : Int), .int .u64 (a 0 : Int), .int .u64 (a 1 : Int), .int .u64 (a 2 : Int), .int .u64 (a 3 : Int), .int .u64 (a 4 : Int), .int .u64 (a 5 : Int), .int .u64 (a 6 : Int), .int .u64 (a 7 : Int)] 50)) := hJ 0 _ _ h0 ((Below.refl _ W).alloc (Nat.le_refl _) _)
  have HJ1 := HidMk hJ1
  clear hJ hY h0 hJ1 hx hW HJ0
  refine callsIn_of_wp Tryd.func44 rfl trivial ?_ rfl
  simp only [Tryd.ntmps44, List.size_toArray, List.length_cons, List.length_nil, Nat.reduceAdd, Nat.reduceSub, Array.replicate_succ, Array.replicate_zero, List.push_toArray, List.append_toArray, List.nil_append, List.cons_append]
  unfold webV webC
  gi_wp2
  generalize (W.alloc (.cells #[.int .i64 (n : Int), .int .u64 (a 0 : Int), .int .u64 (a 1 : Int), .int .u64 (a 2 : Int), .int .u64 (a 3 : Int), .int .u64 (a 4 : Int), .int .u64 (a 5 : Int), .int .u64 (a 6 : Int), .int .u64 (a 7 : Int)] 50)) = w0 at *
  have CN0 : Hid (Calls Tryd.prog 64 #[.agg #[.int .i64 (n : Int), .int .u64 (a 0 : Int), .int .u64 (a 1 : Int), .int .u64 (a 2 : Int), .int .u64 (a 3 : Int), .int .u64 (a 4 : Int), .int .u64 (a 5 : Int), .int .u64 (a 6 : Int), .int .u64 (a 7 : Int)], .int .u64 0] w0 fun e w' => e = .returned (nextV (nextI n a 0)) ∧ Below w0.heap.size w0 w') := CN.out 0 w0 (by decide)
  refine ⟨trivial, (fun h => (by cases h)), callsIn_wide.2 (CN0.out.mono ?_)⟩
  rintro e w1 ⟨rfl, hb1⟩
  have HB1 : Hid ((BlockR W.heap.size [.int .i64 (n : Int), .int .u64 (a 0 : Int), .int .u64 (a 1 : Int), .int .u64 (a 2 : Int), .int .u64 (a 3 : Int), .int .u64 (a 4 : Int), .int .u64 (a 5 : Int), .int .u64 (a 6 : Int), .int .u64 (a 7 : Int)]).inv w1 (fun k => k = W.heap.size)) := (BlockR _ _).chg HB0.out (chg_below (S := fun _ => False) hb1) (fun _ _ h => h)
  have HJ2 : Hid (J 0 w1) := HJ.out _ _ _ HJ1.out hb1
  obtain ⟨i0, is0, hv0, hs0⟩ := nextV_S HX.out 0 (Nat.zero_le _)
  rw [show toldG (xs.take 0) = 0 from rfl] at hv0
  rw [hv0]
  clear HB0 HJ1 hb1 hv0
  gi_wp2
  gi_loopw [4, 5, 6] (fun t i is wr => ∃ k : Nat, k ≤ xs.length ∧ t = .int .u64 (toldG (xs.take k) : Nat) ∧ nextS xs k i is ∧ Hid (J k wr) ∧ Hid ((BlockR W.heap.size [.int .i64 (n : Int), .int .u64 (a 0 : Int), .int .u64 (a 1 : Int), .int .u64 (a 2 : Int), .int .u64 (a 3 : Int), .int .u64 (a 4 : Int), .int .u64 (a 5 : Int), .int .u64 (a 6 : Int), .int .u64 (a 7 : Int)]).inv wr (fun k => k = W.heap.size))) (fun t _ _ _ => 256 - (intOf t).toNat)
  case atStart => exact ⟨0, Nat.zero_le _, rfl, hs0, HJ2, HB1⟩
  case round =>
    obtain ⟨k, hk, rfl, hs, HJk, HBk⟩ := hrel
    clear HJ2 HB1 hs0
    rcases hs with ⟨hlt, rfl, rfl⟩ | ⟨hke, rfl, rfl⟩
    · obtain ⟨fn, tmps, assign, body, hy, hR⟩ := HY.out k wr hlt HJk.out HBk.out.2.1
      have HR := HidMk hR
      clear hR
      have hltN : toldG (xs.take k) < 256 := HLT.out k
      have hx8 : xs[k] < 8 := by have := HX.out.lt xs[k] (List.getElem_mem hlt); omega
      have HNB : Hid ((toldG (xs.take k)).testBit xs[k] = false) := by
        show _ = _
        cases e : (toldG (xs.take k)).testBit xs[k] with
        | false => rfl
        | true => exact absurd ((toldG_bit _ _).1 e) (HX.out.new k hlt)
      have HT2 : Hid (plus (toldG (xs.take k)) xs[k] = toldG (xs.take (k + 1))) := by rw [take_snoc hlt, toldG_more]; rfl
      have CW : Hid (∀ wq, Calls Tryd.prog 46 #[.int .u64 (toldG (xs.take k) : Nat), .int .i64 (xs[k] : Nat)] wq fun e w' => e = .returned (.int .u64 (toldG (xs.take (k + 1)) : Nat)) ∧ w' = wq) := fun wq => by
        have := gWith_any (toldG (xs.take k)) xs[k] hltN hx8 wq
        rw [HT2.out] at this
        exact this
      gi_wp2
      refine ⟨(fun h => (by cases h)), HR.out.mono ?_⟩
      rintro e W3 ⟨rfl, hJ3, hc3⟩
      have HJ3 : Hid (J (k + 1) W3) := hJ3
      have HB3 : Hid ((BlockR W.heap.size [.int .i64 (n : Int), .int .u64 (a 0 : Int), .int .u64 (a 1 : Int), .int .u64 (a 2 : Int), .int .u64 (a 3 : Int), .int .u64 (a 4 : Int), .int .u64 (a 5 : Int), .int .u64 (a 6 : Int), .int .u64 (a 7 : Int)]).inv W3 (fun k => k = W.heap.size)) := (BlockR _ _).chg HBk.out hc3 (fun b hb hlt => hlt hb)
      have hcell := fun (j : Nat) (u : Value) (hu : ([.int .i64 (n : Int), .int .u64 (a 0 : Int), .int .u64 (a 1 : Int), .int .u64 (a 2 : Int), .int .u64 (a 3 : Int), .int .u64 (a 4 : Int), .int .u64 (a 5 : Int), .int .u64 (a 6 : Int), .int .u64 (a 7 : Int)] : List Value)[j]? = some u) => (HB3.out.1 j u hu).1
      have p0 := hcell 0 _ rfl
      have p1 := hcell 1 _ rfl
      have p2 := hcell 2 _ rfl
      have p3 := hcell 3 _ rfl
      have p4 := hcell 4 _ rfl
      have p5 := hcell 5 _ rfl
      have p6 := hcell 6 _ rfl
      have p7 := hcell 7 _ rfl
      have p8 := hcell 8 _ rfl
      clear hcell hJ3 hc3 HJk HBk HR hy
      gi_wp2
      refine ⟨trivial, (fun h => (by cases h)), callsIn_wide.2 ((CW.out _).mono ?_)⟩
      rintro e W4 ⟨rfl, hW4⟩
      rw [hW4]
      clear hW4 W4
      gi_wp2
      refine ⟨trivial, (fun h => (by cases h)), callsIn_wide.2 ((CN.out _ W3 (HLT.out (k + 1))).mono ?_)⟩
      rintro e w5 ⟨rfl, hb5⟩
      have HB5 : Hid ((BlockR W.heap.size [.int .i64 (n : Int), .int .u64 (a 0 : Int), .int .u64 (a 1 : Int), .int .u64 (a 2 : Int), .int .u64 (a 3 : Int), .int .u64 (a 4 : Int), .int .u64 (a 5 : Int), .int .u64 (a 6 : Int), .int .u64 (a 7 : Int)]).inv w5 (fun k => k = W.heap.size)) := (BlockR _ _).chg HB3.out (chg_below (S := fun _ => False) hb5) (fun _ _ h => h)
      have HJ5 : Hid (J (k + 1) w5) := HJ.out _ _ _ HJ3.out hb5
      obtain ⟨i1, is1, hv1, hs1⟩ := nextV_S HX.out (k + 1) hlt
      rw [hv1]
      have HS1 : Hid (nextS xs (k + 1) i1 is1) := hs1
      clear hs1 hv1 hb5 HB3 HJ3 p0 p1 p2 p3 p4 p5 p6 p7 p8
      have hgt : toldG (xs.take k) < toldG (xs.take (k + 1)) := by rw [← HT2.out]; exact plus_gt HNB.out
      have hl2 := HLT.out (k + 1)
      gi_wp2
      exact ⟨⟨k + 1, hlt, rfl, HS1.out, HJ5, HB5⟩, by simp [intOf]; omega⟩
    · have hfin : J xs.length wr := by rw [← hke]; exact HJk.out
      gi_wp2
      go_end0
      exact ⟨⟨_, rfl⟩, hfin⟩
end Go.Proofs.YtmjnllldjeeigaaDoor

/- The walk of directlyAhead, in package plan. -/
set_option linter.unusedVariables false
set_option maxRecDepth 100000
namespace Go.Proofs.YtmjnllldjeeigaaDoor
open Go.RowKit CheckMath
open Go.Proofs.YtmjnllldjeeigaaDoor.Nm

/-- Needs put into a group, one by one; then the steps of lesser kinds. -/
def needG (l : List Int) : Nat → Nat
  | 0 => 0
  | k + 1 => plus (needG l k) (needAt l k).toNat
def kindG (ss : List StepD) (i g0 : Nat) : Nat → Nat
  | 0 => g0
  | k + 1 => if (nth ss k).kind < (nth ss i).kind then plus (kindG ss i g0 k) k else kindG ss i g0 k
def dirG (ss : List StepD) (i : Nat) : Nat := kindG ss i (needG (nth ss i).needs (nth ss i).needs.length) ss.length
theorem needG_lt {l : List Int} (h : ∀ k, k < l.length → (needAt l k).toNat < 8) : ∀ k, k ≤ l.length → needG l k < 256
  | 0, _ => by show 0 < 256; decide
  | k + 1, hk => plus_lt (needG_lt h k (by omega)) (h k (by omega))
theorem kindG_lt {ss : List StepD} {i g0 : Nat} (h0 : g0 < 256) : ∀ k, k ≤ 8 → kindG ss i g0 k < 256
  | 0, _ => h0
  | k + 1, hk => by
    unfold kindG
    split
    · exact plus_lt (kindG_lt h0 k (by omega)) (by omega)
    · exact kindG_lt h0 k (by omega)
theorem needG_bit (l : List Int) : ∀ k j, (needG l k).testBit j = true ↔ ∃ m, m < k ∧ (needAt l m).toNat = j
  | 0, j => by simp [needG]
  | k + 1, j => by
    unfold needG
    rw [plus_bit, Bool.or_eq_true, needG_bit l k j, decide_eq_true_eq]
    constructor
    · rintro (⟨m, hm, e⟩ | e)
      · exact ⟨m, by omega, e⟩
      · exact ⟨k, by omega, e⟩
    · rintro ⟨m, hm, e⟩
      by_cases e2 : m = k
      · subst e2; exact Or.inr e
      · exact Or.inl ⟨m, by omega, e⟩
theorem kindG_bit (ss : List StepD) (i g0 : Nat) : ∀ k j, (kindG ss i g0 k).testBit j = true ↔ g0.testBit j = true ∨ j < k ∧ (nth ss j).kind < (nth ss i).kind
  | 0, j => by simp [kindG]
  | k + 1, j => by
    unfold kindG
    by_cases h : (nth ss k).kind < (nth ss i).kind
    · rw [if_pos h, plus_bit, Bool.or_eq_true, kindG_bit ss i g0 k j, decide_eq_true_eq]
      constructor
      · rintro ((e | ⟨h1, h2⟩) | rfl)
        · exact Or.inl e
        · exact Or.inr ⟨by omega, h2⟩
        · exact Or.inr ⟨by omega, h⟩
      · rintro (e | ⟨h1, h2⟩)
        · exact Or.inl (Or.inl e)
        · by_cases e : k = j
          · exact Or.inr e
          · exact Or.inl (Or.inr ⟨by omega, h2⟩)
    · rw [if_neg h, kindG_bit ss i g0 k j]
      constructor
      · rintro (e | ⟨h1, h2⟩)
        · exact Or.inl e
        · exact Or.inr ⟨by omega, h2⟩
      · rintro (e | ⟨h1, h2⟩)
        · exact Or.inl e
        · by_cases e : j = k
          · subst e; exact absurd h2 h
          · exact Or.inr ⟨by omega, h2⟩
theorem kindG_yes {ss : List StepD} {i g0 k : Nat} (h : (nth ss k).kind < (nth ss i).kind) : kindG ss i g0 (k + 1) = plus (kindG ss i g0 k) k := by rw [kindG, if_pos h]
theorem kindG_no {ss : List StepD} {i g0 k : Nat} (h : ¬ (nth ss k).kind < (nth ss i).kind) : kindG ss i g0 (k + 1) = kindG ss i g0 k := by rw [kindG, if_neg h]
/-- Directly ahead of step i is step j. -/
def Direct (ss : List StepD) (i j : Nat) : Prop := j < ss.length ∧ ((j : Int) ∈ (nth ss i).needs ∨ (nth ss j).kind < (nth ss i).kind)
theorem dirG_bit {ss : List StepD} (hN : Needy ss) {i : Nat} (hi : i < ss.length) (j : Nat) : (dirG ss i).testBit j = true ↔ Direct ss i j := by
  unfold dirG
  rw [kindG_bit, needG_bit]
  constructor
  · rintro (⟨m, hm, e⟩ | ⟨h1, h2⟩)
    · obtain ⟨x0, x1, _⟩ := hN i hi _ (needAt_mem hm)
      have : (needAt (nth ss i).needs m) = (j : Int) := by omega
      exact ⟨by omega, Or.inl (by rw [← this]; exact needAt_mem hm)⟩
    · exact ⟨h1, Or.inr h2⟩
  · rintro ⟨h1, h2 | h2⟩
    · obtain ⟨m, hm, e⟩ := mem_needAt h2
      exact Or.inl ⟨m, hm, by rw [e]; simp⟩
    · exact Or.inr ⟨h1, h2⟩

set_option maxHeartbeats 6000000 in
theorem directly_any (v : Value) (ss : List StepD) (h8 : ss.length ≤ 8) (hN : Needy ss) (i : Nat) (hi : i < ss.length) (w : World) (h : DRow w v ss) :
    Calls Tryd.prog 43 #[v, .int .i64 (i : Int)] w fun e w' => e = .returned (.int .u64 (dirG ss i : Int)) ∧ Below w.heap.size w w' := by
  obtain ⟨ao, cap, rfl, hcap, _, hlen, hrow⟩ := h
  obtain ⟨g, o, rfl, hg, hs⟩ := hrow i hi
  have HR : Hid (∀ j, j < ss.length → StepIn w g (o + j * 5) (nth ss j)) := fun j hj => by
    obtain ⟨g', o', e, _, k⟩ := hrow j hj
    cases e
    exact k
  obtain ⟨_, c1, _, kv, nv, _, c4, _, c6⟩ := hs
  obtain ⟨na, nc, rfl, hnc, _, hnl, hnr⟩ := c6
  have HX : Hid (∀ j, j < (nth ss i).needs.length → ∃ g o x, na = some ⟨g, o, none⟩ ∧ g < w.heap.size ∧ w.cell? ⟨g, o + j, none⟩ = some (.int .i64 ((x : Nat) : Int)) ∧ (needAt (nth ss i).needs j).toNat = x ∧ x < 8) := fun j hj => by
    obtain ⟨g2, o2, e1, e2, e3⟩ := hnr j hj
    obtain ⟨x0, x1, _⟩ := hN i hi _ (needAt_mem hj)
    refine ⟨g2, o2, (needAt (nth ss i).needs j).toNat, e1, e2, ?_, rfl, by omega⟩
    rw [Int.toNat_of_nonneg x0]; exact e3
  have HNL : Hid (∀ k, k ≤ (nth ss i).needs.length → needG (nth ss i).needs k < 256) := needG_lt (fun k hk => by obtain ⟨_, _, x, _, _, _, e, hx⟩ := HX.out k hk; omega)
  have HD : Hid (dirG ss i = kindG ss i (needG (nth ss i).needs (nth ss i).needs.length) ss.length) := rfl
  have hiI : (i : Int) < (ss.length : Int) := by omega
  clear hrow hnr hN
  go_enter Tryd.func43, Tryd.ntmps43
  go_wp2
  go_loopw [5, 7, 16] (fun gv _ k wr => ∃ n : Nat, n ≤ (nth ss i).needs.length ∧ k = .int .i64 (n : Int) ∧ gv = .int .u64 (needG (nth ss i).needs n : Int) ∧ Hid (Below w.heap.size w wr)) (fun _ _ k _ => (nth ss i).needs.length - (intOf k).toNat)
  case atStart => exact ⟨0, Nat.zero_le _, rfl, rfl, Below.refl _ _⟩
  case round =>
    obtain ⟨n, hn, rfl, rfl, HB⟩ := hrel
    by_cases hlt : n < (nth ss i).needs.length
    · obtain ⟨g2, o2, x, rfl, hg2, d0, hx, hx8⟩ := HX.out n hlt
      have d1 := (HB.out.cell (p := ⟨g2, o2 + n, none⟩) hg2).trans d0
      have HG : Hid (needG (nth ss i).needs (n + 1) = plus (needG (nth ss i).needs n) x) := by show _ = _; rw [← hx]; rfl
      have C : Hid (Calls Tryd.prog 46 #[.int .u64 (needG (nth ss i).needs n : Int), .int .i64 (x : Int)] wr fun e w' => e = .returned (.int .u64 (plus (needG (nth ss i).needs n) x : Int)) ∧ w' = wr) := gWith_any _ _ (HNL.out n hn) hx8 wr
      have hltI : (n : Int) < ((nth ss i).needs.length : Int) := by omega
      clear d0 hx HX HR c1 c4
      go_wp2_with fail
      refine C.out.mono ?_
      rintro e w1 ⟨rfl, hw1⟩
      rw [hw1]
      clear hw1 w1 C
      go_wp2
      exact ⟨⟨n + 1, by omega, by go_num, by rw [HG.out], HB⟩, by simp [intOf]; omega⟩
    · have hltI : ¬ (n : Int) < ((nth ss i).needs.length : Int) := by omega
      have hne : n = (nth ss i).needs.length := by omega
      have HD2 : Hid (dirG ss i = kindG ss i (needG (nth ss i).needs n) ss.length) := by show _ = _; rw [hne]; exact HD.out
      have hg0 := HNL.out n hn
      clear HD hne HX HNL c1 c4
      generalize needG (nth ss i).needs n = g0 at *
      go_wp2_with fail
      go_loopw [5, 8, 9, 26] (fun gv _ _ k wr => ∃ m : Nat, m ≤ ss.length ∧ k = .int .i64 (m : Int) ∧ gv = .int .u64 (kindG ss i g0 m : Int) ∧ Hid (Below w.heap.size w wr)) (fun _ _ _ k _ => ss.length - (intOf k).toNat)
      case atStart => exact ⟨0, Nat.zero_le _, rfl, rfl, HB⟩
      case round =>
        obtain ⟨m, hm, rfl, rfl, HB2⟩ := hrel
        by_cases hltm : m < ss.length
        · obtain ⟨e0, e1, e2, kv2, nv2, e3, e4, e5, e6⟩ := (HR.out m hltm).below hg HB2.out
          obtain ⟨_, f1, _⟩ := (HR.out i hi).below hg HB2.out
          obtain ⟨ka2, kc2, rfl⟩ := e5.slice
          obtain ⟨na2, nc2, rfl⟩ := e6.slice
          have hgr : g < wr.heap.size := Nat.lt_of_lt_of_le hg HB2.out.size
          have hltM : (m : Int) < (ss.length : Int) := by omega
          have HBX : Hid (∀ q, Below w.heap.size w ((wr.alloc (.cells #[.string (nth ss m).name, .int .i64 (nth ss m).kind, .int .i64 (nth ss m).part, .slice ka2 (nth ss m).keys.length kc2, .slice na2 (nth ss m).needs.length nc2] 42)).drewN q)) := fun q => below_drewN (HB2.out.alloc HB2.out.size _) q
          have C : Hid (∀ wq, Calls Tryd.prog 46 #[.int .u64 (kindG ss i g0 m : Int), .int .i64 (m : Int)] wq fun e w' => e = .returned (.int .u64 (plus (kindG ss i g0 m) m : Int)) ∧ w' = wq) := fun wq => gWith_any _ _ (kindG_lt hg0 m (by omega)) (by omega) wq
          clear e5 e6 HR
          by_cases hk : (nth ss m).kind < (nth ss i).kind
          · have HG : Hid (kindG ss i g0 (m + 1) = plus (kindG ss i g0 m) m) := kindG_yes hk
            have hk' : decide ((nth ss m).kind < (nth ss i).kind) = true := decide_eq_true hk
            go_wp2
            go_quiet (fail)
            go_wp2_with fail
            refine (C.out _).mono ?_
            rintro e w1 ⟨rfl, hw1⟩
            rw [hw1]
            clear hw1 w1 C
            go_wp2_with fail
            exact ⟨⟨m + 1, by omega, by go_num, by rw [HG.out], HBX.out _⟩, by simp [intOf]; omega⟩
          · have HG : Hid (kindG ss i g0 (m + 1) = kindG ss i g0 m) := kindG_no hk
            have hk' : decide ((nth ss m).kind < (nth ss i).kind) = false := decide_eq_false hk
            clear C
            go_wp2
            go_quiet (fail)
            go_wp2_with fail
            exact ⟨⟨m + 1, by omega, by go_num, by rw [HG.out], HBX.out _⟩, by simp [intOf]; omega⟩
        · have hltM : ¬ (m : Int) < (ss.length : Int) := by omega
          have HE : Hid (dirG ss i = kindG ss i g0 m) := by show _ = _; rw [HD2.out, show ss.length = m by omega]
          clear HR
          go_wp2
          go_ret
          rw [HE.out]
          exact ⟨rfl, HB2.out⟩
end Go.Proofs.YtmjnllldjeeigaaDoor

/- The mathematics of the order of steps: what is ahead of what is the way along 'directly'; no ring; a ripe step; a step that may be undone. -/
set_option linter.unusedVariables false
set_option maxRecDepth 100000
namespace Go.Proofs.YtmjnllldjeeigaaDoor
open CheckMath

/-- Ahead of step i is step j. -/
def AheadP (ss : List StepD) (i j : Nat) : Prop := Path (fun a b => a < ss.length ∧ Direct ss a b) i j
theorem aheadP_lt {ss : List StepD} {i j : Nat} (h : AheadP ss i j) : j < ss.length := Path.lt (n := ss.length) (fun a b h => h.2.1) h
theorem aheadP_from {ss : List StepD} {i j : Nat} (h : AheadP ss i j) : i < ss.length := by
  cases h with
  | one e => exact e.1
  | cons e _ => exact e.1
theorem aheadP_iff {ss : List StepD} {i : Nat} (hi : i < ss.length) (j : Nat) : AheadP ss i j ↔ Direct ss i j ∨ ∃ k, Direct ss i k ∧ AheadP ss k j := by
  constructor
  · intro h
    cases h with
    | one e => exact Or.inl e.2
    | cons e p => exact Or.inr ⟨_, e.2, p⟩
  · rintro (h | ⟨k, h, p⟩)
    · exact .one ⟨hi, h⟩
    · exact .cons ⟨hi, h⟩ p
theorem direct_kind {D : DefD} (hF : Fine D) {i j : Nat} (hi : i < D.steps.length) (h : Direct D.steps i j) : (nth D.steps j).kind ≤ (nth D.steps i).kind := by
  obtain ⟨hj, h | h⟩ := h
  · obtain ⟨_, _, ⟨k1, k2⟩, _⟩ := fault_none (hF.step i hi)
    obtain ⟨_, _, ⟨l1, l2⟩, _⟩ := fault_none (hF.step j hj)
    by_cases h3 : (nth D.steps i).kind = 3
    · omega
    · rcases Classical.em ((nth D.steps j).kind = 1) with e | e
      · omega
      · exact absurd ⟨h3, (j : Int), h, by simpa using e⟩ (hF.order i hi)
  · omega
theorem ahead_kind {D : DefD} (hF : Fine D) {i j : Nat} (h : AheadP D.steps i j) : (nth D.steps j).kind ≤ (nth D.steps i).kind ∧ ((nth D.steps j).kind = (nth D.steps i).kind → Path (CheckMath.Edge D.steps) i j) := by
  unfold AheadP at h
  induction h with
  | @one a b e =>
    have hk := direct_kind hF e.1 e.2
    refine ⟨hk, fun he => ?_⟩
    rcases e.2.2 with h | h
    · exact .one ⟨e.1, e.2.1, h⟩
    · omega
  | @cons a b c e p ih =>
    have hk := direct_kind hF e.1 e.2
    refine ⟨by omega, fun he => ?_⟩
    have h1 : (nth D.steps c).kind = (nth D.steps b).kind := by omega
    refine .cons ?_ (ih.2 h1)
    rcases e.2.2 with h | h
    · exact ⟨e.1, e.2.1, h⟩
    · omega
/-- P12.1: no step is ahead of itself. -/
theorem ahead_no_ring {D : DefD} (hF : Fine D) (i : Nat) (h : AheadP D.steps i i) : False :=
  hF.ring i (aheadP_from h) ((ahead_kind hF h).2 rfl)
/-- A step that is not done, all of whose steps ahead are. -/
theorem ripe_step {D : DefD} (hF : Fine D) (G : Nat → Prop) {j : Nat} (hj : j < D.steps.length) (hG : ¬ G j) : ∃ k, k < D.steps.length ∧ ¬ G k ∧ ∀ y, AheadP D.steps k y → G y := by
  obtain ⟨k, h1, h2, h3⟩ := minimal (E := AheadP D.steps) (n := D.steps.length) (fun a b h => aheadP_lt h) (fun i _ h => by
    have : ∀ a b, Path (AheadP D.steps) a b → AheadP D.steps a b := fun a b h => by
      induction h with
      | one e => exact e
      | cons e _ ih => exact Path.trans e ih
    exact ahead_no_ring hF i (this _ _ h)) G _ j hj hG (Nat.le_refl _)
  exact ⟨k, h1, h2, h3⟩
/-- A step that stands, behind which none stands. -/
theorem last_step {D : DefD} (hF : Fine D) (S : Nat → Prop) {j : Nat} (hj : j < D.steps.length) (hS : S j) : ∃ k, k < D.steps.length ∧ S k ∧ ∀ y, AheadP D.steps y k → ¬ S y := by
  obtain ⟨k, h1, h2, h3⟩ := minimal (E := fun a b => AheadP D.steps b a) (n := D.steps.length) (fun a b h => aheadP_from h) (fun i _ h => by
    have : ∀ a b, Path (fun a b => AheadP D.steps b a) a b → AheadP D.steps b a := fun a b h => by
      induction h with
      | one e => exact e
      | cons e _ ih => exact Path.trans ih e
    exact ahead_no_ring hF i (this _ _ h)) (fun x => ¬ S x) _ j hj (fun h => h hS) (Nat.le_refl _)
  exact ⟨k, h1, Classical.not_not.1 h2, h3⟩
/-- While the order is told: those told have their whole sets, the others what is directly ahead. -/
def Woven (ss : List StepD) (told : Nat) (A : Nat → Nat) : Prop := ∀ i, i < ss.length → A i < 256 ∧ ∀ j, (A i).testBit j = true ↔ (if told.testBit i = true then AheadP ss i j else Direct ss i j)
end Go.Proofs.YtmjnllldjeeigaaDoor

/- Of what is ahead of each step there is an order, and it tells all. -/
set_option linter.unusedVariables false
namespace Go.Proofs.YtmjnllldjeeigaaDoor
open Go.RowKit CheckMath

theorem firstF_is (P : Nat → Prop) : ∀ n k, firstF P k n ≠ -1 → P (firstF P k n).toNat
  | 0, k, h => absurd rfl h
  | n + 1, k, h => by
    unfold firstF at h ⊢
    by_cases hp : P k
    · rw [tt_yes hp]
      simp only [if_true]
      exact hp
    · rw [tt_no hp] at h ⊢
      simp only [Bool.false_eq_true, if_false] at h ⊢
      exact firstF_is P n (k + 1) h
theorem nextI_is {n : Nat} {a : Nat → Nat} {told : Nat} (h : nextI n a told ≠ -1) : ∃ x : Nat, x < n ∧ nextI n a told = (x : Int) ∧ Ripe a told x := by
  have hr := firstI_range (Ripe a told) n
  have hp := firstF_is (Ripe a told) n 0 h
  refine ⟨(nextI n a told).toNat, ?_, ?_, hp⟩
  · unfold nextI at *; omega
  · unfold nextI at *; omega
/-- The beginning of an order. -/
structure Begun (n : Nat) (a : Nat → Nat) (xs : List Nat) : Prop where
  lt : ∀ x, x ∈ xs → x < n
  next : ∀ k, (hk : k < xs.length) → nextI n a (toldG (xs.take k)) = (xs[k] : Nat)
  new : ∀ k, (hk : k < xs.length) → ¬ xs[k] ∈ xs.take k
theorem Begun.more {n : Nat} {a : Nat → Nat} {xs : List Nat} (h : Begun n a xs) {x : Nat} (hx : x < n) (hn : nextI n a (toldG xs) = (x : Int)) (hr : Ripe a (toldG xs) x) : Begun n a (xs ++ [x]) := by
  refine ⟨fun y hy => ?_, fun k hk => ?_, fun k hk => ?_⟩
  · rcases List.mem_append.1 hy with e | e
    · exact h.lt y e
    · rw [List.mem_singleton.1 e]; exact hx
  · rw [List.length_append] at hk
    simp at hk
    by_cases e : k < xs.length
    · rw [List.take_append_of_le_length (by omega), List.getElem_append_left e]
      exact h.next k e
    · have : k = xs.length := by omega
      subst this
      simp [hn]
  · rw [List.length_append] at hk
    simp at hk
    by_cases e : k < xs.length
    · rw [List.take_append_of_le_length (by omega), List.getElem_append_left e]
      exact h.new k e
    · have : k = xs.length := by omega
      subst this
      have hb := hr.1
      intro hm
      simp at hm
      rw [(toldG_bit xs x).2 hm] at hb
      cases hb
theorem order_from {n : Nat} {a : Nat → Nat} : ∀ (m : Nat) (xs : List Nat), Begun n a xs → n - cnt (fun i => i ∈ xs) n ≤ m → ∃ ys, OrderOf n a ys
  | m, xs, h, hm => by
    by_cases e : nextI n a (toldG xs) = -1
    · exact ⟨xs, h.lt, h.next, e, h.new⟩
    · obtain ⟨x, hx, hn, hr⟩ := nextI_is e
      have hnx : ¬ x ∈ xs := fun hmem => by
        have hb := hr.1
        rw [(toldG_bit xs x).2 hmem] at hb
        cases hb
      have hlt := cnt_lt (P := fun i => i ∈ xs) (Q := fun i => i ∈ xs ++ [x]) n (fun y _ hy => List.mem_append_left _ hy) x hx (by simp) hnx
      have hle := cnt_le (fun i => i ∈ xs ++ [x]) n
      match m, hm with
      | 0, hm => omega
      | m + 1, hm => exact order_from m (xs ++ [x]) (h.more hx hn hr) (by omega)
theorem order_exists (n : Nat) (a : Nat → Nat) : ∃ xs, OrderOf n a xs :=
  order_from n [] ⟨fun x hx => (by cases hx), fun k hk => absurd hk (Nat.not_lt_zero _), fun k hk => absurd hk (Nat.not_lt_zero _)⟩ (by omega)
/-- Each that is told is ripe. -/
theorem OrderOf.ripe {n : Nat} {a : Nat → Nat} {xs : List Nat} (h : OrderOf n a xs) (k : Nat) (hk : k < xs.length) : ∀ j, (a xs[k]).testBit j = true → j ∈ xs.take k := by
  have e := h.next k hk
  obtain ⟨x, _, hn, hr⟩ := nextI_is (n := n) (a := a) (told := toldG (xs.take k)) (by rw [e]; omega)
  have : x = xs[k] := by omega
  subst this
  exact fun j hj => (toldG_bit _ j).1 (hr.2 j hj)
/-- All are told. -/
theorem OrderOf.all {D : DefD} (hF : Fine D) {a : Nat → Nat} (hA : ∀ i, i < D.steps.length → ∀ j, (a i).testBit j = true → AheadP D.steps i j) {xs : List Nat} (h : OrderOf D.steps.length a xs) (i : Nat) (hi : i < D.steps.length) : i ∈ xs := by
  refine Classical.byContradiction fun hni => ?_
  obtain ⟨k, hk, hnk, hall⟩ := ripe_step hF (fun j => j ∈ xs) hi hni
  have hnone := (firstI_none (Ripe a (toldG xs)) D.steps.length).1 h.last k hk
  refine hnone ⟨?_, fun j hj => (toldG_bit xs j).2 (hall j (hA k hk j hj))⟩
  cases e : (toldG xs).testBit k with
  | false => rfl
  | true => exact absurd ((toldG_bit xs k).1 e) hnk
end Go.Proofs.YtmjnllldjeeigaaDoor

/- A region walked plainly goes through in a round, too. -/
set_option linter.unusedVariables false
set_option maxRecDepth 100000
namespace Go.Proofs.YtmjnllldjeeigaaDoor
open Go.RowKit

variable {P : Program} {ops : Array Oper} {Q : Exit → Act → World → Prop}
theorem upon_in {l n : Nat} {o : Oper} {a : Act} {next next' : Act → World → Prop} (hn : ∀ a w, next a w → next' a w) (r : Result Next) (h : o.upon P a next Q r) : o.uponIn (Fence.wide.inRound l) n P a next' Q r := by
  cases r with
  | ok x w =>
    cases x with
    | value v => exact hn _ _ h
    | skip => exact hn _ _ h
    | defer d => exact hn _ _ h
    | enter f args =>
      refine ⟨fun h => (by cases h), CallsIn.inRound l (callsIn_wide.2 (Calls.mono h ?_))⟩
      intro e w'
      cases e with
      | returned v => exact hn _ _
      | panicked c => exact id
      | outgrown => exact id
    | row row args =>
      refine ⟨fun h => (by cases h), fun c cs hr => ?_⟩
      obtain ⟨v, w', hv, hs⟩ := h c cs
      exact ⟨v, w', hn _ _ hv, stepsIn_wide.2 hs⟩
    | _ => exact (h : False).elim
  | halt x w =>
    cases x with
    | panic v => exact h
    | _ => exact h.elim
theorem op_in {l n i : Nat} {K K' : Act → World → Prop} {a : Act} {w : World} (hq : ¬ LetsOut Q) (hd : ∀ o : Oper, ops[i]? = some o → ∀ c, o.op ≠ .defer c) (hn : ∀ a w, K a w → K' a w) (h : wpOp P ops Q i K a w) : wpOpIn (Fence.wide.inRound l) n P ops Q i K' a w := by
  unfold wpOp at h
  unfold wpOpIn
  cases ho : ops[i]? with
  | none => rw [ho] at h; exact hn _ _ h
  | some o =>
    rw [ho] at h
    simp only at h ⊢
    by_cases hw : Region.wanted o (yielded ops a.tmps) = true
    · rw [if_pos hw] at h ⊢
      refine ⟨fun f _ => trivial, ?_⟩
      have e : o.semAt (Fence.wide.inRound l).round a.eval = execOp a.eval o := Oper.semAt_eq _ _ _ (hd o ho)
      rw [e]
      rcases h with h | ⟨_, h⟩
      · exact upon_in hn _ h
      · exact absurd h hq
    · rw [if_neg hw] at h ⊢
      exact ⟨fun f _ => trivial, hn _ _ h⟩
theorem any_in {l n : Nat} {md : Region.Mode} (hq : ¬ LetsOut Q) (hd : ∀ (i : Nat) (o : Oper), ops[i]? = some o → ∀ c, o.op ≠ .defer c) : ∀ (fuel : Nat) (listed : Array Bool) (a : Act) (w : World), wpAny P md ops Q fuel listed a w → wpAnyIn (Fence.wide.inRound l) n P md ops Q fuel listed a w
  | 0, listed, a, w, h => h
  | fuel + 1, listed, a, w, h => ⟨h.1, fun i hi => op_in hq (hd i) (fun a w hk => any_in hq hd fuel _ a w hk) (h.2 i hi)⟩
theorem region_in {l n id : Nat} {a : Act} {w : World} (hm : P.follows .mixedOrders = true) (hq : ¬ LetsOut Q) (hd : ∀ (i : Nat) (o : Oper), ops[i]? = some o → ∀ c, o.op ≠ .defer c) (h : wpAny P .any ops Q ops.size (Array.replicate ops.size false) a w.drew) : (Code.region id ops true).wpIn (Fence.wide.inRound l) n P Q a w :=
  wpIn_region_any hm (any_in hq hd _ _ _ _ h)
theorem op_value {i : Nat} {o : Oper} {v : Value} {K : Act → World → Prop} {a : Act} {w w' : World} (hi : ops[i]? = some o) (hw : Region.wanted o (yielded ops a.tmps) = true) (hr : (execOp a.eval o).run P w = .ok (.value v) w') (h : K (a.put o.dst v) w') : wpOp P ops Q i K a w := by
  unfold wpOp
  rw [hi]
  simp only
  rw [if_pos hw]
  left
  unfold Oper.wp
  rw [hr]
  exact h
theorem op_skip {i : Nat} {o : Oper} {K : Act → World → Prop} {a : Act} {w w' : World} (hi : ops[i]? = some o) (hw : Region.wanted o (yielded ops a.tmps) = true) (hr : (execOp a.eval o).run P w = .ok .skip w') (h : K (a.put o.dst undef) w') : wpOp P ops Q i K a w := by
  unfold wpOp
  rw [hi]
  simp only
  rw [if_pos hw]
  left
  unfold Oper.wp
  rw [hr]
  exact h
theorem op_call {i : Nat} {o : Oper} {f : FuncId} {args : Array Value} {K : Act → World → Prop} {a : Act} {w w' : World} (hi : ops[i]? = some o) (hw : Region.wanted o (yielded ops a.tmps) = true) (hr : (execOp a.eval o).run P w = .ok (.enter f args) w')
    {R : Ending → World → Prop} (hc : Calls P f args w' R) (h : ∀ e w'', R e w'' → ∃ v, e = .returned v ∧ K (a.put o.dst v) w'') : wpOp P ops Q i K a w := by
  unfold wpOp
  rw [hi]
  simp only
  rw [if_pos hw]
  left
  unfold Oper.wp
  rw [hr]
  refine Calls.mono hc fun e w'' hR => ?_
  obtain ⟨v, rfl, hk⟩ := h e w'' hR
  exact hk
theorem any_one {md : Region.Mode} {i fuel : Nat} {listed : Array Bool} {a : Act} {w : World} (hr : Region.ready md ops listed = [i]) (h : wpOp P ops Q i (wpAny P md ops Q fuel (listed.setIfInBounds i true)) a w) : wpAny P md ops Q (fuel + 1) listed a w :=
  wpAny_all hr (by simp) (fun j hj => by rw [List.mem_singleton.1 hj]; exact h)
theorem any_two {md : Region.Mode} {i j fuel : Nat} {listed : Array Bool} {a : Act} {w : World} (hr : Region.ready md ops listed = [i, j]) (h1 : wpOp P ops Q i (wpAny P md ops Q fuel (listed.setIfInBounds i true)) a w) (h2 : wpOp P ops Q j (wpAny P md ops Q fuel (listed.setIfInBounds j true)) a w) : wpAny P md ops Q (fuel + 1) listed a w :=
  wpAny_all hr (by simp) (fun k hk => by
    rcases List.mem_cons.1 hk with rfl | hk
    · exact h1
    · rw [List.mem_singleton.1 hk]; exact h2)
end Go.Proofs.YtmjnllldjeeigaaDoor

/- The walks of nameAhead, needsMayBe and keysMayBe, in package check. -/
set_option linter.unusedVariables false
set_option maxRecDepth 100000
namespace Go.Proofs.YtmjnllldjeeigaaDoor
open Go.RowKit CheckMath
open Go.Proofs.YtmjnllldjeeigaaDoor.Nm

set_option maxHeartbeats 2000000 in
theorem nameAhead_any (v : Value) (ss : List StepD) (i : Nat) (hi : i < ss.length) (w : World) (h : DRow w v ss) :
    Calls Tryd.prog 71 #[v, .int .i64 (i : Int)] w fun e w' => e = .returned (.bool (tt (Twice ss i))) ∧ Below w.heap.size w w' := by
  have HD : Hid (DRow w v ss) := h
  obtain ⟨ao, cap, rfl, hcap, hn0, hlen, hrow⟩ := h
  obtain ⟨g, o, rfl, hg, _⟩ := hrow i hi
  have HR : Hid (∀ j, j < ss.length → StepIn w g (o + j * 5) (nth ss j)) := fun j hj => by
    obtain ⟨g', o', e, _, k⟩ := hrow j hj
    cases e
    exact k
  clear hrow hn0
  go_enter Tryd.func71, Tryd.ntmps71
  go_wp2
  go_loopw [6, 11] (fun _ k wr => ∃ n : Nat, n ≤ i ∧ k = .int .i64 (n : Int) ∧ Hid (Below w.heap.size w wr) ∧ Hid (∀ j, j < n → ¬ (nth ss j).name = (nth ss i).name)) (fun _ k _ => i - (intOf k).toNat)
  case atStart => exact ⟨0, Nat.zero_le _, rfl, Below.refl _ _, fun j hj => absurd hj (Nat.not_lt_zero _)⟩
  case round =>
    obtain ⟨n, hn, rfl, HB, HN⟩ := hrel
    by_cases hlt : n < i
    · obtain ⟨c0, c1, c2, kv, nv, c3, c4, c5, c6⟩ := (HR.out n (by omega)).below hg HB.out
      obtain ⟨e0, _⟩ := (HR.out i hi).below hg HB.out
      obtain ⟨ka, kc, rfl⟩ := c5.slice
      obtain ⟨na, nc, rfl⟩ := c6.slice
      have hgr : g < wr.heap.size := Nat.lt_of_lt_of_le hg HB.out.size
      clear c5 c6 HR HD
      by_cases hq : (nth ss n).name = (nth ss i).name
      · have HE : Hid (tt (Twice ss i) = true) := tt_yes ⟨n, hlt, hq⟩
        have hq2 := txt_eq hq
        go_wp2
        go_quiet (fail)
        go_wp2
        go_ret
        rw [HE.out]
        exact ⟨rfl, below_drewN (HB.out.alloc HB.out.size _) _⟩
      · have hq2 := txt_ne hq
        have HN2 : Hid (∀ j, j < n + 1 → ¬ (nth ss j).name = (nth ss i).name) := fun j hj => by
          by_cases e : j = n
          · subst e; exact hq
          · exact HN.out j (by omega)
        clear hq HN
        go_wp2
        go_quiet (fail)
        go_wp2
        exact ⟨⟨n + 1, by omega, by go_num, below_drewN (HB.out.alloc HB.out.size _) _, HN2⟩, by simp [intOf]; omega⟩
    · obtain rfl : n = i := by omega
      have HE : Hid (tt (Twice ss n) = false) := tt_no (fun ⟨k, hk, e⟩ => HN.out k hk e)
      clear HN HR HD
      go_wp2
      go_ret
      rw [HE.out]
      exact ⟨rfl, HB.out⟩

set_option maxHeartbeats 2000000 in
theorem needsMayBe_any (v : Value) (l : List Int) (i n : Nat) (w : World) (h : IRow w v l) (hn : n ≤ 140737488355328) (hi : i ≤ 140737488355328) :
    Calls Tryd.prog 73 #[v, .int .i64 (i : Int), .int .i64 (n : Int)] w fun e w' => e = .returned (.bool (tt (NeedsOk l i n))) ∧ Below w.heap.size w w' := by
  obtain ⟨ao, cap, rfl, hcap, hn0, hlen, hrow⟩ := h
  have HR : Hid (∀ j, j < l.length → ∃ g o, ao = some ⟨g, o, none⟩ ∧ g < w.heap.size ∧ w.cell? ⟨g, o + j, none⟩ = some (.int .i64 (needAt l j))) := hrow
  clear hrow hn0
  go_enter Tryd.func73, Tryd.ntmps73
  go_wp2
  go_loopw [7, 8, 11] (fun _ _ k wr => ∃ m : Nat, m ≤ l.length ∧ k = .int .i64 (m : Int) ∧ Hid (Below w.heap.size w wr) ∧ Hid (∀ j, j < m → NeedOk l i n j)) (fun _ _ k _ => l.length - (intOf k).toNat)
  case atStart => exact ⟨0, Nat.zero_le _, rfl, Below.refl _ _, fun j hj => absurd hj (Nat.not_lt_zero _)⟩
  case round =>
    obtain ⟨m, hm, rfl, HB, HN⟩ := hrel
    by_cases hlt : m < l.length
    · obtain ⟨g, o, rfl, hg, c0⟩ := HR.out m hlt
      have d0 : wr.cell? ⟨g, o + m, none⟩ = some (.int .i64 (needAt l m)) := (HB.out.cell (p := ⟨g, o + m, none⟩) hg).trans c0
      have HC : Hid (0 < m → wr.cell? ⟨g, o + (m - 1), none⟩ = some (.int .i64 (needAt l (m - 1)))) := fun h0 => by
        obtain ⟨g', o', e, _, k⟩ := HR.out (m - 1) (by omega)
        cases e
        exact (HB.out.cell (p := ⟨g, o + (m - 1), none⟩) hg).trans k
      have HS : Hid (NeedOk l i n m → ∀ j, j < m + 1 → NeedOk l i n j) := fun h0 j hj => by
        by_cases e : j = m
        · subst e; exact h0
        · exact HN.out j (by omega)
      have HF : Hid (¬ NeedOk l i n m → tt (NeedsOk l i n) = false) := fun h0 => tt_no (fun h1 => h0 (h1 m hlt))
      clear c0 HN HR
      have HOK : Hid (NeedOk l i n m ↔ 0 ≤ needAt l m ∧ needAt l m < n ∧ needAt l m ≠ i ∧ (0 < m → needAt l (m - 1) < needAt l m)) := Iff.rfl
      generalize needAt l (m - 1) = y at *
      generalize needAt l m = x at *
      by_cases h1 : x < 0
      · have HE : Hid (tt (NeedsOk l i n) = false) := HF.out (fun h => by have := HOK.out.1 h; omega)
        clear HOK HF HS HC
        go_wp2
        go_ret
        rw [HE.out]
        exact ⟨rfl, HB.out⟩
      by_cases h2 : (n : Int) ≤ x
      · have HE : Hid (tt (NeedsOk l i n) = false) := HF.out (fun h => by have := HOK.out.1 h; omega)
        clear HOK HF HS HC
        go_wp2
        go_ret
        rw [HE.out]
        exact ⟨rfl, HB.out⟩
      by_cases h3 : x = (i : Int)
      · have HE : Hid (tt (NeedsOk l i n) = false) := HF.out (fun h => by have := HOK.out.1 h; omega)
        have h3' : (x == (i : Int)) = true := by simpa using h3
        clear HOK HF HS HC h3
        go_wp2
        go_ret
        rw [HE.out]
        exact ⟨rfl, HB.out⟩
      have h3' : (x == (i : Int)) = false := by simpa using h3
      by_cases h0 : m = 0
      · have HN2 := HS.out (HOK.out.2 ⟨by omega, by omega, h3, fun h => by omega⟩)
        have h0' : ¬ (0 : Int) < (m : Int) := by omega
        clear HOK HF HS HC h3 h0
        go_wp2
        exact ⟨⟨m + 1, by omega, by go_num, HB, HN2⟩, by simp [intOf]; omega⟩
      have h0' : (0 : Int) < (m : Int) := by omega
      have d1 := HC.out (by omega)
      by_cases h4 : x ≤ y
      · have HE : Hid (tt (NeedsOk l i n) = false) := HF.out (fun h => by have := (HOK.out.1 h).2.2.2 (by omega); omega)
        clear HOK HF HS HC h3 h0
        go_wp2
        go_ret
        rw [HE.out]
        exact ⟨rfl, HB.out⟩
      · have HN2 := HS.out (HOK.out.2 ⟨by omega, by omega, h3, fun h => by omega⟩)
        clear HOK HF HS HC h3 h0
        go_wp2
        exact ⟨⟨m + 1, by omega, by go_num, HB, HN2⟩, by simp [intOf]; omega⟩
    · obtain rfl : m = l.length := by omega
      have HE : Hid (tt (NeedsOk l i n) = true) := tt_yes (fun k hk => HN.out k hk)
      clear HN HR
      go_wp2
      go_ret
      rw [HE.out]
      exact ⟨rfl, HB.out⟩

theorem below_drew {B : Nat} {a w : World} (h : Below B a w) : Below B a w.drew := h.trans ⟨rfl, rfl, rfl, Nat.le_refl _, fun _ _ => rfl⟩
set_option maxHeartbeats 4000000 in
theorem keysMayBe_any (s : StepD) (kv nv : Value) (w : World) (h : KRow w kv s.keys) (hnv : ∃ a n c, nv = .slice a n c) (hT : Tabs w) :
    Calls Tryd.prog 72 #[.agg #[.string s.name, .int .i64 s.kind, .int .i64 s.part, kv, nv]] w fun e w' => e = .returned (.bool (tt (KeysOk s))) ∧ Below w.heap.size w w' := by
  obtain ⟨ao, cap, rfl, hcap, hn0, ⟨hlen, hsz⟩, hrow⟩ := h
  obtain ⟨na, nn, nc, rfl⟩ := hnv
  have HR : Hid (∀ j, j < s.keys.length → ∃ g o, ao = some ⟨g, o, none⟩ ∧ g < w.heap.size ∧ w.cell? ⟨g, o + j, none⟩ = some (.string (keyAt s.keys j))) := hrow
  have HZ : Hid (∀ x, x ∈ s.keys → x.size ≤ 140737488355328) := hsz
  have HT : Hid (Tabs w) := hT
  clear hrow hn0 hsz hT
  by_cases h2 : 2 < s.keys.length
  · have HE : Hid (tt (KeysOk s) = false) := tt_no (fun h => by have := h.1; omega)
    have h2' : (2 : Int) < (s.keys.length : Int) := by omega
    clear HR HZ
    go_enter Tryd.func72, Tryd.ntmps72
    go_wp2
    go_ret
    rw [HE.out]
    exact ⟨rfl, (Below.refl _ _).alloc (Nat.le_refl _) _⟩
  have h2' : ¬ (2 : Int) < (s.keys.length : Int) := by omega
  have HW : Hid (∀ wr, Below (w.alloc (.cells #[.string s.name, .int .i64 s.kind, .int .i64 s.part, .slice ao s.keys.length cap, .slice na nn nc] 42)).heap.size (w.alloc (.cells #[.string s.name, .int .i64 s.kind, .int .i64 s.part, .slice ao s.keys.length cap, .slice na nn nc] 42)) wr →
      Below w.heap.size w wr ∧ wr.cell? ⟨w.heap.size, 2, none⟩ = some (.int .i64 s.part) ∧ wr.cell? ⟨w.heap.size, 3, none⟩ = some (.slice ao s.keys.length cap)) := fun wr hb => by
    have h1 : Below w.heap.size w (w.alloc (.cells #[.string s.name, .int .i64 s.kind, .int .i64 s.part, .slice ao s.keys.length cap, .slice na nn nc] 42)) := (Below.refl _ _).alloc (Nat.le_refl _) _
    refine ⟨h1.trans (hb.mono h1.size), ?_, ?_⟩
    · rw [hb.cell (p := ⟨w.heap.size, 2, none⟩) (by simp), World.cell?_alloc_new]; rfl
    · rw [hb.cell (p := ⟨w.heap.size, 3, none⟩) (by simp), World.cell?_alloc_new]; rfl
  go_enter Tryd.func72, Tryd.ntmps72
  go_wp2
  generalize (w.alloc (.cells #[.string s.name, .int .i64 s.kind, .int .i64 s.part, .slice ao s.keys.length cap, .slice na nn nc] 42)) = w0 at *
  go_loopw [3, 4, 12] (fun _ _ k wr => ∃ m : Nat, m ≤ s.keys.length ∧ k = .int .i64 (m : Int) ∧ Hid (Below w0.heap.size w0 wr) ∧ Hid (∀ j, j < m → KeyOk s j)) (fun _ _ k _ => s.keys.length - (intOf k).toNat)
  case atStart => exact ⟨0, Nat.zero_le _, rfl, Below.refl _ _, fun j hj => absurd hj (Nat.not_lt_zero _)⟩
  case round =>
    obtain ⟨m, hm, rfl, HB0, HN⟩ := hrel
    obtain ⟨hbw, p2, p3⟩ := HW.out wr HB0.out
    have HB : Hid (Below w.heap.size w wr) := hbw
    have hwr : w.heap.size < wr.heap.size := block_lt_of_cell p2
    clear hbw
    by_cases hlt : m < s.keys.length
    · obtain ⟨g, o, rfl, hg, c0⟩ := HR.out m hlt
      have d0 : wr.cell? ⟨g, o + m, none⟩ = some (.string (keyAt s.keys m)) := (HB.out.cell (p := ⟨g, o + m, none⟩) hg).trans c0
      have HC : Hid (0 < m → w.cell? ⟨g, o + (m - 1), none⟩ = some (.string (keyAt s.keys (m - 1)))) := fun h0 => by
        obtain ⟨g', o', e, _, k⟩ := HR.out (m - 1) (by omega)
        cases e
        exact k
      have HS : Hid (KeyOk s m → ∀ j, j < m + 1 → KeyOk s j) := fun h0 j hj => by
        by_cases e : j = m
        · subst e; exact h0
        · exact HN.out j (by omega)
      have HF : Hid (¬ KeyOk s m → tt (KeysOk s) = false) := fun h0 => tt_no (fun h1 => h0 (h1.2 m hlt))
      have HOK : Hid (KeyOk s m ↔ isN (keyAt s.keys m) = true ∧ (ownN (keyAt s.keys m) : Int) = s.part ∧ (0 < m → cmpN (keyAt s.keys (m - 1)) (keyAt s.keys m) < 0)) := Iff.rfl
      have HX : Hid ((keyAt s.keys m).size ≤ 140737488355328) := HZ.out _ (keyAt_mem hlt)
      clear c0 HN HR HZ
      generalize keyAt s.keys (m - 1) = y at *
      generalize keyAt s.keys m = x at *
      have HBD : Hid (Below w0.heap.size w0 wr.drew) := below_drew HB0.out
      have C1 : Hid (∀ wq, Hid (Below w0.heap.size w0 wq) → Calls Tryd.prog 61 #[.string x] wq fun e w1 => e = .returned (.bool (isN x)) ∧ w1.cell? ⟨w.heap.size, 2, none⟩ = some (.int .i64 s.part) ∧ Hid (Below w0.heap.size w0 w1)) := fun wq hq => by
        refine (is_any x wq).mono ?_
        rintro e w1 ⟨rfl, hb1⟩
        have h3 : Below w0.heap.size w0 w1 := hq.out.trans (hb1.mono hq.out.size)
        exact ⟨rfl, (HW.out w1 h3).2.1, h3⟩
      have C2 : Hid (∀ wq, Hid (Below w0.heap.size w0 wq) → Calls Tryd.prog 80 #[.string x] wq fun e w1 => e = .returned (.int .i64 (ownN x : Int)) ∧ w1.cell? ⟨w.heap.size, 2, none⟩ = some (.int .i64 s.part) ∧ Hid (Below w0.heap.size w0 w1)) := fun wq hq => by
        refine (owner_any x wq).mono ?_
        rintro e w1 ⟨rfl, hb1⟩
        have h3 : Below w0.heap.size w0 w1 := hq.out.trans (hb1.mono hq.out.size)
        exact ⟨rfl, (HW.out w1 h3).2.1, h3⟩
      have C3 : Hid (∀ wq, Hid (Below w0.heap.size w0 wq) → Calls Tryd.prog 81 #[.string y, .string x] wq fun e w1 => e = .returned (.int .i64 (cmpN y x)) ∧ Hid (Below w0.heap.size w0 w1)) := fun wq hq => by
        refine (compare_any y x HX.out wq (Utf8Tabs_below HT.out (HW.out wq hq.out).1)).mono ?_
        rintro e w1 ⟨rfl, hb1⟩
        exact ⟨rfl, hq.out.trans (hb1.mono hq.out.size)⟩
      clear HX
      by_cases h1 : isN x = true
      · rw [h1] at C1
        by_cases h3 : (ownN x : Int) = s.part
        · have h3' : ((ownN x : Int) != s.part) = false := by simpa using h3
          by_cases h0 : m = 0
          · have HN2 := HS.out (HOK.out.2 ⟨h1, h3, fun h => by omega⟩)
            have h0' : ¬ (0 : Int) < (m : Int) := by omega
            clear HOK HF HS HC h3 h1 h0
            generalize (ownN x : Int) = ow at *
            go_wp2_with fail
            go_region_held3 (fun w' => w'.cell? ⟨w.heap.size, 2, none⟩ = some (.int .i64 s.part)) (go_keep) (first | (go_at_call 61; refine (C1.out _ HBD).mono ?_; rintro e w1 ⟨rfl, k1, HB1⟩) | (go_at_call 80; refine (C2.out _ HB1).mono ?_; rintro e w2 ⟨rfl, k2, HB2⟩))
            all_goals go_wp2
            all_goals exact ⟨⟨m + 1, by omega, by go_num, HB2, HN2⟩, by simp [intOf]; omega⟩
          · have h0' : (0 : Int) < (m : Int) := by omega
            have HC2 : Hid (∀ wq, Hid (Below w0.heap.size w0 wq) → wq.cell? ⟨g, o + (m - 1), none⟩ = some (.string y) ∧ wq.cell? ⟨w.heap.size, 3, none⟩ = some (.slice (some ⟨g, o, none⟩) s.keys.length cap)) := fun wq hq =>
              ⟨((HW.out wq hq.out).1.cell (p := ⟨g, o + (m - 1), none⟩) hg).trans (HC.out (by omega)), (HW.out wq hq.out).2.2⟩
            by_cases h4 : cmpN y x < 0
            · have HN2 := HS.out (HOK.out.2 ⟨h1, h3, fun h => h4⟩)
              have h4' : ¬ 0 ≤ cmpN y x := by omega
              clear HOK HF HS HC h3 h1 h0
              generalize (ownN x : Int) = ow at *
              generalize cmpN y x = cy at *
              go_wp2_with fail
              go_region_held3 (fun w' => w'.cell? ⟨w.heap.size, 2, none⟩ = some (.int .i64 s.part)) (go_keep) (first | (go_at_call 61; refine (C1.out _ HBD).mono ?_; rintro e w1 ⟨rfl, k1, HB1⟩) | (go_at_call 80; refine (C2.out _ HB1).mono ?_; rintro e w2 ⟨rfl, k2, HB2⟩))
              obtain ⟨q1, q2⟩ := HC2.out _ HB2
              go_wp2_with (go_at_call 81; refine (C3.out _ HB2).mono ?_; rintro e w3 ⟨rfl, HB3⟩)
              all_goals exact ⟨⟨m + 1, by omega, by go_num, HB3, HN2⟩, by simp [intOf]; omega⟩
            · have HE : Hid (tt (KeysOk s) = false) := HF.out (fun h => h4 ((HOK.out.1 h).2.2 (by omega)))
              have h4' : 0 ≤ cmpN y x := by omega
              clear HOK HF HS HC h3 h1 h0
              generalize (ownN x : Int) = ow at *
              generalize cmpN y x = cy at *
              go_wp2_with fail
              go_region_held3 (fun w' => w'.cell? ⟨w.heap.size, 2, none⟩ = some (.int .i64 s.part)) (go_keep) (first | (go_at_call 61; refine (C1.out _ HBD).mono ?_; rintro e w1 ⟨rfl, k1, HB1⟩) | (go_at_call 80; refine (C2.out _ HB1).mono ?_; rintro e w2 ⟨rfl, k2, HB2⟩))
              obtain ⟨q1, q2⟩ := HC2.out _ HB2
              go_wp2_with (go_at_call 81; refine (C3.out _ HB2).mono ?_; rintro e w3 ⟨rfl, HB3⟩)
              go_ret
              rw [HE.out]
              exact ⟨rfl, (HW.out _ HB3.out).1⟩
        · have h3' : ((ownN x : Int) != s.part) = true := by simpa using h3
          have HE : Hid (tt (KeysOk s) = false) := HF.out (fun h => by have := HOK.out.1 h; exact h3 this.2.1)
          clear HOK HF HS HC h3 h1
          generalize (ownN x : Int) = ow at *
          go_wp2_with fail
          go_region_held3 (fun w' => w'.cell? ⟨w.heap.size, 2, none⟩ = some (.int .i64 s.part)) (go_keep) (first | (go_at_call 61; refine (C1.out _ HBD).mono ?_; rintro e w1 ⟨rfl, k1, HB1⟩) | (go_at_call 80; refine (C2.out _ HB1).mono ?_; rintro e w2 ⟨rfl, k2, HB2⟩))
          all_goals go_wp2
          all_goals go_ret
          all_goals rw [HE.out]
          all_goals exact ⟨rfl, (HW.out _ HB2.out).1⟩
      · have h1' : isN x = false := by simpa using h1
        rw [h1'] at C1
        have HE : Hid (tt (KeysOk s) = false) := HF.out (fun h => by have := HOK.out.1 h; exact h1 this.1)
        clear HOK HF HS HC h1 h1'
        go_wp2_with fail
        first | (go_region_with (go_at_call 61; refine (C1.out _ HBD).mono ?_; rintro e w1 ⟨rfl, k1, HB1⟩)) | fail
        all_goals go_wp2
        all_goals go_ret
        all_goals rw [HE.out]
        all_goals exact ⟨rfl, (HW.out _ HB1.out).1⟩
    · obtain rfl : m = s.keys.length := by omega
      have HE : Hid (tt (KeysOk s) = true) := tt_yes ⟨by omega, fun k hk => HN.out k hk⟩
      clear HN HR HZ
      go_wp2
      go_ret
      rw [HE.out]
      exact ⟨rfl, HB.out⟩
end Go.Proofs.YtmjnllldjeeigaaDoor
