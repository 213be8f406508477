/- A definition of one's own in memory: its block, its rows. -/
import Derived.Test.YtaeakednekbekaaDoorCBase
import Derived.Deep.AppendLies
import Derived.Deep.RegionLaw
import Derived.Deep.MidRow
import Derived.WideShapes
set_option linter.unusedVariables false
set_option maxRecDepth 100000
namespace Go.Proofs.YtaeakednekbekaaDoor
open Go.RowKit CheckMath

theorem infoI : (Tryd.prog.info? 3).map (fun i => (i.zero, i.size, i.bytes)) = some (some (.int .i64 0), 1, 8) := by kernel_rfl
theorem infoS : (Tryd.prog.info? 9).map (fun i => (i.zero, i.size, i.bytes)) = some (some (.string ⟨#[]⟩), 1, 16) := by kernel_rfl
theorem infoP : (Tryd.prog.info? 44).map (fun i => (i.zero, i.size, i.bytes)) = some (some (.agg #[.string ⟨#[]⟩, .int .i64 0, .int .i64 0, .slice none 0 0, .slice none 0 0]), 5, 80) := by kernel_rfl
theorem info_parts {P : Program} {t : TypeId} {z : Option Value} {s b : Nat} (h : (P.info? t).map (fun i => (i.zero, i.size, i.bytes)) = some (z, s, b)) : ∃ i, P.info? t = some i ∧ i.zero = z ∧ i.size = s ∧ i.bytes = b := by
  cases hi : P.info? t with
  | none => rw [hi] at h; cases h
  | some i =>
    rw [hi] at h
    simp only [Option.map_some, Option.some.injEq, Prod.mk.injEq] at h
    exact ⟨i, rfl, h.1, h.2.1, h.2.2⟩
/-- A row of one's own, of whatever elements. -/
def OwnR (t : TypeId) (size : Nat) (v : Value) (n : Nat) (xs : List Value) : Res where
  inv w F := w.ownsRow 0 t size v n xs ∧ F = fun k => v.ownBlock = some k
  lt := by rintro w F ⟨h, rfl⟩ k hk; exact (h.lt k hk).2
  chg := by rintro w w' F S ⟨h, rfl⟩ hc hS; exact ⟨own_chg h hc (fun g hg => hS g hg), rfl⟩
theorem Has.own {B : Nat} {w wr : World} {t : TypeId} {size n : Nat} {v : Value} {xs : List Value} {rs : List Res} (h : Has B w rs wr) (hm : OwnR t size v n xs ∈ rs) : wr.ownsRow 0 t size v n xs := by
  obtain ⟨F, ⟨ho, _⟩, _⟩ := h.get hm
  exact ho
theorem Has.cell {B : Nat} {w wr : World} {q : Nat} {vs : List Value} {rs : List Res} (h : Has B w rs wr) (hm : BlockR q vs ∈ rs) (j : Nat) (u : Value) (hu : vs[j]? = some u) : wr.cell? ⟨q, j, none⟩ = some u ∧ wr.frozen? ⟨q, j, none⟩ = false := by
  obtain ⟨F, ⟨h1, _⟩, _⟩ := h.get hm
  exact h1 j u hu
/-- A cell of a block written anew. -/
theorem Has.put {B : Nat} {w wr : World} {q : Nat} {vs : List Value} {rs : List Res} (h : Has B w (BlockR q vs :: rs) wr) (j : Nat) (hj : j < vs.length) (u : Value) : Has B w (BlockR q (vs.set j u) :: rs) (wr.setCell ⟨q, j, none⟩ u) := by
  refine h.turn (new := [BlockR q (vs.set j u)]) ?_
  rintro F ⟨h1, h2, rfl⟩
  refine ⟨_, Hold.one ⟨fun i x hx => ?_, by simpa using h2, rfl⟩, chg_set wr ⟨q, j, none⟩ u, fun k hk => Or.inl hk⟩
  have hil : i < vs.length := by have := (List.getElem?_eq_some_iff.1 hx).1; simpa using this
  refine ⟨?_, by rw [World.frozen?_setCell]; exact (h1 i _ (List.getElem?_eq_getElem hil)).2⟩
  by_cases e : i = j
  · subst e
    rw [World.cell?_setCell_same _ _ _ (h1 i _ (List.getElem?_eq_getElem hil)).1]
    rw [List.getElem?_set_self hil] at hx
    exact hx
  · rw [World.cell?_setCell_other _ _ _ _ (fun h => e (by injection h with _ h2; exact h2.symm))]
    rw [List.getElem?_set_ne (fun h => e h.symm)] at hx
    exact (h1 i x hx).1
/-- Cells behind a row of one's own: what an append leaves. -/
theorem Has.grow {B : Nat} {w wr w2 : World} {t : TypeId} {size n m : Nat} {v v' : Value} {xs ys : List Value} {rs : List Res} (h : Has B w (OwnR t size v n xs :: rs) wr)
    (ho : w2.ownsRow 0 t size v' m ys) (hw : ∀ g, v'.ownBlock = some g → v.ownBlock = some g ∨ wr.heap.size ≤ g) (hc : Chg (fun k => v.ownBlock = some k) wr w2) : Has B w (OwnR t size v' m ys :: rs) w2 := by
  refine h.turn (new := [OwnR t size v' m ys]) ?_
  rintro F ⟨_, rfl⟩
  exact ⟨_, Hold.one ⟨ho, rfl⟩, hc, hw⟩
/-- A new block. -/
theorem Has.box {B : Nat} {w wr : World} {rs : List Res} (h : Has B w rs wr) (vs : List Value) (t : TypeId) : Has B w (BlockR wr.heap.size vs :: rs) (wr.alloc (.cells vs.toArray t)) :=
  h.add (new := [BlockR wr.heap.size vs]) ((Below.refl _ _).alloc (Nat.le_refl _) _) (Hold.one (block_new wr vs t)) (fun k hk => by rw [hk]; exact Nat.le_refl _)
/-- A new row. -/
theorem Has.row {B : Nat} {w wr w2 : World} {t : TypeId} {size n : Nat} {v : Value} {xs : List Value} {rs : List Res} (h : Has B w rs wr) (ho : w2.ownsRow wr.heap.size t size v n xs) (hb : Below wr.heap.size wr w2) : Has B w (OwnR t size v n xs :: rs) w2 :=
  h.add (new := [OwnR t size v n xs]) hb (Hold.one ⟨own_base ho (Nat.zero_le _), rfl⟩) (fun k hk => by
    obtain ⟨ao, cap, rfl, _, _, hr⟩ := own_form ho
    cases ao with
    | none => simp [Value.ownBlock] at hk
    | some p =>
      obtain ⟨g, rfl, hg, _⟩ := hr p rfl
      have : g = k := by simpa [Value.ownBlock] using hk
      omega)
/-- append of a row of one-cell elements, whatever it is, to nil. -/
theorem run_append_nil {P : Program} (w : World) (t ty e : TypeId) (i : TypeInfo) (z : Value) (bytes : Nat) (ht : P.underlying t = some (.slice e)) (hi : P.info? e = some i) (hz : i.zero = some z) (hsize : i.size = 1) (hby : i.bytes = bytes) (hzs : z.cells.size = 1)
    (ao : Option Addr) (m c : Nat) (news : List Value) (hl : news.length = m) (hn0 : ao = none → m = 0 ∧ c = 0) (hnews : ∀ ad, ao = some ad → ∀ j u, news[j]? = some u → w.cell? (ad.add j) = some u) (h1 : ∀ u ∈ news, u.oneCell' = true)
    (h63 : m ≤ maxLen) (hbytes : m * bytes ≤ 140737488355328) : ∃ v' w', (Builtin.append_ #[t, t] ty #[.slice none 0 0, .slice ao m c]).run P w = .ok v' w' ∧ w'.ownsRow w.heap.size e 1 v' m news ∧ Below w.heap.size w w' := by
  cases ao with
  | none =>
    obtain ⟨rfl, rfl⟩ := hn0 rfl
    obtain rfl : news = [] := List.eq_nil_of_length_eq_zero hl
    exact ⟨_, w, run_append_owned_none (P := P) w 0 t ty e i 1 ht hi (.slice none 0 0) 0 [] (hsize ▸ World.ownsRow_nil _ _ _ _), World.ownsRow_nil _ _ _ _, Below.refl _ _⟩
  | some ad =>
    obtain ⟨v', w', hr, h2, h3, _, _⟩ := run_append_own_at (P := P) w w.heap.size t ty e i z 1 bytes ht hi hz hsize hby hzs (by decide) (.slice none 0 0) 0 [] (World.ownsRow_nil _ _ _ _) ad m c news (by omega) (hnews ad rfl) h1 (by omega) (by rw [Nat.zero_add]; exact hbytes) (Nat.le_refl _)
    refine ⟨v', w', hr, own_cast (by omega) (by simp) h2, ⟨h3.os, h3.tape, h3.output, h3.size, fun k hk => h3.block k hk (by simp [Value.ownBlock])⟩⟩
theorem step_append_nil {P : Program} (w : World) {ops : Array Oper} {o : Oper} {a : Act} {K : Act → World → Prop} {Q : Exit → Act → World → Prop} {E : Prop} (hgd : o.guard = none) (s x : Operand) (t : TypeId)
    (ho : o.op = .call { callee := .builtin .append, args := #[s, x], argTypes := #[t, t] }) (e : TypeId) (i : TypeInfo) (z : Value) (bytes : Nat) (ht : P.underlying t = some (.slice e)) (hi : P.info? e = some i) (hz : i.zero = some z) (hsize : i.size = 1) (hby : i.bytes = bytes) (hzs : z.cells.size = 1)
    (hs : a.eval s = .slice none 0 0) (ao : Option Addr) (m c : Nat) (hx : a.eval x = .slice ao m c) (news : List Value) (hl : news.length = m) (hn0 : ao = none → m = 0 ∧ c = 0) (hnews : ∀ ad, ao = some ad → ∀ j u, news[j]? = some u → w.cell? (ad.add j) = some u) (h1 : ∀ u ∈ news, u.oneCell' = true)
    (h63 : m ≤ maxLen) (hbytes : m * bytes ≤ 140737488355328) (h : ∀ v' w', w'.ownsRow w.heap.size e 1 v' m news → Below w.heap.size w w' → K (a.put o.dst v') w') :
    if Region.wanted o (yielded ops a.tmps) = true then Oper.wp P o a w K Q else E := by
  have hw : Region.wanted o (yielded ops a.tmps) = true := by simp [Region.wanted, hgd]
  rw [if_pos hw]
  obtain ⟨v', w', hr, h2, h3⟩ := run_append_nil (P := P) w t o.type e i z bytes ht hi hz hsize hby hzs ao m c news hl hn0 hnews h1 h63 hbytes
  unfold Oper.wp execOp
  simp only [ho, resolve, invoke, builtin, Sem.run_bind, Sem.run_pure, Result.andThen_ok, List.map_toArray, List.map_cons, List.map_nil, hs, hx, hr]
  exact h v' w' h2 h3

/-- A step with the slices that lie in its cells. -/
structure Cm where
  st : StepD
  kv : Value
  nv : Value
def ccell (x : Cm) : List Value := [.string x.st.name, .int .i64 x.st.kind, .int .i64 x.st.part, x.kv, x.nv]
def ccells (xs : List Cm) : List Value := xs.flatMap ccell
theorem ccells_append (xs ys : List Cm) : ccells (xs ++ ys) = ccells xs ++ ccells ys := by simp [ccells]
theorem ccells_len (xs : List Cm) : (ccells xs).length = xs.length * 5 := by
  unfold ccells
  induction xs with
  | nil => rfl
  | cons x xs ih => rw [List.flatMap_cons, List.length_append, ih, List.length_cons, show (ccell x).length = 5 from rfl]; omega
abbrev KR (v : Value) (l : List ByteArray) : Res := OwnR 9 1 v l.length (l.map fun s => .string s)
abbrev NR (v : Value) (l : List Int) : Res := OwnR 3 1 v l.length (l.map fun n => .int .i64 n)
def cRes (x : Cm) : List Res := [KR x.kv x.st.keys, NR x.nv x.st.needs]
/-- The steps' row, and each step's own rows. -/
def rowsRes (v : Value) (xs : List Cm) : List Res := OwnR 44 5 v xs.length (ccells xs) :: xs.flatMap cRes
theorem ccells_at : ∀ (xs : List Cm) (j : Nat) (h : j < xs.length), (ccells xs)[j * 5]? = some (.string xs[j].st.name) ∧ (ccells xs)[j * 5 + 1]? = some (.int .i64 xs[j].st.kind) ∧ (ccells xs)[j * 5 + 2]? = some (.int .i64 xs[j].st.part) ∧ (ccells xs)[j * 5 + 3]? = some xs[j].kv ∧ (ccells xs)[j * 5 + 4]? = some xs[j].nv
  | x :: xs, 0, _ => ⟨rfl, rfl, rfl, rfl, rfl⟩
  | x :: xs, j + 1, h => by
    have := ccells_at xs j (by simpa using h)
    have e : ccells (x :: xs) = ccell x ++ ccells xs := rfl
    have hl : (ccell x).length = 5 := rfl
    refine ⟨?_, ?_, ?_, ?_, ?_⟩
    · rw [e, List.getElem?_append_right (by rw [hl]; omega), hl, show (j + 1) * 5 - 5 = j * 5 by omega]; exact this.1
    · rw [e, List.getElem?_append_right (by rw [hl]; omega), hl, show (j + 1) * 5 + 1 - 5 = j * 5 + 1 by omega]; exact this.2.1
    · rw [e, List.getElem?_append_right (by rw [hl]; omega), hl, show (j + 1) * 5 + 2 - 5 = j * 5 + 2 by omega]; exact this.2.2.1
    · rw [e, List.getElem?_append_right (by rw [hl]; omega), hl, show (j + 1) * 5 + 3 - 5 = j * 5 + 3 by omega]; exact this.2.2.2.1
    · rw [e, List.getElem?_append_right (by rw [hl]; omega), hl, show (j + 1) * 5 + 4 - 5 = j * 5 + 4 by omega]; exact this.2.2.2.2
/-- What is known of the sizes. -/
def StOk (s : StepD) : Prop := s.keys.length * 16 ≤ 140737488355328 ∧ (∀ x, x ∈ s.keys → x.size ≤ 140737488355328) ∧ s.needs.length * 8 ≤ 140737488355328
theorem krow_own {w : World} {B : Nat} {v : Value} {l : List ByteArray} (h : w.ownsRow B 9 1 v l.length (l.map fun s => .string s)) (hl : l.length ≤ 140737488355328) (hx : ∀ x, x ∈ l → x.size ≤ 140737488355328) : KRow w v l := by
  obtain ⟨ao, cap, rfl, h1, h2, h3⟩ := own_form h
  refine ⟨ao, cap, rfl, h1, fun e => (h2 e).2, ⟨hl, hx⟩, fun j hj => ?_⟩
  cases ao with
  | none => have := (h2 rfl).1; omega
  | some p =>
    obtain ⟨g, rfl, _, k2, k3, _, _⟩ := h3 p rfl
    exact ⟨g, 0, rfl, k2, by rw [Nat.zero_add, k3 _ (by omega)]; simp [keyAt, List.getD, hj]⟩
theorem irow_own {w : World} {B : Nat} {v : Value} {l : List Int} (h : w.ownsRow B 3 1 v l.length (l.map fun n => .int .i64 n)) (hl : l.length ≤ 140737488355328) : IRow w v l := by
  obtain ⟨ao, cap, rfl, h1, h2, h3⟩ := own_form h
  refine ⟨ao, cap, rfl, h1, fun e => (h2 e).2, hl, fun j hj => ?_⟩
  cases ao with
  | none => have := (h2 rfl).1; omega
  | some p =>
    obtain ⟨g, rfl, _, k2, k3, _, _⟩ := h3 p rfl
    exact ⟨g, 0, rfl, k2, by rw [Nat.zero_add, k3 _ (by omega)]; simp [needAt, List.getD, hj]⟩
theorem drow_own {B : Nat} {w wr : World} {rs : List Res} {v : Value} {xs : List Cm} (h : Has B w rs wr) (hm : ∀ r, r ∈ rowsRes v xs → r ∈ rs) (hl : xs.length ≤ 140737488355328) (hok : ∀ x, x ∈ xs → StOk x.st) : DRow wr v (xs.map (·.st)) := by
  have ho := h.own (hm _ List.mem_cons_self)
  obtain ⟨ao, cap, rfl, h1, h2, h3⟩ := own_form ho
  refine ⟨ao, cap, by rw [List.length_map], by rw [List.length_map]; exact h1, fun e => (h2 e).2, by rw [List.length_map]; exact hl, fun j hj => ?_⟩
  rw [List.length_map] at hj
  cases ao with
  | none => have := (h2 rfl).1; omega
  | some p =>
    obtain ⟨g, rfl, _, k2, k3, _, _⟩ := h3 p rfl
    have hn : nth (xs.map (·.st)) j = xs[j].st := by simp [nth, List.getD, hj]
    obtain ⟨t0, t1, t2, t3, t4⟩ := ccells_at xs j hj
    have hx := List.getElem_mem hj
    obtain ⟨o1, o2, o3⟩ := hok _ hx
    have hmem : ∀ r, r ∈ cRes xs[j] → r ∈ rs := fun r hr => hm r (List.mem_cons_of_mem _ (List.mem_flatMap.2 ⟨_, hx, hr⟩))
    have hk := h.own (hmem (KR xs[j].kv xs[j].st.keys) (by simp [cRes]))
    have hn2 := h.own (hmem (NR xs[j].nv xs[j].st.needs) (by simp [cRes]))
    refine ⟨g, 0, rfl, k2, ?_⟩
    rw [hn, Nat.zero_add]
    exact ⟨by rw [k3 _ (by omega)]; exact t0, by rw [k3 _ (by omega)]; exact t1, by rw [k3 _ (by omega)]; exact t2, _, _, by rw [k3 _ (by omega)]; exact t3, by rw [k3 _ (by omega)]; exact t4, krow_own hk (by omega) o2, irow_own hn2 (by omega)⟩

/-- A result of two cells. -/
theorem results_cell2 {P : Program} {fn : Func} {p : Tmp} {ty : TypeId} (h : fn.results = #[.cell p ty]) (tmps : Array Value) (w : World) (g : Nat) (c0 c1 : Value) (d : TypeDesc)
    (hp : tmps.getD p undef = .pointer (some ⟨g, 0, none⟩)) (h0 : w.cell? ⟨g, 0, none⟩ = some c0) (h1 : w.cell? ⟨g, 1, none⟩ = some c1)
    (hu : P.underlying ty = some d) (hd : d.isRow = true) (hi : (P.info? ty).map (·.size) = some 2) : (results fn tmps).run P w = .ok (.agg #[c0, c1]) w := by
  have hp' : tmps[p]?.getD undef = .pointer (some ⟨g, 0, none⟩) := by simpa using hp
  have hr : w.rangeAt g 0 [c0, c1] := by
    intro j v hj
    rw [Nat.zero_add]
    match j, hj with
    | 0, hj => cases hj; exact h0
    | 1, hj => cases hj; exact h1
  simp [results, h, hp', asAddr, run_loadVar_mid w g 0 ty [c0, c1] d hr hu hd hi]
theorem cells_new (w : World) (vs : List Value) (t : TypeId) : ∀ (j : Nat) (x : Value), vs[j]? = some x → (w.alloc (.cells vs.toArray t)).cell? ((⟨w.heap.size, 0, none⟩ : Addr).add j) = some x := by
  intro j x h
  rw [Go.WideShapes.add_plain, Nat.zero_add, World.cell?_alloc_new]
  simpa using h
theorem one_five (a : ByteArray) (b c : Int) (x y : Option Addr) (n m p q : Nat) : ∀ u ∈ [Value.string a, .int .i64 b, .int .i64 c, .slice x n p, .slice y m q], u.oneCell' = true := by
  intro u hu
  simp only [List.mem_cons, List.not_mem_nil, or_false] at hu
  rcases hu with rfl | rfl | rfl | rfl | rfl <;> rfl
/-- A step more. -/
theorem rows_more {B : Nat} {w wr : World} {sb ob rb db : Nat} {vs vo vr vd : List Value} {v : Value} {xs : List Cm} {x : Cm} {n : Nat} {ys : List Value} (h : Has B w (BlockR ob vo :: OwnR 44 5 v n ys :: BlockR sb vs :: NR x.nv x.st.needs :: KR x.kv x.st.keys :: BlockR rb vr :: BlockR db vd :: xs.flatMap cRes) wr) (hn : n = (xs ++ [x]).length) (hy : ys = ccells (xs ++ [x])) :
    Has B w (BlockR ob vo :: BlockR rb vr :: BlockR db vd :: rowsRes v (xs ++ [x])) wr := by
  subst hn hy
  have h1 := (h.perm (List.perm_middle (l₁ := [BlockR ob vo, OwnR 44 5 v _ _]) (a := BlockR sb vs))).drop
  refine h1.perm (List.Perm.cons _ ?_)
  unfold rowsRes
  rw [List.flatMap_append, List.flatMap_cons, List.flatMap_nil, List.append_nil]
  refine (List.Perm.append_right (xs.flatMap cRes) (List.perm_append_comm (l₁ := [OwnR 44 5 v _ _, NR x.nv x.st.needs, KR x.kv x.st.keys]) (l₂ := [BlockR rb vr, BlockR db vd]))).trans ?_
  refine List.Perm.cons _ (List.Perm.cons _ (List.Perm.cons _ ?_))
  exact (List.perm_append_comm (l₁ := [NR x.nv x.st.needs, KR x.kv x.st.keys]) (l₂ := xs.flatMap cRes)).trans (List.Perm.append_left _ (List.Perm.swap _ _ _))
end Go.Proofs.YtaeakednekbekaaDoor
