/- What a world keeps, owned rows of any size, and things that are held beside one another. -/
import Derived.Test.YtbgankldnjeohaaProg
import Derived.WalkKit
import Derived.WalkSpells
import Derived.WalkLawsBesides
import Derived.Deep.Light
import Derived.OwnWalk
import Derived.Deep.DeepMust
import Derived.WalkSmall
import Derived.Laws.OwnMore
import Derived.Laws.CopyOwn
import Derived.Deep.QuietTactic
import Derived.BigQuiet
import Derived.Laws.AppendOwnNone
import Derived.Deep.RegionLaw
import Derived.Lib.SliceRun
import Derived.Deep.Upon
import Derived.OneCell
set_option linter.unusedVariables false
set_option maxRecDepth 100000
set_option maxRecDepth 100000
namespace Go.Proofs.Ytbgankldnjeohaa.Pl
open Go.RowKit

theorem one_new (w : World) (u : Value) (t : TypeId) : ∀ (j : Nat) (x : Value), [u][j]? = some x → (w.alloc (.cells #[u] t)).cell? ((⟨w.heap.size, 0, none⟩ : Addr).add j) = some x := cell_one_new w u t
theorem two_new (w : World) (u v : Value) (t : TypeId) : ∀ (j : Nat) (x : Value), [u, v][j]? = some x → (w.alloc (.cells #[u, v] t)).cell? ((⟨w.heap.size, 0, none⟩ : Addr).add j) = some x := by
  intro j x h
  match j, h with
  | 0, h => rw [← h]; exact World.cell?_alloc_new w #[u, v] t 0
  | 1, h => rw [← h]; exact World.cell?_alloc_new w #[u, v] t 1
  | j + 2, h => simp at h
theorem one_int (n : Int) : ∀ u ∈ [Value.int .i64 n], u.oneCell' = true := by intro u hu; simp at hu; subst hu; rfl
theorem two_int (n m : Int) : ∀ u ∈ [Value.int .i64 n, Value.int .i64 m], u.oneCell' = true := by intro u hu; simp at hu; rcases hu with rfl | rfl <;> rfl
theorem own_cast {w : World} {B e size n n' : Nat} {v : Value} {xs xs' : List Value} (h1 : n = n') (h2 : xs = xs') (h : w.ownsRow B e size v n xs) : w.ownsRow B e size v n' xs' := by
  subst h1; subst h2; exact h
theorem own_base {w : World} {B B' e s n : Nat} {v : Value} {xs : List Value} (h : w.ownsRow B e s v n xs) (hB : B' ≤ B) : w.ownsRow B' e s v n xs := by
  refine ⟨h.1, ?_⟩
  rcases h.2 with h0 | ⟨g, cap, cur, hv, hb, rest⟩
  · exact .inl h0
  · exact .inr ⟨g, cap, cur, hv, Nat.le_trans hB hb, rest⟩
theorem own_below {w w' : World} {B e s n : Nat} {v : Value} {xs : List Value} (h : w.ownsRow B e s v n xs) (hb : Below w.heap.size w w') : w'.ownsRow B e s v n xs := by
  refine h.kept (row := none) ⟨hb.os, hb.tape, hb.output, hb.size, fun k hk _ => hb.block k hk⟩ ?_
  cases h : v.ownBlock with
  | none => exact .inl rfl
  | some k => exact .inr (by simp)
/-- An owned row's shape and its cells. -/
theorem own_form {w : World} {B e s n : Nat} {v : Value} {xs : List Value} (h : w.ownsRow B e s v n xs) : ∃ ao cap, v = .slice ao n cap ∧ n ≤ cap ∧ (ao = none → n = 0 ∧ cap = 0) ∧
    ∀ g, ao = some g → ∃ b, g = ⟨b, 0, none⟩ ∧ B ≤ b ∧ b < w.heap.size ∧ (∀ j, j < n * s → w.cell? ⟨b, j, none⟩ = xs[j]?) ∧ (∀ j, w.frozen? ⟨b, j, none⟩ = false) ∧ cap ≤ maxLen := by
  rcases h.2 with ⟨rfl, h0⟩ | ⟨g, cap, cur, rfl, hb, hg, hnc, hcm, hcs, htake⟩
  · obtain rfl : n = 0 := h0
    exact ⟨none, 0, rfl, Nat.le_refl _, fun _ => ⟨rfl, rfl⟩, fun g hg => by cases hg⟩
  · refine ⟨some ⟨g, 0, none⟩, cap, rfl, hnc, fun h => (by cases h), fun g' h => ?_⟩
    obtain rfl := Option.some.inj h
    refine ⟨g, rfl, hb, (Array.getElem?_eq_some_iff.1 hg).1, fun j hj => ?_, fun j => ?_, hcm⟩
    · rw [cell_of_row w g j cur e (0, 0) hg, ← htake, List.getElem?_take, if_pos hj, Array.getElem?_toList]
    · unfold World.frozen?
      simp [hg]

/-- What a world keeps that changed within S alone, and by new blocks. -/
structure Chg (S : Nat → Prop) (w w' : World) : Prop where
  os : w'.os = w.os
  tape : w'.tape = w.tape
  output : w'.output = w.output
  size : w.heap.size ≤ w'.heap.size
  block : ∀ k, k < w.heap.size → ¬ S k → w'.heap[k]? = w.heap[k]?
theorem Chg.refl (S : Nat → Prop) (w : World) : Chg S w w := ⟨rfl, rfl, rfl, Nat.le_refl _, fun _ _ _ => rfl⟩
theorem Chg.mono {S T : Nat → Prop} {w w' : World} (h : Chg S w w') (hT : ∀ k, k < w.heap.size → S k → T k) : Chg T w w' :=
  ⟨h.os, h.tape, h.output, h.size, fun k hk hn => h.block k hk (fun hs => hn (hT k hk hs))⟩
theorem Chg.trans {S T : Nat → Prop} {w w' w'' : World} (h : Chg S w w') (k : Chg T w' w'') (hT : ∀ j, j < w.heap.size → T j → S j) : Chg S w w'' :=
  ⟨k.os.trans h.os, k.tape.trans h.tape, k.output.trans h.output, Nat.le_trans h.size k.size, fun j hj hn => (k.block j (Nat.lt_of_lt_of_le hj h.size) (fun ht => hn (hT j hj ht))).trans (h.block j hj hn)⟩
theorem chg_below {S : Nat → Prop} {w w' : World} (h : Below w.heap.size w w') : Chg S w w' := ⟨h.os, h.tape, h.output, h.size, fun k hk _ => h.block k hk⟩
theorem below_chg {S : Nat → Prop} {B : Nat} {w w' : World} (h : Chg S w w') (hB : B ≤ w.heap.size) (hS : ∀ k, k < B → ¬ S k) : Below B w w' := ⟨h.os, h.tape, h.output, h.size, fun k hk => h.block k (by omega) (hS k hk)⟩
theorem chg_set (w : World) (p : Addr) (u : Value) : Chg (fun k => k = p.block) w (w.setCell p u) :=
  ⟨rfl, rfl, rfl, by simp, fun k hk hn => Below.heap_setCell w p u k hn⟩
theorem chg_grown {w w' : World} {row : Option Nat} (h : w.grownBy w' row) : Chg (fun k => row = some k) w w' := ⟨h.os, h.tape, h.output, h.size, fun k hk hn => h.block k hk (fun e => hn e.symm)⟩
theorem own_chg {S : Nat → Prop} {w w' : World} {B e s n : Nat} {v : Value} {xs : List Value} (h : w.ownsRow B e s v n xs) (hc : Chg S w w') (hS : ∀ g, v.ownBlock = some g → ¬ S g) : w'.ownsRow B e s v n xs := by
  refine ⟨h.1, ?_⟩
  rcases h.2 with hn | ⟨g, cap, cur, hv, hbb, hgg, rest⟩
  · exact Or.inl hn
  · refine Or.inr ⟨g, cap, cur, hv, hbb, ?_, rest⟩
    rw [hc.block g (Array.getElem?_eq_some_iff.1 hgg).1 (hS g (by rw [hv]; rfl))]
    exact hgg
/-- A cell of an owned row, written anew. -/
theorem own_set {w : World} {B e s n cap g : Nat} {xs : List Value} (h : w.ownsRow B e s (.slice (some ⟨g, 0, none⟩) n cap) n xs) (j : Nat) (u : Value) :
    (w.setCell ⟨g, j, none⟩ u).ownsRow B e s (.slice (some ⟨g, 0, none⟩) n cap) n (xs.set j u) := (h.stored j u).1
theorem own_sets {B e s n cap g : Nat} : ∀ (vs : List Value) (o : Nat) (w : World) (xs : List Value), w.ownsRow B e s (.slice (some ⟨g, 0, none⟩) n cap) n xs → o + vs.length ≤ xs.length →
    (w.setCells g o vs).ownsRow B e s (.slice (some ⟨g, 0, none⟩) n cap) n (splice xs o vs)
  | [], o, w, xs, h, _ => own_cast rfl (by simp [splice]) h
  | v :: r, o, w, xs, h, hl => by
    have h1 := own_sets r (o + 1) (w.setCell ⟨g, o, none⟩ v) (xs.set o v) (own_set h o v) (by simp at hl ⊢; omega)
    refine own_cast rfl ?_ h1
    unfold splice
    apply List.ext_getElem?
    intro i
    simp only [List.length_cons] at hl
    by_cases h1 : i < o
    · rw [List.getElem?_append_left (by simp; omega), List.getElem?_append_left (by simp; omega)]
      simp [h1, show i < o + 1 by omega, show ¬ o = i by omega]
    · rw [List.getElem?_append_right (l₁ := xs.take o) (by simp; omega)]
      by_cases h2 : i = o
      · subst h2
        rw [List.getElem?_append_left (by simp; omega)]
        have : min i xs.length = i := by omega
        simp [this, show i < xs.length by omega]
      · rw [List.getElem?_append_right (by simp; omega)]
        have e1 : min (o + 1) xs.length = o + 1 := by omega
        have e2 : min o xs.length = o := by omega
        obtain ⟨d, rfl⟩ : ∃ d, i = o + 1 + d := ⟨i - (o + 1), by omega⟩
        simp only [List.length_take, List.length_set, e1, e2, show o + 1 + d - o = d + 1 by omega, show o + 1 + d - (o + 1) = d by omega, List.cons_append, List.getElem?_cons_succ]
        congr 2
        rw [List.length_cons, show o + (r.length + 1) = o + 1 + r.length by omega]
        apply List.ext_getElem?
        intro q
        simp only [List.getElem?_drop]
        rw [List.getElem?_set_ne (by omega)]
theorem own_cut {w : World} {B e s n m cap g : Nat} {xs : List Value} (h : w.ownsRow B e s (.slice (some ⟨g, 0, none⟩) n cap) n xs) (hm : m ≤ n) : w.ownsRow B e s (.slice (some ⟨g, 0, none⟩) m cap) m (xs.take (m * s)) := by
  have hms : m * s ≤ n * s := Nat.mul_le_mul_right s hm
  refine ⟨by rw [List.length_take, h.1]; omega, ?_⟩
  rcases h.2 with ⟨hv, _⟩ | ⟨g', cap', cur, hv, hb, hg, hnc, hcm, hcs, htake⟩
  · cases hv
  · cases hv
    refine Or.inr ⟨g, cap, cur, rfl, hb, hg, by omega, hcm, hcs, ?_⟩
    rw [← htake, List.take_take, Nat.min_eq_left hms]

/-- An append to an owned row: it stays where it was, or moves to a new block. -/
theorem wpList_append_more {P : Program} (w : World) {ops : Array Oper} {rest : List Oper} {o : Oper} {a : Act} {Q : Exit → Act → World → Prop} (hgd : o.guard = none) (s x : Operand) (t : TypeId)
    (ho : o.op = .call { callee := .builtin .append, args := #[s, x], argTypes := #[t, t] })
    (base : Nat) (e : TypeId) (i : TypeInfo) (z : Value) (size bytes : Nat) (ht : P.underlying t = some (.slice e)) (hi : P.info? e = some i) (hz : i.zero = some z)
    (hsize : i.size = size) (hby : i.bytes = bytes) (hzs : z.cells.size = size) (hsz : 0 < size)
    (v : Value) (n : Nat) (xs : List Value) (hs : a.eval s = v) (hown : w.ownsRow base e size v n xs)
    (ad : Addr) (m c : Nat) (news : List Value) (hx : a.eval x = .slice (some ad) m c) (hl : news.length = m * size) (hnews : ∀ j u, news[j]? = some u → w.cell? (ad.add j) = some u) (h1 : ∀ u ∈ news, u.oneCell' = true)
    (hm : 0 < m) (h63 : n + m ≤ maxLen) (hbytes : (n + m) * bytes ≤ 140737488355328)
    (h : ∀ g' cap' w', w'.ownsRow 0 e size (.slice (some ⟨g', 0, none⟩) (n + m) cap') (n + m) (xs ++ news) → (v.ownBlock = some g' ∨ w.heap.size ≤ g') → Chg (fun k => v.ownBlock = some k) w w' →
      wpList P ops Q rest (a.put o.dst (.slice (some ⟨g', 0, none⟩) (n + m) cap')) w') : wpList P ops Q (o :: rest) a w := by
  have grow : ∀ v' w', w'.ownsRow w.heap.size e size v' (n + m) (xs ++ news) → w.grownBy w' none → wpList P ops Q rest (a.put o.dst v') w' := by
    intro v' w' ho' hg
    obtain ⟨ao, cap', rfl, _, h0, hr⟩ := own_form ho'
    cases ao with
    | none => have := (h0 rfl).1; omega
    | some p =>
      obtain ⟨g', rfl, hb, _⟩ := hr p rfl
      exact h g' cap' w' (own_base ho' (Nat.zero_le _)) (Or.inr hb) ⟨hg.os, hg.tape, hg.output, hg.size, fun k hk _ => hg.block k hk (by simp)⟩
  rcases hown.2 with ⟨hv, h0⟩ | ⟨g, cap, cur, hv, hb, hg, hnc, hcm, hcs, htake⟩
  · obtain rfl : n = 0 := by omega
    obtain rfl : xs = [] := List.eq_nil_of_length_eq_zero (by simpa using hown.1)
    rw [hv] at hs
    exact wpList_append_grows w hgd s x t ho e i z size bytes ht hi hz hsize hby hzs hsz none 0 0 [] hs (fun _ => ⟨rfl, rfl⟩) (by simp) (fun b hb => by cases hb) ad m c news hx hl hnews h1 (by omega) h63 hbytes grow
  · subst hv
    by_cases hr : n + m ≤ cap
    · exact wpList_append_fits w hgd s x t ho base e i size ht hi hsize g n cap xs hs hown ad m c news hx hl hnews h1 hr fun w' k1 k2 =>
        h g cap w' (own_base k1 (Nat.zero_le _)) (Or.inl rfl) ⟨k2.os, k2.tape, k2.output, k2.size, fun k hk hn => k2.block k hk (fun e => hn e.symm)⟩
    · exact wpList_append_grows w hgd s x t ho e i z size bytes ht hi hz hsize hby hzs hsz (some ⟨g, 0, none⟩) n cap xs hs (fun e => by cases e) hown.1
        (fun b hb j u hu => by
          cases hb
          exact hown.cells (g := g) rfl j u hu) ad m c news hx hl hnews h1 (by omega) h63 hbytes grow

/-- An append of any number of elements to an owned row: it stays where it was, or moves to a new block. -/
theorem wpList_append_most {P : Program} (w : World) {ops : Array Oper} {rest : List Oper} {o : Oper} {a : Act} {Q : Exit → Act → World → Prop} (hgd : o.guard = none) (s x : Operand) (t : TypeId)
    (ho : o.op = .call { callee := .builtin .append, args := #[s, x], argTypes := #[t, t] })
    (base : Nat) (e : TypeId) (i : TypeInfo) (z : Value) (size bytes : Nat) (ht : P.underlying t = some (.slice e)) (hi : P.info? e = some i) (hz : i.zero = some z)
    (hsize : i.size = size) (hby : i.bytes = bytes) (hzs : z.cells.size = size) (hsz : 0 < size)
    (v : Value) (n : Nat) (xs : List Value) (hs : a.eval s = v) (hown : w.ownsRow base e size v n xs) (base2 : Nat)
    (u : Value) (m : Nat) (news : List Value) (hx : a.eval x = u) (hu : w.ownsRow base2 e size u m news) (h1 : ∀ u ∈ news, u.oneCell' = true)
    (h63 : n + m ≤ maxLen) (hbytes : (n + m) * bytes ≤ 140737488355328)
    (h : ∀ ao' cap' w', w'.ownsRow 0 e size (.slice ao' (n + m) cap') (n + m) (xs ++ news) → (∀ g, (Value.slice ao' (n + m) cap').ownBlock = some g → v.ownBlock = some g ∨ w.heap.size ≤ g) → Chg (fun k => v.ownBlock = some k) w w' →
      wpList P ops Q rest (a.put o.dst (.slice ao' (n + m) cap')) w') : wpList P ops Q (o :: rest) a w := by
  obtain ⟨uo, uc, rfl, _, u0, ur⟩ := own_form hu
  cases uo with
  | none =>
    obtain ⟨rfl, rfl⟩ := u0 rfl
    obtain rfl : news = [] := List.eq_nil_of_length_eq_zero (by simpa using hu.1)
    obtain ⟨ao, cap, rfl, _⟩ := own_form hown
    refine wpList_plain hgd fun K hK => ?_
    have hr := run_append_owned_none (P := P) w base t o.type e i size ht hi (.slice ao n cap) n xs hown
    unfold Oper.wp execOp
    simp only [ho, resolve, invoke, builtin, Sem.run_bind, Sem.run_pure, Result.andThen_ok, List.map_toArray, List.map_cons, List.map_nil, hs, hx, hr]
    exact hK _ _ (h ao cap w (own_cast rfl (by simp) (own_base hown (Nat.zero_le _))) (fun g hg => Or.inl hg) (Chg.refl _ _))
  | some ad =>
    obtain ⟨ug, rfl, _, _, _, _, _⟩ := ur ad rfl
    by_cases hm : 0 < m
    · exact wpList_append_more w hgd s x t ho base e i z size bytes ht hi hz hsize hby hzs hsz v n xs hs hown ⟨ug, 0, none⟩ m uc news hx hu.1 (hu.cells (g := ug) rfl) h1 hm h63 hbytes
        (fun g' cap' w' k1 k2 k3 => h (some ⟨g', 0, none⟩) cap' w' k1 (fun g hg => by
          have : g' = g := by simpa [Value.ownBlock] using hg
          rw [← this]; exact k2) k3)
    · obtain rfl : m = 0 := by omega
      obtain rfl : news = [] := List.eq_nil_of_length_eq_zero (by simpa using hu.1)
      rcases hown.2 with ⟨hv, h0⟩ | ⟨g, cap, cur, hv, hb, hg, hnc, hcm, hcs, htake⟩
      · subst hv
        obtain rfl : n = 0 := h0
        obtain rfl : xs = [] := List.eq_nil_of_length_eq_zero (by simpa using hown.1)
        refine wpList_append_own w hgd s x t ho 0 e i z size bytes ht hi hz hsize hby hzs hsz (.slice none 0 0) 0 [] hs (World.ownsRow_nil _ _ _ _) ⟨ug, 0, none⟩ 0 uc [] hx (by simp) (fun j u hj => by simp at hj) h1 h63 hbytes (Nat.zero_le _) ?_
        intro v' w' k1 k2 k3
        obtain rfl : v' = .slice none 0 0 := k3.2 ⟨rfl, rfl⟩
        exact h none 0 w' k1 (fun g hg => by cases hg) (chg_grown k2)
      · subst hv
        exact wpList_append_fits w hgd s x t ho base e i size ht hi hsize g n cap xs hs hown ⟨ug, 0, none⟩ 0 uc [] hx (by simp) (fun j u hj => by simp at hj) h1 (by omega) fun w' k1 k2 =>
          h (some ⟨g, 0, none⟩) cap w' (own_base k1 (Nat.zero_le _)) (fun g' hg' => Or.inl hg') ⟨k2.os, k2.tape, k2.output, k2.size, fun k hk hn => k2.block k hk (fun e => hn e.symm)⟩

/-- An append of cells that lie anywhere, to a row of the call's own. -/
theorem wpList_append_any {P : Program} (w : World) {ops : Array Oper} {rest : List Oper} {o : Oper} {a : Act} {Q : Exit → Act → World → Prop} (hgd : o.guard = none) (s x : Operand) (t : TypeId)
    (ho : o.op = .call { callee := .builtin .append, args := #[s, x], argTypes := #[t, t] })
    (base : Nat) (e : TypeId) (i : TypeInfo) (z : Value) (size bytes : Nat) (ht : P.underlying t = some (.slice e)) (hi : P.info? e = some i) (hz : i.zero = some z)
    (hsize : i.size = size) (hby : i.bytes = bytes) (hzs : z.cells.size = size) (hsz : 0 < size)
    (W0 : World) (hbw : Below base W0 w) (hbs : base ≤ w.heap.size)
    (v : Value) (n : Nat) (xs : List Value) (hs : a.eval s = v) (hown : w.ownsRow base e size v n xs)
    (xo : Option Addr) (m c : Nat) (news : List Value) (hx : a.eval x = .slice xo m c) (hl : news.length = m * size) (hxo : (xo = none ∧ m = 0 ∧ c = 0) ∨ ∃ ad, xo = some ad ∧ ∀ j u, news[j]? = some u → w.cell? (ad.add j) = some u) (h1 : ∀ u ∈ news, u.oneCell' = true)
    (h63 : n + m ≤ maxLen) (hbytes : (n + m) * bytes ≤ 140737488355328)
    (h : ∀ ao' cap' w', w'.ownsRow base e size (.slice ao' (n + m) cap') (n + m) (xs ++ news) → Below base W0 w' → base ≤ w'.heap.size → wpList P ops Q rest (a.put o.dst (.slice ao' (n + m) cap')) w') : wpList P ops Q (o :: rest) a w := by
  rcases hxo with ⟨rfl, rfl, rfl⟩ | ⟨ad, rfl, hc⟩
  · obtain rfl : news = [] := List.eq_nil_of_length_eq_zero (by simpa using hl)
    obtain ⟨ao, cap, rfl, _⟩ := own_form hown
    exact wpList_append_own_none hgd s x t ho base e i size ht hi (.slice ao n cap) n xs hs hown hx (h ao cap w (own_cast rfl (by simp) hown) hbw hbs)
  · refine wpList_append_own w hgd s x t ho base e i z size bytes ht hi hz hsize hby hzs hsz v n xs hs hown ad m c news hx hl hc h1 h63 hbytes hbs ?_
    intro v' w' k1 k2 k3
    obtain ⟨ao, cap, rfl, _⟩ := own_form k1
    exact h ao cap w' k1 (hbw.grown k2 hbs (fun k hk => (hown.lt k hk).1)) (Nat.le_trans hbs k2.size)


/-- A thing that lies in memory: what it is in a world, and which blocks are its own. -/
structure Res where
  inv : World → (Nat → Prop) → Prop
  lt : ∀ {w : World} {F : Nat → Prop}, inv w F → ∀ k, F k → k < w.heap.size
  chg : ∀ {w w' : World} {F S : Nat → Prop}, inv w F → Chg S w w' → (∀ k, F k → ¬ S k) → inv w' F
/-- Things held beside one another: none has a block of another one. -/
def Hold (w : World) : List Res → (Nat → Prop) → Prop
  | [], U => ∀ k, ¬ U k
  | r :: rs, U => ∃ F G, r.inv w F ∧ Hold w rs G ∧ (∀ k, F k → ¬ G k) ∧ (∀ k, U k ↔ F k ∨ G k)
theorem Hold.lt {w : World} : ∀ {rs : List Res} {U : Nat → Prop}, Hold w rs U → ∀ k, U k → k < w.heap.size
  | [], U, h, k, hk => absurd hk (h k)
  | r :: rs, U, h, k, hk => by
    obtain ⟨F, G, h1, h2, h3, h4⟩ := h
    rcases (h4 k).1 hk with e | e
    · exact r.lt h1 k e
    · exact Hold.lt h2 k e
theorem Hold.chg {w w' : World} {S : Nat → Prop} (hc : Chg S w w') : ∀ {rs : List Res} {U : Nat → Prop}, Hold w rs U → (∀ k, U k → ¬ S k) → Hold w' rs U
  | [], U, h, hS => h
  | r :: rs, U, h, hS => by
    obtain ⟨F, G, h1, h2, h3, h4⟩ := h
    exact ⟨F, G, r.chg h1 hc (fun k hk => hS k ((h4 k).2 (Or.inl hk))), Hold.chg hc h2 (fun k hk => hS k ((h4 k).2 (Or.inr hk))), h3, h4⟩
theorem Hold.append {w : World} : ∀ {xs ys : List Res} {U V : Nat → Prop}, Hold w xs U → Hold w ys V → (∀ k, U k → ¬ V k) → ∃ X, Hold w (xs ++ ys) X ∧ ∀ k, X k ↔ U k ∨ V k
  | [], ys, U, V, h, h2, hd => ⟨V, h2, fun k => ⟨Or.inr, fun e => e.elim (fun e => absurd e (h k)) id⟩⟩
  | r :: rs, ys, U, V, h, h2, hd => by
    obtain ⟨F, G, k1, k2, k3, k4⟩ := h
    obtain ⟨X, x1, x2⟩ := Hold.append k2 h2 (fun k hk => hd k ((k4 k).2 (Or.inr hk)))
    refine ⟨fun k => F k ∨ X k, ⟨F, X, k1, x1, fun k hk hx => ?_, fun k => Iff.rfl⟩, fun k => ?_⟩
    · rcases (x2 k).1 hx with e | e
      · exact k3 k hk e
      · exact hd k ((k4 k).2 (Or.inl hk)) e
    · show F k ∨ X k ↔ U k ∨ V k
      rw [x2, k4, or_assoc]
theorem Hold.perm {w : World} {xs ys : List Res} (hp : xs.Perm ys) : ∀ {U : Nat → Prop}, Hold w xs U → Hold w ys U := by
  induction hp with
  | nil => exact fun h => h
  | cons x _ ih =>
    rintro U ⟨F, G, h1, h2, h3, h4⟩
    exact ⟨F, G, h1, ih h2, h3, h4⟩
  | swap x y l =>
    rintro U ⟨F, G, h1, ⟨F', G', k1, k2, k3, k4⟩, h3, h4⟩
    refine ⟨F', fun k => F k ∨ G' k, k1, ⟨F, G', h1, k2, fun k hk hg => h3 k hk ((k4 k).2 (Or.inr hg)), fun k => Iff.rfl⟩, fun k hk hx => ?_, fun k => ?_⟩
    · rcases hx with e | e
      · exact h3 k e ((k4 k).2 (Or.inl hk))
      · exact k3 k hk e
    · rw [h4, k4]
      constructor
      · rintro (h | h | h)
        · exact Or.inr (Or.inl h)
        · exact Or.inl h
        · exact Or.inr (Or.inr h)
      · rintro (h | h | h)
        · exact Or.inr (Or.inl h)
        · exact Or.inl h
        · exact Or.inr (Or.inr h)
  | trans _ _ i1 i2 => exact fun h => i2 (i1 h)
theorem Hold.get {w : World} : ∀ {rs : List Res} {U : Nat → Prop} {r : Res}, Hold w rs U → r ∈ rs → ∃ F, r.inv w F ∧ ∀ k, F k → U k
  | [], U, r, h, hr => absurd hr (by simp)
  | x :: rs, U, r, h, hr => by
    obtain ⟨F, G, h1, h2, h3, h4⟩ := h
    rcases List.mem_cons.1 hr with rfl | hr
    · exact ⟨F, h1, fun k hk => (h4 k).2 (Or.inl hk)⟩
    · obtain ⟨F', k1, k2⟩ := Hold.get h2 hr
      exact ⟨F', k1, fun k hk => (h4 k).2 (Or.inr (k2 k hk))⟩
theorem Hold.one {w : World} {r : Res} {F : Nat → Prop} (h : r.inv w F) : Hold w [r] F := ⟨F, fun _ => False, h, fun k => id, fun k _ h => h, fun k => by simp⟩
/-- Things held from block B on, in a world in which all below is as it was in w. -/
def Has (B : Nat) (w : World) (rs : List Res) (wr : World) : Prop := Below B w wr ∧ B ≤ wr.heap.size ∧ ∃ U, Hold wr rs U ∧ ∀ k, U k → B ≤ k
theorem Has.bel {B : Nat} {w wr : World} {rs : List Res} (h : Has B w rs wr) : Below B w wr := h.1
theorem Has.size {B : Nat} {w wr : World} {rs : List Res} (h : Has B w rs wr) : B ≤ wr.heap.size := h.2.1
theorem Has.start (w : World) : Has w.heap.size w [] w := ⟨Below.refl _ _, Nat.le_refl _, fun _ => False, fun k => id, fun k h => h.elim⟩
theorem Has.perm {B : Nat} {w wr : World} {xs ys : List Res} (h : Has B w xs wr) (hp : xs.Perm ys) : Has B w ys wr := by
  obtain ⟨h1, h2, U, h3, h4⟩ := h
  exact ⟨h1, h2, U, h3.perm hp, h4⟩
theorem Has.get {B : Nat} {w wr : World} {rs : List Res} {r : Res} (h : Has B w rs wr) (hr : r ∈ rs) : ∃ F, r.inv wr F ∧ ∀ k, F k → B ≤ k := by
  obtain ⟨h1, h2, U, h3, h4⟩ := h
  obtain ⟨F, k1, k2⟩ := h3.get hr
  exact ⟨F, k1, fun k hk => h4 k (k2 k hk)⟩
theorem Has.below {B : Nat} {w wr w' : World} {rs : List Res} (h : Has B w rs wr) (hb : Below wr.heap.size wr w') : Has B w rs w' := by
  obtain ⟨h1, h2, U, h3, h4⟩ := h
  have := hb.size
  exact ⟨h1.trans (hb.mono h2), by omega, U, h3.chg (chg_below (S := fun _ => False) hb) (fun _ _ h => h), h4⟩
theorem Has.same {B : Nat} {w wr w' : World} {rs : List Res} (h : Has B w rs wr) (e : w' = wr) : Has B w rs w' := by rw [e]; exact h
/-- What one of them becomes. -/
def Turns (r : Res) (wr : World) (new : List Res) (w' : World) : Prop := ∀ F, r.inv wr F → ∃ Fn, Hold w' new Fn ∧ Chg F wr w' ∧ ∀ k, Fn k → F k ∨ wr.heap.size ≤ k
theorem Has.turn {B : Nat} {w wr w' : World} {r : Res} {rs new : List Res} (h : Has B w (r :: rs) wr) (ht : Turns r wr new w') : Has B w (new ++ rs) w' := by
  obtain ⟨h1, h2, U, ⟨F, G, k1, k2, k3, k4⟩, h4⟩ := h
  obtain ⟨Fn, n1, n2, n3⟩ := ht F k1
  have hs := n2.size
  obtain ⟨X, x1, x2⟩ := n1.append (k2.chg n2 (fun k hk hf => k3 k hf hk)) (fun k hk hg => by
    rcases n3 k hk with e | e
    · exact k3 k e hg
    · have := k2.lt k hg; omega)
  refine ⟨h1.trans (below_chg n2 h2 (fun k hk hf => by have := h4 k ((k4 k).2 (Or.inl hf)); omega)), by omega, X, x1, fun k hk => ?_⟩
  rcases (x2 k).1 hk with e | e
  · rcases n3 k e with e | e
    · exact h4 k ((k4 k).2 (Or.inl e))
    · omega
  · exact h4 k ((k4 k).2 (Or.inr e))
theorem Has.add {B : Nat} {w wr w' : World} {rs new : List Res} (h : Has B w rs wr) (hb : Below wr.heap.size wr w') {Fn : Nat → Prop} (hn : Hold w' new Fn) (hf : ∀ k, Fn k → wr.heap.size ≤ k) : Has B w (new ++ rs) w' := by
  obtain ⟨h1, h2, U, h3, h4⟩ := h
  have hs := hb.size
  obtain ⟨X, x1, x2⟩ := hn.append (h3.chg (chg_below (S := fun _ => False) hb) (fun _ _ h => h)) (fun k hk hg => by
    have := hf k hk
    have := h3.lt k hg
    omega)
  refine ⟨h1.trans (hb.mono h2), by omega, X, x1, fun k hk => ?_⟩
  rcases (x2 k).1 hk with e | e
  · have := hf k e; omega
  · exact h4 k e
/-- A thing is let go. -/
theorem Has.drop {B : Nat} {w wr : World} {r : Res} {rs : List Res} (h : Has B w (r :: rs) wr) : Has B w rs wr := by
  obtain ⟨h1, h2, U, ⟨F, G, k1, k2, k3, k4⟩, h4⟩ := h
  exact ⟨h1, h2, G, k2, fun k hk => h4 k ((k4 k).2 (Or.inr hk))⟩
/-- A call on one of them. -/
def Steps (P : Program) (r : Res) (f : Nat) (args : Array Value) (Q : Ending → List Res → Prop) : Prop := ∀ w F, r.inv w F → Calls P f args w fun e w' => ∃ new Fn, Q e new ∧ Hold w' new Fn ∧ Chg F w w' ∧ ∀ k, Fn k → F k ∨ w.heap.size ≤ k
theorem Has.call {P : Program} {B : Nat} {w wr : World} {r : Res} {rs : List Res} {f : Nat} {args : Array Value} {Q : Ending → List Res → Prop} (h : Has B w (r :: rs) wr) (hc : Steps P r f args Q) :
    Calls P f args wr fun e w' => ∃ new, Q e new ∧ Has B w (new ++ rs) w' := by
  obtain ⟨h1, h2, U, ⟨F, G, k1, k2, k3, k4⟩, h4⟩ := h
  refine (hc wr F k1).mono ?_
  rintro e w' ⟨new, Fn, hq, n1, n2, n3⟩
  refine ⟨new, hq, ?_⟩
  have hs := n2.size
  obtain ⟨X, x1, x2⟩ := n1.append (k2.chg n2 (fun k hk hf => k3 k hf hk)) (fun k hk hg => by
    rcases n3 k hk with e | e
    · exact k3 k e hg
    · have := k2.lt k hg; omega)
  refine ⟨h1.trans (below_chg n2 h2 (fun k hk hf => by have := h4 k ((k4 k).2 (Or.inl hf)); omega)), by omega, X, x1, fun k hk => ?_⟩
  rcases (x2 k).1 hk with e | e
  · rcases n3 k e with e | e
    · exact h4 k ((k4 k).2 (Or.inl e))
    · omega
  · exact h4 k ((k4 k).2 (Or.inr e))
/-- A thing that a call left as it was. -/
theorem hold_below {w w' : World} {r : Res} {F : Nat → Prop} (h : r.inv w F) (hb : Below w.heap.size w w') : ∃ Fn, Hold w' [r] Fn ∧ Chg F w w' ∧ ∀ k, Fn k → F k ∨ w.heap.size ≤ k :=
  ⟨F, Hold.one (r.chg h (chg_below (S := fun _ => False) hb) (fun _ _ h => h)), chg_below hb, fun k hk => Or.inl hk⟩
/-- A block of cells. -/
def BlockR (q : Nat) (vs : List Value) : Res where
  inv w F := (∀ j u, vs[j]? = some u → w.cell? ⟨q, j, none⟩ = some u ∧ w.frozen? ⟨q, j, none⟩ = false) ∧ q < w.heap.size ∧ F = fun k => k = q
  lt := by rintro w F ⟨_, h, rfl⟩ k rfl; exact h
  chg := by
    rintro w w' F S ⟨h1, h2, rfl⟩ hc hS
    have k := hc.block q h2 (hS q rfl)
    refine ⟨fun j u hu => ?_, Nat.lt_of_lt_of_le h2 hc.size, rfl⟩
    exact ⟨(World.cell?_of_block (w := w) (a := ⟨q, j, none⟩) k).trans (h1 j u hu).1, (World.frozen?_of_block (w := w) (a := ⟨q, j, none⟩) k).trans (h1 j u hu).2⟩
theorem block_new (w : World) (vs : List Value) (t : TypeId) : (BlockR w.heap.size vs).inv (w.alloc (.cells vs.toArray t)) (fun k => k = w.heap.size) := by
  refine ⟨fun j u hu => ⟨?_, ?_⟩, by simp, rfl⟩
  · rw [World.cell?_alloc_new]; simpa using hu
  · rw [World.frozen?_alloc_at _ _ _ _ rfl]
end Go.Proofs.Ytbgankldnjeohaa.Pl