/- The texts Res, ToldW, NmMathA, NmMathB, NmSmall, NmWalks, Shelf, NmComp, CMath, CBase, one behind the other. -/
import Derived.Test.YtmjnllldjeeigaaDoorProg
import Derived.WalkKit
import Derived.WalkSpells
import Derived.WalkLawsBesides
import Derived.Deep.Light
import Derived.OwnWalk
import Derived.Deep.DeepMust
import Derived.WalkSmall
import Derived.Laws.OwnMore
import Derived.Laws.CopyOwn
import Derived.Deep.QuietTactic
import Derived.BigQuiet
import Derived.Laws.AppendOwnNone
import Derived.Deep.RegionLaw
import Derived.Lib.SliceRun
import Derived.Deep.Upon
import Derived.OneCell
import Derived.RangeFuncFrom
import Derived.Lib.DecodeN
import Derived.Laws.RangeAny
import Derived.Below
import Derived.LoopTactic
import Derived.Shelf.Unicode.DecodeSlow
import Derived.Shelf.Unicode.DecodeAny
import Derived.Lib.OthersKept
/- What a world keeps, owned rows of any size, and things that are held beside one another. -/
set_option linter.unusedVariables false
set_option maxRecDepth 100000
namespace Go.Proofs.YtmjnllldjeeigaaDoor
open Go.RowKit

theorem one_new (w : World) (u : Value) (t : TypeId) : ∀ (j : Nat) (x : Value), [u][j]? = some x → (w.alloc (.cells #[u] t)).cell? ((⟨w.heap.size, 0, none⟩ : Addr).add j) = some x := cell_one_new w u t
theorem two_new (w : World) (u v : Value) (t : TypeId) : ∀ (j : Nat) (x : Value), [u, v][j]? = some x → (w.alloc (.cells #[u, v] t)).cell? ((⟨w.heap.size, 0, none⟩ : Addr).add j) = some x := by
  intro j x h
  match j, h with
  | 0, h => rw [← h]; exact World.cell?_alloc_new w #[u, v] t 0
  | 1, h => rw [← h]; exact World.cell?_alloc_new w #[u, v] t 1
  | j + 2, h => simp at h
theorem one_int (n : Int) : ∀ u ∈ [Value.int .i64 n], u.oneCell' = true := by intro u hu; simp at hu; subst hu; rfl
theorem two_int (n m : Int) : ∀ u ∈ [Value.int .i64 n, Value.int .i64 m], u.oneCell' = true := by intro u hu; simp at hu; rcases hu with rfl | rfl <;> rfl
theorem own_cast {w : World} {B e size n n' : Nat} {v : Value} {xs xs' : List Value} (h1 : n = n') (h2 : xs = xs') (h : w.ownsRow B e size v n xs) : w.ownsRow B e size v n' xs' := by
  subst h1; subst h2; exact h
theorem own_base {w : World} {B B' e s n : Nat} {v : Value} {xs : List Value} (h : w.ownsRow B e s v n xs) (hB : B' ≤ B) : w.ownsRow B' e s v n xs := by
  refine ⟨h.1, ?_⟩
  rcases h.2 with h0 | ⟨g, cap, cur, hv, hb, rest⟩
  · exact .inl h0
  · exact .inr ⟨g, cap, cur, hv, Nat.le_trans hB hb, rest⟩
theorem own_below {w w' : World} {B e s n : Nat} {v : Value} {xs : List Value} (h : w.ownsRow B e s v n xs) (hb : Below w.heap.size w w') : w'.ownsRow B e s v n xs := by
  refine h.kept (row := none) ⟨hb.os, hb.tape, hb.output, hb.size, fun k hk _ => hb.block k hk⟩ ?_
  cases h : v.ownBlock with
  | none => exact .inl rfl
  | some k => exact .inr (by simp)
/-- An owned row's shape and its cells. -/
theorem own_form {w : World} {B e s n : Nat} {v : Value} {xs : List Value} (h : w.ownsRow B e s v n xs) : ∃ ao cap, v = .slice ao n cap ∧ n ≤ cap ∧ (ao = none → n = 0 ∧ cap = 0) ∧
    ∀ g, ao = some g → ∃ b, g = ⟨b, 0, none⟩ ∧ B ≤ b ∧ b < w.heap.size ∧ (∀ j, j < n * s → w.cell? ⟨b, j, none⟩ = xs[j]?) ∧ (∀ j, w.frozen? ⟨b, j, none⟩ = false) ∧ cap ≤ maxLen := by
  rcases h.2 with ⟨rfl, h0⟩ | ⟨g, cap, cur, rfl, hb, hg, hnc, hcm, hcs, htake⟩
  · obtain rfl : n = 0 := h0
    exact ⟨none, 0, rfl, Nat.le_refl _, fun _ => ⟨rfl, rfl⟩, fun g hg => by cases hg⟩
  · refine ⟨some ⟨g, 0, none⟩, cap, rfl, hnc, fun h => (by cases h), fun g' h => ?_⟩
    obtain rfl := Option.some.inj h
    refine ⟨g, rfl, hb, (Array.getElem?_eq_some_iff.1 hg).1, fun j hj => ?_, fun j => ?_, hcm⟩
    · rw [cell_of_row w g j cur e (0, 0) hg, ← htake, List.getElem?_take, if_pos hj, Array.getElem?_toList]
    · unfold World.frozen?
      simp [hg]

/-- What a world keeps that changed within S alone, and by new blocks. -/
structure Chg (S : Nat → Prop) (w w' : World) : Prop where
  os : w'.os = w.os
  tape : w'.tape = w.tape
  output : w'.output = w.output
  size : w.heap.size ≤ w'.heap.size
  block : ∀ k, k < w.heap.size → ¬ S k → w'.heap[k]? = w.heap[k]?
theorem Chg.refl (S : Nat → Prop) (w : World) : Chg S w w := ⟨rfl, rfl, rfl, Nat.le_refl _, fun _ _ _ => rfl⟩
theorem Chg.mono {S T : Nat → Prop} {w w' : World} (h : Chg S w w') (hT : ∀ k, k < w.heap.size → S k → T k) : Chg T w w' :=
  ⟨h.os, h.tape, h.output, h.size, fun k hk hn => h.block k hk (fun hs => hn (hT k hk hs))⟩
theorem Chg.trans {S T : Nat → Prop} {w w' w'' : World} (h : Chg S w w') (k : Chg T w' w'') (hT : ∀ j, j < w.heap.size → T j → S j) : Chg S w w'' :=
  ⟨k.os.trans h.os, k.tape.trans h.tape, k.output.trans h.output, Nat.le_trans h.size k.size, fun j hj hn => (k.block j (Nat.lt_of_lt_of_le hj h.size) (fun ht => hn (hT j hj ht))).trans (h.block j hj hn)⟩
theorem chg_below {S : Nat → Prop} {w w' : World} (h : Below w.heap.size w w') : Chg S w w' := ⟨h.os, h.tape, h.output, h.size, fun k hk _ => h.block k hk⟩
theorem below_chg {S : Nat → Prop} {B : Nat} {w w' : World} (h : Chg S w w') (hB : B ≤ w.heap.size) (hS : ∀ k, k < B → ¬ S k) : Below B w w' := ⟨h.os, h.tape, h.output, h.size, fun k hk => h.block k (by omega) (hS k hk)⟩
theorem chg_set (w : World) (p : Addr) (u : Value) : Chg (fun k => k = p.block) w (w.setCell p u) :=
  ⟨rfl, rfl, rfl, by simp, fun k hk hn => Below.heap_setCell w p u k hn⟩
theorem chg_grown {w w' : World} {row : Option Nat} (h : w.grownBy w' row) : Chg (fun k => row = some k) w w' := ⟨h.os, h.tape, h.output, h.size, fun k hk hn => h.block k hk (fun e => hn e.symm)⟩
theorem own_chg {S : Nat → Prop} {w w' : World} {B e s n : Nat} {v : Value} {xs : List Value} (h : w.ownsRow B e s v n xs) (hc : Chg S w w') (hS : ∀ g, v.ownBlock = some g → ¬ S g) : w'.ownsRow B e s v n xs := by
  refine ⟨h.1, ?_⟩
  rcases h.2 with hn | ⟨g, cap, cur, hv, hbb, hgg, rest⟩
  · exact Or.inl hn
  · refine Or.inr ⟨g, cap, cur, hv, hbb, ?_, rest⟩
    rw [hc.block g (Array.getElem?_eq_some_iff.1 hgg).1 (hS g (by rw [hv]; rfl))]
    exact hgg
/-- A cell of an owned row, written anew. -/
theorem own_set {w : World} {B e s n cap g : Nat} {xs : List Value} (h : w.ownsRow B e s (.slice (some ⟨g, 0, none⟩) n cap) n xs) (j : Nat) (u : Value) :
    (w.setCell ⟨g, j, none⟩ u).ownsRow B e s (.slice (some ⟨g, 0, none⟩) n cap) n (xs.set j u) := (h.stored j u).1
theorem own_sets {B e s n cap g : Nat} : ∀ (vs : List Value) (o : Nat) (w : World) (xs : List Value), w.ownsRow B e s (.slice (some ⟨g, 0, none⟩) n cap) n xs → o + vs.length ≤ xs.length →
    (w.setCells g o vs).ownsRow B e s (.slice (some ⟨g, 0, none⟩) n cap) n (splice xs o vs)
  | [], o, w, xs, h, _ => own_cast rfl (by simp [splice]) h
  | v :: r, o, w, xs, h, hl => by
    have h1 := own_sets r (o + 1) (w.setCell ⟨g, o, none⟩ v) (xs.set o v) (own_set h o v) (by simp at hl ⊢; omega)
    refine own_cast rfl ?_ h1
    unfold splice
    apply List.ext_getElem?
    intro i
    simp only [List.length_cons] at hl
    by_cases h1 : i < o
    · rw [List.getElem?_append_left (by simp; omega), List.getElem?_append_left (by simp; omega)]
      simp [h1, show i < o + 1 by omega, show ¬ o = i by omega]
    · rw [List.getElem?_append_right (l₁ := xs.take o) (by simp; omega)]
      by_cases h2 : i = o
      · subst h2
        rw [List.getElem?_append_left (by simp; omega)]
        have : min i xs.length = i := by omega
        simp [this, show i < xs.length by omega]
      · rw [List.getElem?_append_right (by simp; omega)]
        have e1 : min (o + 1) xs.length = o + 1 := by omega
        have e2 : min o xs.length = o := by omega
        obtain ⟨d, rfl⟩ : ∃ d, i = o + 1 + d := ⟨i - (o + 1), by omega⟩
        simp only [List.length_take, List.length_set, e1, e2, show o + 1 + d - o = d + 1 by omega, show o + 1 + d - (o + 1) = d by omega, List.cons_append, List.getElem?_cons_succ]
        congr 2
        rw [List.length_cons, show o + (r.length + 1) = o + 1 + r.length by omega]
        apply List.ext_getElem?
        intro q
        simp only [List.getElem?_drop]
        rw [List.getElem?_set_ne (by omega)]
theorem own_cut {w : World} {B e s n m cap g : Nat} {xs : List Value} (h : w.ownsRow B e s (.slice (some ⟨g, 0, none⟩) n cap) n xs) (hm : m ≤ n) : w.ownsRow B e s (.slice (some ⟨g, 0, none⟩) m cap) m (xs.take (m * s)) := by
  have hms : m * s ≤ n * s := Nat.mul_le_mul_right s hm
  refine ⟨by rw [List.length_take, h.1]; omega, ?_⟩
  rcases h.2 with ⟨hv, _⟩ | ⟨g', cap', cur, hv, hb, hg, hnc, hcm, hcs, htake⟩
  · cases hv
  · cases hv
    refine Or.inr ⟨g, cap, cur, rfl, hb, hg, by omega, hcm, hcs, ?_⟩
    rw [← htake, List.take_take, Nat.min_eq_left hms]

/-- An append to an owned row: it stays where it was, or moves to a new block. -/
theorem wpList_append_more {P : Program} (w : World) {ops : Array Oper} {rest : List Oper} {o : Oper} {a : Act} {Q : Exit → Act → World → Prop} (hgd : o.guard = none) (s x : Operand) (t : TypeId)
    (ho : o.op = .call { callee := .builtin .append, args := #[s, x], argTypes := #[t, t] })
    (base : Nat) (e : TypeId) (i : TypeInfo) (z : Value) (size bytes : Nat) (ht : P.underlying t = some (.slice e)) (hi : P.info? e = some i) (hz : i.zero = some z)
    (hsize : i.size = size) (hby : i.bytes = bytes) (hzs : z.cells.size = size) (hsz : 0 < size)
    (v : Value) (n : Nat) (xs : List Value) (hs : a.eval s = v) (hown : w.ownsRow base e size v n xs)
    (ad : Addr) (m c : Nat) (news : List Value) (hx : a.eval x = .slice (some ad) m c) (hl : news.length = m * size) (hnews : ∀ j u, news[j]? = some u → w.cell? (ad.add j) = some u) (h1 : ∀ u ∈ news, u.oneCell' = true)
    (hm : 0 < m) (h63 : n + m ≤ maxLen) (hbytes : (n + m) * bytes ≤ 140737488355328)
    (h : ∀ g' cap' w', w'.ownsRow 0 e size (.slice (some ⟨g', 0, none⟩) (n + m) cap') (n + m) (xs ++ news) → (v.ownBlock = some g' ∨ w.heap.size ≤ g') → Chg (fun k => v.ownBlock = some k) w w' →
      wpList P ops Q rest (a.put o.dst (.slice (some ⟨g', 0, none⟩) (n + m) cap')) w') : wpList P ops Q (o :: rest) a w := by
  have grow : ∀ v' w', w'.ownsRow w.heap.size e size v' (n + m) (xs ++ news) → w.grownBy w' none → wpList P ops Q rest (a.put o.dst v') w' := by
    intro v' w' ho' hg
    obtain ⟨ao, cap', rfl, _, h0, hr⟩ := own_form ho'
    cases ao with
    | none => have := (h0 rfl).1; omega
    | some p =>
      obtain ⟨g', rfl, hb, _⟩ := hr p rfl
      exact h g' cap' w' (own_base ho' (Nat.zero_le _)) (Or.inr hb) ⟨hg.os, hg.tape, hg.output, hg.size, fun k hk _ => hg.block k hk (by simp)⟩
  rcases hown.2 with ⟨hv, h0⟩ | ⟨g, cap, cur, hv, hb, hg, hnc, hcm, hcs, htake⟩
  · obtain rfl : n = 0 := by omega
    obtain rfl : xs = [] := List.eq_nil_of_length_eq_zero (by simpa using hown.1)
    rw [hv] at hs
    exact wpList_append_grows w hgd s x t ho e i z size bytes ht hi hz hsize hby hzs hsz none 0 0 [] hs (fun _ => ⟨rfl, rfl⟩) (by simp) (fun b hb => by cases hb) ad m c news hx hl hnews h1 (by omega) h63 hbytes grow
  · subst hv
    by_cases hr : n + m ≤ cap
    · exact wpList_append_fits w hgd s x t ho base e i size ht hi hsize g n cap xs hs hown ad m c news hx hl hnews h1 hr fun w' k1 k2 =>
        h g cap w' (own_base k1 (Nat.zero_le _)) (Or.inl rfl) ⟨k2.os, k2.tape, k2.output, k2.size, fun k hk hn => k2.block k hk (fun e => hn e.symm)⟩
    · exact wpList_append_grows w hgd s x t ho e i z size bytes ht hi hz hsize hby hzs hsz (some ⟨g, 0, none⟩) n cap xs hs (fun e => by cases e) hown.1
        (fun b hb j u hu => by
          cases hb
          exact hown.cells (g := g) rfl j u hu) ad m c news hx hl hnews h1 (by omega) h63 hbytes grow

/-- An append of any number of elements to an owned row: it stays where it was, or moves to a new block. -/
theorem wpList_append_most {P : Program} (w : World) {ops : Array Oper} {rest : List Oper} {o : Oper} {a : Act} {Q : Exit → Act → World → Prop} (hgd : o.guard = none) (s x : Operand) (t : TypeId)
    (ho : o.op = .call { callee := .builtin .append, args := #[s, x], argTypes := #[t, t] })
    (base : Nat) (e : TypeId) (i : TypeInfo) (z : Value) (size bytes : Nat) (ht : P.underlying t = some (.slice e)) (hi : P.info? e = some i) (hz : i.zero = some z)
    (hsize : i.size = size) (hby : i.bytes = bytes) (hzs : z.cells.size = size) (hsz : 0 < size)
    (v : Value) (n : Nat) (xs : List Value) (hs : a.eval s = v) (hown : w.ownsRow base e size v n xs) (base2 : Nat)
    (u : Value) (m : Nat) (news : List Value) (hx : a.eval x = u) (hu : w.ownsRow base2 e size u m news) (h1 : ∀ u ∈ news, u.oneCell' = true)
    (h63 : n + m ≤ maxLen) (hbytes : (n + m) * bytes ≤ 140737488355328)
    (h : ∀ ao' cap' w', w'.ownsRow 0 e size (.slice ao' (n + m) cap') (n + m) (xs ++ news) → (∀ g, (Value.slice ao' (n + m) cap').ownBlock = some g → v.ownBlock = some g ∨ w.heap.size ≤ g) → Chg (fun k => v.ownBlock = some k) w w' →
      wpList P ops Q rest (a.put o.dst (.slice ao' (n + m) cap')) w') : wpList P ops Q (o :: rest) a w := by
  obtain ⟨uo, uc, rfl, _, u0, ur⟩ := own_form hu
  cases uo with
  | none =>
    obtain ⟨rfl, rfl⟩ := u0 rfl
    obtain rfl : news = [] := List.eq_nil_of_length_eq_zero (by simpa using hu.1)
    obtain ⟨ao, cap, rfl, _⟩ := own_form hown
    refine wpList_plain hgd fun K hK => ?_
    have hr := run_append_owned_none (P := P) w base t o.type e i size ht hi (.slice ao n cap) n xs hown
    unfold Oper.wp execOp
    simp only [ho, resolve, invoke, builtin, Sem.run_bind, Sem.run_pure, Result.andThen_ok, List.map_toArray, List.map_cons, List.map_nil, hs, hx, hr]
    exact hK _ _ (h ao cap w (own_cast rfl (by simp) (own_base hown (Nat.zero_le _))) (fun g hg => Or.inl hg) (Chg.refl _ _))
  | some ad =>
    obtain ⟨ug, rfl, _, _, _, _, _⟩ := ur ad rfl
    by_cases hm : 0 < m
    · exact wpList_append_more w hgd s x t ho base e i z size bytes ht hi hz hsize hby hzs hsz v n xs hs hown ⟨ug, 0, none⟩ m uc news hx hu.1 (hu.cells (g := ug) rfl) h1 hm h63 hbytes
        (fun g' cap' w' k1 k2 k3 => h (some ⟨g', 0, none⟩) cap' w' k1 (fun g hg => by
          have : g' = g := by simpa [Value.ownBlock] using hg
          rw [← this]; exact k2) k3)
    · obtain rfl : m = 0 := by omega
      obtain rfl : news = [] := List.eq_nil_of_length_eq_zero (by simpa using hu.1)
      rcases hown.2 with ⟨hv, h0⟩ | ⟨g, cap, cur, hv, hb, hg, hnc, hcm, hcs, htake⟩
      · subst hv
        obtain rfl : n = 0 := h0
        obtain rfl : xs = [] := List.eq_nil_of_length_eq_zero (by simpa using hown.1)
        refine wpList_append_own w hgd s x t ho 0 e i z size bytes ht hi hz hsize hby hzs hsz (.slice none 0 0) 0 [] hs (World.ownsRow_nil _ _ _ _) ⟨ug, 0, none⟩ 0 uc [] hx (by simp) (fun j u hj => by simp at hj) h1 h63 hbytes (Nat.zero_le _) ?_
        intro v' w' k1 k2 k3
        obtain rfl : v' = .slice none 0 0 := k3.2 ⟨rfl, rfl⟩
        exact h none 0 w' k1 (fun g hg => by cases hg) (chg_grown k2)
      · subst hv
        exact wpList_append_fits w hgd s x t ho base e i size ht hi hsize g n cap xs hs hown ⟨ug, 0, none⟩ 0 uc [] hx (by simp) (fun j u hj => by simp at hj) h1 (by omega) fun w' k1 k2 =>
          h (some ⟨g, 0, none⟩) cap w' (own_base k1 (Nat.zero_le _)) (fun g' hg' => Or.inl hg') ⟨k2.os, k2.tape, k2.output, k2.size, fun k hk hn => k2.block k hk (fun e => hn e.symm)⟩

/-- An append of cells that lie anywhere, to a row of the call's own. -/
theorem wpList_append_any {P : Program} (w : World) {ops : Array Oper} {rest : List Oper} {o : Oper} {a : Act} {Q : Exit → Act → World → Prop} (hgd : o.guard = none) (s x : Operand) (t : TypeId)
    (ho : o.op = .call { callee := .builtin .append, args := #[s, x], argTypes := #[t, t] })
    (base : Nat) (e : TypeId) (i : TypeInfo) (z : Value) (size bytes : Nat) (ht : P.underlying t = some (.slice e)) (hi : P.info? e = some i) (hz : i.zero = some z)
    (hsize : i.size = size) (hby : i.bytes = bytes) (hzs : z.cells.size = size) (hsz : 0 < size)
    (W0 : World) (hbw : Below base W0 w) (hbs : base ≤ w.heap.size)
    (v : Value) (n : Nat) (xs : List Value) (hs : a.eval s = v) (hown : w.ownsRow base e size v n xs)
    (xo : Option Addr) (m c : Nat) (news : List Value) (hx : a.eval x = .slice xo m c) (hl : news.length = m * size) (hxo : (xo = none ∧ m = 0 ∧ c = 0) ∨ ∃ ad, xo = some ad ∧ ∀ j u, news[j]? = some u → w.cell? (ad.add j) = some u) (h1 : ∀ u ∈ news, u.oneCell' = true)
    (h63 : n + m ≤ maxLen) (hbytes : (n + m) * bytes ≤ 140737488355328)
    (h : ∀ ao' cap' w', w'.ownsRow base e size (.slice ao' (n + m) cap') (n + m) (xs ++ news) → Below base W0 w' → base ≤ w'.heap.size → wpList P ops Q rest (a.put o.dst (.slice ao' (n + m) cap')) w') : wpList P ops Q (o :: rest) a w := by
  rcases hxo with ⟨rfl, rfl, rfl⟩ | ⟨ad, rfl, hc⟩
  · obtain rfl : news = [] := List.eq_nil_of_length_eq_zero (by simpa using hl)
    obtain ⟨ao, cap, rfl, _⟩ := own_form hown
    exact wpList_append_own_none hgd s x t ho base e i size ht hi (.slice ao n cap) n xs hs hown hx (h ao cap w (own_cast rfl (by simp) hown) hbw hbs)
  · refine wpList_append_own w hgd s x t ho base e i z size bytes ht hi hz hsize hby hzs hsz v n xs hs hown ad m c news hx hl hc h1 h63 hbytes hbs ?_
    intro v' w' k1 k2 k3
    obtain ⟨ao, cap, rfl, _⟩ := own_form k1
    exact h ao cap w' k1 (hbw.grown k2 hbs (fun k hk => (hown.lt k hk).1)) (Nat.le_trans hbs k2.size)


/-- A thing that lies in memory: what it is in a world, and which blocks are its own. -/
structure Res where
  inv : World → (Nat → Prop) → Prop
  lt : ∀ {w : World} {F : Nat → Prop}, inv w F → ∀ k, F k → k < w.heap.size
  chg : ∀ {w w' : World} {F S : Nat → Prop}, inv w F → Chg S w w' → (∀ k, F k → ¬ S k) → inv w' F
/-- Things held beside one another: none has a block of another one. -/
def Hold (w : World) : List Res → (Nat → Prop) → Prop
  | [], U => ∀ k, ¬ U k
  | r :: rs, U => ∃ F G, r.inv w F ∧ Hold w rs G ∧ (∀ k, F k → ¬ G k) ∧ (∀ k, U k ↔ F k ∨ G k)
theorem Hold.lt {w : World} : ∀ {rs : List Res} {U : Nat → Prop}, Hold w rs U → ∀ k, U k → k < w.heap.size
  | [], U, h, k, hk => absurd hk (h k)
  | r :: rs, U, h, k, hk => by
    obtain ⟨F, G, h1, h2, h3, h4⟩ := h
    rcases (h4 k).1 hk with e | e
    · exact r.lt h1 k e
    · exact Hold.lt h2 k e
theorem Hold.chg {w w' : World} {S : Nat → Prop} (hc : Chg S w w') : ∀ {rs : List Res} {U : Nat → Prop}, Hold w rs U → (∀ k, U k → ¬ S k) → Hold w' rs U
  | [], U, h, hS => h
  | r :: rs, U, h, hS => by
    obtain ⟨F, G, h1, h2, h3, h4⟩ := h
    exact ⟨F, G, r.chg h1 hc (fun k hk => hS k ((h4 k).2 (Or.inl hk))), Hold.chg hc h2 (fun k hk => hS k ((h4 k).2 (Or.inr hk))), h3, h4⟩
theorem Hold.append {w : World} : ∀ {xs ys : List Res} {U V : Nat → Prop}, Hold w xs U → Hold w ys V → (∀ k, U k → ¬ V k) → ∃ X, Hold w (xs ++ ys) X ∧ ∀ k, X k ↔ U k ∨ V k
  | [], ys, U, V, h, h2, hd => ⟨V, h2, fun k => ⟨Or.inr, fun e => e.elim (fun e => absurd e (h k)) id⟩⟩
  | r :: rs, ys, U, V, h, h2, hd => by
    obtain ⟨F, G, k1, k2, k3, k4⟩ := h
    obtain ⟨X, x1, x2⟩ := Hold.append k2 h2 (fun k hk => hd k ((k4 k).2 (Or.inr hk)))
    refine ⟨fun k => F k ∨ X k, ⟨F, X, k1, x1, fun k hk hx => ?_, fun k => Iff.rfl⟩, fun k => ?_⟩
    · rcases (x2 k).1 hx with e | e
      · exact k3 k hk e
      · exact hd k ((k4 k).2 (Or.inl hk)) e
    · show F k ∨ X k ↔ U k ∨ V k
      rw [x2, k4, or_assoc]
theorem Hold.perm {w : World} {xs ys : List Res} (hp : xs.Perm ys) : ∀ {U : Nat → Prop}, Hold w xs U → Hold w ys U := by
  induction hp with
  | nil => exact fun h => h
  | cons x _ ih =>
    rintro U ⟨F, G, h1, h2, h3, h4⟩
    exact ⟨F, G, h1, ih h2, h3, h4⟩
  | swap x y l =>
    rintro U ⟨F, G, h1, ⟨F', G', k1, k2, k3, k4⟩, h3, h4⟩
    refine ⟨F', fun k => F k ∨ G' k, k1, ⟨F, G', h1, k2, fun k hk hg => h3 k hk ((k4 k).2 (Or.inr hg)), fun k => Iff.rfl⟩, fun k hk hx => ?_, fun k => ?_⟩
    · rcases hx with e | e
      · exact h3 k e ((k4 k).2 (Or.inl hk))
      · exact k3 k hk e
    · rw [h4, k4]
      constructor
      · rintro (h | h | h)
        · exact Or.inr (Or.inl h)
        · exact Or.inl h
        · exact Or.inr (Or.inr h)
      · rintro (h | h | h)
        · exact Or.inr (Or.inl h)
        · exact Or.inl h
        · exact Or.inr (Or.inr h)
  | trans _ _ i1 i2 => exact fun h => i2 (i1 h)
theorem Hold.get {w : World} : ∀ {rs : List Res} {U : Nat → Prop} {r : Res}, Hold w rs U → r ∈ rs → ∃ F, r.inv w F ∧ ∀ k, F k → U k
  | [], U, r, h, hr => absurd hr (by simp)
  | x :: rs, U, r, h, hr => by
    obtain ⟨F, G, h1, h2, h3, h4⟩ := h
    rcases List.mem_cons.1 hr with rfl | hr
    · exact ⟨F, h1, fun k hk => (h4 k).2 (Or.inl hk)⟩
    · obtain ⟨F', k1, k2⟩ := Hold.get h2 hr
      exact ⟨F', k1, fun k hk => (h4 k).2 (Or.inr (k2 k hk))⟩
theorem Hold.one {w : World} {r : Res} {F : Nat → Prop} (h : r.inv w F) : Hold w [r] F := ⟨F, fun _ => False, h, fun k => id, fun k _ h => h, fun k => by simp⟩
/-- Things held from block B on, in a world in which all below is as it was in w. -/
def Has (B : Nat) (w : World) (rs : List Res) (wr : World) : Prop := Below B w wr ∧ B ≤ wr.heap.size ∧ ∃ U, Hold wr rs U ∧ ∀ k, U k → B ≤ k
theorem Has.bel {B : Nat} {w wr : World} {rs : List Res} (h : Has B w rs wr) : Below B w wr := h.1
theorem Has.size {B : Nat} {w wr : World} {rs : List Res} (h : Has B w rs wr) : B ≤ wr.heap.size := h.2.1
theorem Has.start (w : World) : Has w.heap.size w [] w := ⟨Below.refl _ _, Nat.le_refl _, fun _ => False, fun k => id, fun k h => h.elim⟩
theorem Has.perm {B : Nat} {w wr : World} {xs ys : List Res} (h : Has B w xs wr) (hp : xs.Perm ys) : Has B w ys wr := by
  obtain ⟨h1, h2, U, h3, h4⟩ := h
  exact ⟨h1, h2, U, h3.perm hp, h4⟩
theorem Has.get {B : Nat} {w wr : World} {rs : List Res} {r : Res} (h : Has B w rs wr) (hr : r ∈ rs) : ∃ F, r.inv wr F ∧ ∀ k, F k → B ≤ k := by
  obtain ⟨h1, h2, U, h3, h4⟩ := h
  obtain ⟨F, k1, k2⟩ := h3.get hr
  exact ⟨F, k1, fun k hk => h4 k (k2 k hk)⟩
theorem Has.below {B : Nat} {w wr w' : World} {rs : List Res} (h : Has B w rs wr) (hb : Below wr.heap.size wr w') : Has B w rs w' := by
  obtain ⟨h1, h2, U, h3, h4⟩ := h
  have := hb.size
  exact ⟨h1.trans (hb.mono h2), by omega, U, h3.chg (chg_below (S := fun _ => False) hb) (fun _ _ h => h), h4⟩
theorem Has.same {B : Nat} {w wr w' : World} {rs : List Res} (h : Has B w rs wr) (e : w' = wr) : Has B w rs w' := by rw [e]; exact h
/-- What one of them becomes. -/
def Turns (r : Res) (wr : World) (new : List Res) (w' : World) : Prop := ∀ F, r.inv wr F → ∃ Fn, Hold w' new Fn ∧ Chg F wr w' ∧ ∀ k, Fn k → F k ∨ wr.heap.size ≤ k
theorem Has.turn {B : Nat} {w wr w' : World} {r : Res} {rs new : List Res} (h : Has B w (r :: rs) wr) (ht : Turns r wr new w') : Has B w (new ++ rs) w' := by
  obtain ⟨h1, h2, U, ⟨F, G, k1, k2, k3, k4⟩, h4⟩ := h
  obtain ⟨Fn, n1, n2, n3⟩ := ht F k1
  have hs := n2.size
  obtain ⟨X, x1, x2⟩ := n1.append (k2.chg n2 (fun k hk hf => k3 k hf hk)) (fun k hk hg => by
    rcases n3 k hk with e | e
    · exact k3 k e hg
    · have := k2.lt k hg; omega)
  refine ⟨h1.trans (below_chg n2 h2 (fun k hk hf => by have := h4 k ((k4 k).2 (Or.inl hf)); omega)), by omega, X, x1, fun k hk => ?_⟩
  rcases (x2 k).1 hk with e | e
  · rcases n3 k e with e | e
    · exact h4 k ((k4 k).2 (Or.inl e))
    · omega
  · exact h4 k ((k4 k).2 (Or.inr e))
theorem Has.add {B : Nat} {w wr w' : World} {rs new : List Res} (h : Has B w rs wr) (hb : Below wr.heap.size wr w') {Fn : Nat → Prop} (hn : Hold w' new Fn) (hf : ∀ k, Fn k → wr.heap.size ≤ k) : Has B w (new ++ rs) w' := by
  obtain ⟨h1, h2, U, h3, h4⟩ := h
  have hs := hb.size
  obtain ⟨X, x1, x2⟩ := hn.append (h3.chg (chg_below (S := fun _ => False) hb) (fun _ _ h => h)) (fun k hk hg => by
    have := hf k hk
    have := h3.lt k hg
    omega)
  refine ⟨h1.trans (hb.mono h2), by omega, X, x1, fun k hk => ?_⟩
  rcases (x2 k).1 hk with e | e
  · have := hf k e; omega
  · exact h4 k e
/-- A thing is let go. -/
theorem Has.drop {B : Nat} {w wr : World} {r : Res} {rs : List Res} (h : Has B w (r :: rs) wr) : Has B w rs wr := by
  obtain ⟨h1, h2, U, ⟨F, G, k1, k2, k3, k4⟩, h4⟩ := h
  exact ⟨h1, h2, G, k2, fun k hk => h4 k ((k4 k).2 (Or.inr hk))⟩
/-- A call on one of them. -/
def Steps (P : Program) (r : Res) (f : Nat) (args : Array Value) (Q : Ending → List Res → Prop) : Prop := ∀ w F, r.inv w F → Calls P f args w fun e w' => ∃ new Fn, Q e new ∧ Hold w' new Fn ∧ Chg F w w' ∧ ∀ k, Fn k → F k ∨ w.heap.size ≤ k
theorem Has.call {P : Program} {B : Nat} {w wr : World} {r : Res} {rs : List Res} {f : Nat} {args : Array Value} {Q : Ending → List Res → Prop} (h : Has B w (r :: rs) wr) (hc : Steps P r f args Q) :
    Calls P f args wr fun e w' => ∃ new, Q e new ∧ Has B w (new ++ rs) w' := by
  obtain ⟨h1, h2, U, ⟨F, G, k1, k2, k3, k4⟩, h4⟩ := h
  refine (hc wr F k1).mono ?_
  rintro e w' ⟨new, Fn, hq, n1, n2, n3⟩
  refine ⟨new, hq, ?_⟩
  have hs := n2.size
  obtain ⟨X, x1, x2⟩ := n1.append (k2.chg n2 (fun k hk hf => k3 k hf hk)) (fun k hk hg => by
    rcases n3 k hk with e | e
    · exact k3 k e hg
    · have := k2.lt k hg; omega)
  refine ⟨h1.trans (below_chg n2 h2 (fun k hk hf => by have := h4 k ((k4 k).2 (Or.inl hf)); omega)), by omega, X, x1, fun k hk => ?_⟩
  rcases (x2 k).1 hk with e | e
  · rcases n3 k e with e | e
    · exact h4 k ((k4 k).2 (Or.inl e))
    · omega
  · exact h4 k ((k4 k).2 (Or.inr e))
/-- A thing that a call left as it was. -/
theorem hold_below {w w' : World} {r : Res} {F : Nat → Prop} (h : r.inv w F) (hb : Below w.heap.size w w') : ∃ Fn, Hold w' [r] Fn ∧ Chg F w w' ∧ ∀ k, Fn k → F k ∨ w.heap.size ≤ k :=
  ⟨F, Hold.one (r.chg h (chg_below (S := fun _ => False) hb) (fun _ _ h => h)), chg_below hb, fun k hk => Or.inl hk⟩
/-- A block of cells. -/
def BlockR (q : Nat) (vs : List Value) : Res where
  inv w F := (∀ j u, vs[j]? = some u → w.cell? ⟨q, j, none⟩ = some u ∧ w.frozen? ⟨q, j, none⟩ = false) ∧ q < w.heap.size ∧ F = fun k => k = q
  lt := by rintro w F ⟨_, h, rfl⟩ k rfl; exact h
  chg := by
    rintro w w' F S ⟨h1, h2, rfl⟩ hc hS
    have k := hc.block q h2 (hS q rfl)
    refine ⟨fun j u hu => ?_, Nat.lt_of_lt_of_le h2 hc.size, rfl⟩
    exact ⟨(World.cell?_of_block (w := w) (a := ⟨q, j, none⟩) k).trans (h1 j u hu).1, (World.frozen?_of_block (w := w) (a := ⟨q, j, none⟩) k).trans (h1 j u hu).2⟩
theorem block_new (w : World) (vs : List Value) (t : TypeId) : (BlockR w.heap.size vs).inv (w.alloc (.cells vs.toArray t)) (fun k => k = w.heap.size) := by
  refine ⟨fun j u hu => ⟨?_, ?_⟩, by simp, rfl⟩
  · rw [World.cell?_alloc_new]; simpa using hu
  · rw [World.frozen?_alloc_at _ _ _ _ rfl]
end Go.Proofs.YtmjnllldjeeigaaDoor

/- A range over a bound method that tells known numbers, one a round: the law for a body that always goes on. -/
set_option linter.unusedVariables false
set_option maxRecDepth 100000
namespace Go.Proofs.YtmjnllldjeeigaaDoor
open Go.RowKit

/-- A bound method tells these numbers to whoever never says 'no more', and asks of a round that its own first block be left alone. -/
def SeqTells {P : Program} (F : Fence) (n gf : Nat) (fv : Value) (xs : List Nat) (w : World) : Prop :=
  ∀ (l : Nat) (J : Nat → World → Prop) (W : World), Below w.heap.size w W → (∀ k W1 W2, J k W1 → Below W1.heap.size W1 W2 → J k W2) →
    (∀ k W1, (hk : k < xs.length) → J k W1 → W.heap.size < W1.heap.size → YieldAt F (n - 1) P l #[.int .i64 (xs[k] : Nat)] W1 fun e W2 => e = .returned (.bool true) ∧ J (k + 1) W2 ∧ Chg (fun b => b ≠ W.heap.size) W1 W2) →
    J 0 W → CallsIn F n P gf #[fv, .func (.yield l) #[] #[]] W fun e W2 => (∃ v, e = .returned v) ∧ J xs.length W2
/-- How a round's body ends. -/
def RoundOk2 (w : World) (I : World → Prop) (W : World) : Exit → Act → World → Prop
  | .normal, _, W2 => Chg (fun b => b < w.heap.size ∨ w.heap.size + 2 < b) W W2 ∧ I W2
  | _, _, _ => False
theorem chg_put (W : World) (l : Nat) (o : Obj) : Chg (fun k => k = l) W (W.putObj l o) := ⟨rfl, rfl, rfl, by simp, fun k hk hn => World.putObj_heap_other hn⟩

theorem range_told {P : Program} {F : Fence} {n : Nat} {g : Operand} {ps : Array Tmp} {assign body : Code} {Q : Exit → Act → World → Prop} {a : Act} {w : World} (hro : F.round = none) (h1 : 1 ≤ n)
    {gf : Nat} {fv : Value} (hg : a.eval g = .func (.func gf) #[fv] #[]) (hFg : F.fn gf) (eg : ∀ args w, (callFunc gf args).run P w = .ok (.enter gf args) w)
    {xs : List Nat} (hseq : SeqTells (P := P) F (n - 1) gf fv xs w) (hps : ps.size = 1)
    (I : Nat → World → Prop) (hI1 : ∀ k W1 W2, I k W1 → Below W1.heap.size W1 W2 → I k W2)
    (hI2 : ∀ k W1 l o o2, I k W1 → w.heap.size ≤ l → W1.heap[l]? = some o → o.isCells = false → I k (W1.putObj l o2)) (h0 : I 0 w)
    (hround : ∀ (l k : Nat) (X : World), (hk : k < xs.length) → assign.wpIn (F.inRound l) (n - 1 - 1) P (Exit.then (fun a₁ w₁ => w₁ = X ∧ ∀ W, w.heap.size + 2 < W.heap.size → I k W → body.wpIn (F.inRound l) (n - 1 - 1) P (RoundOk2 w (I (k + 1)) W) a₁ W) (fun _ _ _ => False))
      { tmps := (ps.zip #[.int .i64 (xs[k] : Nat)]).foldl (fun t (p, v) => t.setIfInBounds p v) a.tmps, defers := [] } X)
    (hdone : ∀ (D : Nat) (W : World), w.heap.size ≤ D → I xs.length W → W.heap[D]? = some (.deferred (some [])) → Q .normal { a with defers := { target := .collected D, args := #[] } :: a.defers } W) :
    (Code.rangeFunc g ps assign body).wpIn F n P Q a w := by
  refine wpIn_rangeFunc fun fn hfn => ?_
  rw [hro]
  generalize hrec : (fun (st : LoopState) (pe : Option Code) => ({ state := st, pending := pe, fn, tmps := a.tmps, params := ps, assign, body, defers := w.heap.size } : Loop)) = rec
  have er : ∀ st pe, rec st pe = { state := st, pending := pe, fn, tmps := a.tmps, params := ps, assign, body, defers := w.heap.size } := fun st pe => by rw [← hrec]
  obtain ⟨W1, hW1⟩ : ∃ W1, (w.alloc (.deferred (some []))).alloc (.loop (rec .ready none)) = W1 := ⟨_, rfl⟩
  have hs1 : W1.heap.size = w.heap.size + 2 := by rw [← hW1]; simp
  have hb1 : Below w.heap.size w W1 := by rw [← hW1]; exact ((Below.refl _ w).alloc (Nat.le_refl _) _).alloc (by simp) _
  have hL1 : W1.heap[w.heap.size + 1]? = some (.loop (rec .ready none)) := by
    rw [← hW1]
    have := World.alloc_heap_new (w.alloc (.deferred (some []))) (.loop (rec .ready none))
    rwa [World.size_alloc] at this
  have hD1 : W1.heap[w.heap.size]? = some (.deferred (some [])) := by
    rw [← hW1]
    exact (Below.heap_alloc _ _ _ (by simp)).trans (World.alloc_heap_new w _)
  refine ⟨w.heap.size + 1, [{ target := .collected w.heap.size, args := #[] }], W1, { target := .fn (.func gf) #[], args := #[fv, .func (.yield (w.heap.size + 1)) #[] #[]] }, W1, gf,
    #[fv, .func (.yield (w.heap.size + 1)) #[] #[]], W1, ?_, ?_, ?_, ?_, fun _ => h1, ?_⟩
  · rw [← hW1, er]; exact run_enterLoop_outer _ _ _ _ _
  · simp only [resolve, hg]
    simp [go_sem]
  · intro f' hf'; simp [Target.leads] at hf'; subst hf'; exact hFg
  · simp [invoke, go_sem, eg]
  · refine (hseq (w.heap.size + 1) (fun k W => I k W ∧ W.heap[w.heap.size + 1]? = some (.loop (rec .ready none)) ∧ W.heap[w.heap.size]? = some (.deferred (some []))) W1 hb1 (fun k X Y hX hb => ?_) (fun k X hk hX hsz => ?_) ⟨hI1 _ _ _ h0 hb1, hL1, hD1⟩).mono ?_
    · obtain ⟨x1, x2, x3⟩ := hX
      exact ⟨hI1 _ _ _ x1 hb, (hb.block _ (Array.getElem?_eq_some_iff.1 x2).1).trans x2, (hb.block _ (Array.getElem?_eq_some_iff.1 x3).1).trans x3⟩
    · obtain ⟨x1, x2, x3⟩ := hX
      have hlt : w.heap.size + 1 < X.heap.size := (Array.getElem?_eq_some_iff.1 x2).1
      have hy := run_yield (P := P) (args := #[.int .i64 (xs[k] : Nat)]) x2 (by rw [er]; exact hps.symm)
      rw [er] at hy
      refine ⟨fn, _, assign, body, hy, roundIn_of_wpIn hfn (wpIn_mono (hround _ k X hk) ?_)⟩
      rintro e a1 w1 hp1
      cases e with
      | ret => exact hp1.elim
      | exit id => exact hp1.elim
      | goto t => exact hp1.elim
      | panic ch => exact hp1.elim
      | outgrown => exact hp1.elim
      | normal =>
      obtain ⟨rfl, hbody⟩ := hp1
      refine ⟨_, run_beginRound x2 (by rw [er]), ?_⟩
      generalize hX2 : w1.putObj (w.heap.size + 1) (.loop { rec .ready none with state := .busy }) = X2
      have c2 : Chg (fun b => b = w.heap.size + 1) w1 X2 := by rw [← hX2]; exact chg_put _ _ _
      have y2 : X2.heap[w.heap.size + 1]? = some (.loop { rec .ready none with state := .busy }) := by rw [← hX2]; exact World.putObj_heap_same hlt
      have y3 : X2.heap[w.heap.size]? = some (.deferred (some [])) := by rw [← hX2]; exact (World.putObj_heap_other (by omega)).trans x3
      have y1 : I k X2 := by rw [← hX2]; exact hI2 _ _ _ _ _ x1 (by omega) x2 rfl
      refine wpIn_mono (hbody X2 (by have := c2.size; omega) y1) ?_
      rintro e a3 X3 hp
      cases e with
      | normal =>
        obtain ⟨c3, i3⟩ := hp
        have z2 := (c3.block _ (Nat.lt_of_lt_of_le hlt c2.size) (by omega)).trans y2
        have z3 := (c3.block _ (by have := c2.size; omega) (by omega)).trans y3
        have hr := run_endRound (P := P) none z2
        have hlt3 : w.heap.size + 1 < X3.heap.size := (Array.getElem?_eq_some_iff.1 z2).1
        refine ⟨_, _, hr, rfl, ⟨hI2 _ _ _ _ _ i3 (by omega) z2 rfl, ?_, (World.putObj_heap_other (by omega)).trans z3⟩, ?_⟩
        · rw [er]
          simp only [er] at *
          exact World.putObj_heap_same hlt3
        · rw [hs1]
          exact ((c2.mono (T := fun b => b ≠ w.heap.size + 2) (fun b _ hb => by omega)).trans c3 (fun b _ hb => by omega)).trans (chg_put _ _ _) (fun b _ hb => by omega)
      | ret => exact hp.elim
      | exit id => exact hp.elim
      | goto t => exact hp.elim
      | panic ch => exact hp.elim
      | outgrown => exact hp.elim
    · rintro e X ⟨⟨v, rfl⟩, x1, x2, x3⟩
      have hend := run_endLoop (P := P) x2 (by rw [er]; simp)
      rw [er] at hend
      exact ⟨none, _, hend, hdone _ _ (Nat.le_refl _) (hI2 _ _ _ _ _ x1 (by omega) x2 rfl) ((World.putObj_heap_other (by omega)).trans x3)⟩
end Go.Proofs.YtmjnllldjeeigaaDoor

/- The plain mathematics of names and words: a text is a list of bytes; its runes, each with its bytes, from the left; folding, order and words over them. Nothing of the program is named here. -/
set_option linter.unusedVariables false
set_option maxRecDepth 100000
namespace NameMath

def byt (l : List UInt8) (k : Nat) : Nat := (l.getD k 0).toNat
theorem byt_lt (l : List UInt8) (k : Nat) : byt l k < 256 := (l.getD k 0).toNat_lt

/-- The rune that begins with some bytes (0 stands behind the end), and how many it has. -/
def d4 (b0 b1 b2 b3 : Nat) : Nat × Nat :=
  if b0 < 128 then (b0, 1)
  else if b0 / 32 = 6 ∧ b1 / 64 = 2 ∧ 128 ≤ b0 % 32 * 64 + b1 % 64 then (b0 % 32 * 64 + b1 % 64, 2)
  else if b0 / 16 = 14 ∧ b1 / 64 = 2 ∧ b2 / 64 = 2 ∧ 2048 ≤ b0 % 16 * 4096 + b1 % 64 * 64 + b2 % 64 ∧ (b0 % 16 * 4096 + b1 % 64 * 64 + b2 % 64 < 55296 ∨ 57344 ≤ b0 % 16 * 4096 + b1 % 64 * 64 + b2 % 64) then (b0 % 16 * 4096 + b1 % 64 * 64 + b2 % 64, 3)
  else if b0 / 8 = 30 ∧ b1 / 64 = 2 ∧ b2 / 64 = 2 ∧ b3 / 64 = 2 ∧ 65536 ≤ b0 % 8 * 262144 + b1 % 64 * 4096 + b2 % 64 * 64 + b3 % 64 ∧ b0 % 8 * 262144 + b1 % 64 * 4096 + b2 % 64 * 64 + b3 % 64 ≤ 1114111 then (b0 % 8 * 262144 + b1 % 64 * 4096 + b2 % 64 * 64 + b3 % 64, 4)
  else (65533, 1)

set_option maxRecDepth 100000 in
set_option maxHeartbeats 4000000 in
theorem decodeN_d4 (n b0 b1 b2 b3 : Nat) (h0 : b0 < 256) (h1 : b1 / 64 = 2 → 1 < n) (h2 : b2 / 64 = 2 → 2 < n) (h3 : b3 / 64 = 2 → 3 < n) : Go.Lib.decodeN n b0 b1 b2 b3 = d4 b0 b1 b2 b3 := by
  unfold Go.Lib.decodeN d4
  by_cases c1 : b1 / 64 = 2
  · have n1 := h1 c1
    by_cases c2 : b2 / 64 = 2
    · have n2 := h2 c2
      by_cases c3 : b3 / 64 = 2
      · have n3 := h3 c3
        simp only [c1, c2, c3, n1, n2, n3, true_and, and_true]
        repeat' split
        all_goals first | rfl | (exfalso; omega)
      · simp only [c1, c2, c3, n1, n2, true_and, and_true, false_and, and_false, if_false]
        repeat' split
        all_goals first | rfl | (exfalso; omega)
    · simp only [c1, c2, n1, true_and, and_true, false_and, and_false, if_false]
      repeat' split
      all_goals first | rfl | (exfalso; omega)
  · simp only [c1, false_and, and_false, if_false]

def dec (l : List UInt8) : Nat × Nat := d4 (byt l 0) (byt l 1) (byt l 2) (byt l 3)

theorem byt_len (l : List UInt8) (k : Nat) (h : byt l k / 64 = 2) : k < l.length := by
  rcases Nat.lt_or_ge k l.length with h' | h'
  · exact h'
  · simp [byt, List.getD, List.getElem?_eq_none h'] at h
theorem byt_drop (l : List UInt8) (i k : Nat) : byt (l.drop i) k = byt l (i + k) := by
  simp [byt, List.getD, List.getElem?_drop]
theorem get_byt (s : ByteArray) (i : Nat) : (s.get! i).toNat = byt s.data.toList i := by
  unfold byt
  have e : s.get! i = s.data[i]! := rfl
  rw [e]
  by_cases h : i < s.data.size
  · rw [getElem!_pos s.data i h]
    have : s.data[i]? = some s.data[i] := Array.getElem?_eq_getElem h
    simp [List.getD, this]
  · rw [getElem!_neg s.data i h]
    have : s.data[i]? = none := Array.getElem?_eq_none (by omega)
    simp [List.getD, this]
    rfl
theorem decode_dec (s : ByteArray) (i : Nat) : Go.Utf8.decode s i = dec (s.data.toList.drop i) := by
  rw [Go.Lib.decode_at, get_byt, get_byt, get_byt, get_byt]
  unfold dec
  rw [byt_drop, byt_drop, byt_drop, byt_drop, Nat.add_zero]
  have hl : s.data.toList.length = s.size := Array.length_toList
  exact decodeN_d4 _ _ _ _ _ (byt_lt _ _) (fun h => by have := byt_len _ _ h; omega) (fun h => by have := byt_len _ _ h; omega) (fun h => by have := byt_len _ _ h; omega)

theorem d4_w (b0 b1 b2 b3 : Nat) : 1 ≤ (d4 b0 b1 b2 b3).2 ∧ (d4 b0 b1 b2 b3).2 ≤ 4 := by
  unfold d4
  repeat' split
  all_goals simp
theorem dec_pos (l : List UInt8) : 1 ≤ (dec l).2 := (d4_w _ _ _ _).1
theorem dec_le (l : List UInt8) (h : l ≠ []) : (dec l).2 ≤ l.length := by
  have hl : 0 < l.length := List.length_pos_iff.2 h
  unfold dec d4
  repeat' split
  · simp; omega
  · rename_i h2; have := byt_len l 1 h2.2.1; simp; omega
  · rename_i h2; have := byt_len l 2 h2.2.2.1; simp; omega
  · rename_i h2; have := byt_len l 3 h2.2.2.2.1; simp; omega
  · simp; omega
theorem dec_max (l : List UInt8) : (dec l).1 ≤ 1114111 := by
  have h0 := byt_lt l 0
  unfold dec d4
  repeat' split
  all_goals simp <;> omega

/-- The runes of a text, each with its bytes. -/
def cutF : Nat → List UInt8 → List (Nat × List UInt8)
  | 0, _ => []
  | f + 1, l => if l = [] then [] else ((dec l).1, l.take (dec l).2) :: cutF f (l.drop (dec l).2)
def cut (l : List UInt8) : List (Nat × List UInt8) := cutF l.length l
theorem cutF_eq : ∀ (f g : Nat) (l : List UInt8), l.length ≤ f → l.length ≤ g → cutF f l = cutF g l
  | 0, g, l, h, _ => by
    have : l = [] := List.eq_nil_of_length_eq_zero (by omega)
    subst this
    cases g <;> simp [cutF]
  | f + 1, 0, l, _, h => by
    have : l = [] := List.eq_nil_of_length_eq_zero (by omega)
    subst this
    simp [cutF]
  | f + 1, g + 1, l, h1, h2 => by
    by_cases h : l = []
    · subst h; simp [cutF]
    · have hp := dec_pos l
      have hl : 0 < l.length := List.length_pos_iff.2 h
      have := cutF_eq f g (l.drop (dec l).2) (by simp; omega) (by simp; omega)
      simp [cutF, h, this]
theorem cut_nil : cut [] = [] := rfl
theorem cut_cons (l : List UInt8) (h : l ≠ []) : cut l = ((dec l).1, l.take (dec l).2) :: cut (l.drop (dec l).2) := by
  have hp := dec_pos l
  have hl : 0 < l.length := List.length_pos_iff.2 h
  unfold cut
  obtain ⟨n, hn⟩ : ∃ n, l.length = n + 1 := ⟨l.length - 1, by omega⟩
  rw [hn]
  show (if l = [] then [] else ((dec l).1, l.take (dec l).2) :: cutF n (l.drop (dec l).2)) = _
  rw [if_neg h, cutF_eq n (l.drop (dec l).2).length _ (by simp; omega) (Nat.le_refl _)]
def runes (l : List UInt8) : List Nat := (cut l).map (·.1)
theorem runes_nil : runes [] = [] := rfl
theorem runes_cons (l : List UInt8) (h : l ≠ []) : runes l = (dec l).1 :: runes (l.drop (dec l).2) := by
  unfold runes; rw [cut_cons l h]; rfl
def flat (ps : List (Nat × List UInt8)) : List UInt8 := (ps.map (·.2)).flatten
/-- Induction along the runes. -/
theorem byRunes {P : List UInt8 → Prop} (h0 : P []) (h1 : ∀ l, l ≠ [] → P (l.drop (dec l).2) → P l) : ∀ l, P l := by
  intro l
  induction hn : l.length using Nat.strongRecOn generalizing l with
  | _ n ih =>
    by_cases h : l = []
    · subst h; exact h0
    · have hp := dec_pos l
      have hl : 0 < l.length := List.length_pos_iff.2 h
      exact h1 l h (ih (l.drop (dec l).2).length (by simp; omega) _ rfl)
theorem flat_cut : ∀ l, flat (cut l) = l := by
  apply byRunes
  · rfl
  · intro l h ih
    rw [cut_cons l h]
    show l.take (dec l).2 ++ flat (cut (l.drop (dec l).2)) = l
    rw [ih, List.take_append_drop]
end NameMath

/- What the calls of package name answer, over the runes of a text. -/
set_option linter.unusedVariables false
set_option maxRecDepth 100000
namespace NameMath

def small (r : Nat) : Bool := decide ((97 ≤ r ∧ r ≤ 122) ∨ r = 228 ∨ r = 246 ∨ r = 252 ∨ r = 223 ∨ (945 ≤ r ∧ r ≤ 969))
def dig (r : Nat) : Bool := decide ((48 ≤ r ∧ r ≤ 57) ∨ r = 45)
def great (r : Nat) : Bool := decide ((65 ≤ r ∧ r ≤ 90) ∨ r = 196 ∨ r = 214 ∨ r = 220 ∨ (913 ≤ r ∧ r ≤ 937 ∧ r ≠ 930))
def low (r : Nat) : Nat := if great r then r + 32 else r
def blank (r : Nat) : Bool := decide (r = 9 ∨ r = 32 ∨ r = 160 ∨ r = 8195)

/-- Is, as the program goes. -/
def isGo : List Nat → Nat → Bool
  | [], n => decide (0 < n)
  | r :: l, n => if small r = false ∧ (n = 0 ∨ dig r = false) then false else if 8 < n + 1 then false else isGo l (n + 1)
/-- Is, as the document's answer goes. -/
def isRef : List Nat → Nat → Bool
  | [], n => decide (1 ≤ n ∧ n ≤ 8)
  | r :: l, n => if small r = false ∧ (n = 0 ∨ dig r = false) then false else isRef l (n + 1)
theorem isRef_far : ∀ (l : List Nat) (n : Nat), 8 < n → isRef l n = false
  | [], n, h => by simp [isRef]; omega
  | r :: l, n, h => by
    have := isRef_far l (n + 1) (by omega)
    simp [isRef, this]
theorem isRef_go : ∀ (l : List Nat) (n : Nat), n ≤ 8 → isRef l n = isGo l n
  | [], n, h => by unfold isRef isGo; rw [decide_eq_decide]; omega
  | r :: l, n, h => by
    unfold isRef isGo
    by_cases h8 : 8 < n + 1
    · have := isRef_far l (n + 1) h8
      simp [h8, this]
    · simp [h8, isRef_go l (n + 1) (by omega)]

def own (a : Nat) : List Nat → Nat
  | [] => a
  | r :: l => own ((a + r) % 4) l

def cmp : List Nat → List Nat → Int
  | [], [] => 0
  | [], _ :: _ => -1
  | _ :: _, [] => 1
  | x :: a, y :: b => if x < y then -1 else if y < x then 1 else cmp a b

/-- Words: what was gathered since the last blank, and the runes to come. -/
def wd : List (Nat × List UInt8) → List UInt8 → List (List UInt8)
  | [], acc => if acc = [] then [] else [acc]
  | p :: ps, acc => if blank p.1 then (if acc = [] then wd ps [] else acc :: wd ps []) else wd ps (acc ++ p.2)
def words (l : List UInt8) : List (List UInt8) := wd (cut l) []

def enc (r : Nat) : List UInt8 := if r < 128 then [UInt8.ofNat r] else [UInt8.ofNat (192 + r / 64), UInt8.ofNat (128 + r % 64)]
def fold1 (p : Nat × List UInt8) : List UInt8 := if low p.1 = p.1 then p.2 else enc (low p.1)
def fold (l : List UInt8) : List UInt8 := ((cut l).map fold1).flatten
theorem fold_nil : fold [] = [] := rfl
theorem fold_cons (l : List UInt8) (h : l ≠ []) : fold l = fold1 ((dec l).1, l.take (dec l).2) ++ fold (l.drop (dec l).2) := by
  unfold fold; rw [cut_cons l h]; rfl
end NameMath

/- The walks of package name's small functions, and of the document's. -/
set_option maxRecDepth 100000
namespace Go.Proofs.YtmjnllldjeeigaaDoor.Nm
open Go.RowKit

theorem ret_bool {a b : Bool} (h : a = b) : Ending.returned (.bool a) = .returned (.bool b) := by rw [h]
theorem ret_int {k : IntKind} {a b : Int} (h : a = b) : Ending.returned (.int k a) = .returned (.int k b) := by rw [h]

set_option maxHeartbeats 1000000 in
theorem smallLetter_any (r : Nat) (hr : r ≤ 1114111) (w : World) :
    Calls Tryd.prog 69 #[.int .i32 (r : Int)] w fun e w' => e = .returned (.bool (NameMath.small r)) ∧ w' = w := by
  go_enter Tryd.func69, Tryd.ntmps69
  go_wp2
  all_goals go_ret
  all_goals go_light
  all_goals refine ⟨ret_bool ?_, rfl⟩
  all_goals try simp only [beq_iff_eq, beq_eq_false_iff_ne, ne_eq] at *
  all_goals unfold NameMath.small
  all_goals rw [Bool.eq_iff_iff]
  all_goals first | (simp; omega) | (simp; done)

set_option maxHeartbeats 1000000 in
theorem digitOrHyphen_any (r : Nat) (hr : r ≤ 1114111) (w : World) :
    Calls Tryd.prog 70 #[.int .i32 (r : Int)] w fun e w' => e = .returned (.bool (NameMath.dig r)) ∧ w' = w := by
  go_enter Tryd.func70, Tryd.ntmps70
  go_wp2
  all_goals go_ret
  all_goals go_light
  all_goals refine ⟨ret_bool ?_, rfl⟩
  all_goals try simp only [beq_iff_eq, beq_eq_false_iff_ne, ne_eq] at *
  all_goals unfold NameMath.dig
  all_goals rw [Bool.eq_iff_iff]
  all_goals first | (simp; omega) | (simp; done)

set_option maxHeartbeats 1000000 in
theorem letter_any (r : Nat) (hr : r ≤ 1114111) (w : World) :
    Calls Tryd.prog 54 #[.int .i64 (r : Int)] w fun e w' => e = .returned (.bool (NameMath.small r)) ∧ w' = w := by
  go_enter Tryd.func54, Tryd.ntmps54
  go_wp2
  all_goals go_ret
  all_goals go_light
  all_goals refine ⟨ret_bool ?_, rfl⟩
  all_goals try simp only [beq_iff_eq, beq_eq_false_iff_ne, ne_eq] at *
  all_goals unfold NameMath.small
  all_goals rw [Bool.eq_iff_iff]
  all_goals first | (simp; omega) | (simp; done)
end Go.Proofs.YtmjnllldjeeigaaDoor.Nm
/- The walks of Is, Owner and what they call, in package name. -/
set_option linter.unusedVariables false
set_option maxRecDepth 100000
namespace Go.Proofs.YtmjnllldjeeigaaDoor.Nm
open Go.RowKit

/-- What a range over a text gives at a place: the rune, and the place behind it. -/
theorem next_at (s : ByteArray) (pos : Nat) (h : pos < s.size) : ∃ r k : Nat, r ≤ 1114111 ∧ 1 ≤ k ∧ pos + k ≤ s.size ∧
    NameMath.dec (s.data.toList.drop pos) = (r, k) ∧ s.data.toList.drop pos ≠ [] ∧ NameMath.runes (s.data.toList.drop pos) = r :: NameMath.runes (s.data.toList.drop (pos + k)) ∧
    NameMath.cut (s.data.toList.drop pos) = (r, (s.data.toList.drop pos).take k) :: NameMath.cut (s.data.toList.drop (pos + k)) ∧
    (Utf8.decode s pos).1 = r ∧ (Utf8.decode s pos).2 = k := by
  have hl : s.data.toList.length = s.size := Array.length_toList
  have hne : s.data.toList.drop pos ≠ [] := by
    intro e
    have := congrArg List.length e
    simp at this
    omega
  have hle := NameMath.dec_le _ hne
  rw [List.length_drop] at hle
  have hd := NameMath.decode_dec s pos
  refine ⟨(NameMath.dec (s.data.toList.drop pos)).1, (NameMath.dec (s.data.toList.drop pos)).2, NameMath.dec_max _, NameMath.dec_pos _, by omega, rfl, hne, ?_, ?_, by rw [hd], by rw [hd]⟩
  · rw [NameMath.runes_cons _ hne, List.drop_drop]
  · rw [NameMath.cut_cons _ hne, List.drop_drop]
theorem drop_end (s : ByteArray) (pos : Nat) (h : ¬ pos < s.size) : s.data.toList.drop pos = [] := by
  have hl : s.data.toList.length = s.size := Array.length_toList
  exact List.drop_of_length_le (by omega)
theorem below_iter (w : World) (s : ByteArray) (p : Nat) : Below w.heap.size w (w.iter s p) := (Below.refl _ w).alloc (Nat.le_refl _) _

set_option maxHeartbeats 1000000 in
theorem is_any (s : ByteArray) (w : World) :
    Calls Tryd.prog 61 #[.string s] w fun e w' => e = .returned (.bool (NameMath.isGo (NameMath.runes s.data.toList) 0)) ∧ Below w.heap.size w w' := by
  go_enter Tryd.func61, Tryd.ntmps61
  go_wp2
  go_loopw [3] (fun n wr => ∃ pos m : Nat, wr = w.iter s pos ∧ pos ≤ s.size ∧ n = .int .i64 m ∧ m ≤ 8 ∧ Hid (NameMath.isGo (NameMath.runes s.data.toList) 0 = NameMath.isGo (NameMath.runes (s.data.toList.drop pos)) m)) (fun _ wr => s.size - wr.iterPos w.heap.size)
  case atStart => exact ⟨0, 0, rfl, Nat.zero_le _, rfl, by omega, rfl⟩
  case round =>
    obtain ⟨pos, m, rfl, hpos, rfl, hm, HI⟩ := hrel
    by_cases hlt : pos < s.size
    · obtain ⟨r, k, hr, hk1, hk2, hdec, hne, hrun, hcut, hd1, hd2⟩ := next_at s pos hlt
      have hnx := fun ty => run_next_any (P := Tryd.prog) w s pos ty hlt
      rw [hd1, hd2] at hnx
      rw [hrun] at HI
      clear hrun hcut hdec hd1 hd2
      by_cases hs1 : NameMath.small r = true
      · have HE : Hid (m < 8 → NameMath.isGo (NameMath.runes s.data.toList) 0 = NameMath.isGo (NameMath.runes (s.data.toList.drop (pos + k))) (m + 1)) := fun hm8 => by
          rw [HI.out, NameMath.isGo, if_neg (by rw [hs1]; simp), if_neg (by omega)]
        have HF : Hid (¬ m < 8 → NameMath.isGo (NameMath.runes s.data.toList) 0 = false) := fun hm8 => by
          rw [HI.out, NameMath.isGo, if_neg (by rw [hs1]; simp), if_pos (by omega)]
        clear HI
        by_cases hm8 : m < 8
        · go_wp2_with (go_at_call 69; refine (smallLetter_any r hr _).mono ?_; rintro e w' ⟨rfl, rfl⟩)
          exact ⟨⟨pos + k, m + 1, rfl, hk2, by go_num, by omega, HE.out hm8⟩, by simp; omega⟩
        · go_wp2_with (go_at_call 69; refine (smallLetter_any r hr _).mono ?_; rintro e w' ⟨rfl, rfl⟩)
          go_ret
          exact ⟨ret_bool (HF.out hm8).symm, below_iter _ _ _⟩
      · have hs0 : NameMath.small r = false := by simpa using hs1
        by_cases hbad : m = 0 ∨ NameMath.dig r = false
        · have HE : Hid (NameMath.isGo (NameMath.runes s.data.toList) 0 = false) := by show _ = _; rw [HI.out, NameMath.isGo, if_pos ⟨hs0, hbad⟩]
          clear HI hs1
          rcases hbad with h2 | h2
          · subst h2
            go_wp2_with (go_at_call 69; refine (smallLetter_any r hr _).mono ?_; rintro e w' ⟨rfl, rfl⟩)
            go_ret
            exact ⟨ret_bool HE.out.symm, below_iter _ _ _⟩
          · by_cases hm0 : m = 0
            · subst hm0
              go_wp2_with (first | (go_at_call 69; refine (smallLetter_any r hr _).mono ?_; rintro e w' ⟨rfl, rfl⟩) | (go_at_call 70; refine (digitOrHyphen_any r hr _).mono ?_; rintro e w' ⟨rfl, rfl⟩))
              go_ret
              exact ⟨ret_bool HE.out.symm, below_iter _ _ _⟩
            · have hm0' : ((m : Int) == 0) = false := beq_eq_false_iff_ne.2 (by omega)
              go_wp2_with (first | (go_at_call 69; refine (smallLetter_any r hr _).mono ?_; rintro e w' ⟨rfl, rfl⟩) | (go_at_call 70; refine (digitOrHyphen_any r hr _).mono ?_; rintro e w' ⟨rfl, rfl⟩))
              go_ret
              exact ⟨ret_bool HE.out.symm, below_iter _ _ _⟩
        · have hm0 : m ≠ 0 := fun h => hbad (.inl h)
          have hdg : NameMath.dig r = true := by
            cases h : NameMath.dig r with
            | true => rfl
            | false => exact absurd (.inr h) hbad
          have HE : Hid (m < 8 → NameMath.isGo (NameMath.runes s.data.toList) 0 = NameMath.isGo (NameMath.runes (s.data.toList.drop (pos + k))) (m + 1)) := fun hm8 => by
            rw [HI.out, NameMath.isGo, if_neg (fun h => hbad h.2), if_neg (by omega)]
          have HF : Hid (¬ m < 8 → NameMath.isGo (NameMath.runes s.data.toList) 0 = false) := fun hm8 => by
            rw [HI.out, NameMath.isGo, if_neg (fun h => hbad h.2), if_pos (by omega)]
          have hm0' : ((m : Int) == 0) = false := beq_eq_false_iff_ne.2 (by omega)
          clear HI hbad hs1
          by_cases hm8 : m < 8
          · go_wp2_with (first | (go_at_call 69; refine (smallLetter_any r hr _).mono ?_; rintro e w' ⟨rfl, rfl⟩) | (go_at_call 70; refine (digitOrHyphen_any r hr _).mono ?_; rintro e w' ⟨rfl, rfl⟩))
            exact ⟨⟨pos + k, m + 1, rfl, hk2, by go_num, by omega, HE.out hm8⟩, by simp; omega⟩
          · go_wp2_with (first | (go_at_call 69; refine (smallLetter_any r hr _).mono ?_; rintro e w' ⟨rfl, rfl⟩) | (go_at_call 70; refine (digitOrHyphen_any r hr _).mono ?_; rintro e w' ⟨rfl, rfl⟩))
            go_ret
            exact ⟨ret_bool (HF.out hm8).symm, below_iter _ _ _⟩
    · have hnx := fun ty => run_next_end (P := Tryd.prog) w s pos ty hlt
      rw [drop_end s pos hlt] at HI
      go_wp2
      go_ret
      refine ⟨ret_bool ?_, below_iter _ _ _⟩
      rw [HI.out]
      simp [NameMath.isGo, NameMath.runes_nil]

set_option maxHeartbeats 1000000 in
theorem owner_any (s : ByteArray) (w : World) :
    Calls Tryd.prog 80 #[.string s] w fun e w' => e = .returned (.int .i64 ((NameMath.own 0 (NameMath.runes s.data.toList) : Nat) : Int)) ∧ Below w.heap.size w w' := by
  go_enter Tryd.func80, Tryd.ntmps80
  go_wp2
  go_loopw [3] (fun n wr => ∃ pos m : Nat, wr = w.iter s pos ∧ pos ≤ s.size ∧ n = .int .i64 m ∧ m ≤ 3 ∧ Hid (NameMath.own 0 (NameMath.runes s.data.toList) = NameMath.own m (NameMath.runes (s.data.toList.drop pos)))) (fun _ wr => s.size - wr.iterPos w.heap.size)
  case atStart => exact ⟨0, 0, rfl, Nat.zero_le _, rfl, by omega, rfl⟩
  case round =>
    obtain ⟨pos, m, rfl, hpos, rfl, hm, HI⟩ := hrel
    by_cases hlt : pos < s.size
    · obtain ⟨r, k, hr, hk1, hk2, hdec, hne, hrun, hcut, hd1, hd2⟩ := next_at s pos hlt
      have hnx := fun ty => run_next_any (P := Tryd.prog) w s pos ty hlt
      rw [hd1, hd2] at hnx
      rw [hrun] at HI
      clear hrun hcut hdec hd1 hd2 hne
      go_wp2
      exact ⟨⟨pos + k, (m + r) % 4, rfl, hk2, by go_num, by omega, HI⟩, by simp; omega⟩
    · have hnx := fun ty => run_next_end (P := Tryd.prog) w s pos ty hlt
      rw [drop_end s pos hlt] at HI
      go_wp2
      go_ret
      refine ⟨ret_int ?_, below_iter _ _ _⟩
      rw [HI.out]
      simp [NameMath.own, NameMath.runes_nil]
end Go.Proofs.YtmjnllldjeeigaaDoor.Nm
/- The contracts of the library's calls that the program makes, laid at this translation out of the library's own theorems. -/
namespace Go.Proofs
open Go.Shelf
def Tryd.lays260_ren : Go.Shelf.Ren := ⟨fun | 260 => 89 | n => n, fun | 9 => 9 | 21 => 21 | 3 => 3 | 4 => 4 | 5 => 5 | 119 => 95 | 0 => 0 | 46 => 46 | 139 => 98 | 138 => 97 | n => n, fun | 3 => 0 | 4 => 1 | n => n⟩
theorem Tryd.lays260 : Go.Proofs.Lays.n260 Tryd.prog Tryd.lays260_ren := {
  mixed := by kernel_rfl
  f260 := Tryd.func89.trans (congrArg some (by kernel_rfl))
  t0 := Tryd.underlying0
  a0 := Tryd.isAgg0
  z0 := Tryd.sizeOf0
  v0 := Tryd.zeroValue0
  t3 := Tryd.underlying3
  a3 := Tryd.isAgg3
  z3 := Tryd.sizeOf3
  v3 := Tryd.zeroValue3
  t4 := Tryd.underlying4
  a4 := Tryd.isAgg4
  z4 := Tryd.sizeOf4
  v4 := Tryd.zeroValue4
  t5 := Tryd.underlying5
  a5 := Tryd.isAgg5
  z5 := Tryd.sizeOf5
  v5 := Tryd.zeroValue5
  t9 := Tryd.underlying9
  a9 := Tryd.isAgg9
  z9 := Tryd.sizeOf9
  v9 := Tryd.zeroValue9
  t21 := Tryd.underlying21
  a21 := Tryd.isAgg21
  z21 := Tryd.sizeOf21
  v21 := Tryd.zeroValue21
  t46 := Tryd.underlying46
  a46 := Tryd.isAgg46
  z46 := Tryd.sizeOf46
  v46 := Tryd.zeroValue46
  t119 := Tryd.underlying95
  a119 := Tryd.isAgg95
  z119 := Tryd.sizeOf95
  t138 := Tryd.underlying97
  a138 := Tryd.isAgg97
  z138 := Tryd.sizeOf97
  v138 := Tryd.zeroValue97
  t139 := Tryd.underlying98
  a139 := Tryd.isAgg98
  z139 := Tryd.sizeOf98
  v139 := Tryd.zeroValue98
  g3 := by kernel_rfl
  g4 := by kernel_rfl }
open Go.RowKit Go.Lib in
theorem Tryd.utf8_decodeRuneInStringSlow (s : ByteArray) (w : World) (hT : Lib.Utf8Tabs 0 1 w) :
    Calls Tryd.prog 89 #[.string s] w fun e w' => e = .returned (.tuple #[.int .i32 (Lib.decodeGo s).1, .int .i64 (Lib.decodeGo s).2]) ∧ Below w.heap.size w w' := Any.utf8_decodeRuneInStringSlow Tryd.lays260 s w hT
def Tryd.lays197_ren : Go.Shelf.Ren := ⟨fun | 197 => 86 | 260 => 89 | n => n, fun | 9 => 9 | 21 => 21 | 3 => 3 | 4 => 4 | 5 => 5 | 105 => 90 | 119 => 95 | 0 => 0 | 46 => 46 | 139 => 98 | 138 => 97 | n => n, fun | 3 => 0 | 4 => 1 | n => n⟩
theorem Tryd.lays197 : Go.Proofs.Lays.n197 Tryd.prog Tryd.lays197_ren := {
  mixed := by kernel_rfl
  f197 := Tryd.func86.trans (congrArg some (by kernel_rfl))
  f260 := Tryd.func89.trans (congrArg some (by kernel_rfl))
  t0 := Tryd.underlying0
  a0 := Tryd.isAgg0
  z0 := Tryd.sizeOf0
  v0 := Tryd.zeroValue0
  t3 := Tryd.underlying3
  a3 := Tryd.isAgg3
  z3 := Tryd.sizeOf3
  v3 := Tryd.zeroValue3
  t4 := Tryd.underlying4
  a4 := Tryd.isAgg4
  z4 := Tryd.sizeOf4
  v4 := Tryd.zeroValue4
  t5 := Tryd.underlying5
  a5 := Tryd.isAgg5
  z5 := Tryd.sizeOf5
  v5 := Tryd.zeroValue5
  t9 := Tryd.underlying9
  a9 := Tryd.isAgg9
  z9 := Tryd.sizeOf9
  v9 := Tryd.zeroValue9
  t21 := Tryd.underlying21
  a21 := Tryd.isAgg21
  z21 := Tryd.sizeOf21
  v21 := Tryd.zeroValue21
  t46 := Tryd.underlying46
  a46 := Tryd.isAgg46
  z46 := Tryd.sizeOf46
  v46 := Tryd.zeroValue46
  t105 := Tryd.underlying90
  a105 := Tryd.isAgg90
  z105 := Tryd.sizeOf90
  v105 := Tryd.zeroValue90
  t119 := Tryd.underlying95
  a119 := Tryd.isAgg95
  z119 := Tryd.sizeOf95
  t138 := Tryd.underlying97
  a138 := Tryd.isAgg97
  z138 := Tryd.sizeOf97
  v138 := Tryd.zeroValue97
  t139 := Tryd.underlying98
  a139 := Tryd.isAgg98
  z139 := Tryd.sizeOf98
  v139 := Tryd.zeroValue98
  g3 := by kernel_rfl
  g4 := by kernel_rfl }
open Go.RowKit Go.Lib in
theorem Tryd.utf8_DecodeRuneInString (s : ByteArray) (w : World) (hT : Lib.Utf8Tabs 0 1 w) :
    Calls Tryd.prog 86 #[.string s] w fun e w' => e = .returned (.tuple #[.int .i32 (Lib.decodeGo s).1, .int .i64 (Lib.decodeGo s).2]) ∧ Below w.heap.size w w' := Any.utf8_DecodeRuneInString Tryd.lays197 s w hT
end Go.Proofs

/- The walk of Compare, in package name. -/
set_option linter.unusedVariables false
set_option maxRecDepth 100000
namespace Go.Proofs.YtmjnllldjeeigaaDoor.Nm
open Go.RowKit

/-- The library's two tables lie in the world. -/
abbrev Tabs (w : World) : Prop := Lib.Utf8Tabs 0 1 w

theorem toList_data (s : ByteArray) : s.toList = s.data.toList := Lib.toList_data s
theorem data_nil (c : ByteArray) (h : c.size = 0) : c.data.toList = [] := List.eq_nil_of_length_eq_zero ((Array.length_toList (xs := c.data)).trans h)
theorem empty_yes (c : ByteArray) (h : c.size = 0) : c.toList.isEmpty = true := by rw [toList_data, data_nil c h]; rfl
theorem empty_no (c : ByteArray) (h : c.size ≠ 0) : c.toList.isEmpty = false := by
  rw [toList_data]
  cases e : c.data.toList with
  | nil =>
    have : c.data.toList.length = c.size := Array.length_toList
    rw [e] at this
    exact absurd this.symm h
  | cons x l => rfl
theorem cmp_nil_cons (y : Nat) (b : List Nat) : NameMath.cmp [] (y :: b) = -1 := rfl

/-- What DecodeRuneInString answers at a text that is not empty. -/
theorem decode_at0 (s : ByteArray) (h : 0 < s.size) : ∃ r k : Nat, r ≤ 1114111 ∧ 1 ≤ k ∧ k ≤ s.size ∧ (Lib.decodeGo s).1 = r ∧ (Lib.decodeGo s).2 = k ∧
    NameMath.runes s.data.toList = r :: NameMath.runes (s.extract k s.size).data.toList := by
  obtain ⟨r, k, hr, hk1, hk2, hdec, hne, hrun, hcut, hd1, hd2⟩ := next_at s 0 h
  refine ⟨r, k, hr, hk1, by omega, ?_, ?_, ?_⟩
  · unfold Lib.decodeGo; rw [if_neg (by omega)]; exact hd1
  · unfold Lib.decodeGo; rw [if_neg (by omega)]; exact hd2
  · rw [List.drop_zero, Nat.zero_add] at hrun
    rw [hrun]
    congr 2
    have hl : s.data.toList.length = s.size := Array.length_toList
    simp [ByteArray.data_extract, Array.toList_extract, List.extract]
    rw [List.take_of_length_le (by simp)]

set_option maxHeartbeats 1000000 in
theorem compare_any (a b : ByteArray) (hb : b.size ≤ 140737488355328) (w : World) (hT : Tabs w) :
    Calls Tryd.prog 81 #[.string a, .string b] w fun e w' => e = .returned (.int .i64 (NameMath.cmp (NameMath.runes a.data.toList) (NameMath.runes b.data.toList))) ∧ Below w.heap.size w w' := by
  go_enter Tryd.func81, Tryd.ntmps81
  go_wp2
  go_loopw [5] (fun t wr => ∃ (pos : Nat) (c : ByteArray), wr.heap[w.heap.size]? = some (.stringIter a pos) ∧ pos ≤ a.size ∧ t = .string c ∧ c.size ≤ 140737488355328 ∧ Below w.heap.size w wr ∧
      Hid (NameMath.cmp (NameMath.runes a.data.toList) (NameMath.runes b.data.toList) = NameMath.cmp (NameMath.runes (a.data.toList.drop pos)) (NameMath.runes c.data.toList))) (fun _ wr => a.size - wr.iterPos w.heap.size)
  case atStart => exact ⟨0, b, World.iter_heap w a 0, Nat.zero_le _, rfl, hb, below_iter _ _ _, rfl⟩
  case round =>
    obtain ⟨pos, c, hit, hpos, rfl, hc, hbw, HI⟩ := hrel
    have hme : wr.iterPos w.heap.size = pos := by simp [World.iterPos, hit]
    by_cases hlt : pos < a.size
    · obtain ⟨r, k, hr, hk1, hk2, hdec, hne, hrun, hcut, hd1, hd2⟩ := next_at a pos hlt
      have hnx := fun ty => Lib.run_next_any_at (P := Tryd.prog) wr w.heap.size a pos ty hit hlt
      rw [hd1, hd2] at hnx
      rw [hrun] at HI
      have hit2 := Lib.iterAt_heap wr w.heap.size a pos (pos + k) hit
      have hb2 := Lib.below_iterAt hbw (Nat.le_refl _) a (pos + k)
      clear hrun hcut hdec hd1 hd2 hne
      have hz : w.heap.size < (wr.iterAt w.heap.size a (pos + k)).heap.size := (Array.getElem?_eq_some_iff.1 hit2).1
      generalize wr.iterAt w.heap.size a (pos + k) = w2 at *
      have hT2 : Tabs w2 := Utf8Tabs_below hT hb2
      by_cases h0 : c.size = 0
      · have hempty : c.toList.isEmpty = true := empty_yes c h0
        have hnil : c.data.toList = [] := data_nil c h0
        have HE : Hid (NameMath.cmp (NameMath.runes a.data.toList) (NameMath.runes b.data.toList) = 1) := by show _ = _; rw [HI.out, hnil]; rfl
        clear HI hnil hme
        go_wp2_with fail
        go_ret
        exact ⟨ret_int HE.out.symm, hb2⟩
      · have hempty : c.toList.isEmpty = false := empty_no c h0
        obtain ⟨r2, k2, hr2, hj1, hj2, he1, he2, hrun2⟩ := decode_at0 c (by omega)
        have hcall := Tryd.utf8_DecodeRuneInString c w2 hT2
        rw [he1, he2] at hcall
        rw [hrun2] at HI
        clear hrun2 he1 he2
        have HCL : Hid (Calls Tryd.prog 86 #[.string c] w2 fun e w' => e = .returned (.tuple #[.int .i32 (r2 : Int), .int .i64 (k2 : Int)]) ∧ Below w2.heap.size w2 w') := hcall
        clear hcall
        by_cases h1 : r < r2
        · have HE : Hid (NameMath.cmp (NameMath.runes a.data.toList) (NameMath.runes b.data.toList) = -1) := by show _ = _; rw [HI.out, NameMath.cmp, if_pos h1]
          clear HI
          go_wp2_with fail
          refine HCL.out.mono ?_
          rintro e w3 ⟨rfl, hb3⟩
          go_wp2_with fail
          go_ret
          exact ⟨ret_int HE.out.symm, hb2.trans (hb3.mono hb2.size)⟩
        · by_cases h2 : r2 < r
          · have HE : Hid (NameMath.cmp (NameMath.runes a.data.toList) (NameMath.runes b.data.toList) = 1) := by show _ = _; rw [HI.out, NameMath.cmp, if_neg h1, if_pos h2]
            clear HI
            go_wp2_with fail
            refine HCL.out.mono ?_
            rintro e w3 ⟨rfl, hb3⟩
            go_wp2_with fail
            go_ret
            exact ⟨ret_int HE.out.symm, hb2.trans (hb3.mono hb2.size)⟩
          · have HE : Hid (NameMath.cmp (NameMath.runes a.data.toList) (NameMath.runes b.data.toList) = NameMath.cmp (NameMath.runes (a.data.toList.drop (pos + k))) (NameMath.runes (c.extract k2 c.size).data.toList)) := by show _ = _; rw [HI.out, NameMath.cmp, if_neg h1, if_neg h2]
            clear HI
            go_wp2_with fail
            refine HCL.out.mono ?_
            rintro e w3 ⟨rfl, hb3⟩
            go_wp2_with fail
            have hit3 : w3.heap[w.heap.size]? = some (.stringIter a (pos + k)) := (hb3.block _ hz).trans hit2
            have hm3 : w3.iterPos w.heap.size = pos + k := by simp [World.iterPos, hit3]
            exact ⟨⟨pos + k, _, hit3, hk2, rfl, by simp; omega, hb2.trans (hb3.mono hb2.size), HE⟩, by rw [hm3, hme]; omega⟩
    · have hnx := fun ty => Lib.run_next_end_at (P := Tryd.prog) wr w.heap.size a pos ty hit hlt
      rw [drop_end a pos hlt] at HI
      by_cases h0 : c.size = 0
      · have hempty : c.toList.isEmpty = true := empty_yes c h0
        have hnil : c.data.toList = [] := data_nil c h0
        have HE : Hid (NameMath.cmp (NameMath.runes a.data.toList) (NameMath.runes b.data.toList) = 0) := by show _ = _; rw [HI.out, hnil]; rfl
        clear HI hnil hme
        go_wp2_with fail
        go_ret
        exact ⟨ret_int HE.out.symm, hbw⟩
      · have hempty : c.toList.isEmpty = false := empty_no c h0
        obtain ⟨r2, k2, hr2, hj1, hj2, he1, he2, hrun2⟩ := decode_at0 c (by omega)
        have HE : Hid (NameMath.cmp (NameMath.runes a.data.toList) (NameMath.runes b.data.toList) = -1) := by show _ = _; rw [HI.out, hrun2]; rfl
        clear HI hrun2 he1 he2
        go_wp2_with fail
        go_ret
        exact ⟨ret_int HE.out.symm, hbw⟩
end Go.Proofs.YtmjnllldjeeigaaDoor.Nm
/- The plain mathematics of definitions that may be: paths along needs, closing by rounds, counting, and what Check answers. Nothing of the program is named here. -/
set_option linter.unusedVariables false
namespace CheckMath

noncomputable def tt (P : Prop) : Bool := @decide P (Classical.propDecidable P)
theorem tt_yes {P : Prop} (h : P) : tt P = true := @decide_eq_true P (Classical.propDecidable P) h
theorem tt_no {P : Prop} (h : ¬ P) : tt P = false := @decide_eq_false P (Classical.propDecidable P) h
theorem tt_iff {P : Prop} : tt P = true ↔ P := @decide_eq_true_iff P (Classical.propDecidable P)
theorem tt_not {P : Prop} : tt P = false ↔ ¬ P := @decide_eq_false_iff_not P (Classical.propDecidable P)
theorem tt_congr {P Q : Prop} (h : P ↔ Q) : tt P = tt Q := by rw [show P = Q from propext h]

/-- How many numbers below n are in a set. -/
noncomputable def cnt (P : Nat → Prop) : Nat → Nat
  | 0 => 0
  | n + 1 => cnt P n + (tt (P n)).toNat
theorem tt_nat_le {P Q : Prop} (h : P → Q) : (tt P).toNat ≤ (tt Q).toNat := by
  by_cases p : P
  · rw [tt_yes p, tt_yes (h p)]; exact Nat.le_refl _
  · rw [tt_no p]; exact Nat.zero_le _
theorem cnt_mono {P Q : Nat → Prop} : ∀ n, (∀ x, x < n → P x → Q x) → cnt P n ≤ cnt Q n
  | 0, _ => Nat.le_refl _
  | n + 1, h => Nat.add_le_add (cnt_mono n fun x hx => h x (by omega)) (tt_nat_le (h n (by omega)))
theorem cnt_le (P : Nat → Prop) : ∀ n, cnt P n ≤ n
  | 0 => Nat.le_refl _
  | n + 1 => by
    have := cnt_le P n
    have h2 : (tt (P n)).toNat ≤ 1 := by cases tt (P n) <;> decide
    unfold cnt
    omega
theorem cnt_lt {P Q : Nat → Prop} : ∀ n, (∀ x, x < n → P x → Q x) → ∀ y, y < n → Q y → ¬ P y → cnt P n < cnt Q n
  | 0, _, y, hy, _, _ => absurd hy (Nat.not_lt_zero _)
  | n + 1, h, y, hy, hq, hp => by
    have hm := tt_nat_le (h n (by omega))
    by_cases e : y = n
    · subst e
      have := cnt_mono y fun x hx => h x (by omega)
      unfold cnt
      rw [tt_no hp, tt_yes hq]
      show _ + 0 < _ + 1
      omega
    · have := cnt_lt n (fun x hx => h x (by omega)) y (by omega) hq hp
      unfold cnt
      omega
theorem cnt_all {P : Nat → Prop} : ∀ n, n ≤ cnt P n → ∀ x, x < n → P x
  | 0, _, x, hx => absurd hx (Nat.not_lt_zero _)
  | n + 1, h, x, hx => by
    have h1 := cnt_le P n
    unfold cnt at h
    have h2 : P n := by
      rcases Classical.em (P n) with p | p
      · exact p
      · rw [tt_no p] at h
        have : (false).toNat = 0 := rfl
        omega
    by_cases e : x = n
    · subst e; exact h2
    · have h3 : (tt (P n)).toNat ≤ 1 := by cases tt (P n) <;> decide
      exact cnt_all n (by omega) x (by omega)
theorem cnt_congr {P Q : Nat → Prop} (n : Nat) (h : ∀ x, x < n → (P x ↔ Q x)) : cnt P n = cnt Q n :=
  Nat.le_antisymm (cnt_mono n fun x hx => (h x hx).1) (cnt_mono n fun x hx => (h x hx).2)

/-- A way of one step or more. -/
inductive Path (E : Nat → Nat → Prop) : Nat → Nat → Prop
  | one {a b : Nat} : E a b → Path E a b
  | cons {a b c : Nat} : E a b → Path E b c → Path E a c
theorem Path.trans {E : Nat → Nat → Prop} {a b c : Nat} (h : Path E a b) (k : Path E b c) : Path E a c := by
  induction h with
  | one e => exact .cons e k
  | cons e _ ih => exact .cons e (ih k)
theorem Path.snoc {E : Nat → Nat → Prop} {a b c : Nat} (h : Path E a b) (k : E b c) : Path E a c := h.trans (.one k)
theorem Path.mono {E F : Nat → Nat → Prop} (hEF : ∀ a b, E a b → F a b) {a b : Nat} (h : Path E a b) : Path F a b := by
  induction h with
  | one e => exact .one (hEF _ _ e)
  | cons e _ ih => exact .cons (hEF _ _ e) ih
theorem Path.lt {E : Nat → Nat → Prop} {n : Nat} (hE : ∀ a b, E a b → b < n) {a b : Nat} (h : Path E a b) : b < n := by
  induction h with
  | one e => exact hE _ _ e
  | cons _ _ ih => exact ih
/-- What is closed and does not lead back is no ring. -/
theorem no_ring {E : Nat → Nat → Prop} {V : Nat → Prop} {i : Nat} (hi : V i) (hc : ∀ x, V x → ∀ y, E x y → V y ∧ y ≠ i) : ¬ Path E i i := by
  have : ∀ a c, Path E a c → V a → c ≠ i := by
    intro a c h
    induction h with
    | one e => exact fun ha => (hc _ ha _ e).2
    | cons e _ ih => exact fun ha => ih (hc _ ha _ e).1
  exact fun h => this i i h hi rfl
/-- Where there is no ring, one that is left has all it needs. -/
theorem minimal {E : Nat → Nat → Prop} {n : Nat} (hE : ∀ a b, E a b → b < n) (hR : ∀ i, i < n → ¬ Path E i i) (G : Nat → Prop) :
    ∀ m j, j < n → ¬ G j → cnt (Path E j) n ≤ m → ∃ k, k < n ∧ ¬ G k ∧ ∀ y, E k y → G y
  | m, j, hj, hG, hm => by
    by_cases h : ∀ y, E j y → G y
    · exact ⟨j, hj, hG, h⟩
    · obtain ⟨y, hy⟩ := Classical.not_forall.1 h
      obtain ⟨e, g⟩ := Classical.not_imp.1 hy
      have hyn := hE _ _ e
      have hlt : cnt (Path E y) n < cnt (Path E j) n := cnt_lt n (fun x _ p => .cons e p) y hyn (.one e) (hR y hyn)
      match m, hm with
      | 0, hm => exact absurd (Nat.lt_of_lt_of_le hlt hm) (Nat.not_lt_zero _)
      | m + 1, hm => exact minimal hE hR G m y hyn g (by omega)

/-- One round of closing. -/
def RoundOk (E : Nat → Nat → Prop) (s : Nat) (A A' : Nat → Prop) : Prop :=
  (∀ x, A x → A' x) ∧ (∀ c a, (c = s ∨ A c) → E c a → A' a) ∧ ∀ C : Nat → Prop, (∀ x, A x → C x) → (∀ c a, (c = s ∨ C c) → E c a → C a) → ∀ y, A' y → C y
def Closed (E : Nat → Nat → Prop) (s : Nat) (A : Nat → Prop) : Prop := ∀ c a, (c = s ∨ A c) → E c a → A a
def RoundInv (E : Nat → Nat → Prop) (s n r : Nat) (A : Nat → Prop) : Prop :=
  (∀ y, A y → Path E s y) ∧ (Closed E s A ∨ r ≤ cnt A n)
theorem RoundInv.step {E : Nat → Nat → Prop} {s n r : Nat} (hE : ∀ a b, E a b → b < n) {A A' : Nat → Prop} (h : RoundInv E s n r A) (k : RoundOk E s A A') : RoundInv E s n (r + 1) A' := by
  obtain ⟨h1, h2⟩ := h
  obtain ⟨k1, k2, k3⟩ := k
  refine ⟨k3 _ h1 ?_, ?_⟩
  · rintro c a (rfl | hc) e
    · exact .one e
    · exact hc.snoc e
  · by_cases hc : Closed E s A
    · have heq : ∀ x, A' x → A x := k3 A (fun x h => h) hc
      left
      exact fun c a ca e => k1 _ (hc c a (ca.imp id (heq c)) e)
    · right
      have hr : r ≤ cnt A n := h2.resolve_left hc
      unfold Closed at hc
      obtain ⟨c, hc⟩ := Classical.not_forall.1 hc
      obtain ⟨a, hc⟩ := Classical.not_forall.1 hc
      obtain ⟨c1, hc⟩ := Classical.not_imp.1 hc
      obtain ⟨c2, c3⟩ := Classical.not_imp.1 hc
      have := cnt_lt n (fun x _ => k1 x) a (hE _ _ c2) (k2 c a c1 c2) c3
      omega
theorem RoundInv.done {E : Nat → Nat → Prop} {s n : Nat} (hE : ∀ a b, E a b → b < n) {A : Nat → Prop} (h : RoundInv E s n n A) (y : Nat) : A y ↔ Path E s y := by
  refine ⟨h.1 y, fun hp => ?_⟩
  have hc : Closed E s A := by
    rcases h.2 with hc | hn
    · exact hc
    · exact fun c a _ e => cnt_all n hn a (hE _ _ e)
  have : ∀ a c, Path E a c → (a = s ∨ A a) → A c := by
    intro a c hp
    induction hp with
    | one e => exact fun ha => hc _ _ ha e
    | cons e _ ih => exact fun ha => ih (Or.inr (hc _ _ ha e))
  exact this s y hp (Or.inl rfl)

/-- A step of a definition, and a definition. -/
structure StepD where
  name : ByteArray
  kind : Int
  part : Int
  keys : List ByteArray
  needs : List Int
structure DefD where
  name : ByteArray
  steps : List StepD
def nth (ss : List StepD) (i : Nat) : StepD := ss.getD i ⟨ByteArray.empty, 0, 0, [], []⟩
theorem nth_eq {ss : List StepD} {i : Nat} (h : i < ss.length) : nth ss i = ss[i] := by simp [nth, List.getD, h]
theorem nth_mem {ss : List StepD} {i : Nat} (h : i < ss.length) : nth ss i ∈ ss := by rw [nth_eq h]; exact List.getElem_mem h
def isN (s : ByteArray) : Bool := NameMath.isGo (NameMath.runes s.data.toList) 0
def ownN (s : ByteArray) : Nat := NameMath.own 0 (NameMath.runes s.data.toList)
def cmpN (a b : ByteArray) : Int := NameMath.cmp (NameMath.runes a.data.toList) (NameMath.runes b.data.toList)

def keyAt (l : List ByteArray) (i : Nat) : ByteArray := l.getD i ByteArray.empty
def needAt (l : List Int) (i : Nat) : Int := l.getD i 0
def KeyOk (st : StepD) (i : Nat) : Prop := isN (keyAt st.keys i) = true ∧ (ownN (keyAt st.keys i) : Int) = st.part ∧ (0 < i → cmpN (keyAt st.keys (i - 1)) (keyAt st.keys i) < 0)
def KeysOk (st : StepD) : Prop := st.keys.length ≤ 2 ∧ ∀ i, i < st.keys.length → KeyOk st i
def NeedOk (l : List Int) (self count : Nat) (i : Nat) : Prop := 0 ≤ needAt l i ∧ needAt l i < count ∧ needAt l i ≠ self ∧ (0 < i → needAt l (i - 1) < needAt l i)
def NeedsOk (l : List Int) (self count : Nat) : Prop := ∀ i, i < l.length → NeedOk l self count i
def Twice (ss : List StepD) (i : Nat) : Prop := ∃ k, k < i ∧ (nth ss k).name = (nth ss i).name
noncomputable def stepFault (ss : List StepD) (i : Nat) : Int :=
  if isN (nth ss i).name = false then 110 else if tt (Twice ss i) = true then 112 else if (nth ss i).kind < 1 ∨ (nth ss i).kind > 3 then 113 else if (nth ss i).part < 0 ∨ (nth ss i).part ≥ 4 then 114
  else if tt (KeysOk (nth ss i)) = false then 115 else if tt (NeedsOk (nth ss i).needs i ss.length) = false then 116 else 0
def PivotAgain (ss : List StepD) (i : Nat) : Prop := (nth ss i).kind = 2 ∧ ∃ k, k < i ∧ (nth ss k).kind = 2
def OutOfOrder (ss : List StepD) (i : Nat) : Prop := (nth ss i).kind ≠ 3 ∧ ∃ x, x ∈ (nth ss i).needs ∧ (nth ss x.toNat).kind ≠ 1
def Edge (ss : List StepD) (a b : Nat) : Prop := a < ss.length ∧ b < ss.length ∧ (b : Int) ∈ (nth ss a).needs
def Ring (ss : List StepD) (i : Nat) : Prop := Path (Edge ss) i i
def Taken (ss : List StepD) (key : ByteArray) : Prop := ∃ k, k < ss.length ∧ (nth ss k).kind ≠ 3 ∧ key ∈ (nth ss k).keys
def KeyUntaken (ss : List StepD) (i : Nat) : Prop := (nth ss i).kind = 3 ∧ ∃ key, key ∈ (nth ss i).keys ∧ ¬ Taken ss key
/-- The least number from k on, below k + n, of which P is so; -1: none. -/
noncomputable def firstF (P : Nat → Prop) : Nat → Nat → Int
  | _, 0 => -1
  | k, n + 1 => if tt (P k) = true then (k : Int) else firstF P (k + 1) n
noncomputable def firstI (P : Nat → Prop) (n : Nat) : Int := firstF P 0 n
theorem firstF_range (P : Nat → Prop) : ∀ n k, firstF P k n = -1 ∨ (k : Int) ≤ firstF P k n ∧ firstF P k n < (k + n : Nat)
  | 0, k => Or.inl rfl
  | n + 1, k => by
    unfold firstF
    split
    · right; omega
    · rcases firstF_range P n (k + 1) with e | e
      · exact Or.inl e
      · right; omega
theorem firstI_range (P : Nat → Prop) (n : Nat) : firstI P n = -1 ∨ 0 ≤ firstI P n ∧ firstI P n < n := by
  rcases firstF_range P n 0 with e | e
  · exact Or.inl e
  · right; unfold firstI; omega
theorem firstF_none (P : Nat → Prop) : ∀ n k, firstF P k n = -1 ↔ ∀ i, k ≤ i → i < k + n → ¬ P i
  | 0, k => ⟨fun _ i h1 h2 => by omega, fun _ => rfl⟩
  | n + 1, k => by
    unfold firstF
    by_cases h : P k
    · rw [tt_yes h]
      simp only [if_true]
      exact ⟨fun h => by omega, fun h2 => absurd h (h2 k (Nat.le_refl _) (by omega))⟩
    · rw [tt_no h]
      simp only [Bool.false_eq_true, if_false]
      rw [firstF_none P n (k + 1)]
      refine ⟨fun h2 i h3 h4 => ?_, fun h2 i h3 h4 => h2 i (by omega) (by omega)⟩
      by_cases e : i = k
      · subst e; exact h
      · exact h2 i (by omega) (by omega)
theorem firstI_none (P : Nat → Prop) (n : Nat) : firstI P n = -1 ↔ ∀ i, i < n → ¬ P i := by
  unfold firstI
  rw [firstF_none]
  exact ⟨fun h i hi => h i (Nat.zero_le _) (by omega), fun h i _ hi => h i (by omega)⟩
theorem firstF_congr {P Q : Nat → Prop} (n : Nat) : ∀ k, (∀ i, i < k + n → (P i ↔ Q i)) → firstF P k n = firstF Q k n := by
  induction n with
  | zero => intro k _; rfl
  | succ n ih =>
    intro k h
    unfold firstF
    rw [tt_congr (h k (by omega)), ih (k + 1) (fun i hi => h i (by omega))]
noncomputable def amongM (ss : List StepD) : Int × Int :=
  if ¬ firstI (PivotAgain ss) ss.length = -1 then (firstI (PivotAgain ss) ss.length, 117)
  else if ¬ firstI (OutOfOrder ss) ss.length = -1 then (firstI (OutOfOrder ss) ss.length, 118)
  else if ¬ firstI (Ring ss) ss.length = -1 then (firstI (Ring ss) ss.length, 119)
  else if ¬ firstI (KeyUntaken ss) ss.length = -1 then (firstI (KeyUntaken ss) ss.length, 115)
  else (-1, 0)
noncomputable def stepsF (ss : List StepD) : Nat → Nat → Int × Int
  | _, 0 => amongM ss
  | k, n + 1 => if stepFault ss k = 0 then stepsF ss (k + 1) n else ((k : Int), stepFault ss k)
noncomputable def checkM (D : DefD) : Int × Int :=
  if isN D.name = false then (-1, 110) else if D.steps.length = 0 ∨ 8 < D.steps.length then (-1, 111) else stepsF D.steps 0 D.steps.length

theorem stepFault_range (ss : List StepD) (i : Nat) : 0 ≤ stepFault ss i ∧ stepFault ss i < 200 := by
  unfold stepFault
  repeat' split
  all_goals omega
/-- What a definition that may be is. -/
structure Fine (D : DefD) : Prop where
  name : isN D.name = true
  some : 1 ≤ D.steps.length
  few : D.steps.length ≤ 8
  step : ∀ i, i < D.steps.length → stepFault D.steps i = 0
  pivot : ∀ i, i < D.steps.length → ¬ PivotAgain D.steps i
  order : ∀ i, i < D.steps.length → ¬ OutOfOrder D.steps i
  ring : ∀ i, i < D.steps.length → ¬ Ring D.steps i
  key : ∀ i, i < D.steps.length → ¬ KeyUntaken D.steps i
theorem amongM_ok (ss : List StepD) : (amongM ss).2 = 0 ↔ (∀ i, i < ss.length → ¬ PivotAgain ss i) ∧ (∀ i, i < ss.length → ¬ OutOfOrder ss i) ∧ (∀ i, i < ss.length → ¬ Ring ss i) ∧ ∀ i, i < ss.length → ¬ KeyUntaken ss i := by
  rw [← firstI_none, ← firstI_none, ← firstI_none, ← firstI_none]
  unfold amongM
  by_cases h1 : firstI (PivotAgain ss) ss.length = -1
  · by_cases h2 : firstI (OutOfOrder ss) ss.length = -1
    · by_cases h3 : firstI (Ring ss) ss.length = -1
      · by_cases h4 : firstI (KeyUntaken ss) ss.length = -1
        · simp [h1, h2, h3, h4]
        · simp [h1, h2, h3, h4]
      · simp [h1, h2, h3]
    · simp [h1, h2]
  · simp [h1]
theorem amongM_range (ss : List StepD) : -1 ≤ (amongM ss).1 ∧ ((amongM ss).1 < ss.length) ∧ 0 ≤ (amongM ss).2 ∧ (amongM ss).2 < 200 ∧ ((amongM ss).2 = 0 → (amongM ss).1 = -1) := by
  have h1 := firstI_range (PivotAgain ss) ss.length
  have h2 := firstI_range (OutOfOrder ss) ss.length
  have h3 := firstI_range (Ring ss) ss.length
  have h4 := firstI_range (KeyUntaken ss) ss.length
  unfold amongM
  repeat' split
  all_goals refine ⟨?_, ?_, ?_, ?_, fun h => ?_⟩
  all_goals first | rfl | (simp only at *; omega)
theorem stepsF_ok (ss : List StepD) : ∀ n k, (stepsF ss k n).2 = 0 ↔ (∀ i, k ≤ i → i < k + n → stepFault ss i = 0) ∧ (amongM ss).2 = 0
  | 0, k => ⟨fun h => ⟨fun i h1 h2 => by omega, h⟩, fun h => h.2⟩
  | n + 1, k => by
    unfold stepsF
    by_cases h : stepFault ss k = 0
    · rw [if_pos h, stepsF_ok ss n (k + 1)]
      refine and_congr_left fun _ => ⟨fun h2 i h3 h4 => ?_, fun h2 i h3 h4 => h2 i (by omega) (by omega)⟩
      by_cases e : i = k
      · subst e; exact h
      · exact h2 i (by omega) (by omega)
    · rw [if_neg h]
      exact ⟨fun h2 => absurd h2 h, fun h2 => absurd (h2.1 k (Nat.le_refl _) (by omega)) h⟩
theorem stepsF_range (ss : List StepD) : ∀ n k, k + n ≤ ss.length → -1 ≤ (stepsF ss k n).1 ∧ ((stepsF ss k n).1 < ss.length) ∧ 0 ≤ (stepsF ss k n).2 ∧ (stepsF ss k n).2 < 200 ∧ ((stepsF ss k n).2 = 0 → (stepsF ss k n).1 = -1)
  | 0, k, _ => amongM_range ss
  | n + 1, k, hk => by
    unfold stepsF
    by_cases h : stepFault ss k = 0
    · rw [if_pos h]; exact stepsF_range ss n (k + 1) (by omega)
    · rw [if_neg h]
      have := stepFault_range ss k
      simp only
      omega
theorem checkM_ok (D : DefD) : (checkM D).2 = 0 ↔ Fine D := by
  unfold checkM
  by_cases h1 : isN D.name = false
  · rw [if_pos h1]
    exact ⟨fun h => by simp at h, fun h => by rw [h.name] at h1; cases h1⟩
  · rw [if_neg h1]
    by_cases h2 : D.steps.length = 0 ∨ 8 < D.steps.length
    · rw [if_pos h2]
      exact ⟨fun h => by simp at h, fun h => by have := h.some; have := h.few; omega⟩
    · rw [if_neg h2, stepsF_ok, amongM_ok]
      refine ⟨fun ⟨a, b, c, d, e⟩ => ⟨by simpa using h1, by omega, by omega, fun i hi => a i (Nat.zero_le _) (by omega), b, c, d, e⟩, fun h => ⟨fun i _ hi => h.step i (by omega), h.pivot, h.order, h.ring, h.key⟩⟩
theorem checkM_range (D : DefD) : -1 ≤ (checkM D).1 ∧ ((checkM D).1 < D.steps.length) ∧ 0 ≤ (checkM D).2 ∧ (checkM D).2 < 200 ∧ ((checkM D).2 = 0 → (checkM D).1 = -1) := by
  unfold checkM
  split
  · simp only; omega
  · split
    · simp only; omega
    · exact stepsF_range _ _ _ (by omega)

/-- What a step that is not at fault has. -/
theorem fault_none {ss : List StepD} {i : Nat} (h : stepFault ss i = 0) : isN (nth ss i).name = true ∧ ¬ Twice ss i ∧ (1 ≤ (nth ss i).kind ∧ (nth ss i).kind ≤ 3) ∧ (0 ≤ (nth ss i).part ∧ (nth ss i).part < 4) ∧ KeysOk (nth ss i) ∧ NeedsOk (nth ss i).needs i ss.length := by
  unfold stepFault at h
  by_cases h1 : isN (nth ss i).name = false
  · simp [h1] at h
  by_cases h2 : tt (Twice ss i) = true
  · simp [h1, h2] at h
  by_cases h3 : (nth ss i).kind < 1 ∨ (nth ss i).kind > 3
  · simp [h1, h2, h3] at h
  by_cases h4 : (nth ss i).part < 0 ∨ (nth ss i).part ≥ 4
  · simp [h1, h2, h3, h4] at h
  by_cases h5 : tt (KeysOk (nth ss i)) = false
  · simp [h1, h2, h3, h4, h5] at h
  by_cases h6 : tt (NeedsOk (nth ss i).needs i ss.length) = false
  · simp [h1, h2, h3, h4, h5, h6] at h
  refine ⟨by simpa using h1, fun h => h2 (tt_yes h), by omega, by omega, ?_, ?_⟩
  · rcases Classical.em (KeysOk (nth ss i)) with p | p
    · exact p
    · exact absurd (tt_no p) h5
  · rcases Classical.em (NeedsOk (nth ss i).needs i ss.length) with p | p
    · exact p
    · exact absurd (tt_no p) h6
theorem mem_needAt {l : List Int} {x : Int} (h : x ∈ l) : ∃ k, k < l.length ∧ needAt l k = x := by
  obtain ⟨k, hk, e⟩ := List.mem_iff_getElem.1 h
  exact ⟨k, hk, by simp [needAt, List.getD, hk, e]⟩
theorem needAt_mem {l : List Int} {k : Nat} (h : k < l.length) : needAt l k ∈ l := by
  have : needAt l k = l[k] := by simp [needAt, List.getD, h]
  rw [this]; exact List.getElem_mem h
theorem keyAt_mem {l : List ByteArray} {k : Nat} (h : k < l.length) : keyAt l k ∈ l := by
  have : keyAt l k = l[k] := by simp [keyAt, List.getD, h]
  rw [this]; exact List.getElem_mem h
theorem mem_keyAt {l : List ByteArray} {x : ByteArray} (h : x ∈ l) : ∃ k, k < l.length ∧ keyAt l k = x := by
  obtain ⟨k, hk, e⟩ := List.mem_iff_getElem.1 h
  exact ⟨k, hk, by simp [keyAt, List.getD, hk, e]⟩
theorem edge_lt {ss : List StepD} (a b : Nat) (h : Edge ss a b) : b < ss.length := h.2.1
/-- All needs of steps that are not at fault are steps' numbers. -/
def Needy (ss : List StepD) : Prop := ∀ i, i < ss.length → ∀ x, x ∈ (nth ss i).needs → 0 ≤ x ∧ x < ss.length ∧ x ≠ (i : Int)
theorem needy_of {ss : List StepD} (h : ∀ i, i < ss.length → stepFault ss i = 0) : Needy ss := by
  intro i hi x hx
  obtain ⟨_, _, _, _, _, h6⟩ := fault_none (h i hi)
  obtain ⟨k, hk, rfl⟩ := mem_needAt hx
  exact ⟨(h6 k hk).1, (h6 k hk).2.1, (h6 k hk).2.2.1⟩
theorem edge_of {ss : List StepD} (h : Needy ss) {i : Nat} (hi : i < ss.length) {x : Int} (hx : x ∈ (nth ss i).needs) : Edge ss i x.toNat := by
  obtain ⟨h0, h1, _⟩ := h i hi x hx
  refine ⟨hi, by omega, ?_⟩
  rw [Int.toNat_of_nonneg h0]; exact hx
end CheckMath

/- A definition as it lies in memory, read only: rows of texts, of numbers, of steps. -/
set_option linter.unusedVariables false
set_option maxRecDepth 100000
namespace Go.Proofs.YtmjnllldjeeigaaDoor
open Go.RowKit CheckMath
open Go.Proofs.YtmjnllldjeeigaaDoor.Nm

def KRow (w : World) (v : Value) (xs : List ByteArray) : Prop := ∃ ao cap, v = .slice ao xs.length cap ∧ xs.length ≤ cap ∧ (ao = none → cap = 0) ∧ (xs.length ≤ 140737488355328 ∧ ∀ x, x ∈ xs → x.size ≤ 140737488355328) ∧
  ∀ j, j < xs.length → ∃ g o, ao = some ⟨g, o, none⟩ ∧ g < w.heap.size ∧ w.cell? ⟨g, o + j, none⟩ = some (.string (keyAt xs j))
def IRow (w : World) (v : Value) (xs : List Int) : Prop := ∃ ao cap, v = .slice ao xs.length cap ∧ xs.length ≤ cap ∧ (ao = none → cap = 0) ∧ xs.length ≤ 140737488355328 ∧
  ∀ j, j < xs.length → ∃ g o, ao = some ⟨g, o, none⟩ ∧ g < w.heap.size ∧ w.cell? ⟨g, o + j, none⟩ = some (.int .i64 (needAt xs j))
def StepIn (w : World) (g p : Nat) (s : StepD) : Prop := w.cell? ⟨g, p, none⟩ = some (.string s.name) ∧ w.cell? ⟨g, p + 1, none⟩ = some (.int .i64 s.kind) ∧ w.cell? ⟨g, p + 2, none⟩ = some (.int .i64 s.part) ∧
  ∃ kv nv, w.cell? ⟨g, p + 3, none⟩ = some kv ∧ w.cell? ⟨g, p + 4, none⟩ = some nv ∧ KRow w kv s.keys ∧ IRow w nv s.needs
def DRow (w : World) (v : Value) (ss : List StepD) : Prop := ∃ ao cap, v = .slice ao ss.length cap ∧ ss.length ≤ cap ∧ (ao = none → cap = 0) ∧ ss.length ≤ 140737488355328 ∧
  ∀ j, j < ss.length → ∃ g o, ao = some ⟨g, o, none⟩ ∧ g < w.heap.size ∧ StepIn w g (o + j * 5) (nth ss j)
theorem KRow.below {w w' : World} {v : Value} {xs : List ByteArray} (h : KRow w v xs) (hb : Below w.heap.size w w') : KRow w' v xs := by
  obtain ⟨ao, cap, h1, h2, h3, h4, h5⟩ := h
  refine ⟨ao, cap, h1, h2, h3, h4, fun j hj => ?_⟩
  obtain ⟨g, o, k1, k2, k3⟩ := h5 j hj
  exact ⟨g, o, k1, Nat.lt_of_lt_of_le k2 hb.size, (hb.cell (p := ⟨g, o + j, none⟩) k2).trans k3⟩
theorem IRow.below {w w' : World} {v : Value} {xs : List Int} (h : IRow w v xs) (hb : Below w.heap.size w w') : IRow w' v xs := by
  obtain ⟨ao, cap, h1, h2, h3, h4, h5⟩ := h
  refine ⟨ao, cap, h1, h2, h3, h4, fun j hj => ?_⟩
  obtain ⟨g, o, k1, k2, k3⟩ := h5 j hj
  exact ⟨g, o, k1, Nat.lt_of_lt_of_le k2 hb.size, (hb.cell (p := ⟨g, o + j, none⟩) k2).trans k3⟩
theorem StepIn.below {w w' : World} {g p : Nat} {s : StepD} (hg : g < w.heap.size) (h : StepIn w g p s) (hb : Below w.heap.size w w') : StepIn w' g p s := by
  obtain ⟨h0, h1, h2, kv, nv, h3, h4, h5, h6⟩ := h
  exact ⟨(hb.cell (p := ⟨g, p, none⟩) hg).trans h0, (hb.cell (p := ⟨g, p + 1, none⟩) hg).trans h1, (hb.cell (p := ⟨g, p + 2, none⟩) hg).trans h2, kv, nv, (hb.cell (p := ⟨g, p + 3, none⟩) hg).trans h3, (hb.cell (p := ⟨g, p + 4, none⟩) hg).trans h4, h5.below hb, h6.below hb⟩
theorem DRow.below {w w' : World} {v : Value} {ss : List StepD} (h : DRow w v ss) (hb : Below w.heap.size w w') : DRow w' v ss := by
  obtain ⟨ao, cap, h1, h2, h3, h4, h5⟩ := h
  refine ⟨ao, cap, h1, h2, h3, h4, fun j hj => ?_⟩
  obtain ⟨g, o, k1, k2, k3⟩ := h5 j hj
  exact ⟨g, o, k1, Nat.lt_of_lt_of_le k2 hb.size, k3.below k2 hb⟩
theorem KRow.slice {w : World} {v : Value} {xs : List ByteArray} (h : KRow w v xs) : ∃ a c, v = .slice a xs.length c := by
  obtain ⟨ao, cap, h1, _⟩ := h; exact ⟨ao, cap, h1⟩
theorem IRow.slice {w : World} {v : Value} {xs : List Int} (h : IRow w v xs) : ∃ a c, v = .slice a xs.length c := by
  obtain ⟨ao, cap, h1, _⟩ := h; exact ⟨ao, cap, h1⟩
theorem DRow.slice {w : World} {v : Value} {xs : List StepD} (h : DRow w v xs) : ∃ a c, v = .slice a xs.length c ∧ xs.length ≤ c := by
  obtain ⟨ao, cap, h1, h2, _⟩ := h; exact ⟨ao, cap, h1, h2⟩
theorem txt_ne {a b : ByteArray} (h : ¬ a = b) : (a.toList == b.toList) = false := by
  rw [beq_eq_false_iff_ne]
  intro e
  exact h (by
    rw [toList_data, toList_data] at e
    have e1 : a.data = b.data := Array.toList_inj.1 e
    cases a; cases b; cases e1; rfl)
theorem txt_eq {a b : ByteArray} (h : a = b) : (a.toList == b.toList) = true := by subst h; simp
/-- A definition that is handed on: its name, and its row of steps. -/
def DefIn (w : World) (v : Value) (D : DefD) : Prop := ∃ sv, v = .agg #[.string D.name, sv] ∧ DRow w sv D.steps
theorem DefIn.below {w w' : World} {v : Value} {D : DefD} (h : DefIn w v D) (hb : Below w.heap.size w w') : DefIn w' v D := by
  obtain ⟨sv, h1, h2⟩ := h
  exact ⟨sv, h1, h2.below hb⟩
end Go.Proofs.YtmjnllldjeeigaaDoor
