/- What every walk over timers needs: what a world keeps, owned rows of any size, the program's wheel in memory. -/
import Derived.Test.YthenmngjojgmkaaProg
import Derived.Test.YthenmngjojgmkaaWMath
import Derived.WalkKit
import Derived.WalkSpells
import Derived.WalkLawsBesides
import Derived.Deep.Light
import Derived.OwnWalk
import Derived.Deep.DeepMust
import Derived.WalkSmall
import Derived.Laws.OwnMore
import Derived.Laws.CopyOwn
import Derived.Deep.QuietTactic
import Derived.BigQuiet
import Derived.Laws.AppendOwnNone
import Derived.Deep.RegionLaw
import Derived.Lib.SliceRun
import Derived.Deep.Upon
import Derived.OneCell
set_option linter.unusedVariables false
set_option maxRecDepth 100000
namespace Go.Proofs.Ythenmngjojgmkaa
open Go.RowKit
open WheelMath

theorem infoI : (Try.prog.info? 3).map (fun i => (i.zero, i.size, i.bytes)) = some (some (.int .i64 0), 1, 8) := by kernel_rfl
theorem infoT : (Try.prog.info? 54).map (fun i => (i.zero, i.size, i.bytes)) = some (some (.agg #[.int .i64 0, .int .i64 0]), 2, 16) := by kernel_rfl
theorem infoR : (Try.prog.info? 51).map (fun i => (i.zero, i.size, i.bytes)) = some (some (.agg #[.int .i64 0, .int .i64 0]), 2, 16) := by kernel_rfl
theorem one_new (w : World) (u : Value) (t : TypeId) : ∀ (j : Nat) (x : Value), [u][j]? = some x → (w.alloc (.cells #[u] t)).cell? ((⟨w.heap.size, 0, none⟩ : Addr).add j) = some x := cell_one_new w u t
theorem two_new (w : World) (u v : Value) (t : TypeId) : ∀ (j : Nat) (x : Value), [u, v][j]? = some x → (w.alloc (.cells #[u, v] t)).cell? ((⟨w.heap.size, 0, none⟩ : Addr).add j) = some x := by
  intro j x h
  match j, h with
  | 0, h => rw [← h]; exact World.cell?_alloc_new w #[u, v] t 0
  | 1, h => rw [← h]; exact World.cell?_alloc_new w #[u, v] t 1
  | j + 2, h => simp at h
theorem one_int (n : Int) : ∀ u ∈ [Value.int .i64 n], u.oneCell' = true := by intro u hu; simp at hu; subst hu; rfl
theorem two_int (n m : Int) : ∀ u ∈ [Value.int .i64 n, Value.int .i64 m], u.oneCell' = true := by intro u hu; simp at hu; rcases hu with rfl | rfl <;> rfl
theorem own_cast {w : World} {B e size n n' : Nat} {v : Value} {xs xs' : List Value} (h1 : n = n') (h2 : xs = xs') (h : w.ownsRow B e size v n xs) : w.ownsRow B e size v n' xs' := by
  subst h1; subst h2; exact h
theorem own_base {w : World} {B B' e s n : Nat} {v : Value} {xs : List Value} (h : w.ownsRow B e s v n xs) (hB : B' ≤ B) : w.ownsRow B' e s v n xs := by
  refine ⟨h.1, ?_⟩
  rcases h.2 with h0 | ⟨g, cap, cur, hv, hb, rest⟩
  · exact .inl h0
  · exact .inr ⟨g, cap, cur, hv, Nat.le_trans hB hb, rest⟩
theorem own_below {w w' : World} {B e s n : Nat} {v : Value} {xs : List Value} (h : w.ownsRow B e s v n xs) (hb : Below w.heap.size w w') : w'.ownsRow B e s v n xs := by
  refine h.kept (row := none) ⟨hb.os, hb.tape, hb.output, hb.size, fun k hk _ => hb.block k hk⟩ ?_
  cases h : v.ownBlock with
  | none => exact .inl rfl
  | some k => exact .inr (by simp)
/-- An owned row's shape and its cells. -/
theorem own_form {w : World} {B e s n : Nat} {v : Value} {xs : List Value} (h : w.ownsRow B e s v n xs) : ∃ ao cap, v = .slice ao n cap ∧ n ≤ cap ∧ (ao = none → n = 0 ∧ cap = 0) ∧
    ∀ g, ao = some g → ∃ b, g = ⟨b, 0, none⟩ ∧ B ≤ b ∧ b < w.heap.size ∧ (∀ j, j < n * s → w.cell? ⟨b, j, none⟩ = xs[j]?) ∧ (∀ j, w.frozen? ⟨b, j, none⟩ = false) ∧ cap ≤ maxLen := by
  rcases h.2 with ⟨rfl, h0⟩ | ⟨g, cap, cur, rfl, hb, hg, hnc, hcm, hcs, htake⟩
  · obtain rfl : n = 0 := h0
    exact ⟨none, 0, rfl, Nat.le_refl _, fun _ => ⟨rfl, rfl⟩, fun g hg => by cases hg⟩
  · refine ⟨some ⟨g, 0, none⟩, cap, rfl, hnc, fun h => (by cases h), fun g' h => ?_⟩
    obtain rfl := Option.some.inj h
    refine ⟨g, rfl, hb, (Array.getElem?_eq_some_iff.1 hg).1, fun j hj => ?_, fun j => ?_, hcm⟩
    · rw [cell_of_row w g j cur e (0, 0) hg, ← htake, List.getElem?_take, if_pos hj, Array.getElem?_toList]
    · unfold World.frozen?
      simp [hg]

/-- What a world keeps that changed within S alone, and by new blocks. -/
structure Chg (S : Nat → Prop) (w w' : World) : Prop where
  os : w'.os = w.os
  tape : w'.tape = w.tape
  output : w'.output = w.output
  size : w.heap.size ≤ w'.heap.size
  block : ∀ k, k < w.heap.size → ¬ S k → w'.heap[k]? = w.heap[k]?
theorem Chg.refl (S : Nat → Prop) (w : World) : Chg S w w := ⟨rfl, rfl, rfl, Nat.le_refl _, fun _ _ _ => rfl⟩
theorem Chg.mono {S T : Nat → Prop} {w w' : World} (h : Chg S w w') (hT : ∀ k, k < w.heap.size → S k → T k) : Chg T w w' :=
  ⟨h.os, h.tape, h.output, h.size, fun k hk hn => h.block k hk (fun hs => hn (hT k hk hs))⟩
theorem Chg.trans {S T : Nat → Prop} {w w' w'' : World} (h : Chg S w w') (k : Chg T w' w'') (hT : ∀ j, j < w.heap.size → T j → S j) : Chg S w w'' :=
  ⟨k.os.trans h.os, k.tape.trans h.tape, k.output.trans h.output, Nat.le_trans h.size k.size, fun j hj hn => (k.block j (Nat.lt_of_lt_of_le hj h.size) (fun ht => hn (hT j hj ht))).trans (h.block j hj hn)⟩
theorem chg_below {S : Nat → Prop} {w w' : World} (h : Below w.heap.size w w') : Chg S w w' := ⟨h.os, h.tape, h.output, h.size, fun k hk _ => h.block k hk⟩
theorem below_chg {S : Nat → Prop} {B : Nat} {w w' : World} (h : Chg S w w') (hB : B ≤ w.heap.size) (hS : ∀ k, k < B → ¬ S k) : Below B w w' := ⟨h.os, h.tape, h.output, h.size, fun k hk => h.block k (by omega) (hS k hk)⟩
theorem chg_set (w : World) (p : Addr) (u : Value) : Chg (fun k => k = p.block) w (w.setCell p u) :=
  ⟨rfl, rfl, rfl, by simp, fun k hk hn => Below.heap_setCell w p u k hn⟩
theorem chg_grown {w w' : World} {row : Option Nat} (h : w.grownBy w' row) : Chg (fun k => row = some k) w w' := ⟨h.os, h.tape, h.output, h.size, fun k hk hn => h.block k hk (fun e => hn e.symm)⟩
theorem own_chg {S : Nat → Prop} {w w' : World} {B e s n : Nat} {v : Value} {xs : List Value} (h : w.ownsRow B e s v n xs) (hc : Chg S w w') (hS : ∀ g, v.ownBlock = some g → ¬ S g) : w'.ownsRow B e s v n xs := by
  refine ⟨h.1, ?_⟩
  rcases h.2 with hn | ⟨g, cap, cur, hv, hbb, hgg, rest⟩
  · exact Or.inl hn
  · refine Or.inr ⟨g, cap, cur, hv, hbb, ?_, rest⟩
    rw [hc.block g (Array.getElem?_eq_some_iff.1 hgg).1 (hS g (by rw [hv]; rfl))]
    exact hgg
/-- A cell of an owned row, written anew. -/
theorem own_set {w : World} {B e s n cap g : Nat} {xs : List Value} (h : w.ownsRow B e s (.slice (some ⟨g, 0, none⟩) n cap) n xs) (j : Nat) (u : Value) :
    (w.setCell ⟨g, j, none⟩ u).ownsRow B e s (.slice (some ⟨g, 0, none⟩) n cap) n (xs.set j u) := (h.stored j u).1
theorem own_sets {B e s n cap g : Nat} : ∀ (vs : List Value) (o : Nat) (w : World) (xs : List Value), w.ownsRow B e s (.slice (some ⟨g, 0, none⟩) n cap) n xs → o + vs.length ≤ xs.length →
    (w.setCells g o vs).ownsRow B e s (.slice (some ⟨g, 0, none⟩) n cap) n (splice xs o vs)
  | [], o, w, xs, h, _ => own_cast rfl (by simp [splice]) h
  | v :: r, o, w, xs, h, hl => by
    have h1 := own_sets r (o + 1) (w.setCell ⟨g, o, none⟩ v) (xs.set o v) (own_set h o v) (by simp at hl ⊢; omega)
    refine own_cast rfl ?_ h1
    unfold splice
    apply List.ext_getElem?
    intro i
    simp only [List.length_cons] at hl
    by_cases h1 : i < o
    · rw [List.getElem?_append_left (by simp; omega), List.getElem?_append_left (by simp; omega)]
      simp [h1, show i < o + 1 by omega, show ¬ o = i by omega]
    · rw [List.getElem?_append_right (l₁ := xs.take o) (by simp; omega)]
      by_cases h2 : i = o
      · subst h2
        rw [List.getElem?_append_left (by simp; omega)]
        have : min i xs.length = i := by omega
        simp [this, show i < xs.length by omega]
      · rw [List.getElem?_append_right (by simp; omega)]
        have e1 : min (o + 1) xs.length = o + 1 := by omega
        have e2 : min o xs.length = o := by omega
        obtain ⟨d, rfl⟩ : ∃ d, i = o + 1 + d := ⟨i - (o + 1), by omega⟩
        simp only [List.length_take, List.length_set, e1, e2, show o + 1 + d - o = d + 1 by omega, show o + 1 + d - (o + 1) = d by omega, List.cons_append, List.getElem?_cons_succ]
        congr 2
        rw [List.length_cons, show o + (r.length + 1) = o + 1 + r.length by omega]
        apply List.ext_getElem?
        intro q
        simp only [List.getElem?_drop]
        rw [List.getElem?_set_ne (by omega)]
theorem own_cut {w : World} {B e s n m cap g : Nat} {xs : List Value} (h : w.ownsRow B e s (.slice (some ⟨g, 0, none⟩) n cap) n xs) (hm : m ≤ n) : w.ownsRow B e s (.slice (some ⟨g, 0, none⟩) m cap) m (xs.take (m * s)) := by
  have hms : m * s ≤ n * s := Nat.mul_le_mul_right s hm
  refine ⟨by rw [List.length_take, h.1]; omega, ?_⟩
  rcases h.2 with ⟨hv, _⟩ | ⟨g', cap', cur, hv, hb, hg, hnc, hcm, hcs, htake⟩
  · cases hv
  · cases hv
    refine Or.inr ⟨g, cap, cur, rfl, hb, hg, by omega, hcm, hcs, ?_⟩
    rw [← htake, List.take_take, Nat.min_eq_left hms]

/-- An append to an owned row: it stays where it was, or moves to a new block. -/
theorem wpList_append_more {P : Program} (w : World) {ops : Array Oper} {rest : List Oper} {o : Oper} {a : Act} {Q : Exit → Act → World → Prop} (hgd : o.guard = none) (s x : Operand) (t : TypeId)
    (ho : o.op = .call { callee := .builtin .append, args := #[s, x], argTypes := #[t, t] })
    (base : Nat) (e : TypeId) (i : TypeInfo) (z : Value) (size bytes : Nat) (ht : P.underlying t = some (.slice e)) (hi : P.info? e = some i) (hz : i.zero = some z)
    (hsize : i.size = size) (hby : i.bytes = bytes) (hzs : z.cells.size = size) (hsz : 0 < size)
    (v : Value) (n : Nat) (xs : List Value) (hs : a.eval s = v) (hown : w.ownsRow base e size v n xs)
    (ad : Addr) (m c : Nat) (news : List Value) (hx : a.eval x = .slice (some ad) m c) (hl : news.length = m * size) (hnews : ∀ j u, news[j]? = some u → w.cell? (ad.add j) = some u) (h1 : ∀ u ∈ news, u.oneCell' = true)
    (hm : 0 < m) (h63 : n + m ≤ maxLen) (hbytes : (n + m) * bytes ≤ 140737488355328)
    (h : ∀ g' cap' w', w'.ownsRow 0 e size (.slice (some ⟨g', 0, none⟩) (n + m) cap') (n + m) (xs ++ news) → (v.ownBlock = some g' ∨ w.heap.size ≤ g') → Chg (fun k => v.ownBlock = some k) w w' →
      wpList P ops Q rest (a.put o.dst (.slice (some ⟨g', 0, none⟩) (n + m) cap')) w') : wpList P ops Q (o :: rest) a w := by
  have grow : ∀ v' w', w'.ownsRow w.heap.size e size v' (n + m) (xs ++ news) → w.grownBy w' none → wpList P ops Q rest (a.put o.dst v') w' := by
    intro v' w' ho' hg
    obtain ⟨ao, cap', rfl, _, h0, hr⟩ := own_form ho'
    cases ao with
    | none => have := (h0 rfl).1; omega
    | some p =>
      obtain ⟨g', rfl, hb, _⟩ := hr p rfl
      exact h g' cap' w' (own_base ho' (Nat.zero_le _)) (Or.inr hb) ⟨hg.os, hg.tape, hg.output, hg.size, fun k hk _ => hg.block k hk (by simp)⟩
  rcases hown.2 with ⟨hv, h0⟩ | ⟨g, cap, cur, hv, hb, hg, hnc, hcm, hcs, htake⟩
  · obtain rfl : n = 0 := by omega
    obtain rfl : xs = [] := List.eq_nil_of_length_eq_zero (by simpa using hown.1)
    rw [hv] at hs
    exact wpList_append_grows w hgd s x t ho e i z size bytes ht hi hz hsize hby hzs hsz none 0 0 [] hs (fun _ => ⟨rfl, rfl⟩) (by simp) (fun b hb => by cases hb) ad m c news hx hl hnews h1 (by omega) h63 hbytes grow
  · subst hv
    by_cases hr : n + m ≤ cap
    · exact wpList_append_fits w hgd s x t ho base e i size ht hi hsize g n cap xs hs hown ad m c news hx hl hnews h1 hr fun w' k1 k2 =>
        h g cap w' (own_base k1 (Nat.zero_le _)) (Or.inl rfl) ⟨k2.os, k2.tape, k2.output, k2.size, fun k hk hn => k2.block k hk (fun e => hn e.symm)⟩
    · exact wpList_append_grows w hgd s x t ho e i z size bytes ht hi hz hsize hby hzs hsz (some ⟨g, 0, none⟩) n cap xs hs (fun e => by cases e) hown.1
        (fun b hb j u hu => by
          cases hb
          exact hown.cells (g := g) rfl j u hu) ad m c news hx hl hnews h1 (by omega) h63 hbytes grow

/-- Timers as cells. -/
def tcells : List T → List Value
  | [] => []
  | t :: l => .int .i64 t.1 :: .int .i64 t.2 :: tcells l
theorem tcells_len (l : List T) : (tcells l).length = l.length * 2 := by induction l with
  | nil => rfl
  | cons t l ih => simp only [tcells, List.length_cons, ih]; omega
theorem tcells_at : ∀ (l : List T) (j : Nat) (h : j < l.length), (tcells l)[j * 2]? = some (.int .i64 l[j].1) ∧ (tcells l)[j * 2 + 1]? = some (.int .i64 l[j].2)
  | t :: l, 0, _ => ⟨rfl, rfl⟩
  | t :: l, j + 1, h => by
    have := tcells_at l j (by simpa using h)
    rw [show (j + 1) * 2 = j * 2 + 1 + 1 by omega]
    exact this
theorem tcells_append (l m : List T) : tcells (l ++ m) = tcells l ++ tcells m := by induction l with
  | nil => rfl
  | cons t l ih => simp [tcells, ih]
theorem tcells_take : ∀ (l : List T) (k : Nat), (tcells l).take (k * 2) = tcells (l.take k)
  | [], k => by simp [tcells]
  | t :: l, 0 => by simp [tcells]
  | t :: l, k + 1 => by rw [show (k + 1) * 2 = k * 2 + 1 + 1 by omega]; simp [tcells, tcells_take l k]
theorem tcells_drop : ∀ (l : List T) (k : Nat), (tcells l).drop (k * 2) = tcells (l.drop k)
  | [], k => by simp [tcells]
  | t :: l, 0 => by simp
  | t :: l, k + 1 => by rw [show (k + 1) * 2 = k * 2 + 1 + 1 by omega]; simp [tcells, tcells_drop l k]
theorem tcells_one (l : List T) : ∀ u ∈ tcells l, u.oneCell' = true := by induction l with
  | nil => intro u hu; cases hu
  | cons t l ih =>
    intro u hu
    simp only [tcells, List.mem_cons] at hu
    rcases hu with rfl | rfl | hu
    · rfl
    · rfl
    · exact ih u hu
theorem tcells_set : ∀ (l : List T) (k : Nat) (h : k < l.length) (m : Int), (tcells l).set (k * 2 + 1) (.int .i64 m) = tcells (l.set k (l[k].1, m))
  | t :: l, 0, _, m => rfl
  | t :: l, k + 1, h, m => by
    rw [show (k + 1) * 2 + 1 = k * 2 + 1 + 1 + 1 by omega]
    have := tcells_set l k (by simpa using h) m
    simp [tcells, this]
/-- The program's wheel at block b: v is where its timers lie. -/
structure PW (w : World) (b : Nat) (v : Value) (l : List T) : Prop where
  cell : w.cell? ⟨b, 0, none⟩ = some v
  free : w.frozen? ⟨b, 0, none⟩ = false
  row : w.ownsRow 0 54 2 v l.length (tcells l)
  off : v.ownBlock ≠ some b
def fpw (b : Nat) (v : Value) : Nat → Prop := fun k => k = b ∨ v.ownBlock = some k
theorem PW.lt {w : World} {b : Nat} {v : Value} {l : List T} (h : PW w b v l) : b < w.heap.size := block_lt_of_cell h.cell
theorem fpw_lt {w : World} {b : Nat} {v : Value} {l : List T} (h : PW w b v l) : ∀ k, fpw b v k → k < w.heap.size := by
  rintro k (rfl | hk)
  · exact h.lt
  · exact (h.row.lt k hk).2
theorem pw_chg {S : Nat → Prop} {w w' : World} {b : Nat} {v : Value} {l : List T} (h : PW w b v l) (hc : Chg S w w') (hS : ∀ k, fpw b v k → ¬ S k) : PW w' b v l := by
  have hb : w'.heap[b]? = w.heap[b]? := hc.block b h.lt (hS b (Or.inl rfl))
  exact ⟨(World.cell?_of_block (w := w) (a := ⟨b, 0, none⟩) hb).trans h.cell, (World.frozen?_of_block (w := w) (a := ⟨b, 0, none⟩) hb).trans h.free, own_chg h.row hc (fun g hg => hS g (Or.inr hg)), h.off⟩
theorem pw_below {w w' : World} {b : Nat} {v : Value} {l : List T} (h : PW w b v l) (hb : Below w.heap.size w w') : PW w' b v l :=
  pw_chg (S := fun k => w.heap.size ≤ k) h ⟨hb.os, hb.tape, hb.output, hb.size, fun k hk _ => hb.block k hk⟩ (fun k hk => by have := fpw_lt h k hk; omega)
/-- Behind a call that writes: the wheel as it is now, and that nothing else changed. -/
def WOk (w : World) (b : Nat) (v : Value) (r' : List T) (w' : World) : Prop :=
  ∃ v' l', PW w' b v' l' ∧ l'.Perm r' ∧ Chg (fpw b v) w w' ∧ ∀ k, fpw b v' k → fpw b v k ∨ w.heap.size ≤ k
end Go.Proofs.Ythenmngjojgmkaa
