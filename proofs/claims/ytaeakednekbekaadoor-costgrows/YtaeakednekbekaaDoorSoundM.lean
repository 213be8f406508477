/- The mathematics of CheckSound: how many pivots; gone by rounds; a row of bools. -/
import Derived.Test.YtaeakednekbekaaDoorCBase
import Derived.Laws.MakeOwn
set_option linter.unusedVariables false
set_option maxRecDepth 100000
namespace Go.Proofs.YtaeakednekbekaaDoor
open Go.RowKit CheckMath

theorem cnt_zero {P : Nat → Prop} : ∀ n, (∀ x, x < n → ¬ P x) → cnt P n = 0
  | 0, _ => rfl
  | n + 1, h => by
    unfold cnt
    rw [cnt_zero n (fun x hx => h x (by omega)), tt_no (h n (by omega))]
    rfl
noncomputable def pivots (ss : List StepD) (m : Nat) : Nat := cnt (fun j => (nth ss j).kind = 2) m
theorem pivots_le {ss : List StepD} (h : ∀ i, i < ss.length → ¬ PivotAgain ss i) : ∀ m, m ≤ ss.length → pivots ss m ≤ 1
  | 0, _ => Nat.zero_le _
  | m + 1, hm => by
    unfold pivots cnt
    have := pivots_le h m (by omega)
    unfold pivots at this
    by_cases hk : (nth ss m).kind = 2
    · have hz : cnt (fun j => (nth ss j).kind = 2) m = 0 := cnt_zero m (fun x hx e => h m (by omega) ⟨hk, x, hx, e⟩)
      rw [hz, tt_yes hk]
      exact Nat.le_refl _
    · rw [tt_no hk]
      exact this
theorem pivots_yes {ss : List StepD} {m : Nat} (h : (nth ss m).kind = 2) : pivots ss (m + 1) = pivots ss m + 1 := by unfold pivots; rw [cnt, tt_yes h]; rfl
theorem pivots_no {ss : List StepD} {m : Nat} (h : ¬ (nth ss m).kind = 2) : pivots ss (m + 1) = pivots ss m := by unfold pivots; rw [cnt, tt_no h]; rfl

def updB (l : Nat → Bool) (x : Nat) (b : Bool) : Nat → Bool := fun j => if j = x then b else l j
theorem updB_at (l : Nat → Bool) (x : Nat) (b : Bool) : updB l x b x = b := by simp [updB]
theorem updB_off {l : Nat → Bool} {x y : Nat} {b : Bool} (h : ¬ y = x) : updB l x b y = l y := by simp [updB, h]
/-- Inside a round. -/
def InRound (ss : List StepD) (l0 l : Nat → Bool) (i : Nat) : Prop := (∀ y, l0 y = true → l y = true) ∧ ∀ j, j < i → (∀ y, CheckMath.Edge ss j y → l0 y = true) → l j = true
theorem InRound.start (ss : List StepD) (l : Nat → Bool) : InRound ss l l 0 := ⟨fun y h => h, fun j hj => absurd hj (Nat.not_lt_zero _)⟩
theorem InRound.more {ss : List StepD} {l0 l : Nat → Bool} {i : Nat} {b : Bool} (h : InRound ss l0 l i) (hb : (∀ y, CheckMath.Edge ss i y → l y = true) → b = true) : InRound ss l0 (updB l i (l i || b)) (i + 1) := by
  obtain ⟨h1, h2⟩ := h
  refine ⟨fun y hy => ?_, fun j hj hf => ?_⟩
  · by_cases e : y = i
    · subst e; rw [updB_at, h1 y hy]; rfl
    · rw [updB_off e]; exact h1 y hy
  · by_cases e : j = i
    · subst e; rw [updB_at, hb (fun y hy => h1 y (hf y hy))]; simp
    · rw [updB_off e]; exact h2 j (by omega) hf
def GoneInv (ss : List StepD) (r : Nat) (l : Nat → Bool) : Prop := (∀ j, j < ss.length → l j = true) ∨ r ≤ cnt (fun j => l j = true) ss.length
theorem GoneInv.step {ss : List StepD} {r : Nat} {l l' : Nat → Bool} (hR : ∀ i, i < ss.length → ¬ Ring ss i) (h : GoneInv ss r l) (k : InRound ss l l' ss.length) : GoneInv ss (r + 1) l' := by
  by_cases ha : ∀ j, j < ss.length → l j = true
  · exact Or.inl (fun j hj => k.1 j (ha j hj))
  · right
    have hr : r ≤ cnt (fun j => l j = true) ss.length := h.resolve_left ha
    obtain ⟨j, ha⟩ := Classical.not_forall.1 ha
    obtain ⟨hj, hn⟩ := Classical.not_imp.1 ha
    obtain ⟨m, hm, hg, he⟩ := minimal (n := ss.length) edge_lt hR (fun j => l j = true) _ j hj hn (Nat.le_refl _)
    have := cnt_lt ss.length (fun x _ => k.1 x) m hm (k.2 m hm he) hg
    omega
theorem GoneInv.all {ss : List StepD} {l : Nat → Bool} (h : GoneInv ss ss.length l) : ∀ j, j < ss.length → l j = true := by
  rcases h with h | h
  · exact h
  · exact cnt_all _ h
/-- A row of bools in a new block. -/
structure GoneAt (wb : World) (n : Nat) (l : Nat → Bool) (wr : World) : Prop where
  bel : Below wb.heap.size wb wr
  lt : wb.heap.size < wr.heap.size
  cell : ∀ j, j < n → wr.cell? ⟨wb.heap.size, j, none⟩ = some (.bool (l j)) ∧ wr.frozen? ⟨wb.heap.size, j, none⟩ = false
theorem GoneAt.set {wb : World} {n : Nat} {l : Nat → Bool} {wr : World} (h : GoneAt wb n l wr) (x : Nat) (b : Bool) : GoneAt wb n (updB l x b) (wr.setCell ⟨wb.heap.size, x, none⟩ (.bool b)) := by
  obtain ⟨h1, h2, h3⟩ := h
  have hc := chg_set wr ⟨wb.heap.size, x, none⟩ (.bool b)
  have hb : Below wb.heap.size wr (wr.setCell ⟨wb.heap.size, x, none⟩ (.bool b)) := below_chg hc h1.size (fun k hk e => by simp only at e; omega)
  refine ⟨h1.trans hb, Nat.lt_of_lt_of_le h2 hc.size, fun j hj => ⟨?_, ?_⟩⟩
  · by_cases e : j = x
    · subst e
      rw [updB_at]
      exact World.cell?_setCell_same _ _ _ (h3 j hj).1
    · rw [updB_off e, World.cell?_setCell_other wr _ _ _ (fun e' => e (congrArg Addr.off e').symm)]
      exact (h3 j hj).1
  · rw [World.frozen?_setCell]; exact (h3 j hj).2
theorem GoneAt.below {wb : World} {n : Nat} {l : Nat → Bool} {wr w' : World} (h : GoneAt wb n l wr) (hb : Below wr.heap.size wr w') : GoneAt wb n l w' := by
  obtain ⟨h1, h2, h3⟩ := h
  refine ⟨h1.trans (hb.mono h1.size), Nat.lt_of_lt_of_le h2 hb.size, fun j hj => ⟨(hb.cell (p := ⟨wb.heap.size, j, none⟩) h2).trans (h3 j hj).1, ?_⟩⟩
  exact (World.frozen?_of_block (w := wr) (a := ⟨wb.heap.size, j, none⟩) (hb.block _ h2)).trans (h3 j hj).2

theorem infoBool : (Tryd.prog.info? 4).map (fun i => (i.zero, i.size, i.bytes)) = some (some (.bool false), 1, 1) := by kernel_rfl
theorem info_bool : ∃ i, Tryd.prog.info? 4 = some i ∧ i.zero = some (.bool false) ∧ i.size = 1 ∧ i.bytes = 1 := by
  have h := infoBool
  cases hi : Tryd.prog.info? 4 with
  | none => rw [hi] at h; cases h
  | some i =>
    rw [hi] at h
    simp only [Option.map_some, Option.some.injEq, Prod.mk.injEq] at h
    exact ⟨i, rfl, h.1, h.2.1, h.2.2⟩
/-- make of a row of bools. -/
theorem mk_bools (w : World) (n : Nat) (hn : n ≤ 8) : ∃ w', (Instr.makeSlice 66 (.int .i64 (n : Int)) (.int .i64 (n : Int))).run Tryd.prog w = .ok (.slice (some ⟨w.heap.size, 0, none⟩) n n) w' ∧ GoneAt w n (fun _ => false) w' := by
  obtain ⟨i0, hi, hz0, hz1, hz2⟩ := info_bool
  have hmk := run_makeSlice (P := Tryd.prog) w 66 4 i0 (.bool false) Tryd.underlying66 hi hz0 .i64 .i64 (n : Int) (n : Int) (by omega) (by omega) (by rw [hz1]; omega) (by rw [hz2]; omega) (by omega)
  rw [hz1, Nat.mul_one, Int.toNat_natCast, show (Value.bool false).cells = #[Value.bool false] from rfl] at hmk
  refine ⟨_, hmk, (Below.refl _ _).alloc (Nat.le_refl _) _, by simp, fun j hj => ?_⟩
  rw [World.cell?_alloc_new, World.frozen?_alloc_new]
  refine ⟨?_, rfl⟩
  rw [← Array.getElem?_toList, toList_madeCells_one]
  simp [hj]
end Go.Proofs.YtaeakednekbekaaDoor
