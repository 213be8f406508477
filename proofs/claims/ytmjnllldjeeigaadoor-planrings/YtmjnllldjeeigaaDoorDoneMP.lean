/- The mathematics of doing and undoing, step by step; a row just made. -/
import Derived.Test.YtmjnllldjeeigaaDoorPkI
import Derived.Laws.MakeOwn
set_option linter.unusedVariables false
set_option maxRecDepth 100000
namespace Go.Proofs.YtmjnllldjeeigaaDoor
open Go.RowKit CheckMath

theorem needAt_get {l : List Int} {i : Nat} (h : i < l.length) : needAt l i = l[i] := by simp [needAt, List.getD, h]
theorem needAt_set {l : List Int} {i j : Nat} (v : Int) (hi : i < l.length) (hj : j < l.length) : needAt (l.set i v) j = if i = j then v else needAt l j := by
  rw [needAt_get (by simpa using hj), needAt_get hj, List.getElem_set]
/-- Between rounds: r are done, the others idle. -/
def DoneOk (n r : Nat) (X : List Int) : Prop := X.length = n ∧ X.countP (fun x => x == 2) = r ∧ ∀ i, i < n → needAt X i = 0 ∨ needAt X i = 2
theorem done_start (n : Nat) : DoneOk n 0 (List.replicate n 0) := by
  refine ⟨by simp, ?_, fun i hi => Or.inl (by rw [needAt_get (by simpa using hi)]; simp)⟩
  rw [List.countP_eq_zero]
  intro a ha
  rw [List.eq_of_mem_replicate ha]
  decide
theorem nl_mem {l : Nat → Bool} {n x : Nat} : x ∈ nl l n ↔ x < n ∧ l x = true := by simp [nl]
theorem done_fit {D : DefD} {r : Nat} {X : List Int} (h : DoneOk D.steps.length r X) : FitS D.steps.length X := ⟨h.1, fun i hi => by rcases h.2.2 i (by rw [← h.1]; exact hi) with e | e <;> omega⟩
theorem ready_iff {D : DefD} (hF : Fine D) {X : List Int} (hf : FitS D.steps.length X) (x : Nat) : x ∈ readyL D X ↔ x < D.steps.length ∧ ReadyP D X x := by
  rw [readyL_yes (l := fun i => tt (ReadyP D X i)) ⟨hF, hf⟩ (fun y _ => tt_iff), nl_mem, tt_iff]
theorem undo_iff {D : DefD} (hF : Fine D) {X : List Int} (hf : FitS D.steps.length X) (x : Nat) : x ∈ undoL D X ↔ x < D.steps.length ∧ UndoP D X x := by
  rw [undoL_yes (l := fun i => tt (UndoP D X i)) ⟨hF, hf⟩ (fun y _ => tt_iff), nl_mem, tt_iff]
theorem behind_iff {D : DefD} (hF : Fine D) {x : Nat} (hx : x < D.steps.length) (y : Nat) : y ∈ behindL D (x : Int) ↔ y < D.steps.length ∧ AheadP D.steps y x := by
  unfold behindL
  rw [if_pos (tt_yes (show InD D (x : Int) from ⟨hF, by omega, by omega⟩)), nl_mem, tt_iff, Int.toNat_natCast]
theorem ahead_iff {D : DefD} (hF : Fine D) {x : Nat} (hx : x < D.steps.length) (y : Nat) : y ∈ aheadL D (x : Int) ↔ y < D.steps.length ∧ AheadP D.steps x y := by
  unfold aheadL
  rw [if_pos (tt_yes (show InD D (x : Int) from ⟨hF, by omega, by omega⟩)), nl_mem, tt_iff, Int.toNat_natCast]
theorem exists_not {p : Int → Bool} {X : List Int} (h : X.countP p < X.length) : ∃ i, i < X.length ∧ p (needAt X i) = false := by
  apply Classical.byContradiction
  intro hn
  have : X.countP p = X.length := by
    rw [List.countP_eq_length]
    intro a ha
    obtain ⟨i, hi, rfl⟩ := List.mem_iff_getElem.1 ha
    cases hp : p X[i]
    · exact absurd ⟨i, hi, by rw [needAt_get hi]; exact hp⟩ hn
    · rfl
  omega
theorem exists_yes {p : Int → Bool} {X : List Int} (h : 0 < X.countP p) : ∃ i, i < X.length ∧ p (needAt X i) = true := by
  obtain ⟨a, ha, hp⟩ := List.countP_pos_iff.1 h
  obtain ⟨i, hi, rfl⟩ := List.mem_iff_getElem.1 ha
  exact ⟨i, hi, by rw [needAt_get hi]; exact hp⟩
theorem done_ready {D : DefD} (hF : Fine D) {r : Nat} {X : List Int} (h : DoneOk D.steps.length r X) (hr : r < D.steps.length) : 0 < (readyL D X).length := by
  obtain ⟨h1, h2, h3⟩ := h
  obtain ⟨i, hi, hp⟩ := exists_not (p := fun x => x == 2) (X := X) (by rw [h1, h2]; exact hr)
  obtain ⟨k, k1, k2, k3⟩ := ripe_step hF (fun y => needAt X y = 2) (j := i) (by rw [← h1]; exact hi) (by simpa using hp)
  have hm : k ∈ readyL D X := (ready_iff hF (done_fit ⟨h1, h2, h3⟩) k).2 ⟨k1, by rcases h3 k k1 with e | e; exact e; exact absurd e k2, k3⟩
  exact List.length_pos_of_mem hm
theorem done_next {n r : Nat} {X : List Int} (h : DoneOk n r X) {x : Nat} (hx : x < n) (h0 : needAt X x = 0) : DoneOk n (r + 1) (X.set x 2) := by
  obtain ⟨h1, h2, h3⟩ := h
  have hxl : x < X.length := by omega
  refine ⟨by rw [List.length_set]; exact h1, ?_, fun i hi => ?_⟩
  · rw [List.countP_set hxl, h2, ← needAt_get hxl, h0]
    simp
  · rw [needAt_set _ hxl (by omega)]
    by_cases e : x = i
    · rw [if_pos e]; exact Or.inr rfl
    · rw [if_neg e]; exact h3 i hi
theorem done_end {D : DefD} (hF : Fine D) {X : List Int} (h : DoneOk D.steps.length D.steps.length X) : (readyL D X).length = 0 := by
  rw [List.length_eq_zero_iff, List.eq_nil_iff_forall_not_mem]
  intro x hx
  obtain ⟨x1, x2, _⟩ := (ready_iff hF (done_fit h) x).1 hx
  obtain ⟨h1, h2, h3⟩ := h
  have hall := (List.countP_eq_length (p := fun x => x == 2) (l := X)).1 (by rw [h2, h1])
  have := hall (needAt X x) (by rw [needAt_get (by omega)]; exact List.getElem_mem _)
  rw [x2] at this
  exact absurd this (by decide)
/-- Is a step sent or done? -/
def opn (x : Int) : Bool := x == 1 || x == 2
theorem opn_iff (x : Int) : opn x = true ↔ OpenS x := by unfold opn OpenS; simp
theorem opn_not (x : Int) : opn x = false ↔ ¬ OpenS x := by
  rw [← opn_iff]; simp
/-- States in the range, so many of them open. -/
def UndOk (n l : Nat) (X : List Int) : Prop := FitS n X ∧ X.countP opn = l
theorem undo_some {D : DefD} (hF : Fine D) {l : Nat} {X : List Int} (h : UndOk D.steps.length l X) (hl : 0 < l) : 0 < (undoL D X).length := by
  obtain ⟨h1, h2⟩ := h
  obtain ⟨i, hi, hp⟩ := exists_yes (p := opn) (X := X) (by omega)
  obtain ⟨k, k1, k2, k3⟩ := last_step hF (fun y => OpenS (needAt X y)) (j := i) (by rw [← h1.1]; exact hi) ((opn_iff _).1 hp)
  have hm : k ∈ undoL D X := (undo_iff hF h1 k).2 ⟨k1, k2, k3⟩
  exact List.length_pos_of_mem hm
theorem undo_next {n l : Nat} {X : List Int} (h : UndOk n l X) {x : Nat} (hx : x < n) (h0 : OpenS (needAt X x)) : ∃ m, l = m + 1 ∧ UndOk n m (X.set x 5) := by
  obtain ⟨⟨h1, h3⟩, h2⟩ := h
  have hxl : x < X.length := by omega
  have hp : 0 < X.countP opn := List.countP_pos_iff.2 ⟨X[x], List.getElem_mem _, by rw [← needAt_get hxl]; exact (opn_iff _).2 h0⟩
  refine ⟨l - 1, by omega, ⟨by rw [List.length_set]; exact h1, fun i hi => ?_⟩, ?_⟩
  · rw [List.length_set] at hi
    rw [needAt_set _ hxl hi]
    by_cases e : x = i
    · rw [if_pos e]; omega
    · rw [if_neg e]; exact h3 i hi
  · rw [List.countP_set hxl, h2, ← needAt_get hxl, (opn_iff _).2 h0]
    simp [opn]
theorem undo_end {D : DefD} (hF : Fine D) {X : List Int} (h : UndOk D.steps.length 0 X) : (undoL D X).length = 0 := by
  rw [List.length_eq_zero_iff, List.eq_nil_iff_forall_not_mem]
  intro x hx
  obtain ⟨x1, x2, _⟩ := (undo_iff hF h.1 x).1 hx
  have hxl : x < X.length := by rw [h.1.1]; exact x1
  have := List.countP_eq_zero.1 h.2 X[x] (List.getElem_mem _)
  rw [← needAt_get hxl, (opn_iff _).2 x2] at this
  exact absurd rfl this
/-- While they are laid: the first k have states, the others are idle. -/
def LaidOk (n k l : Nat) (X : List Int) : Prop := FitS n X ∧ (∀ i, k ≤ i → i < n → needAt X i = 0) ∧ X.countP opn = l
theorem laid_start (n : Nat) : LaidOk n 0 0 (List.replicate n 0) := by
  refine ⟨⟨by simp, fun i hi => ?_⟩, fun i _ hi => ?_, ?_⟩
  · rw [needAt_get hi]; simp
  · rw [needAt_get (by simpa using hi)]; simp
  · rw [List.countP_eq_zero]
    intro a ha
    rw [List.eq_of_mem_replicate ha]
    decide
theorem laid_next {n k l : Nat} {X : List Int} (h : LaidOk n k l X) (hk : k < n) (v : Int) (h0 : 0 ≤ v) (h5 : v ≤ 5) : LaidOk n (k + 1) (l + if opn v = true then 1 else 0) (X.set k v) := by
  obtain ⟨⟨h1, h2⟩, h3, h4⟩ := h
  have hkl : k < X.length := by omega
  refine ⟨⟨by rw [List.length_set]; exact h1, fun i hi => ?_⟩, fun i hi1 hi2 => ?_, ?_⟩
  · rw [List.length_set] at hi
    rw [needAt_set _ hkl hi]
    by_cases e : k = i
    · rw [if_pos e]; exact ⟨h0, h5⟩
    · rw [if_neg e]; exact h2 i hi
  · rw [needAt_set _ hkl (by omega), if_neg (by omega)]
    exact h3 i (by omega) hi2
  · rw [List.countP_set hkl, h4, ← needAt_get hkl, h3 k (Nat.le_refl _) hk]
    simp [opn]
theorem laid_end {n l : Nat} {X : List Int} (h : LaidOk n n l X) : UndOk n l X := ⟨h.1, h.2.2⟩

def iV (X : List Int) : List Value := X.map fun x => Value.int .i64 x
theorem heap_new (w : World) (o : Obj) : (w.alloc o).heap[w.heap.size]? = some o := by
  unfold World.alloc
  simp
theorem own_made (w : World) (xs : List Value) (e : TypeId) (hn : xs.length ≤ maxLen) : (w.alloc (.cells xs.toArray e)).ownsRow w.heap.size e 1 (.slice (some ⟨w.heap.size, 0, none⟩) xs.length xs.length) xs.length xs :=
  ⟨by simp, Or.inr ⟨w.heap.size, xs.length, xs.toArray, rfl, Nat.le_refl _, heap_new w _, Nat.le_refl _, hn, by simp, by simp⟩⟩
/-- make([]int, n). -/
theorem make_ints (w : World) (n : Nat) (hn : n ≤ 8) : (Instr.makeSlice 26 (.int .i64 (n : Int)) (.int .i64 (n : Int))).run Tryd.prog w = .ok (.slice (some ⟨w.heap.size, 0, none⟩) n n) (w.alloc (.cells (iV (List.replicate n 0)).toArray 3)) := by
  obtain ⟨ii, hii, hi0, hi1, hi2⟩ := info_parts infoI
  have h := run_make (P := Tryd.prog) w 26 3 ii (.int .i64 0) Tryd.underlying26 hii hi0 .i64 .i64 (n : Int) (n : Int) (by omega) (by omega) (by rw [hi2]; omega) (by omega)
  rw [h]
  have e : madeCells (Value.int .i64 0).cells ((n : Int).toNat * ii.size) = (iV (List.replicate n 0)).toArray := by
    apply Array.toList_inj.1
    rw [hi1, Int.toNat_natCast, show (Value.int .i64 0).cells = #[Value.int .i64 0] from rfl, toList_madeCells_one]
    simp [iV]
  rw [e, Int.toNat_natCast]
theorem iV_len (X : List Int) : (iV X).length = X.length := by simp [iV]
theorem iV_at (X : List Int) (x : Nat) (h : x < X.length) : (iV X)[x]? = some (.int .i64 (needAt X x)) := by
  rw [needAt_get h]; simp [iV, h]
theorem iV_set (X : List Int) (x : Nat) (v : Int) : (iV X).set x (.int .i64 v) = iV (X.set x v) := by
  unfold iV
  rw [List.map_set]
end Go.Proofs.YtmjnllldjeeigaaDoor
