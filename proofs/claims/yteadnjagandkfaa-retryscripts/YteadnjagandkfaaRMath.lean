/- The mathematics of retries, without the program: who waits, and how two rows of timers tell it. -/
import Derived.Test.YteadnjagandkfaaWMath
namespace RetryMath
set_option linter.unusedVariables false
open WheelMath

abbrev M : Int := 1073741824
def Tick (n : Int) : Prop := 0 ≤ n ∧ n ≤ M
instance (n : Int) : Decidable (Tick n) := by unfold Tick; exact inferInstance
/-- One that waits. -/
structure Wt where
  tries : Int
  again : Int
  late : Int
  told : Bool
/-- Who waits, by ids. -/
abbrev Ws := Int → Option Wt
def later (now n : Int) : Int := if M - now < n then M else now + n
theorem later_tick {now n : Int} (h : Tick now) (hn : 0 ≤ n) : Tick (later now n) := by unfold later Tick at *; split <;> omega
/-- A table that may be. -/
def mayFrom : Int → List Int → Bool
  | _, [] => true
  | a, t :: l => !(decide (t < a) || decide (1000 < t)) && mayFrom t l
def may (l : List Int) : Bool := !(decide (l.length < 1) || decide (8 < l.length)) && mayFrom 1 l
theorem mayFrom_bounds : ∀ {l : List Int} {a : Int}, 1 ≤ a → mayFrom a l = true → ∀ t ∈ l, 1 ≤ t ∧ t ≤ 1000
  | [], _, _, _, t, ht => by cases ht
  | x :: l, a, ha, h, t, ht => by
    simp only [mayFrom, Bool.and_eq_true, Bool.not_eq_true', Bool.or_eq_false_iff, decide_eq_false_iff_not] at h
    rcases List.mem_cons.1 ht with rfl | ht
    · omega
    · exact mayFrom_bounds (by omega) h.2 t ht
theorem may_bounds {l : List Int} (h : may l = true) : 1 ≤ l.length ∧ l.length ≤ 8 ∧ ∀ t ∈ l, 1 ≤ t ∧ t ≤ 1000 := by
  simp only [may, Bool.and_eq_true, Bool.not_eq_true', Bool.or_eq_false_iff, decide_eq_false_iff_not] at h
  exact ⟨by omega, by omega, mayFrom_bounds (by decide) h.2⟩
/-- How long to wait behind so many tries. -/
def dly (tab : List Int) (n : Int) : Int := tab.getD (min n.toNat (tab.length - 1)) 0
theorem dly_bounds {tab : List Int} (h : may tab = true) (n : Int) : 1 ≤ dly tab n ∧ dly tab n ≤ 1000 := by
  obtain ⟨h1, h2, h3⟩ := may_bounds h
  unfold dly
  have hl : min n.toNat (tab.length - 1) < tab.length := by omega
  rw [List.getD_eq_getElem?_getD, List.getElem?_eq_getElem hl]
  exact h3 _ (List.getElem_mem hl)

/-- What always holds of those who wait, behind at most n calls. -/
def AOk (n : Int) (A : Ws) : Prop := ∀ id w, A id = some w → 1 ≤ id ∧ id ≤ 60 ∧ 0 ≤ w.tries ∧ w.tries ≤ n ∧ Tick w.again ∧ Tick w.late
theorem AOk.mono {n m : Int} {A : Ws} (h : AOk n A) (hm : n ≤ m) : AOk m A := fun id w hw => by
  obtain ⟨a, b, c, d, e, f⟩ := h id w hw
  exact ⟨a, b, c, by omega, e, f⟩
def none0 : Ws := fun _ => none
theorem aok_none (n : Int) : AOk n none0 := fun _ _ h => by cases h
def upd (A : Ws) (id : Int) (x : Option Wt) : Ws := fun j => if j = id then x else A j
theorem upd_same (A : Ws) (id : Int) (x : Option Wt) : upd A id x id = x := by unfold upd; simp
theorem upd_other (A : Ws) {id j : Int} (x : Option Wt) (h : j ≠ id) : upd A id x j = A j := by unfold upd; simp [h]
theorem AOk.upd {n : Int} {A : Ws} (h : AOk n A) {id : Int} {x : Option Wt} (hx : ∀ w, x = some w → 1 ≤ id ∧ id ≤ 60 ∧ 0 ≤ w.tries ∧ w.tries ≤ n ∧ Tick w.again ∧ Tick w.late) : AOk n (upd A id x) := fun j w hw => by
  by_cases e : j = id
  · subst e
    rw [upd_same] at hw
    exact hx w hw
  · rw [upd_other A x e] at hw
    exact h j w hw

/-- A row of timers tells a function of ids. -/
def Tells (r : List T) (f : Int → Option Int) : Prop := Good r ∧ ∀ id t, (id, t) ∈ r ↔ f id = some t
def updT (f : Int → Option Int) (id : Int) (x : Option Int) : Int → Option Int := fun j => if j = id then x else f j
theorem tells_congr {r : List T} {f g : Int → Option Int} (h : Tells r f) (e : ∀ id, f id = g id) : Tells r g := ⟨h.1, fun id t => by rw [h.2, e]⟩
theorem tells_nil : Tells [] (fun _ => none) := ⟨good_nil, fun id t => by simp⟩
theorem tells_rem {r : List T} {f : Int → Option Int} (h : Tells r f) (id : Int) : Tells (rem r id) (updT f id none) := by
  refine ⟨good_rem h.1 id, fun j t => ?_⟩
  rw [mem_rem, h.2]
  unfold updT
  by_cases e : j = id
  · simp [e]
  · simp [e]
theorem has_tells {r : List T} {f : Int → Option Int} (h : Tells r f) (id : Int) : has r id ↔ f id ≠ none := by
  constructor
  · rintro ⟨⟨j, t⟩, ht, rfl⟩ e
    have := (h.2 j t).1 ht
    rw [e] at this
    cases this
  · intro hn
    cases hf : f id with
    | none => exact absurd hf hn
    | some t => exact ⟨(id, t), (h.2 id t).2 hf, rfl⟩
theorem nodup_len : ∀ (n : Nat) (l : List Nat), l.Nodup → (∀ x ∈ l, x < n) → l.length ≤ n
  | 0, l, _, h => by
    cases l with
    | nil => exact Nat.le_refl _
    | cons x l => exact absurd (h x (by simp)) (by omega)
  | n + 1, l, hn, h => by
    by_cases hm : n ∈ l
    · have h1 := nodup_len n (l.erase n) (hn.erase n) (fun x hx => by
        have h2 := (hn.mem_erase_iff).1 hx
        have := h x h2.2
        have := h2.1
        omega)
      rw [List.length_erase_of_mem hm] at h1
      omega
    · have h1 := nodup_len n l hn (fun x hx => by
        have := h x hx
        have : x ≠ n := fun e => hm (e ▸ hx)
        omega)
      omega
theorem ids_len {r : List T} (h : Ids r) (hb : ∀ t ∈ r, 1 ≤ t.1 ∧ t.1 ≤ 60) : r.length ≤ 61 := by
  have h1 := nodup_len 61 (r.map fun t => t.1.toNat) ?_ ?_
  · simpa using h1
  · unfold Ids at h
    rw [List.Nodup, List.pairwise_map]
    refine h.imp_of_mem ?_
    intro a b ha hb' hne e
    have := hb a ha
    have := hb b hb'
    omega
  · intro x hx
    obtain ⟨t, ht, rfl⟩ := List.mem_map.1 hx
    have := hb t ht
    omega
def Lim (f : Int → Option Int) : Prop := ∀ id, f id ≠ none → 1 ≤ id ∧ id ≤ 60
theorem tells_len {r : List T} {f : Int → Option Int} (h : Tells r f) (hl : Lim f) : r.length ≤ 61 :=
  ids_len h.1.ids (fun t ht => hl t.1 (by rw [(h.2 t.1 t.2).1 ht]; simp))
/-- Set: it is put in, whoever it was. -/
theorem tells_set {r : List T} {f : Int → Option Int} (h : Tells r f) (hl : Lim f) {id tm : Int} (h1 : 1 ≤ id) (h2 : id ≤ 60) (ht : Tick tm) : (aSet r id tm).2 = 0 ∧ Tells (aSet r id tm).1 (updT f id (some tm)) := by
  have hlen := tells_len h hl
  unfold Tick M at ht
  have e : aSet r id tm = (ins (id, tm) (rem r id), 0) := by
    unfold aSet
    rw [if_neg (by omega), if_neg (by omega)]
  have hg := good_aSet h.1 id tm
  rw [e] at hg ⊢
  refine ⟨rfl, hg, fun j t => ?_⟩
  rw [mem_ins, mem_rem, h.2]
  unfold updT
  by_cases ej : j = id
  · subst ej
    simp [eq_comm]
  · simp [ej]
theorem good_mem_told : ∀ {r : List T} (now : Int), Sorted r → ∀ id, id ∈ told r now ↔ ∃ t, (id, t) ∈ r ∧ t ≤ now
  | [], now, _, id => by simp [told_nil]
  | a :: r, now, h, id => by
    unfold Sorted at h
    rw [List.pairwise_cons] at h
    rw [told_cons]
    by_cases hn : a.2 ≤ now
    · rw [if_pos hn, List.mem_cons, good_mem_told now h.2]
      constructor
      · rintro (rfl | ⟨t, ht, hle⟩)
        · exact ⟨a.2, by simp, hn⟩
        · exact ⟨t, by simp [ht], hle⟩
      · rintro ⟨t, ht, hle⟩
        rcases List.mem_cons.1 ht with e | ht
        · left; rw [← e]
        · exact Or.inr ⟨t, ht, hle⟩
    · rw [if_neg hn]
      constructor
      · intro h; cases h
      · rintro ⟨t, ht, hle⟩
        rcases List.mem_cons.1 ht with e | ht
        · rw [← e] at hn; exact absurd hle hn
        · have := h.1 _ ht
          unfold before at this
          omega
theorem good_mem_left : ∀ {r : List T} (now : Int), Sorted r → ∀ id t, (id, t) ∈ left r now ↔ (id, t) ∈ r ∧ now < t
  | [], now, _, id, t => by simp [left_nil]
  | a :: r, now, h, id, t => by
    unfold Sorted at h
    rw [List.pairwise_cons] at h
    rw [left_cons]
    by_cases hn : a.2 ≤ now
    · rw [if_pos hn, good_mem_left now h.2, List.mem_cons]
      constructor
      · rintro ⟨h1, h2⟩; exact ⟨Or.inr h1, h2⟩
      · rintro ⟨h1 | h1, h2⟩
        · rw [← h1] at hn; simp only at hn; omega
        · exact ⟨h1, h2⟩
    · rw [if_neg hn]
      constructor
      · intro h1
        refine ⟨h1, ?_⟩
        rcases List.mem_cons.1 h1 with e | h1
        · rw [← e] at hn; simp only at hn; omega
        · have := h.1 _ h1
          unfold before at this
          simp only at this
          omega
      · exact fun h1 => h1.1
theorem told_nodup : ∀ {r : List T} (now : Int), Ids r → (told r now).Nodup
  | [], now, _ => by simp [told_nil]
  | a :: r, now, h => by
    have h' := h
    unfold Ids at h
    rw [List.pairwise_cons] at h
    rw [told_cons]
    split
    · rw [List.nodup_cons]
      refine ⟨fun hm => ?_, told_nodup now h.2⟩
      unfold told at hm
      obtain ⟨t, ht, e⟩ := List.mem_map.1 hm
      exact h.1 t (List.takeWhile_sublist _ |>.subset ht) e.symm
    · exact List.nodup_nil
/-- Two rising rows of the same numbers are one. -/
theorem rising_uniq : ∀ {a b : List Int}, a.Pairwise (· < ·) → b.Pairwise (· < ·) → (∀ x, x ∈ a ↔ x ∈ b) → a = b
  | [], [], _, _, _ => rfl
  | [], y :: b, _, _, h => absurd ((h y).2 (by simp)) (by simp)
  | x :: a, [], _, _, h => absurd ((h x).1 (by simp)) (by simp)
  | x :: a, y :: b, ha, hb, h => by
    rw [List.pairwise_cons] at ha hb
    have e : x = y := by
      have h1 := (h x).1 (by simp)
      have h2 := (h y).2 (by simp)
      rcases List.mem_cons.1 h1 with e | h1
      · exact e
      · rcases List.mem_cons.1 h2 with e | h2
        · exact e.symm
        · have := ha.1 y h2
          have := hb.1 x h1
          omega
    subst e
    rw [rising_uniq ha.2 hb.2 (fun z => by
      constructor
      · intro hz
        rcases List.mem_cons.1 ((h z).1 (by simp [hz])) with e | e
        · subst e; exact absurd (ha.1 z hz) (by omega)
        · exact e
      · intro hz
        rcases List.mem_cons.1 ((h z).2 (by simp [hz])) with e | e
        · subst e; exact absurd (hb.1 z hz) (by omega)
        · exact e)]
/-- The ids that there may be. -/
def ids60 (n : Nat) : List Int := (List.range n).map fun (k : Nat) => ((k : Int) + 1)
theorem mem_ids60 {n : Nat} {x : Int} : x ∈ ids60 n ↔ 1 ≤ x ∧ x ≤ n := by
  unfold ids60
  rw [List.mem_map]
  constructor
  · rintro ⟨k, hk, rfl⟩
    have := List.mem_range.1 hk
    omega
  · rintro ⟨h1, h2⟩
    exact ⟨(x - 1).toNat, List.mem_range.2 (by omega), by omega⟩
theorem ids60_rising (n : Nat) : (ids60 n).Pairwise (· < ·) := by
  unfold ids60
  rw [List.pairwise_map]
  exact List.pairwise_lt_range.imp (fun h => by omega)
theorem ids60_succ (n : Nat) : ids60 (n + 1) = ids60 n ++ [(n : Int) + 1] := by
  unfold ids60
  rw [List.range_succ, List.map_append]
  rfl
def isDue (A : Ws) (now : Int) (id : Int) : Bool := match A id with
  | some w => decide (w.again ≤ now)
  | none => false
def isLate (A : Ws) (now : Int) (id : Int) : Bool := match A id with
  | some w => !w.told && decide (w.late ≤ now)
  | none => false
def dueL (A : Ws) (now : Int) (n : Nat) : List Int := (ids60 n).filter (isDue A now)
def lateL (A : Ws) (now : Int) (n : Nat) : List Int := (ids60 n).filter (isLate A now)
def fA (A : Ws) : Int → Option Int := fun id => (A id).map (·.again)
def fL (A : Ws) : Int → Option Int := fun id => match A id with
  | some w => if w.told then none else some w.late
  | none => none
def fT (A : Ws) : Int → Option Int := fun id => (A id).map (·.tries)
theorem lim_A {n : Int} {A : Ws} (h : AOk n A) : Lim (fA A) := fun id hn => by
  unfold fA at hn
  cases e : A id with
  | none => rw [e] at hn; exact absurd rfl hn
  | some w => have := h id w e; omega
theorem lim_L {n : Int} {A : Ws} (h : AOk n A) : Lim (fL A) := fun id hn => by
  unfold fL at hn
  cases e : A id with
  | none => rw [e] at hn; exact absurd rfl hn
  | some w => have := h id w e; omega
abbrev srt (l : List Int) : List Int := l.mergeSort fun x y => decide (x ≤ y)
theorem srt_perm (l : List Int) : (srt l).Perm l := List.mergeSort_perm l _
theorem srt_rising {l : List Int} (h : l.Nodup) : (srt l).Pairwise (· < ·) := by
  have h1 : (srt l).Pairwise (fun x y => decide (x ≤ y) = true) := List.pairwise_mergeSort (fun a b c h1 h2 => by simp at *; omega) (fun a b => by simp; omega) l
  have h2 : (srt l).Nodup := (srt_perm l).nodup_iff.2 h
  exact (h1.and h2).imp (fun ⟨a, b⟩ => by simp at a; omega)
theorem srt_told {r : List T} {f : Int → Option Int} {n : Int} {p : Int → Bool} (h : Tells r f) (hl : Lim f) (now : Int) (hp : ∀ id, p id = true ↔ ∃ t, f id = some t ∧ t ≤ now) : srt (told r now) = (ids60 60).filter p := by
  refine rising_uniq (srt_rising (told_nodup now h.1.ids)) ((ids60_rising 60).filter _) (fun x => ?_)
  rw [(srt_perm _).mem_iff, good_mem_told now h.1.sorted, List.mem_filter, hp, mem_ids60]
  constructor
  · rintro ⟨t, ht, hle⟩
    have h2 := (h.2 x t).1 ht
    exact ⟨hl x (by rw [h2]; simp), t, h2, hle⟩
  · rintro ⟨_, t, h2, hle⟩
    exact ⟨t, (h.2 x t).2 h2, hle⟩
theorem srt_due {n : Int} {A : Ws} (h : AOk n A) {r : List T} (hr : Tells r (fA A)) (now : Int) : srt (told r now) = dueL A now 60 :=
  srt_told (n := n) hr (lim_A h) now (fun id => by
    unfold isDue fA
    cases A id with
    | none => simp
    | some w => simp)
theorem srt_late {n : Int} {A : Ws} (h : AOk n A) {r : List T} (hr : Tells r (fL A)) (now : Int) : srt (told r now) = lateL A now 60 :=
  srt_told (n := n) hr (lim_L h) now (fun id => by
    unfold isLate fL
    cases A id with
    | none => simp
    | some w => cases e : w.told <;> simp [e])
theorem tells_left {r : List T} {f : Int → Option Int} (h : Tells r f) (now : Int) : Tells (left r now) (fun id => (f id).filter fun t => decide (now < t)) := by
  refine ⟨good_left h.1 now, fun id t => ?_⟩
  rw [good_mem_left now h.1.sorted, h.2]
  simp [Option.filter_eq_some_iff]
/-- What one is behind a Due. -/
def dueW (tab : List Int) (now : Int) (w : Wt) : Wt :=
  { tries := if w.again ≤ now then w.tries + 1 else w.tries, again := if w.again ≤ now then later now (dly tab (w.tries + 1)) else w.again, late := w.late, told := w.told || decide (w.late ≤ now) }
def dueA (tab : List Int) (now : Int) (A : Ws) : Ws := fun id => (A id).map (dueW tab now)
theorem AOk.due {n : Int} {A : Ws} (h : AOk n A) {tab : List Int} (ht : may tab = true) {now : Int} (hn : Tick now) : AOk (n + 1) (dueA tab now A) := fun id w hw => by
  unfold dueA at hw
  cases e : A id with
  | none => rw [e] at hw; cases hw
  | some w0 =>
    rw [e] at hw
    cases hw
    obtain ⟨a, b, c, d, e1, f⟩ := h id w0 e
    refine ⟨a, b, ?_, ?_, ?_, f⟩
    · show 0 ≤ (if w0.again ≤ now then w0.tries + 1 else w0.tries)
      split <;> omega
    · show (if w0.again ≤ now then w0.tries + 1 else w0.tries) ≤ n + 1
      split <;> omega
    · show Tick (if w0.again ≤ now then later now (dly tab (w0.tries + 1)) else w0.again)
      split
      · exact later_tick hn (by have := dly_bounds ht (w0.tries + 1); omega)
      · exact e1
theorem fL_due (tab : List Int) (now : Int) (A : Ws) (id : Int) : ((fL A id).filter fun t => decide (now < t)) = fL (dueA tab now A) id := by
  unfold fL dueA dueW
  cases A id with
  | none => rfl
  | some w =>
    cases e : w.told
    · by_cases h : w.late ≤ now
      · simp [e, h, Option.filter, show ¬ now < w.late by omega]
      · simp [e, h, Option.filter, show now < w.late by omega]
    · simp [e, Option.filter]
/-- Between: those of a list have been set anew. -/
def midA (tab : List Int) (now : Int) (A : Ws) (K : List Int) : Int → Option Int := fun id => match A id with
  | some w => if w.again ≤ now then (if id ∈ K then some (later now (dly tab (w.tries + 1))) else none) else some w.again
  | none => none
def midT (A : Ws) (K : List Int) : Int → Option Int := fun id => (A id).map fun w => if id ∈ K then w.tries + 1 else w.tries
theorem mid_start (tab : List Int) (now : Int) (A : Ws) (id : Int) : ((fA A id).filter fun t => decide (now < t)) = midA tab now A [] id := by
  unfold fA midA
  cases A id with
  | none => rfl
  | some w =>
    by_cases h : w.again ≤ now
    · simp [h, Option.filter, show ¬ now < w.again by omega]
    · simp [h, Option.filter, show now < w.again by omega]
theorem midT_start (A : Ws) : midT A [] = fT A := by funext id; unfold midT fT; simp
theorem mid_step (tab : List Int) (now : Int) (A : Ws) (K : List Int) (id : Int) (w : Wt) (hw : A id = some w) (hd : w.again ≤ now) (j : Int) : updT (midA tab now A K) id (some (later now (dly tab (w.tries + 1)))) j = midA tab now A (K ++ [id]) j := by
  unfold updT midA
  by_cases e : j = id
  · subst e; rw [hw]; simp [hd]
  · simp [e]
theorem midT_step (A : Ws) (K : List Int) (id : Int) (w : Wt) (hw : A id = some w) : updT (midT A K) id (some (w.tries + 1)) = midT A (K ++ [id]) := by
  funext j
  unfold updT midT
  by_cases e : j = id
  · subst e; rw [hw]; simp
  · simp [e]
theorem mem_dueL {n : Int} {A : Ws} (h : AOk n A) (now : Int) (id : Int) : id ∈ dueL A now 60 ↔ ∃ w, A id = some w ∧ w.again ≤ now := by
  unfold dueL
  rw [List.mem_filter, mem_ids60]
  unfold isDue
  constructor
  · rintro ⟨_, h2⟩
    cases e : A id with
    | none => rw [e] at h2; cases h2
    | some w => rw [e] at h2; exact ⟨w, rfl, by simpa using h2⟩
  · rintro ⟨w, hw, hd⟩
    rw [hw]
    have := h id w hw
    exact ⟨by omega, by simpa using hd⟩
theorem mid_end {n : Int} {A : Ws} (h : AOk n A) (tab : List Int) (now : Int) (id : Int) : midA tab now A (dueL A now 60) id = fA (dueA tab now A) id := by
  unfold midA fA dueA dueW
  cases e : A id with
  | none => rfl
  | some w =>
    by_cases hd : w.again ≤ now
    · have : id ∈ dueL A now 60 := (mem_dueL h now id).2 ⟨w, e, hd⟩
      simp [hd, this]
    · simp [hd]
theorem midT_end {n : Int} {A : Ws} (h : AOk n A) (tab : List Int) (now : Int) : midT A (dueL A now 60) = fT (dueA tab now A) := by
  funext id
  unfold midT fT dueA dueW
  cases e : A id with
  | none => rfl
  | some w =>
    by_cases hd : w.again ≤ now
    · have : id ∈ dueL A now 60 := (mem_dueL h now id).2 ⟨w, e, hd⟩
      simp [hd, this]
    · have : ¬ id ∈ dueL A now 60 := fun hm => by
        obtain ⟨w', e', hd'⟩ := (mem_dueL h now id).1 hm
        rw [e] at e'
        cases e'
        exact hd hd'
      simp [hd, this]
theorem midT_once {A : Ws} {K : List Int} {id : Int} {w : Wt} (hw : A id = some w) (hn : ¬ id ∈ K) : midT A K id = some w.tries := by
  unfold midT
  rw [hw]
  simp [hn]
theorem dueL_nodup (A : Ws) (now : Int) (n : Nat) : (dueL A now n).Nodup := ((ids60_rising n).filter _).imp (fun h => by omega)
theorem dueL_len (A : Ws) (now : Int) (n : Nat) : (dueL A now n).length ≤ n := by
  have := List.length_filter_le (isDue A now) (ids60 n)
  unfold dueL
  simp [ids60] at this ⊢
  omega
theorem lateL_len (A : Ws) (now : Int) (n : Nat) : (lateL A now n).length ≤ n := by
  have := List.length_filter_le (isLate A now) (ids60 n)
  unfold lateL
  simp [ids60] at this ⊢
  omega
theorem lim_mid {n : Int} {A : Ws} (h : AOk n A) (tab : List Int) (now : Int) (K : List Int) : Lim (midA tab now A K) := fun id hn => by
  unfold midA at hn
  cases e : A id with
  | none => rw [e] at hn; exact absurd rfl hn
  | some w => have := h id w e; omega
end RetryMath
