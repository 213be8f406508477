/- The plain mathematics of definitions that may be: paths along needs, closing by rounds, counting, and what Check answers. Nothing of the program is named here. -/
import Derived.Test.YthdloddcljbjhaaDoorNmMathB
set_option linter.unusedVariables false
namespace CheckMath

noncomputable def tt (P : Prop) : Bool := @decide P (Classical.propDecidable P)
theorem tt_yes {P : Prop} (h : P) : tt P = true := @decide_eq_true P (Classical.propDecidable P) h
theorem tt_no {P : Prop} (h : ¬ P) : tt P = false := @decide_eq_false P (Classical.propDecidable P) h
theorem tt_iff {P : Prop} : tt P = true ↔ P := @decide_eq_true_iff P (Classical.propDecidable P)
theorem tt_not {P : Prop} : tt P = false ↔ ¬ P := @decide_eq_false_iff_not P (Classical.propDecidable P)
theorem tt_congr {P Q : Prop} (h : P ↔ Q) : tt P = tt Q := by rw [show P = Q from propext h]

/-- How many numbers below n are in a set. -/
noncomputable def cnt (P : Nat → Prop) : Nat → Nat
  | 0 => 0
  | n + 1 => cnt P n + (tt (P n)).toNat
theorem tt_nat_le {P Q : Prop} (h : P → Q) : (tt P).toNat ≤ (tt Q).toNat := by
  by_cases p : P
  · rw [tt_yes p, tt_yes (h p)]; exact Nat.le_refl _
  · rw [tt_no p]; exact Nat.zero_le _
theorem cnt_mono {P Q : Nat → Prop} : ∀ n, (∀ x, x < n → P x → Q x) → cnt P n ≤ cnt Q n
  | 0, _ => Nat.le_refl _
  | n + 1, h => Nat.add_le_add (cnt_mono n fun x hx => h x (by omega)) (tt_nat_le (h n (by omega)))
theorem cnt_le (P : Nat → Prop) : ∀ n, cnt P n ≤ n
  | 0 => Nat.le_refl _
  | n + 1 => by
    have := cnt_le P n
    have h2 : (tt (P n)).toNat ≤ 1 := by cases tt (P n) <;> decide
    unfold cnt
    omega
theorem cnt_lt {P Q : Nat → Prop} : ∀ n, (∀ x, x < n → P x → Q x) → ∀ y, y < n → Q y → ¬ P y → cnt P n < cnt Q n
  | 0, _, y, hy, _, _ => absurd hy (Nat.not_lt_zero _)
  | n + 1, h, y, hy, hq, hp => by
    have hm := tt_nat_le (h n (by omega))
    by_cases e : y = n
    · subst e
      have := cnt_mono y fun x hx => h x (by omega)
      unfold cnt
      rw [tt_no hp, tt_yes hq]
      show _ + 0 < _ + 1
      omega
    · have := cnt_lt n (fun x hx => h x (by omega)) y (by omega) hq hp
      unfold cnt
      omega
theorem cnt_all {P : Nat → Prop} : ∀ n, n ≤ cnt P n → ∀ x, x < n → P x
  | 0, _, x, hx => absurd hx (Nat.not_lt_zero _)
  | n + 1, h, x, hx => by
    have h1 := cnt_le P n
    unfold cnt at h
    have h2 : P n := by
      rcases Classical.em (P n) with p | p
      · exact p
      · rw [tt_no p] at h
        have : (false).toNat = 0 := rfl
        omega
    by_cases e : x = n
    · subst e; exact h2
    · have h3 : (tt (P n)).toNat ≤ 1 := by cases tt (P n) <;> decide
      exact cnt_all n (by omega) x (by omega)
theorem cnt_congr {P Q : Nat → Prop} (n : Nat) (h : ∀ x, x < n → (P x ↔ Q x)) : cnt P n = cnt Q n :=
  Nat.le_antisymm (cnt_mono n fun x hx => (h x hx).1) (cnt_mono n fun x hx => (h x hx).2)

/-- A way of one step or more. -/
inductive Path (E : Nat → Nat → Prop) : Nat → Nat → Prop
  | one {a b : Nat} : E a b → Path E a b
  | cons {a b c : Nat} : E a b → Path E b c → Path E a c
theorem Path.trans {E : Nat → Nat → Prop} {a b c : Nat} (h : Path E a b) (k : Path E b c) : Path E a c := by
  induction h with
  | one e => exact .cons e k
  | cons e _ ih => exact .cons e (ih k)
theorem Path.snoc {E : Nat → Nat → Prop} {a b c : Nat} (h : Path E a b) (k : E b c) : Path E a c := h.trans (.one k)
theorem Path.mono {E F : Nat → Nat → Prop} (hEF : ∀ a b, E a b → F a b) {a b : Nat} (h : Path E a b) : Path F a b := by
  induction h with
  | one e => exact .one (hEF _ _ e)
  | cons e _ ih => exact .cons (hEF _ _ e) ih
theorem Path.lt {E : Nat → Nat → Prop} {n : Nat} (hE : ∀ a b, E a b → b < n) {a b : Nat} (h : Path E a b) : b < n := by
  induction h with
  | one e => exact hE _ _ e
  | cons _ _ ih => exact ih
/-- What is closed and does not lead back is no ring. -/
theorem no_ring {E : Nat → Nat → Prop} {V : Nat → Prop} {i : Nat} (hi : V i) (hc : ∀ x, V x → ∀ y, E x y → V y ∧ y ≠ i) : ¬ Path E i i := by
  have : ∀ a c, Path E a c → V a → c ≠ i := by
    intro a c h
    induction h with
    | one e => exact fun ha => (hc _ ha _ e).2
    | cons e _ ih => exact fun ha => ih (hc _ ha _ e).1
  exact fun h => this i i h hi rfl
/-- Where there is no ring, one that is left has all it needs. -/
theorem minimal {E : Nat → Nat → Prop} {n : Nat} (hE : ∀ a b, E a b → b < n) (hR : ∀ i, i < n → ¬ Path E i i) (G : Nat → Prop) :
    ∀ m j, j < n → ¬ G j → cnt (Path E j) n ≤ m → ∃ k, k < n ∧ ¬ G k ∧ ∀ y, E k y → G y
  | m, j, hj, hG, hm => by
    by_cases h : ∀ y, E j y → G y
    · exact ⟨j, hj, hG, h⟩
    · obtain ⟨y, hy⟩ := Classical.not_forall.1 h
      obtain ⟨e, g⟩ := Classical.not_imp.1 hy
      have hyn := hE _ _ e
      have hlt : cnt (Path E y) n < cnt (Path E j) n := cnt_lt n (fun x _ p => .cons e p) y hyn (.one e) (hR y hyn)
      match m, hm with
      | 0, hm => exact absurd (Nat.lt_of_lt_of_le hlt hm) (Nat.not_lt_zero _)
      | m + 1, hm => exact minimal hE hR G m y hyn g (by omega)

/-- One round of closing. -/
def RoundOk (E : Nat → Nat → Prop) (s : Nat) (A A' : Nat → Prop) : Prop :=
  (∀ x, A x → A' x) ∧ (∀ c a, (c = s ∨ A c) → E c a → A' a) ∧ ∀ C : Nat → Prop, (∀ x, A x → C x) → (∀ c a, (c = s ∨ C c) → E c a → C a) → ∀ y, A' y → C y
def Closed (E : Nat → Nat → Prop) (s : Nat) (A : Nat → Prop) : Prop := ∀ c a, (c = s ∨ A c) → E c a → A a
def RoundInv (E : Nat → Nat → Prop) (s n r : Nat) (A : Nat → Prop) : Prop :=
  (∀ y, A y → Path E s y) ∧ (Closed E s A ∨ r ≤ cnt A n)
theorem RoundInv.step {E : Nat → Nat → Prop} {s n r : Nat} (hE : ∀ a b, E a b → b < n) {A A' : Nat → Prop} (h : RoundInv E s n r A) (k : RoundOk E s A A') : RoundInv E s n (r + 1) A' := by
  obtain ⟨h1, h2⟩ := h
  obtain ⟨k1, k2, k3⟩ := k
  refine ⟨k3 _ h1 ?_, ?_⟩
  · rintro c a (rfl | hc) e
    · exact .one e
    · exact hc.snoc e
  · by_cases hc : Closed E s A
    · have heq : ∀ x, A' x → A x := k3 A (fun x h => h) hc
      left
      exact fun c a ca e => k1 _ (hc c a (ca.imp id (heq c)) e)
    · right
      have hr : r ≤ cnt A n := h2.resolve_left hc
      unfold Closed at hc
      obtain ⟨c, hc⟩ := Classical.not_forall.1 hc
      obtain ⟨a, hc⟩ := Classical.not_forall.1 hc
      obtain ⟨c1, hc⟩ := Classical.not_imp.1 hc
      obtain ⟨c2, c3⟩ := Classical.not_imp.1 hc
      have := cnt_lt n (fun x _ => k1 x) a (hE _ _ c2) (k2 c a c1 c2) c3
      omega
theorem RoundInv.done {E : Nat → Nat → Prop} {s n : Nat} (hE : ∀ a b, E a b → b < n) {A : Nat → Prop} (h : RoundInv E s n n A) (y : Nat) : A y ↔ Path E s y := by
  refine ⟨h.1 y, fun hp => ?_⟩
  have hc : Closed E s A := by
    rcases h.2 with hc | hn
    · exact hc
    · exact fun c a _ e => cnt_all n hn a (hE _ _ e)
  have : ∀ a c, Path E a c → (a = s ∨ A a) → A c := by
    intro a c hp
    induction hp with
    | one e => exact fun ha => hc _ _ ha e
    | cons e _ ih => exact fun ha => ih (Or.inr (hc _ _ ha e))
  exact this s y hp (Or.inl rfl)

/-- A step of a definition, and a definition. -/
structure StepD where
  name : ByteArray
  kind : Int
  part : Int
  keys : List ByteArray
  needs : List Int
structure DefD where
  name : ByteArray
  steps : List StepD
def nth (ss : List StepD) (i : Nat) : StepD := ss.getD i ⟨ByteArray.empty, 0, 0, [], []⟩
theorem nth_eq {ss : List StepD} {i : Nat} (h : i < ss.length) : nth ss i = ss[i] := by simp [nth, List.getD, h]
theorem nth_mem {ss : List StepD} {i : Nat} (h : i < ss.length) : nth ss i ∈ ss := by rw [nth_eq h]; exact List.getElem_mem h
def isN (s : ByteArray) : Bool := NameMath.isGo (NameMath.runes s.data.toList) 0
def ownN (s : ByteArray) : Nat := NameMath.own 0 (NameMath.runes s.data.toList)
def cmpN (a b : ByteArray) : Int := NameMath.cmp (NameMath.runes a.data.toList) (NameMath.runes b.data.toList)

def keyAt (l : List ByteArray) (i : Nat) : ByteArray := l.getD i ByteArray.empty
def needAt (l : List Int) (i : Nat) : Int := l.getD i 0
def KeyOk (st : StepD) (i : Nat) : Prop := isN (keyAt st.keys i) = true ∧ (ownN (keyAt st.keys i) : Int) = st.part ∧ (0 < i → cmpN (keyAt st.keys (i - 1)) (keyAt st.keys i) < 0)
def KeysOk (st : StepD) : Prop := st.keys.length ≤ 2 ∧ ∀ i, i < st.keys.length → KeyOk st i
def NeedOk (l : List Int) (self count : Nat) (i : Nat) : Prop := 0 ≤ needAt l i ∧ needAt l i < count ∧ needAt l i ≠ self ∧ (0 < i → needAt l (i - 1) < needAt l i)
def NeedsOk (l : List Int) (self count : Nat) : Prop := ∀ i, i < l.length → NeedOk l self count i
def Twice (ss : List StepD) (i : Nat) : Prop := ∃ k, k < i ∧ (nth ss k).name = (nth ss i).name
noncomputable def stepFault (ss : List StepD) (i : Nat) : Int :=
  if isN (nth ss i).name = false then 110 else if tt (Twice ss i) = true then 112 else if (nth ss i).kind < 1 ∨ (nth ss i).kind > 3 then 113 else if (nth ss i).part < 0 ∨ (nth ss i).part ≥ 4 then 114
  else if tt (KeysOk (nth ss i)) = false then 115 else if tt (NeedsOk (nth ss i).needs i ss.length) = false then 116 else 0
def PivotAgain (ss : List StepD) (i : Nat) : Prop := (nth ss i).kind = 2 ∧ ∃ k, k < i ∧ (nth ss k).kind = 2
def OutOfOrder (ss : List StepD) (i : Nat) : Prop := (nth ss i).kind ≠ 3 ∧ ∃ x, x ∈ (nth ss i).needs ∧ (nth ss x.toNat).kind ≠ 1
def Edge (ss : List StepD) (a b : Nat) : Prop := a < ss.length ∧ b < ss.length ∧ (b : Int) ∈ (nth ss a).needs
def Ring (ss : List StepD) (i : Nat) : Prop := Path (Edge ss) i i
def Taken (ss : List StepD) (key : ByteArray) : Prop := ∃ k, k < ss.length ∧ (nth ss k).kind ≠ 3 ∧ key ∈ (nth ss k).keys
def KeyUntaken (ss : List StepD) (i : Nat) : Prop := (nth ss i).kind = 3 ∧ ∃ key, key ∈ (nth ss i).keys ∧ ¬ Taken ss key
/-- The least number from k on, below k + n, of which P is so; -1: none. -/
noncomputable def firstF (P : Nat → Prop) : Nat → Nat → Int
  | _, 0 => -1
  | k, n + 1 => if tt (P k) = true then (k : Int) else firstF P (k + 1) n
noncomputable def firstI (P : Nat → Prop) (n : Nat) : Int := firstF P 0 n
theorem firstF_range (P : Nat → Prop) : ∀ n k, firstF P k n = -1 ∨ (k : Int) ≤ firstF P k n ∧ firstF P k n < (k + n : Nat)
  | 0, k => Or.inl rfl
  | n + 1, k => by
    unfold firstF
    split
    · right; omega
    · rcases firstF_range P n (k + 1) with e | e
      · exact Or.inl e
      · right; omega
theorem firstI_range (P : Nat → Prop) (n : Nat) : firstI P n = -1 ∨ 0 ≤ firstI P n ∧ firstI P n < n := by
  rcases firstF_range P n 0 with e | e
  · exact Or.inl e
  · right; unfold firstI; omega
theorem firstF_none (P : Nat → Prop) : ∀ n k, firstF P k n = -1 ↔ ∀ i, k ≤ i → i < k + n → ¬ P i
  | 0, k => ⟨fun _ i h1 h2 => by omega, fun _ => rfl⟩
  | n + 1, k => by
    unfold firstF
    by_cases h : P k
    · rw [tt_yes h]
      simp only [if_true]
      exact ⟨fun h => by omega, fun h2 => absurd h (h2 k (Nat.le_refl _) (by omega))⟩
    · rw [tt_no h]
      simp only [Bool.false_eq_true, if_false]
      rw [firstF_none P n (k + 1)]
      refine ⟨fun h2 i h3 h4 => ?_, fun h2 i h3 h4 => h2 i (by omega) (by omega)⟩
      by_cases e : i = k
      · subst e; exact h
      · exact h2 i (by omega) (by omega)
theorem firstI_none (P : Nat → Prop) (n : Nat) : firstI P n = -1 ↔ ∀ i, i < n → ¬ P i := by
  unfold firstI
  rw [firstF_none]
  exact ⟨fun h i hi => h i (Nat.zero_le _) (by omega), fun h i _ hi => h i (by omega)⟩
theorem firstF_congr {P Q : Nat → Prop} (n : Nat) : ∀ k, (∀ i, i < k + n → (P i ↔ Q i)) → firstF P k n = firstF Q k n := by
  induction n with
  | zero => intro k _; rfl
  | succ n ih =>
    intro k h
    unfold firstF
    rw [tt_congr (h k (by omega)), ih (k + 1) (fun i hi => h i (by omega))]
noncomputable def amongM (ss : List StepD) : Int × Int :=
  if ¬ firstI (PivotAgain ss) ss.length = -1 then (firstI (PivotAgain ss) ss.length, 117)
  else if ¬ firstI (OutOfOrder ss) ss.length = -1 then (firstI (OutOfOrder ss) ss.length, 118)
  else if ¬ firstI (Ring ss) ss.length = -1 then (firstI (Ring ss) ss.length, 119)
  else if ¬ firstI (KeyUntaken ss) ss.length = -1 then (firstI (KeyUntaken ss) ss.length, 115)
  else (-1, 0)
noncomputable def stepsF (ss : List StepD) : Nat → Nat → Int × Int
  | _, 0 => amongM ss
  | k, n + 1 => if stepFault ss k = 0 then stepsF ss (k + 1) n else ((k : Int), stepFault ss k)
noncomputable def checkM (D : DefD) : Int × Int :=
  if isN D.name = false then (-1, 110) else if D.steps.length = 0 ∨ 8 < D.steps.length then (-1, 111) else stepsF D.steps 0 D.steps.length

theorem stepFault_range (ss : List StepD) (i : Nat) : 0 ≤ stepFault ss i ∧ stepFault ss i < 200 := by
  unfold stepFault
  repeat' split
  all_goals omega
/-- What a definition that may be is. -/
structure Fine (D : DefD) : Prop where
  name : isN D.name = true
  some : 1 ≤ D.steps.length
  few : D.steps.length ≤ 8
  step : ∀ i, i < D.steps.length → stepFault D.steps i = 0
  pivot : ∀ i, i < D.steps.length → ¬ PivotAgain D.steps i
  order : ∀ i, i < D.steps.length → ¬ OutOfOrder D.steps i
  ring : ∀ i, i < D.steps.length → ¬ Ring D.steps i
  key : ∀ i, i < D.steps.length → ¬ KeyUntaken D.steps i
theorem amongM_ok (ss : List StepD) : (amongM ss).2 = 0 ↔ (∀ i, i < ss.length → ¬ PivotAgain ss i) ∧ (∀ i, i < ss.length → ¬ OutOfOrder ss i) ∧ (∀ i, i < ss.length → ¬ Ring ss i) ∧ ∀ i, i < ss.length → ¬ KeyUntaken ss i := by
  rw [← firstI_none, ← firstI_none, ← firstI_none, ← firstI_none]
  unfold amongM
  by_cases h1 : firstI (PivotAgain ss) ss.length = -1
  · by_cases h2 : firstI (OutOfOrder ss) ss.length = -1
    · by_cases h3 : firstI (Ring ss) ss.length = -1
      · by_cases h4 : firstI (KeyUntaken ss) ss.length = -1
        · simp [h1, h2, h3, h4]
        · simp [h1, h2, h3, h4]
      · simp [h1, h2, h3]
    · simp [h1, h2]
  · simp [h1]
theorem amongM_range (ss : List StepD) : -1 ≤ (amongM ss).1 ∧ ((amongM ss).1 < ss.length) ∧ 0 ≤ (amongM ss).2 ∧ (amongM ss).2 < 200 ∧ ((amongM ss).2 = 0 → (amongM ss).1 = -1) := by
  have h1 := firstI_range (PivotAgain ss) ss.length
  have h2 := firstI_range (OutOfOrder ss) ss.length
  have h3 := firstI_range (Ring ss) ss.length
  have h4 := firstI_range (KeyUntaken ss) ss.length
  unfold amongM
  repeat' split
  all_goals refine ⟨?_, ?_, ?_, ?_, fun h => ?_⟩
  all_goals first | rfl | (simp only at *; omega)
theorem stepsF_ok (ss : List StepD) : ∀ n k, (stepsF ss k n).2 = 0 ↔ (∀ i, k ≤ i → i < k + n → stepFault ss i = 0) ∧ (amongM ss).2 = 0
  | 0, k => ⟨fun h => ⟨fun i h1 h2 => by omega, h⟩, fun h => h.2⟩
  | n + 1, k => by
    unfold stepsF
    by_cases h : stepFault ss k = 0
    · rw [if_pos h, stepsF_ok ss n (k + 1)]
      refine and_congr_left fun _ => ⟨fun h2 i h3 h4 => ?_, fun h2 i h3 h4 => h2 i (by omega) (by omega)⟩
      by_cases e : i = k
      · subst e; exact h
      · exact h2 i (by omega) (by omega)
    · rw [if_neg h]
      exact ⟨fun h2 => absurd h2 h, fun h2 => absurd (h2.1 k (Nat.le_refl _) (by omega)) h⟩
theorem stepsF_range (ss : List StepD) : ∀ n k, k + n ≤ ss.length → -1 ≤ (stepsF ss k n).1 ∧ ((stepsF ss k n).1 < ss.length) ∧ 0 ≤ (stepsF ss k n).2 ∧ (stepsF ss k n).2 < 200 ∧ ((stepsF ss k n).2 = 0 → (stepsF ss k n).1 = -1)
  | 0, k, _ => amongM_range ss
  | n + 1, k, hk => by
    unfold stepsF
    by_cases h : stepFault ss k = 0
    · rw [if_pos h]; exact stepsF_range ss n (k + 1) (by omega)
    · rw [if_neg h]
      have := stepFault_range ss k
      simp only
      omega
theorem checkM_ok (D : DefD) : (checkM D).2 = 0 ↔ Fine D := by
  unfold checkM
  by_cases h1 : isN D.name = false
  · rw [if_pos h1]
    exact ⟨fun h => by simp at h, fun h => by rw [h.name] at h1; cases h1⟩
  · rw [if_neg h1]
    by_cases h2 : D.steps.length = 0 ∨ 8 < D.steps.length
    · rw [if_pos h2]
      exact ⟨fun h => by simp at h, fun h => by have := h.some; have := h.few; omega⟩
    · rw [if_neg h2, stepsF_ok, amongM_ok]
      refine ⟨fun ⟨a, b, c, d, e⟩ => ⟨by simpa using h1, by omega, by omega, fun i hi => a i (Nat.zero_le _) (by omega), b, c, d, e⟩, fun h => ⟨fun i _ hi => h.step i (by omega), h.pivot, h.order, h.ring, h.key⟩⟩
theorem checkM_range (D : DefD) : -1 ≤ (checkM D).1 ∧ ((checkM D).1 < D.steps.length) ∧ 0 ≤ (checkM D).2 ∧ (checkM D).2 < 200 ∧ ((checkM D).2 = 0 → (checkM D).1 = -1) := by
  unfold checkM
  split
  · simp only; omega
  · split
    · simp only; omega
    · exact stepsF_range _ _ _ (by omega)

/-- What a step that is not at fault has. -/
theorem fault_none {ss : List StepD} {i : Nat} (h : stepFault ss i = 0) : isN (nth ss i).name = true ∧ ¬ Twice ss i ∧ (1 ≤ (nth ss i).kind ∧ (nth ss i).kind ≤ 3) ∧ (0 ≤ (nth ss i).part ∧ (nth ss i).part < 4) ∧ KeysOk (nth ss i) ∧ NeedsOk (nth ss i).needs i ss.length := by
  unfold stepFault at h
  by_cases h1 : isN (nth ss i).name = false
  · simp [h1] at h
  by_cases h2 : tt (Twice ss i) = true
  · simp [h1, h2] at h
  by_cases h3 : (nth ss i).kind < 1 ∨ (nth ss i).kind > 3
  · simp [h1, h2, h3] at h
  by_cases h4 : (nth ss i).part < 0 ∨ (nth ss i).part ≥ 4
  · simp [h1, h2, h3, h4] at h
  by_cases h5 : tt (KeysOk (nth ss i)) = false
  · simp [h1, h2, h3, h4, h5] at h
  by_cases h6 : tt (NeedsOk (nth ss i).needs i ss.length) = false
  · simp [h1, h2, h3, h4, h5, h6] at h
  refine ⟨by simpa using h1, fun h => h2 (tt_yes h), by omega, by omega, ?_, ?_⟩
  · rcases Classical.em (KeysOk (nth ss i)) with p | p
    · exact p
    · exact absurd (tt_no p) h5
  · rcases Classical.em (NeedsOk (nth ss i).needs i ss.length) with p | p
    · exact p
    · exact absurd (tt_no p) h6
theorem mem_needAt {l : List Int} {x : Int} (h : x ∈ l) : ∃ k, k < l.length ∧ needAt l k = x := by
  obtain ⟨k, hk, e⟩ := List.mem_iff_getElem.1 h
  exact ⟨k, hk, by simp [needAt, List.getD, hk, e]⟩
theorem needAt_mem {l : List Int} {k : Nat} (h : k < l.length) : needAt l k ∈ l := by
  have : needAt l k = l[k] := by simp [needAt, List.getD, h]
  rw [this]; exact List.getElem_mem h
theorem keyAt_mem {l : List ByteArray} {k : Nat} (h : k < l.length) : keyAt l k ∈ l := by
  have : keyAt l k = l[k] := by simp [keyAt, List.getD, h]
  rw [this]; exact List.getElem_mem h
theorem mem_keyAt {l : List ByteArray} {x : ByteArray} (h : x ∈ l) : ∃ k, k < l.length ∧ keyAt l k = x := by
  obtain ⟨k, hk, e⟩ := List.mem_iff_getElem.1 h
  exact ⟨k, hk, by simp [keyAt, List.getD, hk, e]⟩
theorem edge_lt {ss : List StepD} (a b : Nat) (h : Edge ss a b) : b < ss.length := h.2.1
/-- All needs of steps that are not at fault are steps' numbers. -/
def Needy (ss : List StepD) : Prop := ∀ i, i < ss.length → ∀ x, x ∈ (nth ss i).needs → 0 ≤ x ∧ x < ss.length ∧ x ≠ (i : Int)
theorem needy_of {ss : List StepD} (h : ∀ i, i < ss.length → stepFault ss i = 0) : Needy ss := by
  intro i hi x hx
  obtain ⟨_, _, _, _, _, h6⟩ := fault_none (h i hi)
  obtain ⟨k, hk, rfl⟩ := mem_needAt hx
  exact ⟨(h6 k hk).1, (h6 k hk).2.1, (h6 k hk).2.2.1⟩
theorem edge_of {ss : List StepD} (h : Needy ss) {i : Nat} (hi : i < ss.length) {x : Int} (hx : x ∈ (nth ss i).needs) : Edge ss i x.toNat := by
  obtain ⟨h0, h1, _⟩ := h i hi x hx
  refine ⟨hi, by omega, ?_⟩
  rw [Int.toNat_of_nonneg h0]; exact hx
end CheckMath
