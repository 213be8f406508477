/- Mathematics of tables: what one has, as a rising row; takes and drops. -/
import Derived.Test.YthdloddcljbjhaaDoorLawA
import Derived.Test.YthdloddcljbjhaaDoorNmMathE
set_option linter.unusedVariables false
set_option maxRecDepth 100000
namespace Go.Proofs.YthdloddcljbjhaaDoor
open Go.RowKit CheckMath

theorem isN_eq {a b : ByteArray} (ha : isN a = true) (h : cfK a b = 0) : a = b := by
  have e := (NameMath.cmp_names a.data.toList b.data.toList ha).1 h
  have e2 : a.data = b.data := Array.toList_inj.1 e
  cases a; cases b; cases e2; rfl
/-- Strictly rising. -/
def Up (l : List ByteArray) : Prop := l.Pairwise fun a b => ltK a b = true
theorem up_of {l : List ByteArray} (hr : Rising l) (hn : l.Nodup) (hN : ∀ s, s ∈ l → isN s = true) : Up l := by
  unfold Up Rising at *
  induction l with
  | nil => exact List.Pairwise.nil
  | cons a t ih =>
    rw [List.pairwise_cons] at hr ⊢
    rw [List.nodup_cons] at hn
    refine ⟨fun b hb => ?_, ih hr.2 hn.2 (fun s hs => hN s (List.mem_cons_of_mem _ hs))⟩
    rcases cf_nlt (hr.1 b hb) with h | h
    · have := isN_eq (hN b (List.mem_cons_of_mem _ hb)) h
      subst this
      exact absurd hb hn.1
    · exact (cf_lt a b).2 h
theorem up_uniq : ∀ (l l' : List ByteArray), Up l → Up l' → (∀ s, s ∈ l ↔ s ∈ l') → l = l'
  | [], [], _, _, _ => rfl
  | [], b :: t', _, _, h => absurd ((h b).2 List.mem_cons_self) List.not_mem_nil
  | a :: t, [], _, _, h => absurd ((h a).1 List.mem_cons_self) List.not_mem_nil
  | a :: t, b :: t', hl, hl', h => by
    unfold Up at hl hl'
    rw [List.pairwise_cons] at hl hl'
    have e : a = b := by
      rcases List.mem_cons.1 ((h a).1 List.mem_cons_self) with e | ha
      · exact e
      · rcases List.mem_cons.1 ((h b).2 List.mem_cons_self) with e | hb
        · exact e.symm
        · have := lt_trans a b a (hl.1 b hb) (hl'.1 a ha)
          rw [lt_irrefl] at this
          cases this
    subst e
    have na : a ∉ t := fun hm => by have := hl.1 a hm; rw [lt_irrefl] at this; cases this
    have na' : a ∉ t' := fun hm => by have := hl'.1 a hm; rw [lt_irrefl] at this; cases this
    rw [up_uniq t t' hl.2 hl'.2 (fun s => by
      have := h s
      rw [List.mem_cons, List.mem_cons] at this
      by_cases e : s = a
      · subst e; exact ⟨fun h => absurd h na, fun h => absurd h na'⟩
      · exact ⟨fun hs => ((this.1 (Or.inr hs)).resolve_left e), fun hs => ((this.2 (Or.inr hs)).resolve_left e)⟩)]
/-- What all have are names, and no one of them is too long. -/
def Names (T : Hd) : Prop := ∀ s, T s ≠ 0 → isN s = true ∧ s.size ≤ 1048576
/-- What one has, rising. -/
def HeldOf (T : Hd) (i : Int) (K : List ByteArray) : Prop := Up K ∧ ∀ s, s ∈ K ↔ (T s ≠ 0 ∧ T s = i)
theorem HeldOf.uniq {T : Hd} {i : Int} {K K' : List ByteArray} (h : HeldOf T i K) (h' : HeldOf T i K') : K = K' := up_uniq K K' h.1 h'.1 (fun s => (h.2 s).trans (h'.2 s).symm)
theorem HeldOf.like {T T' : Hd} {i : Int} {K : List ByteArray} (h : HeldOf T i K) (e : ∀ s, (T s ≠ 0 ∧ T s = i) ↔ (T' s ≠ 0 ∧ T' s = i)) : HeldOf T' i K := ⟨h.1, fun s => (h.2 s).trans (e s)⟩
theorem heldOf_sort {T : Hd} {i : Int} {K K' : List ByteArray} (hN : Names T) (hd : K.Nodup) (hm : ∀ s, s ∈ K ↔ (T s ≠ 0 ∧ T s = i)) (hs : SortTo K K') : HeldOf T i K' :=
  ⟨up_of hs.2 (hs.1.nodup_iff.2 hd) (fun s h => (hN s ((hm s).1 (hs.1.mem_iff.1 h)).1).1), fun s => hs.1.mem_iff.trans (hm s)⟩
theorem took_at (T : Hd) (i : Int) : ∀ (l : List ByteArray) (s : ByteArray), tookT T i l s = if s ∈ l then i else T s := by
  intro l s
  unfold tookT
  induction l generalizing T with
  | nil => simp
  | cons a t ih =>
    rw [List.foldl_cons, ih]
    unfold setT
    by_cases h : s ∈ t
    · simp [h]
    · by_cases e : s = a
      · subst e; simp
      · simp [h, e]
theorem first_none {T : Hd} {i : Int} {l : List ByteArray} (h : firstO T i l = none) (s : ByteArray) (hs : s ∈ l) : T s = 0 ∨ T s = i := by
  unfold firstO at h
  rw [List.find?_eq_none] at h
  have := h s hs
  unfold oth at this
  by_cases e : T s = 0
  · exact Or.inl e
  · right
    simpa [e] using this
theorem first_some {T : Hd} {i : Int} {l : List ByteArray} {x : ByteArray} (h : firstO T i l = some x) : x ∈ l ∧ T x ≠ 0 ∧ T x ≠ i := by
  unfold firstO at h
  have h1 := List.mem_of_find?_eq_some h
  have h2 := List.find?_some h
  unfold oth at h2
  simp at h2
  exact ⟨h1, h2.1, h2.2⟩
def zz1 : ByteArray := ⟨#[122, 122, 45, 49]⟩
def zz2 : ByteArray := ⟨#[122, 122, 45, 50]⟩
def zz3 : ByteArray := ⟨#[122, 122, 45, 51]⟩
theorem zz_ne : zz1 ≠ zz2 ∧ zz1 ≠ zz3 ∧ zz2 ≠ zz3 := ⟨by decide +kernel, by decide +kernel, by decide +kernel⟩
theorem zz_name : isN zz1 = true ∧ isN zz2 = true ∧ isN zz3 = true := ⟨by decide +kernel, by decide +kernel, by decide +kernel⟩
theorem zz_lt : ltK zz1 zz2 = true := by decide +kernel
/-- The table of which a law's script begins. -/
def T1 : Hd := tookT (fun _ => 0) 900001 [zz2, zz1]
def T0 : Hd := tookT T1 900002 [zz3]
theorem T1_at (s : ByteArray) : T1 s = if s = zz2 ∨ s = zz1 then 900001 else 0 := by unfold T1; rw [took_at]; simp
theorem T0_at (s : ByteArray) : T0 s = if s = zz3 then 900002 else if s = zz2 ∨ s = zz1 then 900001 else 0 := by unfold T0; rw [took_at, T1_at]; simp
theorem first1 : firstO (fun _ => 0) 900001 [zz2, zz1] = none := by unfold firstO oth; simp
theorem first2 : firstO T1 900002 [zz3, zz1] = some zz1 := by
  obtain ⟨a, b, c⟩ := zz_ne
  unfold firstO oth
  simp [T1_at, a, c.symm, b.symm]
theorem first3 : firstO T1 900002 [zz3] = none := by
  obtain ⟨a, b, c⟩ := zz_ne
  unfold firstO oth
  simp [T1_at, c.symm, b.symm]
theorem held0 : HeldOf T0 900001 [zz1, zz2] := by
  obtain ⟨a, b, c⟩ := zz_ne
  refine ⟨?_, fun s => ?_⟩
  · unfold Up; simp [zz_lt]
  · rw [T0_at]
    by_cases e3 : s = zz3
    · subst e3; simp [b.symm, c.symm]
    · by_cases e2 : s = zz2
      · subst e2; simp [e3]
      · by_cases e1 : s = zz1
        · subst e1; simp [e3]
        · simp [e1, e2, e3]
/-- A table in which the two have what they had, and all other keys are names of 1 to 6. -/
def Tk (T : Hd) : Prop := Names T ∧ T zz1 = 900001 ∧ T zz2 = 900001 ∧ T zz3 = 900002
theorem tk0 : Tk T0 := by
  obtain ⟨a, b, c⟩ := zz_ne
  obtain ⟨n1, n2, n3⟩ := zz_name
  refine ⟨fun s hs => ?_, by rw [T0_at]; simp [a, b], by rw [T0_at]; simp [c], by rw [T0_at]; simp⟩
  rw [T0_at] at hs
  by_cases e3 : s = zz3
  · subst e3; exact ⟨n3, by decide⟩
  · by_cases e2 : s = zz2
    · subst e2; exact ⟨n2, by decide⟩
    · by_cases e1 : s = zz1
      · subst e1; exact ⟨n1, by decide⟩
      · simp [e1, e2, e3] at hs
theorem names_took {T : Hd} (h : Names T) (i : Int) {l : List ByteArray} (hall : l.all isN = true) (hs : ∀ s, s ∈ l → s.size ≤ 1048576) : Names (tookT T i l) := by
  intro s h0
  rw [took_at] at h0
  by_cases hm : s ∈ l
  · exact ⟨List.all_eq_true.1 hall s hm, hs s hm⟩
  · rw [if_neg hm] at h0; exact h s h0
theorem names_dropped {T : Hd} (h : Names T) (i : Int) : Names (dropped T i) := by
  intro s h0
  unfold dropped at h0
  by_cases e : T s = i
  · rw [if_pos e] at h0; exact absurd rfl h0
  · rw [if_neg e] at h0; exact h s h0
theorem Tk.took {T : Hd} (h : Tk T) {i : Int} (hi : 1 ≤ i ∧ i ≤ 6) {l : List ByteArray} (hall : l.all isN = true) (hs : ∀ s, s ∈ l → s.size ≤ 1048576) (hf : firstO T i l = none) : Tk (tookT T i l) := by
  have key : ∀ z (n : Int), T z = n → 900000 < n → tookT T i l z = n := fun z n hz hn => by
    rw [took_at]
    by_cases hm : z ∈ l
    · rcases first_none hf z hm with e | e <;> omega
    · rw [if_neg hm]; exact hz
  exact ⟨names_took h.1 i hall hs, key _ _ h.2.1 (by decide), key _ _ h.2.2.1 (by decide), key _ _ h.2.2.2 (by decide)⟩
theorem Tk.dropped {T : Hd} (h : Tk T) {i : Int} (hi : 1 ≤ i ∧ i ≤ 6) : Tk (dropped T i) := by
  have key : ∀ z (n : Int), T z = n → 900000 < n → Go.Proofs.YthdloddcljbjhaaDoor.dropped T i z = n := fun z n hz hn => by
    unfold Go.Proofs.YthdloddcljbjhaaDoor.dropped
    rw [if_neg (by omega)]; exact hz
  exact ⟨names_dropped h.1 i, key _ _ h.2.1 (by decide), key _ _ h.2.2.1 (by decide), key _ _ h.2.2.2 (by decide)⟩
end Go.Proofs.YthdloddcljbjhaaDoor
