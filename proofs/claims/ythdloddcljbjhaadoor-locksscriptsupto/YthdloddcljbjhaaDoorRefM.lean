/- Mathematics: the document's row of locks against a table as a function. -/
import Derived.Test.YthdloddcljbjhaaDoorRefD
import Derived.Test.YthdloddcljbjhaaDoorAllW
set_option linter.unusedVariables false
set_option maxRecDepth 100000
namespace Go.Proofs.YthdloddcljbjhaaDoor
open Go.RowKit CheckMath

/-- The row is rising by its keys, everybody in it is somebody, and it tells who T tells. -/
def Like (T : Hd) (L : List Lk) : Prop := Up (L.map (·.1)) ∧ (∀ x, x ∈ L → x.2 ≠ 0) ∧ ∀ s, who L s = T s
theorem who_mem {L : List Lk} (hu : Up (L.map (·.1))) {x : Lk} (hx : x ∈ L) : who L x.1 = x.2 := by
  have hn := hu.nodup
  unfold who
  induction L with
  | nil => cases hx
  | cons y L ih =>
    rw [List.map_cons, List.nodup_cons] at hn
    rw [List.find?_cons]
    rcases List.mem_cons.1 hx with rfl | hx
    · simp
    · have hne : ¬ y.1 = x.1 := fun e => hn.1 (by rw [e]; exact List.mem_map.2 ⟨x, hx, rfl⟩)
      rw [decide_eq_false hne]
      unfold Up at hu
      rw [List.map_cons, List.pairwise_cons] at hu
      exact ih hu.2 hx hn.2
theorem who_ne {L : List Lk} {s : ByteArray} (h : who L s ≠ 0) : ∃ x, x ∈ L ∧ x.1 = s ∧ x.2 = who L s := by
  unfold who at h ⊢
  cases e : L.find? (fun x => decide (x.1 = s)) with
  | none => rw [e] at h; exact absurd rfl h
  | some x =>
    exact ⟨x, List.mem_of_find?_eq_some e, by simpa using List.find?_some e, rfl⟩
theorem Like.mem {T : Hd} {L : List Lk} (h : Like T L) (s : ByteArray) (i : Int) : (s, i) ∈ L ↔ (T s ≠ 0 ∧ T s = i) := by
  constructor
  · intro hx
    have e := who_mem h.1 hx
    have := h.2.1 _ hx
    rw [h.2.2 s] at e
    exact ⟨by rw [e]; exact this, e⟩
  · rintro ⟨h0, rfl⟩
    rw [← h.2.2 s] at h0
    obtain ⟨x, hx, rfl, e⟩ := who_ne h0
    rw [h.2.2] at e
    have : x = (x.1, T x.1) := by rw [← e]
    rw [← this]; exact hx
theorem Like.keys {T : Hd} {L : List Lk} (h : Like T L) (s : ByteArray) : s ∈ L.map (·.1) ↔ T s ≠ 0 := by
  rw [List.mem_map]
  constructor
  · rintro ⟨x, hx, rfl⟩
    exact ((h.mem x.1 x.2).1 hx).1
  · intro h0
    exact ⟨(s, T s), (h.mem s _).2 ⟨h0, rfl⟩, rfl⟩
theorem Like.held {T : Hd} {L : List Lk} (h : Like T L) (i : Int) : HeldOf T i (heldL L i) := by
  refine ⟨?_, fun s => ?_⟩
  · unfold heldL Up
    have := h.1
    unfold Up at this
    rw [List.pairwise_map] at this ⊢
    exact this.filter _
  · rw [← h.mem s i]
    unfold heldL
    rw [List.mem_map]
    constructor
    · rintro ⟨x, hx, rfl⟩
      rw [List.mem_filter] at hx
      have e : x.2 = i := by simpa using hx.2
      rw [← e]; exact hx.1
    · intro hx
      exact ⟨(s, i), List.mem_filter.2 ⟨hx, by simp⟩, rfl⟩
theorem like_nil : Like (fun _ => 0) [] := ⟨List.Pairwise.nil, fun x hx => (by cases hx), fun s => rfl⟩
/-- A row that is rising is known by its elements. -/
theorem like_of {T : Hd} {L : List Lk} (hu : Up (L.map (·.1))) (hm : ∀ s i, (s, i) ∈ L ↔ (T s ≠ 0 ∧ T s = i)) : Like T L := by
  refine ⟨hu, fun x hx => ?_, fun s => ?_⟩
  · have := (hm x.1 x.2).1 hx
    rw [← this.2]; exact this.1
  · by_cases h0 : who L s = 0
    · rw [h0]
      apply Classical.byContradiction
      intro h
      have hx := (hm s (T s)).2 ⟨fun e => h e.symm, rfl⟩
      have e := who_mem hu hx
      rw [h0] at e
      exact h e
    · obtain ⟨x, hx, rfl, e⟩ := who_ne h0
      rw [← e]
      exact ((hm x.1 x.2).1 hx).2.symm
theorem Like.drop {T : Hd} {L : List Lk} (h : Like T L) (i : Int) : Like (dropped T i) (leftL L i) := by
  refine like_of ?_ (fun s j => ?_)
  · unfold leftL Up
    have := h.1
    unfold Up at this
    rw [List.pairwise_map] at this ⊢
    exact this.filter _
  · unfold leftL
    rw [List.mem_filter, h.mem s j]
    unfold dropped
    by_cases e : T s = i
    · rw [if_pos e]
      constructor
      · rintro ⟨⟨_, h2⟩, h3⟩
        simp at h3
        exact absurd (h2.symm.trans e) h3
      · rintro ⟨h1, _⟩; exact absurd rfl h1
    · rw [if_neg e]
      constructor
      · rintro ⟨h1, _⟩; exact h1
      · rintro ⟨h1, h2⟩
        exact ⟨⟨h1, h2⟩, by simp; rw [← h2]; exact e⟩
theorem Like.count {T : Hd} {L : List Lk} (h : Like T L) (i : Int) {K : List ByteArray} (hd : K.Nodup) (hm : ∀ s, s ∈ K ↔ (T s ≠ 0 ∧ T s = i)) : (K.length : Int) = (L.length : Int) - ((leftL L i).length : Int) := by
  have e1 : K.length = (heldL L i).length := nodup_len hd (h.held i).1.nodup (fun s => (hm s).trans ((h.held i).2 s).symm)
  have e2 : (heldL L i).length + (leftL L i).length = L.length := by
    unfold heldL leftL
    rw [List.length_map]
    clear hm hd e1 h
    induction L with
    | nil => rfl
    | cons x L ih =>
      by_cases e : x.2 = i
      · simp [e]; simp at ih; omega
      · simp [e]; simp at ih; omega
  omega
/-- Where a key goes. -/
def spot (L : List Lk) (s : ByteArray) : Nat := (L.takeWhile fun x => ltK x.1 s).length
theorem spot_le (L : List Lk) (s : ByteArray) : spot L s ≤ L.length := (List.takeWhile_prefix _).length_le
theorem spot_cons (x : Lk) (L : List Lk) (s : ByteArray) : spot (x :: L) s = if ltK x.1 s = true then spot L s + 1 else 0 := by
  unfold spot
  rw [List.takeWhile_cons]
  split <;> simp
theorem spot_lt : ∀ (L : List Lk) (s : ByteArray) (j : Nat), j < spot L s → ltK (lkAt L j).1 s = true
  | [], s, j, h => absurd h (Nat.not_lt_zero _)
  | x :: L, s, j, h => by
    rw [spot_cons] at h
    by_cases e : ltK x.1 s = true
    · rw [if_pos e] at h
      cases j with
      | zero => exact e
      | succ j => exact spot_lt L s j (by omega)
    · rw [if_neg e] at h
      exact absurd h (Nat.not_lt_zero _)
theorem spot_at : ∀ (L : List Lk) (s : ByteArray), spot L s < L.length → ltK (lkAt L (spot L s)).1 s = false
  | [], s, h => absurd h (Nat.not_lt_zero _)
  | x :: L, s, h => by
    rw [spot_cons] at h ⊢
    by_cases e : ltK x.1 s = true
    · rw [if_pos e] at h ⊢
      have := spot_at L s (by simpa using h)
      exact this
    · rw [if_neg e]
      show ltK x.1 s = false
      simpa using e
theorem spot_is {L : List Lk} {s : ByteArray} {k : Nat} (hk : k ≤ L.length) (h0 : ∀ j, j < k → ltK (lkAt L j).1 s = true) (h1 : k < L.length → ltK (lkAt L k).1 s = false) : k = spot L s := by
  rcases Nat.lt_trichotomy k (spot L s) with h | h | h
  · have := spot_lt L s k h
    rw [h1 (Nat.lt_of_lt_of_le h (spot_le L s))] at this
    cases this
  · exact h
  · have := h0 _ h
    rw [spot_at L s (by omega)] at this
    cases this
/-- A key put in. -/
def insL (L : List Lk) (s : ByteArray) (i : Int) : List Lk := if who L s = 0 then L.take (spot L s) ++ [(s, i)] ++ L.drop (spot L s) else L
theorem insL_len (L : List Lk) (s : ByteArray) (i : Int) : (insL L s i).length ≤ L.length + 1 := by
  unfold insL
  split
  · have := spot_le L s
    simp; omega
  · omega
theorem Like.ins {T : Hd} {L : List Lk} (h : Like T L) {s : ByteArray} {i : Int} (hi : i ≠ 0) (hs : isN s = true) (hN : Names T) (hT : T s = 0 ∨ T s = i) : Like (setT T s i) (insL L s i) := by
  unfold insL
  by_cases h0 : who L s = 0
  · rw [if_pos h0]
    have hTs : T s = 0 := by rw [← h.2.2 s]; exact h0
    have hns : s ∉ L.map (·.1) := fun hm => (h.keys s).1 hm hTs
    refine like_of ?_ (fun x j => ?_)
    · have hu := h.1
      unfold Up at hu ⊢
      have hlow : ∀ x, x ∈ L.take (spot L s) → ltK x.1 s = true := fun x hx => by
        obtain ⟨j, hj, rfl⟩ := List.mem_iff_getElem.1 hx
        have hj2 : j < spot L s := by rw [List.length_take] at hj; omega
        have hjl : j < L.length := by rw [List.length_take] at hj; omega
        have := spot_lt L s j hj2
        have e : (L.take (spot L s))[j] = lkAt L j := by rw [List.getElem_take]; simp [lkAt, List.getD, hjl]
        rw [e]
        exact this
      have hhigh : ∀ x, x ∈ L.drop (spot L s) → ltK s x.1 = true := fun x hx => by
        have hsp : spot L s < L.length := by
          apply Classical.byContradiction
          intro hc
          rw [List.drop_eq_nil_of_le (by omega)] at hx
          cases hx
        have hat := spot_at L s hsp
        have hat2 : lkAt L (spot L s) = L[spot L s] := by simp [lkAt, List.getD, hsp]
        rw [hat2] at hat
        have hfirst : ltK s (L[spot L s]).1 = true := by
          rcases cf_nlt hat with e | e
          · have hm : L[spot L s] ∈ L := List.getElem_mem hsp
            have hnm : isN (L[spot L s]).1 = true := (hN _ ((h.keys _).1 (List.mem_map.2 ⟨_, hm, rfl⟩))).1
            have := isN_eq hnm e
            exact absurd (List.mem_map.2 ⟨_, hm, this⟩) hns
          · exact (cf_lt _ _).2 e
        rw [List.drop_eq_getElem_cons hsp] at hx
        rcases List.mem_cons.1 hx with rfl | hx
        · exact hfirst
        · have hu2 := hu
          rw [List.pairwise_map] at hu2
          have hsub : List.Pairwise (fun a b : Lk => ltK a.1 b.1 = true) (L.drop (spot L s)) := hu2.sublist (List.drop_sublist _ _)
          rw [List.drop_eq_getElem_cons hsp, List.pairwise_cons] at hsub
          exact lt_trans _ _ _ hfirst (hsub.1 x hx)
      rw [List.pairwise_map] at hu ⊢
      rw [List.append_assoc, List.pairwise_append]
      refine ⟨hu.sublist (List.take_sublist _ _), ?_, fun a ha b hb => ?_⟩
      · rw [List.singleton_append, List.pairwise_cons]
        exact ⟨hhigh, hu.sublist (List.drop_sublist _ _)⟩
      · rw [List.singleton_append] at hb
        rcases List.mem_cons.1 hb with rfl | hb
        · exact hlow a ha
        · exact lt_trans _ _ _ (hlow a ha) (hhigh b hb)
    · rw [List.mem_append, List.mem_append, List.mem_singleton]
      have hmem : (x, j) ∈ L.take (spot L s) ∨ (x, j) ∈ L.drop (spot L s) ↔ (x, j) ∈ L := by
        rw [← List.mem_append, List.take_append_drop]
      unfold setT
      by_cases e : x = s
      · subst e
        rw [if_pos rfl]
        constructor
        · rintro ((hx | hx) | hx)
          · exact absurd (List.mem_map.2 ⟨_, hmem.1 (Or.inl hx), rfl⟩) hns
          · injection hx with _ hj; exact ⟨hi, hj.symm⟩
          · exact absurd (List.mem_map.2 ⟨_, hmem.1 (Or.inr hx), rfl⟩) hns
        · rintro ⟨_, rfl⟩
          exact Or.inl (Or.inr rfl)
      · rw [if_neg e, ← h.mem x j, ← hmem]
        constructor
        · rintro ((hx | hx) | hx)
          · exact Or.inl hx
          · injection hx with hx _; exact absurd hx e
          · exact Or.inr hx
        · rintro (hx | hx)
          · exact Or.inl (Or.inl hx)
          · exact Or.inr hx
  · rw [if_neg h0]
    have hTs : T s = i := by
      rcases hT with e | e
      · rw [h.2.2 s, e] at h0; exact absurd rfl h0
      · exact e
    have : setT T s i = T := by
      funext x
      unfold setT
      by_cases e : x = s
      · rw [if_pos e, e, hTs]
      · rw [if_neg e]
    rw [this]; exact h
/-- All keys put in. -/
def takeL (L : List Lk) (i : Int) (keys : List ByteArray) : List Lk := keys.foldl (fun L s => insL L s i) L
theorem takeL_snoc (L : List Lk) (i : Int) (l : List ByteArray) (k : Nat) (h : k < l.length) : takeL L i (l.take (k + 1)) = insL (takeL L i (l.take k)) (keyAt l k) i := by
  unfold takeL
  rw [List.take_succ_eq_append_getElem h, List.foldl_append]
  simp [keyAt, List.getD, h]
theorem takeL_len (L : List Lk) (i : Int) (keys : List ByteArray) : (takeL L i keys).length ≤ L.length + keys.length := by
  unfold takeL
  induction keys generalizing L with
  | nil => simp
  | cons a t ih =>
    rw [List.foldl_cons]
    have := ih (insL L a i)
    have := insL_len L a i
    rw [List.length_cons]
    omega
theorem Like.take {i : Int} (hi : i ≠ 0) : ∀ (keys : List ByteArray) {T : Hd} {L : List Lk}, Like T L → Names T → keys.all isN = true → (∀ s, s ∈ keys → s.size ≤ 1048576) → (∀ s, s ∈ keys → T s = 0 ∨ T s = i) → Like (tookT T i keys) (takeL L i keys)
  | [], T, L, h, _, _, _, _ => h
  | a :: t, T, L, h, hN, hall, hs, hf => by
    rw [List.all_cons, Bool.and_eq_true] at hall
    have h1 := h.ins hi hall.1 hN (hf a List.mem_cons_self)
    have hN1 : Names (setT T a i) := fun x hx => by
      unfold setT at hx
      by_cases e : x = a
      · subst e; exact ⟨hall.1, hs x List.mem_cons_self⟩
      · rw [if_neg e] at hx; exact hN x hx
    exact Like.take hi t h1 hN1 hall.2 (fun s h => hs s (List.mem_cons_of_mem _ h)) (fun s h => by
      show (if s = a then i else T s) = 0 ∨ (if s = a then i else T s) = i
      by_cases e : s = a
      · rw [if_pos e]; exact Or.inr rfl
      · rw [if_neg e]; exact hf s (List.mem_cons_of_mem _ h))
end Go.Proofs.YthdloddcljbjhaaDoor
