/- The mathematics of timers, without the program: a row of timers in their order, and rows with the same timers in any order. -/
namespace WheelMath
set_option linter.unusedVariables false

/-- A timer: its id, its time. -/
abbrev T := Int × Int
/-- A timer is ahead of another one. -/
def before (a b : T) : Prop := a.2 < b.2 ∨ (a.2 = b.2 ∧ a.1 < b.1)
instance (a b : T) : Decidable (before a b) := by unfold before; exact inferInstance
theorem before_irrefl (a : T) : ¬ before a a := by unfold before; omega
theorem before_trans {a b c : T} (h : before a b) (k : before b c) : before a c := by unfold before at *; omega
theorem before_total {a b : T} (h : a.1 ≠ b.1) : before a b ∨ before b a := by unfold before; omega
theorem before_asymm {a b : T} (h : before a b) : ¬ before b a := by unfold before at *; omega
def Sorted (r : List T) : Prop := r.Pairwise before
def Ids (r : List T) : Prop := r.Pairwise fun a b => a.1 ≠ b.1
/-- What always holds. -/
structure Good (r : List T) : Prop where
  sorted : Sorted r
  ids : Ids r
  len : r.length ≤ 200
  tick : ∀ t ∈ r, 0 ≤ t.2 ∧ t.2 ≤ 1073741824
/-- Without an id. -/
def rem (r : List T) (id : Int) : List T := r.filter fun t => decide (t.1 ≠ id)
/-- A timer put in, in its order. -/
def ins (t : T) : List T → List T
  | [] => [t]
  | a :: r => if before a t then a :: ins t r else t :: a :: r
def has (r : List T) (id : Int) : Prop := ∃ t ∈ r, t.1 = id
instance (r : List T) (id : Int) : Decidable (has r id) := by unfold has; exact inferInstance

theorem ins_perm (t : T) : ∀ r, (ins t r).Perm (t :: r)
  | [] => List.Perm.refl _
  | a :: r => by
    unfold ins
    split
    · exact ((ins_perm t r).cons a).trans (List.Perm.swap t a r)
    · exact List.Perm.refl _
theorem mem_ins {t x : T} {r : List T} : x ∈ ins t r ↔ x = t ∨ x ∈ r := by
  rw [(ins_perm t r).mem_iff, List.mem_cons]
theorem sorted_ins (t : T) : ∀ r, Sorted r → (∀ a ∈ r, a.1 ≠ t.1) → Sorted (ins t r)
  | [], _, _ => by unfold ins Sorted; simp
  | a :: r, h, hn => by
    unfold Sorted at h
    rw [List.pairwise_cons] at h
    unfold ins
    split
    · rename_i hb
      unfold Sorted
      rw [List.pairwise_cons]
      refine ⟨fun x hx => ?_, sorted_ins t r h.2 (fun x hx => hn x (by simp [hx]))⟩
      rcases mem_ins.1 hx with rfl | hx
      · exact hb
      · exact h.1 x hx
    · rename_i hb
      have hta : before t a := (before_total (hn a (by simp))).resolve_left hb
      unfold Sorted
      rw [List.pairwise_cons, List.pairwise_cons]
      refine ⟨fun x hx => ?_, h⟩
      rcases List.mem_cons.1 hx with rfl | hx
      · exact hta
      · exact before_trans hta (h.1 x hx)
theorem ids_perm {l r : List T} (h : l.Perm r) (hi : Ids l) : Ids r := by
  unfold Ids at *
  exact (h.pairwise_iff (fun hab e => hab e.symm)).1 hi
theorem ids_cons {t : T} {r : List T} (h : Ids r) (hn : ∀ a ∈ r, a.1 ≠ t.1) : Ids (t :: r) := by
  unfold Ids at *
  rw [List.pairwise_cons]
  exact ⟨fun a ha e => hn a ha e.symm, h⟩
theorem rem_sub (r : List T) (id : Int) : (rem r id).Sublist r := List.filter_sublist
theorem mem_rem {r : List T} {id : Int} {t : T} : t ∈ rem r id ↔ t ∈ r ∧ t.1 ≠ id := by unfold rem; simp
theorem rem_none {r : List T} {id : Int} (h : ¬ has r id) : rem r id = r := by
  unfold rem
  rw [List.filter_eq_self]
  intro t ht
  exact decide_eq_true fun e => h ⟨t, ht, e⟩
theorem good_rem {r : List T} (h : Good r) (id : Int) : Good (rem r id) :=
  ⟨List.Pairwise.sublist (rem_sub r id) h.sorted, List.Pairwise.sublist (rem_sub r id) h.ids, Nat.le_trans (rem_sub r id).length_le h.len, fun t ht => h.tick t (mem_rem.1 ht).1⟩
theorem rem_len_has {id : Int} : ∀ {r : List T}, Ids r → has r id → (rem r id).length + 1 = r.length
  | [], _, h => by obtain ⟨t, ht, _⟩ := h; cases ht
  | a :: r, hi, h => by
    unfold Ids at hi
    rw [List.pairwise_cons] at hi
    by_cases e : a.1 = id
    · have hn : ¬ has r id := fun ⟨t, ht, h2⟩ => hi.1 t ht (e.trans h2.symm)
      have : rem (a :: r) id = rem r id := by unfold rem; rw [List.filter_cons]; simp [e]
      rw [this, rem_none hn]; rfl
    · have h' : has r id := by
        obtain ⟨t, ht, h2⟩ := h
        rcases List.mem_cons.1 ht with rfl | ht
        · exact absurd h2 e
        · exact ⟨t, ht, h2⟩
      have : rem (a :: r) id = a :: rem r id := by unfold rem; rw [List.filter_cons]; simp [e]
      rw [this, List.length_cons, List.length_cons, rem_len_has hi.2 h']
/-- Set: what there is behind it, and the answer. -/
def aSet (r : List T) (id tm : Int) : List T × Int :=
  if id < 0 ∨ tm < 0 ∨ 1073741824 < tm then (r, 1) else if ¬ has r id ∧ 200 ≤ r.length then (r, 2) else (ins (id, tm) (rem r id), 0)
theorem good_aSet {r : List T} (h : Good r) (id tm : Int) : Good (aSet r id tm).1 := by
  unfold aSet
  split
  · exact h
  · rename_i hb
    split
    · exact h
    · rename_i hl
      have hg := good_rem h id
      have hn : ∀ a ∈ rem r id, a.1 ≠ ((id, tm) : T).1 := fun a ha => (mem_rem.1 ha).2
      refine ⟨sorted_ins _ _ hg.sorted hn, ids_perm (ins_perm _ _).symm (ids_cons hg.ids hn), ?_, fun t ht => ?_⟩
      · show (ins (id, tm) (rem r id)).length ≤ 200
        rw [(ins_perm _ _).length_eq, List.length_cons]
        by_cases hh : has r id
        · rw [rem_len_has h.ids hh]; exact h.len
        · rw [rem_none hh]
          have : ¬ 200 ≤ r.length := fun h2 => hl ⟨hh, h2⟩
          omega
      · rcases mem_ins.1 ht with rfl | ht
        · show 0 ≤ tm ∧ tm ≤ 1073741824
          omega
        · exact hg.tick t ht
theorem good_nil : Good [] := ⟨List.Pairwise.nil, List.Pairwise.nil, by decide, fun t ht => by cases ht⟩

/-- Where the timer of an id stands in a row. -/
def place : List T → Int → Option Nat
  | [], _ => none
  | a :: l, id => if a.1 = id then some 0 else (place l id).map (· + 1)
theorem place_hit {id : Int} : ∀ {l : List T} {k : Nat} (hk : k < l.length), l[k].1 = id → (∀ j, (h : j < l.length) → j < k → l[j].1 ≠ id) → place l id = some k
  | [], k, hk, _, _ => by simp at hk
  | a :: l, 0, _, h, _ => by unfold place; rw [if_pos (by simpa using h)]
  | a :: l, k + 1, hk, h, hn => by
    unfold place
    rw [if_neg (show ¬ a.1 = id from hn 0 (by simp) (by omega)), place_hit (l := l) (k := k) (by simpa using hk) (by simpa using h) (fun j hj hjk => hn (j + 1) (by simpa using hj) (by omega))]
    rfl
theorem place_miss {id : Int} : ∀ {l : List T}, (∀ j, (h : j < l.length) → l[j].1 ≠ id) → place l id = none
  | [], _ => rfl
  | a :: l, hn => by
    unfold place
    rw [if_neg (show ¬ a.1 = id from hn 0 (by simp)), place_miss (l := l) (fun j hj => hn (j + 1) (by simpa using hj))]
    rfl
theorem place_some {id : Int} : ∀ {l : List T} {k : Nat}, place l id = some k → ∃ h : k < l.length, l[k].1 = id
  | [], k, h => by cases h
  | a :: l, k, h => by
    unfold place at h
    split at h
    · rename_i e
      cases h
      exact ⟨by simp, by simpa using e⟩
    · obtain ⟨j, hj, rfl⟩ := Option.map_eq_some_iff.1 h
      obtain ⟨h1, h2⟩ := place_some hj
      exact ⟨by simpa using h1, by simpa using h2⟩
theorem place_none {id : Int} : ∀ {l : List T}, place l id = none → ¬ has l id
  | [], _ => fun ⟨t, ht, _⟩ => by cases ht
  | a :: l, h => by
    unfold place at h
    split at h
    · cases h
    · rename_i e
      have h' : place l id = none := by simpa using h
      rintro ⟨t, ht, h2⟩
      rcases List.mem_cons.1 ht with rfl | ht
      · exact e h2
      · exact place_none h' ⟨t, ht, h2⟩
theorem has_place {l : List T} {id : Int} {k : Nat} (h : place l id = some k) : has l id := by
  obtain ⟨h1, h2⟩ := place_some h
  exact ⟨l[k], List.getElem_mem h1, h2⟩
theorem has_perm {l r : List T} (h : l.Perm r) (id : Int) : has l id ↔ has r id := by
  unfold has
  exact ⟨fun ⟨t, ht, e⟩ => ⟨t, h.mem_iff.1 ht, e⟩, fun ⟨t, ht, e⟩ => ⟨t, h.mem_iff.2 ht, e⟩⟩
theorem erase_rem {id : Int} : ∀ {l : List T} {k : Nat}, Ids l → place l id = some k → l.eraseIdx k = rem l id
  | [], k, _, h => by cases h
  | a :: l, k, hi, h => by
    unfold Ids at hi
    rw [List.pairwise_cons] at hi
    unfold place at h
    split at h
    · rename_i e
      cases h
      have hn : ¬ has l id := fun ⟨t, ht, h2⟩ => hi.1 t ht (e.trans h2.symm)
      have : rem (a :: l) id = rem l id := by unfold rem; rw [List.filter_cons]; simp [e]
      rw [this, rem_none hn]; rfl
    · rename_i e
      obtain ⟨j, hj, rfl⟩ := Option.map_eq_some_iff.1 h
      have : rem (a :: l) id = a :: rem l id := by unfold rem; rw [List.filter_cons]; simp [e]
      rw [this, List.eraseIdx_cons_succ, erase_rem hi.2 hj]
theorem set_perm {id : Int} (t : T) : ∀ {l : List T} {k : Nat}, Ids l → place l id = some k → (l.set k t).Perm (t :: rem l id)
  | [], k, _, h => by cases h
  | a :: l, k, hi, h => by
    unfold Ids at hi
    rw [List.pairwise_cons] at hi
    unfold place at h
    split at h
    · rename_i e
      cases h
      have hn : ¬ has l id := fun ⟨x, hx, h2⟩ => hi.1 x hx (e.trans h2.symm)
      have : rem (a :: l) id = rem l id := by unfold rem; rw [List.filter_cons]; simp [e]
      rw [this, rem_none hn]
      exact List.Perm.refl _
    · rename_i e
      obtain ⟨j, hj, rfl⟩ := Option.map_eq_some_iff.1 h
      have : rem (a :: l) id = a :: rem l id := by unfold rem; rw [List.filter_cons]; simp [e]
      rw [this]
      exact ((set_perm t hi.2 hj).cons a).trans (List.Perm.swap t a _)
/-- The row behind Set, in the program's own order. -/
theorem perm_set {l r : List T} {id tm : Int} {k : Nat} (h : l.Perm r) (hi : Ids r) (hp : place l id = some k) : (l.set k (id, tm)).Perm (ins (id, tm) (rem r id)) :=
  ((set_perm (id, tm) (ids_perm h.symm hi) hp).trans ((h.filter _).cons _)).trans (ins_perm _ _).symm
theorem perm_add {l r : List T} {id tm : Int} (h : l.Perm r) (hp : place l id = none) : (l ++ [(id, tm)]).Perm (ins (id, tm) (rem r id)) := by
  have hn : ¬ has r id := fun hh => place_none hp ((has_perm h id).2 hh)
  rw [rem_none hn]
  refine ((List.perm_append_comm (l₁ := l) (l₂ := [(id, tm)])).trans ?_).trans (ins_perm _ _).symm
  exact h.cons _
theorem perm_stop {l r : List T} {id : Int} {k : Nat} (h : l.Perm r) (hi : Ids r) (hp : place l id = some k) : (l.eraseIdx k).Perm (rem r id) := by
  rw [erase_rem (ids_perm h.symm hi) hp]
  exact h.filter _
theorem tick_of {l r : List T} (h : l.Perm r) (hg : Good r) : ∀ t ∈ l, 0 ≤ t.2 ∧ t.2 ≤ 1073741824 := fun t ht => hg.tick t (h.mem_iff.1 ht)

/-- The one that none is ahead of. -/
theorem first_head {l : List T} {a f : T} {r : List T} (h : l.Perm (a :: r)) (hs : Sorted (a :: r)) (hf : f ∈ l) (hm : ∀ t ∈ l, ¬ before t f) : f = a := by
  unfold Sorted at hs
  rw [List.pairwise_cons] at hs
  rcases List.mem_cons.1 (h.mem_iff.1 hf) with e | e
  · exact e
  · exact absurd (hs.1 f e) (hm a (h.mem_iff.2 (by simp)))
/-- Due: what it tells, and what is left. -/
def told (r : List T) (now : Int) : List Int := (r.takeWhile fun t => decide (t.2 ≤ now)).map (·.1)
def left (r : List T) (now : Int) : List T := r.dropWhile fun t => decide (t.2 ≤ now)
theorem told_nil (now : Int) : told [] now = [] := rfl
theorem left_nil (now : Int) : left [] now = [] := rfl
theorem told_cons (a : T) (r : List T) (now : Int) : told (a :: r) now = if a.2 ≤ now then a.1 :: told r now else [] := by
  unfold told; rw [List.takeWhile_cons]; by_cases h : a.2 ≤ now <;> simp [h]
theorem left_cons (a : T) (r : List T) (now : Int) : left (a :: r) now = if a.2 ≤ now then left r now else a :: r := by
  unfold left; rw [List.dropWhile_cons]; by_cases h : a.2 ≤ now <;> simp [h]
theorem left_sub (r : List T) (now : Int) : (left r now).Sublist r := List.dropWhile_sublist _
theorem good_left {r : List T} (h : Good r) (now : Int) : Good (left r now) :=
  ⟨List.Pairwise.sublist (left_sub r now) h.sorted, List.Pairwise.sublist (left_sub r now) h.ids, Nat.le_trans (left_sub r now).length_le h.len, fun t ht => h.tick t ((left_sub r now).subset ht)⟩
theorem good_tail {a : T} {r : List T} (h : Good (a :: r)) : Good r :=
  ⟨List.Pairwise.sublist (List.sublist_cons_self a r) h.sorted, List.Pairwise.sublist (List.sublist_cons_self a r) h.ids, by have := h.len; simp at this; omega, fun t ht => h.tick t (by simp [ht])⟩
theorem rem_head {a : T} {r : List T} (h : Good (a :: r)) : rem (a :: r) a.1 = r := by
  have hi := h.ids
  unfold Ids at hi
  rw [List.pairwise_cons] at hi
  have hn : ¬ has r a.1 := fun ⟨t, ht, h2⟩ => hi.1 t ht h2.symm
  have : rem (a :: r) a.1 = rem r a.1 := by unfold rem; rw [List.filter_cons]; simp
  rw [this, rem_none hn]
theorem told_len (r : List T) (now : Int) : (told r now).length ≤ r.length := by
  unfold told; rw [List.length_map]; exact (List.takeWhile_sublist _).length_le
end WheelMath
