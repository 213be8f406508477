/- One wheel and blocks that are kept; what the law WheelOnce keeps in its own table. -/
import Derived.Test.YthenmngjojgmkaaSeqW
set_option linter.unusedVariables false
set_option maxRecDepth 100000
namespace Go.Proofs.Ythenmngjojgmkaa
open Go.RowKit
open WheelMath

/-- A wheel from block B on; the blocks of N are not its own. -/
def One (B : Nat) (w : World) (N : Nat → Prop) (b : Nat) (r : List T) (wr : World) : Prop :=
  ∃ v l, PW wr b v l ∧ l.Perm r ∧ (∀ k, fpw b v k → B ≤ k) ∧ (∀ k, N k → k < wr.heap.size ∧ ¬ fpw b v k) ∧ Below B w wr ∧ B ≤ wr.heap.size
theorem One.below {B : Nat} {w : World} {N : Nat → Prop} {b : Nat} {r : List T} {wr w' : World} (h : One B w N b r wr) (hb : Below wr.heap.size wr w') : One B w N b r w' := by
  obtain ⟨v, l, h1, h2, h3, h4, h5, h6⟩ := h
  have hs := hb.size
  exact ⟨v, l, pw_below h1 hb, h2, h3, fun k hk => ⟨by have := (h4 k hk).1; omega, (h4 k hk).2⟩, h5.trans (hb.mono h6), by omega⟩
theorem One.chg {S : Nat → Prop} {B : Nat} {w : World} {N : Nat → Prop} {b : Nat} {r : List T} {wr w' : World} (h : One B w N b r wr) (hc : Chg S wr w') (hS : ∀ k, S k → N k) (hB : ∀ k, S k → B ≤ k) : One B w N b r w' := by
  obtain ⟨v, l, h1, h2, h3, h4, h5, h6⟩ := h
  have hs := hc.size
  exact ⟨v, l, pw_chg h1 hc (fun k hk hs => (h4 k (hS k hs)).2 hk), h2, h3, fun k hk => ⟨by have := (h4 k hk).1; omega, (h4 k hk).2⟩, h5.trans (below_chg hc h6 (fun k hk hs => by have := hB k hs; omega)), by omega⟩
theorem One.mono {B : Nat} {w : World} {N M : Nat → Prop} {b : Nat} {r : List T} {wr : World} (h : One B w N b r wr) (hM : ∀ k, M k → N k) : One B w M b r wr := by
  obtain ⟨v, l, h1, h2, h3, h4, h5, h6⟩ := h
  exact ⟨v, l, h1, h2, h3, fun k hk => h4 k (hM k hk), h5, h6⟩
theorem One.call {B : Nat} {w : World} {N : Nat → Prop} {b : Nat} {r r' : List T} {wr : World} {f : Nat} {args : Array Value} {Q : Ending → World → Prop} (h : One B w N b r wr)
    (hc : ∀ S, WIn S wr b r wr → Calls Try.prog f args wr fun e w' => Q e w' ∧ WIn S wr b r' w') :
    Calls Try.prog f args wr fun e w' => Q e w' ∧ One B w N b r' w' ∧ Chg (fun k => ¬ N k) wr w' := by
  obtain ⟨v, l, h1, h2, h3, h4, h5, h6⟩ := h
  refine (hc (fun k => ¬ fpw b v k) ⟨v, l, h1, h2, fun k hk _ hn => hn hk, Chg.refl _ _⟩).mono ?_
  rintro e w' ⟨hq, v', l', k1, k2, k3, k4⟩
  have hs := k4.size
  have k3' : ∀ k, fpw b v' k → k < wr.heap.size → fpw b v k := fun k hk hlt => Classical.not_not.1 (k3 k hk hlt)
  refine ⟨hq, ⟨v', l', k1, k2, fun k hk => ?_, fun k hk => ?_, h5.trans (below_chg k4 h6 (fun k hk hn => hn (fun hx => by have := h3 k hx; omega))), by omega⟩, ?_⟩
  · by_cases hlt : k < wr.heap.size
    · exact h3 k (k3' k hk hlt)
    · omega
  · obtain ⟨q1, q2⟩ := h4 k hk
    exact ⟨by omega, fun hx => q2 (k3' k hx q1)⟩
  · exact k4.mono fun k _ hn hN => hn (fun hx => (h4 k hN).2 hx)
theorem One.set {B : Nat} {w : World} {N : Nat → Prop} {b : Nat} {r : List T} {wr : World} (h : One B w N b r wr) (hg : WheelMath.Good r) (id tm : Int) :
    Calls Try.prog 11 #[.pointer (some ⟨b, 0, none⟩), .int .i64 id, .int .i64 tm] wr fun e w' => e = .returned (.int .i64 (aSet r id tm).2) ∧ One B w N b (aSet r id tm).1 w' ∧ Chg (fun k => ¬ N k) wr w' :=
  h.call (Q := fun e _ => e = .returned (.int .i64 (aSet r id tm).2)) (fun S hS => set_all hS hg id tm)
theorem One.stop {B : Nat} {w : World} {N : Nat → Prop} {b : Nat} {r : List T} {wr : World} (h : One B w N b r wr) (hg : WheelMath.Good r) (id : Int) :
    Calls Try.prog 12 #[.pointer (some ⟨b, 0, none⟩), .int .i64 id] wr fun e w' => e = .returned (.bool (decide (has r id))) ∧ One B w N b (rem r id) w' ∧ Chg (fun k => ¬ N k) wr w' :=
  h.call (Q := fun e _ => e = .returned (.bool (decide (has r id)))) (fun S hS => stop_all hS hg id)
theorem One.next {B : Nat} {w : World} {N : Nat → Prop} {b : Nat} {r : List T} {wr : World} (h : One B w N b r wr) (hg : WheelMath.Good r) :
    Calls Try.prog 18 #[.pointer (some ⟨b, 0, none⟩)] wr fun e w' => e = .returned (.tuple #[.int .i64 (nextI r), .bool (nextB r)]) ∧ One B w N b r w' ∧ Below wr.heap.size wr w' := by
  have h0 := h
  obtain ⟨v, l, h1, h2, h3, h4, h5, h6⟩ := h
  exact (next_any wr b v l r h1 h2 hg).mono fun e w' ⟨k1, k2⟩ => ⟨k1, h0.below k2, k2⟩
theorem One.len {B : Nat} {w : World} {N : Nat → Prop} {b : Nat} {r : List T} {wr : World} (h : One B w N b r wr) :
    Calls Try.prog 20 #[.pointer (some ⟨b, 0, none⟩)] wr fun e w' => e = .returned (.int .i64 (r.length : Int)) ∧ w' = wr := by
  obtain ⟨v, l, h1, h2, h3, h4, h5, h6⟩ := h
  rw [← h2.length_eq]
  exact len_any wr b v l h1
theorem One.bel {B : Nat} {w : World} {N : Nat → Prop} {b : Nat} {r : List T} {wr : World} (h : One B w N b r wr) : Below B w wr := by
  obtain ⟨v, l, h1, h2, h3, h4, h5, h6⟩ := h
  exact h5
theorem One.lt {B : Nat} {w : World} {N : Nat → Prop} {b : Nat} {r : List T} {wr : World} (h : One B w N b r wr) : B ≤ wr.heap.size := by
  obtain ⟨v, l, h1, h2, h3, h4, h5, h6⟩ := h
  exact h6
def OneDue (B : Nat) (w : World) (N : Nat → Prop) (b : Nat) (r : List T) (now : Int) (wr : World) (e : Ending) (w' : World) : Prop :=
  ∃ vi, e = .returned vi ∧ w'.ownsRow wr.heap.size 3 1 vi (told r now).length ((told r now).map fun n => .int .i64 n) ∧ One B w (fun k => N k ∨ vi.ownBlock = some k) b (left r now) w' ∧ Chg (fun k => ¬ N k) wr w'
theorem One.due {B : Nat} {w : World} {N : Nat → Prop} {b : Nat} {r : List T} {wr : World} (h : One B w N b r wr) (hg : WheelMath.Good r) (now : Int) :
    Calls Try.prog 14 #[.pointer (some ⟨b, 0, none⟩), .int .i64 now] wr fun e w' => OneDue B w N b r now wr e w' := by
  refine (h.call (Q := fun e w' => ∃ vi, e = .returned vi ∧ w'.ownsRow wr.heap.size 3 1 vi (told r now).length ((told r now).map fun n => .int .i64 n) ∧ ∀ v', w'.cell? ⟨b, 0, none⟩ = some v' → ∀ g, vi.ownBlock = some g → ¬ fpw b v' g) (r' := left r now) (fun S hS => (due_all hS hg now).mono fun e w' ⟨vi, k1, k2, k3, k4⟩ => ⟨⟨vi, k1, k2, k4⟩, k3⟩)).mono ?_
  rintro e w' ⟨⟨vi, k1, k2, k4⟩, ht, hc⟩
  refine ⟨vi, k1, k2, ?_, hc⟩
  obtain ⟨v, l, h1, h2, h3, h4, h5, h6⟩ := ht
  refine ⟨v, l, h1, h2, h3, fun k hk => ?_, h5, h6⟩
  rcases hk with hk | hk
  · exact h4 k hk
  · exact ⟨(k2.lt k hk).2, k4 v h1.cell k hk⟩

/-- A table of numbers in block A. -/
structure Arr (wr : World) (A : Nat) (m : Nat → Int) : Prop where
  cell : ∀ j, j < 20 → wr.cell? ⟨A, j, none⟩ = some (.int .i64 (m j))
  free : ∀ j, j < 20 → wr.frozen? ⟨A, j, none⟩ = false
theorem Arr.lt {wr : World} {A : Nat} {m : Nat → Int} (h : Arr wr A m) : A < wr.heap.size := block_lt_of_cell (h.cell 0 (by decide))
theorem Arr.chg {S : Nat → Prop} {wr w' : World} {A : Nat} {m : Nat → Int} (h : Arr wr A m) (hc : Chg S wr w') (hS : ¬ S A) : Arr w' A m := by
  have k := hc.block A h.lt hS
  exact ⟨fun j hj => (World.cell?_of_block (w := wr) (a := ⟨A, j, none⟩) k).trans (h.cell j hj), fun j hj => (World.frozen?_of_block (w := wr) (a := ⟨A, j, none⟩) k).trans (h.free j hj)⟩
def updm (m : Nat → Int) (i : Nat) (x : Int) : Nat → Int := fun j => if j = i then x else m j
theorem Arr.set {wr : World} {A : Nat} {m : Nat → Int} (h : Arr wr A m) (i : Nat) (hi : i < 20) (x : Int) : Arr (wr.setCell ⟨A, i, none⟩ (.int .i64 x)) A (updm m i x) := by
  refine ⟨fun j hj => ?_, fun j hj => by rw [World.frozen?_setCell]; exact h.free j hj⟩
  unfold updm
  by_cases e : j = i
  · subst e
    rw [World.cell?_setCell_same _ _ _ (h.cell j hj), if_pos rfl]
  · rw [World.cell?_setCell_other _ _ _ _ (fun h => e (by injection h with _ h2; exact h2.symm)), if_neg e]
    exact h.cell j hj

/-- The wheel's timers are those of the table, and begun's two. -/
structure Holds (r : List T) (m : Nat → Int) : Prop where
  good : WheelMath.Good r
  mem : ∀ t, t ∈ r ↔ t ∈ r0 ∨ ∃ j : Nat, j < 20 ∧ 0 ≤ m j ∧ t = ((j : Int), m j)
  rng : ∀ j, j < 20 → -1 ≤ m j ∧ m j < 1000
theorem r0_id {t : T} (h : t ∈ r0) : (t.1 = 900000 ∨ t.1 = 900001) ∧ t.2 = 1073741824 := by
  unfold r0 at h
  simp at h
  rcases h with rfl | rfl <;> simp
/-- As many as there are ids. -/
theorem len_ids : ∀ (S : List Int) (r : List T), Ids r → (∀ t ∈ r, t.1 ∈ S) → r.length ≤ S.length
  | [], r, _, h => by
    cases r with
    | nil => simp
    | cons a r => have := h a (by simp); cases this
  | s :: S, r, hi, h => by
    have h1 := len_ids S (rem r s) (List.Pairwise.sublist (rem_sub r s) hi) (fun t ht => by
      obtain ⟨k1, k2⟩ := mem_rem.1 ht
      rcases List.mem_cons.1 (h t k1) with e | e
      · exact absurd e k2
      · exact e)
    by_cases hh : has r s
    · have := rem_len_has hi hh
      simp only [List.length_cons]; omega
    · rw [rem_none hh] at h1
      simp only [List.length_cons]; omega
theorem Holds.len {r : List T} {m : Nat → Int} (h : Holds r m) : r.length ≤ 22 := by
  refine len_ids (900000 :: 900001 :: (List.range 20).map fun j : Nat => (j : Int)) r h.good.ids fun t ht => ?_
  rcases (h.mem t).1 ht with k | ⟨j, hj, _, rfl⟩
  · rcases (r0_id k).1 with e | e <;> rw [e] <;> simp
  · simp; right; right; exact ⟨j, hj, rfl⟩
theorem Holds.has {r : List T} {m : Nat → Int} (h : Holds r m) (i : Nat) (hi : i < 20) : has r (i : Int) ↔ 0 ≤ m i := by
  constructor
  · rintro ⟨t, ht, e⟩
    rcases (h.mem t).1 ht with k | ⟨j, hj, h0, rfl⟩
    · have := (r0_id k).1; omega
    · have : j = i := by have e' : (j : Int) = (i : Int) := e; omega
      subst this; exact h0
  · intro h0
    exact ⟨((i : Int), m i), (h.mem _).2 (Or.inr ⟨i, hi, h0, rfl⟩), rfl⟩
theorem Holds.set {r : List T} {m : Nat → Int} (h : Holds r m) (i : Nat) (hi : i < 20) (tm : Nat) (ht : tm < 1000) : (aSet r (i : Int) (tm : Int)).2 = 0 ∧ Holds (aSet r (i : Int) (tm : Int)).1 (updm m i (tm : Int)) := by
  have hg := good_aSet h.good (i : Int) (tm : Int)
  rw [set_fits (by omega) (by omega) (by omega) (Or.inr (by have := h.len; omega))] at hg ⊢
  refine ⟨rfl, hg, fun t => ?_, fun j hj => ?_⟩
  · rw [mem_ins, mem_rem, h.mem]
    unfold updm
    constructor
    · rintro (rfl | ⟨k | ⟨j, hj, h0, rfl⟩, hne⟩)
      · exact Or.inr ⟨i, hi, by simp, by simp⟩
      · exact Or.inl k
      · have hji : j ≠ i := fun e => hne (by rw [e])
        exact Or.inr ⟨j, hj, by rw [if_neg hji]; exact h0, by rw [if_neg hji]⟩
    · rintro (k | ⟨j, hj, h0, rfl⟩)
      · exact Or.inr ⟨Or.inl k, by have := (r0_id k).1; omega⟩
      · by_cases e : j = i
        · subst e; exact Or.inl (by simp)
        · rw [if_neg e] at h0 ⊢
          exact Or.inr ⟨Or.inr ⟨j, hj, h0, rfl⟩, fun h => e (by have h' : (j : Int) = (i : Int) := h; omega)⟩
  · unfold updm
    by_cases e : j = i
    · rw [if_pos e]; omega
    · rw [if_neg e]; exact h.rng j hj
theorem Holds.stop {r : List T} {m : Nat → Int} (h : Holds r m) (i : Nat) (hi : i < 20) : Holds (rem r (i : Int)) (updm m i (-1)) := by
  refine ⟨good_rem h.good _, fun t => ?_, fun j hj => ?_⟩
  · rw [mem_rem, h.mem]
    unfold updm
    constructor
    · rintro ⟨k | ⟨j, hj, h0, rfl⟩, hne⟩
      · exact Or.inl k
      · have hji : j ≠ i := fun e => hne (by rw [e])
        exact Or.inr ⟨j, hj, by rw [if_neg hji]; exact h0, by rw [if_neg hji]⟩
    · rintro (k | ⟨j, hj, h0, rfl⟩)
      · exact ⟨Or.inl k, by have := (r0_id k).1; omega⟩
      · by_cases e : j = i
        · subst e; simp at h0
        · rw [if_neg e] at h0 ⊢
          exact ⟨Or.inr ⟨j, hj, h0, rfl⟩, fun h => e (by have h' : (j : Int) = (i : Int) := h; omega)⟩
  · unfold updm
    by_cases e : j = i
    · rw [if_pos e]; omega
    · rw [if_neg e]; exact h.rng j hj
theorem holds_begun : Holds r0 (fun _ => -1) := ⟨good_r0, fun t => ⟨Or.inl, fun h => h.elim id (fun ⟨j, _, h0, _⟩ => by omega)⟩, fun j _ => by omega⟩
/-- A row in order, cut at a time: those told, and those left. -/
theorem cut_mem : ∀ (r : List T) (now : Int), Sorted r → (∀ t, t ∈ left r now ↔ t ∈ r ∧ now < t.2) ∧ (∀ t ∈ r.takeWhile (fun t => decide (t.2 ≤ now)), t ∈ r ∧ t.2 ≤ now)
  | [], now, _ => ⟨fun t => by simp [left], fun t ht => by simp at ht⟩
  | a :: r, now, h => by
    unfold Sorted at h
    rw [List.pairwise_cons] at h
    obtain ⟨i1, i2⟩ := cut_mem r now h.2
    by_cases ha : a.2 ≤ now
    · refine ⟨fun t => ?_, fun t ht => ?_⟩
      · rw [left_cons, if_pos ha, i1]
        constructor
        · rintro ⟨k1, k2⟩; exact ⟨by simp [k1], k2⟩
        · rintro ⟨k1, k2⟩
          rcases List.mem_cons.1 k1 with rfl | k1
          · omega
          · exact ⟨k1, k2⟩
      · rw [List.takeWhile_cons] at ht
        simp only [ha, decide_true, if_true] at ht
        rcases List.mem_cons.1 ht with rfl | ht
        · exact ⟨by simp, ha⟩
        · exact ⟨by simp [(i2 t ht).1], (i2 t ht).2⟩
    · refine ⟨fun t => ?_, fun t ht => ?_⟩
      · rw [left_cons, if_neg ha]
        constructor
        · intro k1
          refine ⟨k1, ?_⟩
          rcases List.mem_cons.1 k1 with rfl | k1
          · omega
          · have := h.1 t k1
            unfold before at this
            omega
        · exact fun k => k.1
      · rw [List.takeWhile_cons] at ht
        simp [ha] at ht
/-- The table behind the first k that were told. -/
def gone (m : Nat → Int) (ids : List Int) : Nat → Int := fun j => if (j : Int) ∈ ids then -1 else m j
theorem Holds.due {r : List T} {m : Nat → Int} (h : Holds r m) (now : Nat) (hn : now < 1000) : Holds (left r (now : Int)) (gone m (told r (now : Int))) ∧ (∀ j, j < 20 → ¬ (0 ≤ gone m (told r (now : Int)) j ∧ gone m (told r (now : Int)) j ≤ (now : Int))) ∧ nextB (left r (now : Int)) = true ∧ (now : Int) < nextI (left r (now : Int)) := by
  obtain ⟨c1, c2⟩ := cut_mem r (now : Int) h.good.sorted
  have hall : ∀ t, t ∈ r → t.2 ≤ (now : Int) → t ∈ r.takeWhile (fun t => decide (t.2 ≤ (now : Int))) := fun t ht h2 => by
    have e := List.takeWhile_append_dropWhile (p := fun t : T => decide (t.2 ≤ (now : Int))) (l := r)
    rw [← e] at ht
    rcases List.mem_append.1 ht with k | k
    · exact k
    · have := ((c1 t).1 k).2; omega
  have ht : ∀ j : Nat, (j : Int) ∈ told r (now : Int) ↔ ∃ t ∈ r, t.1 = (j : Int) ∧ t.2 ≤ (now : Int) := fun j => by
    unfold told
    rw [List.mem_map]
    exact ⟨fun ⟨t, k1, k2⟩ => ⟨t, (c2 t k1).1, k2, (c2 t k1).2⟩, fun ⟨t, k1, k2, k3⟩ => ⟨t, hall t k1 k3, k2⟩⟩
  have hj : ∀ j : Nat, j < 20 → ((j : Int) ∈ told r (now : Int) ↔ 0 ≤ m j ∧ m j ≤ (now : Int)) := fun j hj => by
    rw [ht]
    constructor
    · rintro ⟨t, k1, k2, k3⟩
      rcases (h.mem t).1 k1 with k | ⟨i, hi, h0, rfl⟩
      · have := (r0_id k).1; omega
      · have : i = j := by have e' : (i : Int) = (j : Int) := k2; omega
        subst this; exact ⟨h0, k3⟩
    · rintro ⟨k1, k2⟩
      exact ⟨_, (h.mem _).2 (Or.inr ⟨j, hj, k1, rfl⟩), rfl, k2⟩
  have hne : left r (now : Int) ≠ [] := fun e => by
    have : ((900000, 1073741824) : T) ∈ left r (now : Int) := (c1 _).2 ⟨(h.mem _).2 (Or.inl (by simp [r0])), by show (now : Int) < 1073741824; omega⟩
    rw [e] at this
    cases this
  refine ⟨⟨good_left h.good _, fun t => ?_, fun j hj2 => ?_⟩, fun j hj2 hh => ?_, ?_, ?_⟩
  · rw [c1, h.mem]
    constructor
    · rintro ⟨k | ⟨j, k1, k2, rfl⟩, k3⟩
      · exact Or.inl k
      · refine Or.inr ⟨j, k1, ?_, ?_⟩
        · unfold gone; rw [if_neg (fun e => by have := ((hj j k1).1 e).2; simp only at k3; omega)]; exact k2
        · unfold gone; rw [if_neg (fun e => by have := ((hj j k1).1 e).2; simp only at k3; omega)]
    · rintro (k | ⟨j, k1, k2, rfl⟩)
      · exact ⟨Or.inl k, by rw [(r0_id k).2]; omega⟩
      · unfold gone at k2 ⊢
        by_cases e : (j : Int) ∈ told r (now : Int)
        · rw [if_pos e] at k2; omega
        · rw [if_neg e] at k2 ⊢
          refine ⟨Or.inr ⟨j, k1, k2, rfl⟩, ?_⟩
          simp only
          by_cases hc : m j ≤ (now : Int)
          · exact absurd ((hj j k1).2 ⟨k2, hc⟩) e
          · omega
  · unfold gone
    split
    · omega
    · exact h.rng j hj2
  · unfold gone at hh
    by_cases e : (j : Int) ∈ told r (now : Int)
    · rw [if_pos e] at hh; omega
    · rw [if_neg e] at hh
      exact e ((hj j hj2).2 hh)
  · cases hq : left r (now : Int) with
    | nil => exact absurd hq hne
    | cons a q => rfl
  · cases hq : left r (now : Int) with
    | nil => exact absurd hq hne
    | cons a q => exact ((c1 a).1 (by rw [hq]; simp)).2
/-- What the law asks of each that is told. -/
theorem Holds.told {r : List T} {m : Nat → Int} (h : Holds r m) (now : Nat) (hn : now < 1000) (k : Nat) (hk : k < (WheelMath.told r (now : Int)).length) :
    ∃ i : Nat, (WheelMath.told r (now : Int))[k] = (i : Int) ∧ i < 20 ∧ 0 ≤ m i ∧ m i ≤ (now : Int) ∧ gone m ((WheelMath.told r (now : Int)).take k) i = m i ∧
      (∀ j, (hj : j < k) → ∃ i' : Nat, (WheelMath.told r (now : Int))[j] = (i' : Int) ∧ i' < 20 ∧ m i' ≤ m i) := by
  obtain ⟨c1, c2⟩ := cut_mem r (now : Int) h.good.sorted
  have hsub : (r.takeWhile (fun t => decide (t.2 ≤ (now : Int)))).Sublist r := List.takeWhile_sublist _
  have hs : Sorted (r.takeWhile (fun t => decide (t.2 ≤ (now : Int)))) := List.Pairwise.sublist hsub h.good.sorted
  have hd : Ids (r.takeWhile (fun t => decide (t.2 ≤ (now : Int)))) := List.Pairwise.sublist hsub h.good.ids
  have key : ∀ j, (hj : j < (r.takeWhile (fun t => decide (t.2 ≤ (now : Int)))).length) → ∃ i : Nat, i < 20 ∧ 0 ≤ m i ∧ (r.takeWhile (fun t => decide (t.2 ≤ (now : Int))))[j] = ((i : Int), m i) := fun j hj => by
    obtain ⟨k1, k2⟩ := c2 _ (List.getElem_mem hj)
    rcases (h.mem _).1 k1 with k | ⟨i, hi, h0, e⟩
    · have := (r0_id k).2; omega
    · exact ⟨i, hi, h0, e⟩
  unfold WheelMath.told at hk ⊢
  rw [List.length_map] at hk
  obtain ⟨i, hi, h0, e⟩ := key k hk
  have h2 := (c2 _ (List.getElem_mem hk)).2
  rw [e] at h2
  refine ⟨i, by rw [List.getElem_map, e], hi, h0, h2, ?_, fun j hj => ?_⟩
  · unfold gone
    rw [if_neg]
    intro hm
    rw [← List.map_take, List.mem_map] at hm
    obtain ⟨t, ht, he⟩ := hm
    obtain ⟨j, hj, rfl⟩ := List.getElem_of_mem ht
    rw [List.length_take] at hj
    rw [List.getElem_take] at he
    have hp := List.pairwise_iff_getElem.1 hd j k (by omega) hk (by omega)
    rw [e] at hp
    exact hp he
  · obtain ⟨i', hi', h0', e'⟩ := key j (by omega)
    refine ⟨i', by rw [List.getElem_map, e'], hi', ?_⟩
    have hp := List.pairwise_iff_getElem.1 hs j k (by omega) hk hj
    rw [e, e'] at hp
    unfold before at hp
    simp only at hp
    omega
theorem gone_snoc (m : Nat → Int) (ids : List Int) (k : Nat) (hk : k < ids.length) (i : Nat) (hi : ids[k] = (i : Int)) : updm (gone m (ids.take k)) i (-1) = gone m (ids.take (k + 1)) := by
  funext j
  rw [List.take_succ_eq_append_getElem hk, hi]
  unfold updm gone
  by_cases e : j = i
  · subst e; simp
  · rw [if_neg e]
    have : ¬ (j : Int) = (i : Int) := by omega
    simp [this]
end Go.Proofs.Ythenmngjojgmkaa
