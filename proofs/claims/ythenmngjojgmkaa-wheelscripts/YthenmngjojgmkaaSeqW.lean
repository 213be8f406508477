/- The laws' own 'set' and 'same', walked; wheels in which timers are set one behind the other. -/
import Derived.Test.YthenmngjojgmkaaActW
set_option linter.unusedVariables false
set_option maxRecDepth 100000
namespace Go.Proofs.Ythenmngjojgmkaa
open Go.RowKit
open WheelMath

/-- Timers set one behind the other, from begun's wheel on. -/
def seqR (P : Nat → T) : Nat → List T
  | 0 => r0
  | i + 1 => (aSet (seqR P i) (P i).1 (P i).2).1
theorem good_seq (P : Nat → T) : ∀ i, WheelMath.Good (seqR P i)
  | 0 => good_r0
  | i + 1 => good_aSet (good_seq P i) _ _
theorem has_r0 (x : Int) : has r0 x ↔ x = 900000 ∨ x = 900001 := by
  unfold has r0
  constructor
  · rintro ⟨t, ht, rfl⟩
    simp at ht
    rcases ht with rfl | rfl
    · exact Or.inl rfl
    · exact Or.inr rfl
  · rintro (rfl | rfl)
    · exact ⟨(900000, 1073741824), by simp, rfl⟩
    · exact ⟨(900001, 1073741824), by simp, rfl⟩
theorem has_ins' {t : T} {r : List T} {x : Int} : has (ins t (rem r t.1)) x ↔ x = t.1 ∨ has r x := by
  unfold has
  constructor
  · rintro ⟨u, hu, rfl⟩
    rcases mem_ins.1 hu with rfl | hu
    · exact Or.inl rfl
    · exact Or.inr ⟨u, (mem_rem.1 hu).1, rfl⟩
  · rintro (rfl | ⟨u, hu, rfl⟩)
    · exact ⟨t, mem_ins.2 (Or.inl rfl), rfl⟩
    · by_cases e : u.1 = t.1
      · exact ⟨t, mem_ins.2 (Or.inl rfl), e.symm⟩
      · exact ⟨u, mem_ins.2 (Or.inr (mem_rem.2 ⟨hu, e⟩)), rfl⟩
/-- A Set that fits. -/
theorem set_fits {r : List T} {id tm : Int} (h1 : 0 ≤ id) (h2 : 0 ≤ tm) (h3 : tm ≤ 1073741824) (h4 : has r id ∨ r.length < 200) : aSet r id tm = (ins (id, tm) (rem r id), 0) := by
  unfold aSet
  rw [if_neg (by omega), if_neg (fun hh => h4.elim hh.1 (fun h => by omega))]
theorem set_len {r : List T} {id tm : Int} (hi : Ids r) : (ins (id, tm) (rem r id)).length = if has r id then r.length else r.length + 1 := by
  rw [(ins_perm _ _).length_eq, List.length_cons]
  by_cases h : has r id
  · rw [if_pos h, rem_len_has hi h]
  · rw [if_neg h, rem_none h]
/-- The ids of a wheel filled in the order of 0, 1 .. 149, 0, 1 .. -/
theorem fwd (P : Nat → T) (hP : ∀ i, (P i).1 = ((i % 150 : Nat) : Int) ∧ 0 ≤ (P i).2 ∧ (P i).2 ≤ 1073741824) : ∀ i, (seqR P i).length = 2 + min i 150 ∧ (∀ x, has (seqR P i) x ↔ x = 900000 ∨ x = 900001 ∨ (0 ≤ x ∧ x < (min i 150 : Nat))) ∧ (aSet (seqR P i) (P i).1 (P i).2).2 = 0
  | 0 => by
    refine ⟨rfl, fun x => ?_, ?_⟩
    · show has r0 x ↔ _
      rw [has_r0]
      simp
      omega
    · rw [show seqR P 0 = r0 from rfl, set_fits (by rw [(hP 0).1]; omega) (hP 0).2.1 (hP 0).2.2 (Or.inr (by decide))]
  | i + 1 => by
    obtain ⟨hl, hh, hz⟩ := fwd P hP i
    have e := set_fits (r := seqR P i) (id := (P i).1) (tm := (P i).2) (by rw [(hP i).1]; omega) (hP i).2.1 (hP i).2.2 (Or.inr (by omega))
    have es : seqR P (i + 1) = ins ((P i).1, (P i).2) (rem (seqR P i) (P i).1) := by
      show (aSet (seqR P i) (P i).1 (P i).2).1 = _
      rw [e]
    have hm : has (seqR P i) (P i).1 ↔ 150 ≤ i := by
      rw [hh, (hP i).1]
      have := Nat.mod_lt i (show 0 < 150 by decide)
      constructor
      · rintro (h | h | h)
        · omega
        · omega
        · by_cases hc : i < 150
          · rw [Nat.mod_eq_of_lt hc] at h; omega
          · omega
      · intro h
        right; right
        omega
    have hl' : (seqR P (i + 1)).length = 2 + min (i + 1) 150 := by
      rw [es, set_len (good_seq P i).ids]
      by_cases hc : 150 ≤ i
      · rw [if_pos (hm.2 hc)]; omega
      · rw [if_neg (fun h => hc (hm.1 h))]; omega
    have hh' : ∀ x, has (seqR P (i + 1)) x ↔ x = 900000 ∨ x = 900001 ∨ (0 ≤ x ∧ x < (min (i + 1) 150 : Nat)) := fun x => by
      rw [es, has_ins', hh, (hP i).1]
      have := Nat.mod_lt i (show 0 < 150 by decide)
      by_cases hc : i < 150
      · rw [Nat.mod_eq_of_lt hc]; omega
      · omega
    refine ⟨hl', hh', ?_⟩
    rw [set_fits (by rw [(hP (i + 1)).1]; omega) (hP (i + 1)).2.1 (hP (i + 1)).2.2 (Or.inr (by omega))]
/-- What stands in a wheel whose timers have unlike ids. -/
theorem mem_seq (P : Nat → T) (n : Nat) (hP : ∀ i, i < n → 0 ≤ (P i).1 ∧ (P i).1 < 150 ∧ 0 ≤ (P i).2 ∧ (P i).2 ≤ 1073741824) (hn : n ≤ 150) (hd : ∀ i j, i < n → j < n → (P i).1 = (P j).1 → i = j) :
    ∀ i, i ≤ n → (seqR P i).length = 2 + i ∧ (∀ t, t ∈ seqR P i ↔ t ∈ r0 ∨ ∃ j, j < i ∧ t = P j) ∧ (i < n → (aSet (seqR P i) (P i).1 (P i).2).2 = 0)
  | 0, _ => by
    refine ⟨rfl, fun t => ?_, fun h => ?_⟩
    · show t ∈ r0 ↔ _
      simp
    · rw [show seqR P 0 = r0 from rfl, set_fits (hP 0 h).1 (hP 0 h).2.2.1 (hP 0 h).2.2.2 (Or.inr (by decide))]
  | i + 1, hi => by
    obtain ⟨hl, hm, hz⟩ := mem_seq P n hP hn hd i (by omega)
    have hb := hP i (by omega)
    have e := set_fits (r := seqR P i) (id := (P i).1) (tm := (P i).2) hb.1 hb.2.2.1 hb.2.2.2 (Or.inr (by omega))
    have es : seqR P (i + 1) = ins ((P i).1, (P i).2) (rem (seqR P i) (P i).1) := by
      show (aSet (seqR P i) (P i).1 (P i).2).1 = _
      rw [e]
    have hnh : ¬ has (seqR P i) (P i).1 := by
      rintro ⟨t, ht, h1⟩
      rcases (hm t).1 ht with h | ⟨j, hj, rfl⟩
      · have := (has_r0 t.1).1 ⟨t, h, rfl⟩
        omega
      · have := hd j i (by omega) (by omega) h1
        omega
    refine ⟨by rw [es, set_len (good_seq P i).ids, if_neg hnh]; omega, fun t => ?_, fun h => ?_⟩
    · rw [es, rem_none hnh, mem_ins, hm]
      constructor
      · rintro (rfl | h | ⟨j, hj, rfl⟩)
        · exact Or.inr ⟨i, by omega, rfl⟩
        · exact Or.inl h
        · exact Or.inr ⟨j, by omega, rfl⟩
      · rintro (h | ⟨j, hj, rfl⟩)
        · exact Or.inr (Or.inl h)
        · by_cases ej : j = i
          · subst ej; exact Or.inl rfl
          · exact Or.inr (Or.inr ⟨j, by omega, rfl⟩)
    · have hb' := hP (i + 1) h
      have hl' : (seqR P (i + 1)).length = 2 + (i + 1) := by rw [es, set_len (good_seq P i).ids, if_neg hnh]; omega
      rw [set_fits hb'.1 hb'.2.2.1 hb'.2.2.2 (Or.inr (by omega))]
/-- Rows in order with the same timers are one row. -/
theorem sorted_ext : ∀ {r q : List T}, Sorted r → Sorted q → (∀ t, t ∈ r ↔ t ∈ q) → r = q
  | [], [], _, _, _ => rfl
  | [], b :: q, _, _, h => by have := (h b).2 (by simp); cases this
  | a :: r, [], _, _, h => by have := (h a).1 (by simp); cases this
  | a :: r, b :: q, hr, hq, h => by
    unfold Sorted at hr hq
    rw [List.pairwise_cons] at hr hq
    have hab : a = b := by
      rcases List.mem_cons.1 ((h a).1 (by simp)) with e | e
      · exact e
      · rcases List.mem_cons.1 ((h b).2 (by simp)) with e2 | e2
        · exact e2.symm
        · exact absurd (hq.1 a e) (before_asymm (hr.1 b e2))
    subst hab
    rw [sorted_ext hr.2 hq.2 (fun t => ?_)]
    constructor
    · intro ht
      rcases List.mem_cons.1 ((h t).1 (by simp [ht])) with e | e
      · subst e; exact absurd (hr.1 t ht) (before_irrefl t)
      · exact e
    · intro ht
      rcases List.mem_cons.1 ((h t).2 (by simp [ht])) with e | e
      · subst e; exact absurd (hq.1 t ht) (before_irrefl t)
      · exact e

/-- A slice value that leads to numbers. -/
def IRow (w : World) (v : Value) (xs : List Int) : Prop := ∃ ao cap, v = .slice ao xs.length cap ∧ xs.length ≤ cap ∧ ∀ j, (h : j < xs.length) → ∃ g, ao = some ⟨g, 0, none⟩ ∧ g < w.heap.size ∧ w.cell? ⟨g, j, none⟩ = some (.int .i64 xs[j])
theorem irow_own {w : World} {B e : Nat} {v : Value} {xs : List Int} (h : w.ownsRow B e 1 v xs.length (xs.map fun n => .int .i64 n)) : IRow w v xs := by
  obtain ⟨ao, cap, rfl, h1, h2, h3⟩ := own_form h
  refine ⟨ao, cap, rfl, h1, fun j hj => ?_⟩
  cases ao with
  | none => have := (h2 rfl).1; omega
  | some p =>
    obtain ⟨g, rfl, _, k2, k3, _⟩ := h3 p rfl
    exact ⟨g, rfl, k2, by rw [k3 j (by omega)]; simp [hj]⟩
set_option maxHeartbeats 1000000 in
theorem same_yes (w : World) (a b : Value) (xs : List Int) (hl : xs.length ≤ 140737488355328) (ha : IRow w a xs) (hb : IRow w b xs) :
    Calls Try.prog 15 #[a, b] w fun e w' => e = .returned (.bool true) ∧ Below w.heap.size w w' := by
  obtain ⟨ao, ac, rfl, _, ra⟩ := ha
  obtain ⟨bo, bc, rfl, _, rb⟩ := hb
  have RA : Hid (∀ j, (h : j < xs.length) → ∃ g, ao = some ⟨g, 0, none⟩ ∧ g < w.heap.size ∧ w.cell? ⟨g, j, none⟩ = some (.int .i64 xs[j])) := ra
  have RB : Hid (∀ j, (h : j < xs.length) → ∃ g, bo = some ⟨g, 0, none⟩ ∧ g < w.heap.size ∧ w.cell? ⟨g, j, none⟩ = some (.int .i64 xs[j])) := rb
  clear ra rb
  go_enter Try.func15, Try.ntmps15
  go_wp2
  go_loopw [5] (fun i wr => ∃ k : Nat, k ≤ xs.length ∧ i = .int .i64 (k : Int) ∧ Hid (Below w.heap.size w wr)) (fun i _ => xs.length - (intOf i).toNat)
  case atStart => exact ⟨0, Nat.zero_le _, rfl, Below.refl _ _⟩
  case round =>
    obtain ⟨k, hk, rfl, HB⟩ := hrel
    by_cases hlt : k < xs.length
    · obtain ⟨g, rfl, hg, c1⟩ := RA.out k hlt
      obtain ⟨g2, rfl, hg2, c2⟩ := RB.out k hlt
      have d1 : wr.cell? ⟨g, k, none⟩ = some (.int .i64 xs[k]) := (HB.out.cell (p := ⟨g, k, none⟩) hg).trans c1
      have d2 : wr.cell? ⟨g2, k, none⟩ = some (.int .i64 xs[k]) := (HB.out.cell (p := ⟨g2, k, none⟩) hg2).trans c2
      have i1 : (k : Int) < (xs.length : Int) := by omega
      clear c1 c2
      generalize xs[k] = x at *
      go_wp2_with fail
      go_quiet (fail)
      rename_i nq
      have HB1 : Hid (Below w.heap.size w (wr.drewN nq)) := below_drewN HB.out nq
      go_wp2
      exact ⟨⟨k + 1, by omega, by go_num, HB1⟩, by simp [intOf]; omega⟩
    · obtain rfl : k = xs.length := by omega
      go_wp2
      go_ret
      exact ⟨rfl, HB.out⟩

/-- What the laws set: forwards, and back. -/
def pF (l : List Op) (i : Nat) : T := (((i % 150 : Nat) : Int), (pick (l.getD i ⟨0, 0, 0⟩).At 1000 : Nat))
def pB (l : List Op) (i : Nat) : T := pF l (l.length - 1 - i)
theorem pF_ok (l : List Op) (i : Nat) : (pF l i).1 = ((i % 150 : Nat) : Int) ∧ 0 ≤ (pF l i).2 ∧ (pF l i).2 ≤ 1073741824 := by
  have := pick_lt (l.getD i ⟨0, 0, 0⟩).At 1000 (by decide)
  refine ⟨rfl, ?_, ?_⟩ <;> show _ ≤ _ <;> unfold pF <;> omega
theorem setF_zero (l : List Op) (i : Nat) : (aSet (seqR (pF l) i) (pF l i).1 (pF l i).2).2 = 0 := (fwd (pF l) (pF_ok l) i).2.2
theorem pF_mem (l : List Op) (hn : l.length ≤ 150) : ∀ i, i ≤ l.length → (seqR (pF l) i).length = 2 + i ∧ (∀ t, t ∈ seqR (pF l) i ↔ t ∈ r0 ∨ ∃ j, j < i ∧ t = pF l j) := fun i hi => by
  have h := mem_seq (pF l) l.length (fun i hi => by
    have := pF_ok l i
    have h2 := Nat.mod_lt i (show 0 < 150 by decide)
    exact ⟨by rw [this.1]; omega, by rw [this.1]; omega, this.2⟩) hn (fun i j h1 h2 e => by
    have a := (pF_ok l i).1
    have b := (pF_ok l j).1
    rw [a, b, Nat.mod_eq_of_lt (by omega), Nat.mod_eq_of_lt (by omega)] at e
    omega) i hi
  exact ⟨h.1, h.2.1⟩
theorem pB_mem (l : List Op) (hn : l.length ≤ 150) : ∀ i, i ≤ l.length → (seqR (pB l) i).length = 2 + i ∧ (∀ t, t ∈ seqR (pB l) i ↔ t ∈ r0 ∨ ∃ j, j < i ∧ t = pB l j) ∧ (i < l.length → (aSet (seqR (pB l) i) (pB l i).1 (pB l i).2).2 = 0) :=
  mem_seq (pB l) l.length (fun i hi => by
    have := pF_ok l (l.length - 1 - i)
    have h2 := Nat.mod_lt (l.length - 1 - i) (show 0 < 150 by decide)
    unfold pB
    exact ⟨by rw [this.1]; omega, by rw [this.1]; omega, this.2⟩) hn (fun i j h1 h2 e => by
    have a := (pF_ok l (l.length - 1 - i)).1
    have b := (pF_ok l (l.length - 1 - j)).1
    unfold pB at e
    rw [a, b, Nat.mod_eq_of_lt (by omega), Nat.mod_eq_of_lt (by omega)] at e
    omega)
theorem seq_alike (l : List Op) (hn : l.length ≤ 150) : seqR (pF l) l.length = seqR (pB l) l.length := by
  refine sorted_ext (good_seq _ _).sorted (good_seq _ _).sorted fun t => ?_
  rw [(pF_mem l hn _ (Nat.le_refl _)).2, (pB_mem l hn _ (Nat.le_refl _)).2.1]
  constructor
  · rintro (h | ⟨j, hj, rfl⟩)
    · exact Or.inl h
    · exact Or.inr ⟨l.length - 1 - j, by omega, by unfold pB; rw [show l.length - 1 - (l.length - 1 - j) = j by omega]⟩
  · rintro (h | ⟨j, hj, rfl⟩)
    · exact Or.inl h
    · exact Or.inr ⟨l.length - 1 - j, by omega, rfl⟩
end Go.Proofs.Ythenmngjojgmkaa
