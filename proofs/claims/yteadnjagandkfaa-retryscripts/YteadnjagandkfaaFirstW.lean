/- The walks of first, its closure, and the generic least. -/
import Derived.Test.YteadnjagandkfaaCallW
set_option linter.unusedVariables false
set_option maxRecDepth 100000
namespace Go.Proofs.Yteadnjagandkfaa
open Go.RowKit
open WheelMath

theorem ahead_yes (a b : T) (w : World) (h : before a b) :
    Calls Try.prog 52 #[.agg #[.int .i64 a.1, .int .i64 a.2], .agg #[.int .i64 b.1, .int .i64 b.2]] w fun e w' => e = .returned (.bool true) ∧ Below w.heap.size w w' := by
  obtain ⟨a1, a2⟩ := a
  obtain ⟨b1, b2⟩ := b
  unfold before at h
  simp only at h ⊢
  by_cases h1 : a2 < b2
  · have d1 : decide (a2 < b2) = true := by simpa using h1
    clear h
    go_enter Try.func52, Try.ntmps52
    go_wp2
    go_ret
    exact ⟨rfl, ((Below.refl _ _).alloc (Nat.le_refl _) _).alloc (by simp) _⟩
  · have h2 : a2 = b2 := by omega
    have h3 : a1 < b1 := by omega
    subst h2
    clear h h1
    go_enter Try.func52, Try.ntmps52
    go_wp2
    go_ret
    exact ⟨rfl, ((Below.refl _ _).alloc (Nat.le_refl _) _).alloc (by simp) _⟩
theorem ahead_no (a b : T) (w : World) (h : ¬ before a b) :
    Calls Try.prog 52 #[.agg #[.int .i64 a.1, .int .i64 a.2], .agg #[.int .i64 b.1, .int .i64 b.2]] w fun e w' => e = .returned (.bool false) ∧ Below w.heap.size w w' := by
  obtain ⟨a1, a2⟩ := a
  obtain ⟨b1, b2⟩ := b
  unfold before at h
  simp only at h ⊢
  have h1 : ¬ a2 < b2 := by omega
  have d1 : decide (a2 < b2) = false := by simpa using h1
  by_cases h2 : a2 = b2
  · have h3 : ¬ a1 < b1 := by omega
    subst h2
    have d3 : decide (a1 < b1) = false := by simpa using h3
    clear h h1
    go_enter Try.func52, Try.ntmps52
    go_wp2
    go_ret
    exact ⟨rfl, ((Below.refl _ _).alloc (Nat.le_refl _) _).alloc (by simp) _⟩
  · have d2 : decide (a2 = b2) = false := by simpa using h2
    have d3 : (a2 == b2) = false := by simpa using h2
    clear h
    go_enter Try.func52, Try.ntmps52
    go_wp2
    go_ret
    exact ⟨rfl, ((Below.refl _ _).alloc (Nat.le_refl _) _).alloc (by simp) _⟩

theorem least_nil (w : World) (ao : Option Addr) (cap : Nat) :
    Calls Try.prog 51 #[.slice ao 0 cap, .func (.func 52) #[] #[]] w fun e w' => e = .returned (.tuple #[.agg #[.int .i64 0, .int .i64 0], .bool false]) ∧ Below w.heap.size w w' := by
  go_enter Try.func51, Try.ntmps51
  go_wp2
  go_loop [7, 8, 11] (fun _ _ i => i = .int .i64 0) (fun _ _ _ => 0)
  case atStart => rfl
  case round =>
    subst hrel
    go_wp2
    exact bodyPost_ret (v := .tuple #[.agg #[.int .i64 0, .int .i64 0], .bool false]) (by simp [results, Try.results51, go_sem]) rfl ⟨rfl, ((Below.refl _ _).alloc (Nat.le_refl _) _).alloc (by simp) _⟩
/-- The two variables of least: its result's at block B, the one that is found at B + 1. -/
structure LAt (B : Nat) (f : T) (wr : World) : Prop where
  c0 : wr.cell? ⟨B, 0, none⟩ = some (.int .i64 0)
  c1 : wr.cell? ⟨B, 1, none⟩ = some (.int .i64 0)
  z0 : wr.frozen? ⟨B, 0, none⟩ = false
  z1 : wr.frozen? ⟨B, 1, none⟩ = false
  d0 : wr.cell? ⟨B + 1, 0, none⟩ = some (.int .i64 f.1)
  d1 : wr.cell? ⟨B + 1, 1, none⟩ = some (.int .i64 f.2)
  y0 : wr.frozen? ⟨B + 1, 0, none⟩ = false
  y1 : wr.frozen? ⟨B + 1, 1, none⟩ = false
theorem LAt.below {B : Nat} {f : T} {wr w' : World} (h : LAt B f wr) (hb : Below wr.heap.size wr w') : LAt B f w' := by
  have k0 := block_lt_of_cell h.c0
  have k1 := block_lt_of_cell h.d0
  exact ⟨(hb.cell (p := ⟨B, 0, none⟩) k0).trans h.c0, (hb.cell (p := ⟨B, 1, none⟩) k0).trans h.c1, (hb.frozen (p := ⟨B, 0, none⟩) k0).trans h.z0, (hb.frozen (p := ⟨B, 1, none⟩) k0).trans h.z1,
    (hb.cell (p := ⟨B + 1, 0, none⟩) k1).trans h.d0, (hb.cell (p := ⟨B + 1, 1, none⟩) k1).trans h.d1, (hb.frozen (p := ⟨B + 1, 0, none⟩) k1).trans h.y0, (hb.frozen (p := ⟨B + 1, 1, none⟩) k1).trans h.y1⟩
theorem LAt.set {B : Nat} {f : T} {wr : World} (h : LAt B f wr) (g : T) : LAt B g ((wr.setCell ⟨B + 1, 0, none⟩ (.int .i64 g.1)).setCell ⟨B + 1, 1, none⟩ (.int .i64 g.2)) := by
  refine ⟨?_, ?_, ?_, ?_, ?_, ?_, ?_, ?_⟩
  · rw [World.cell?_setCell_other _ _ _ _ (by simp), World.cell?_setCell_other _ _ _ _ (by simp)]; exact h.c0
  · rw [World.cell?_setCell_other _ _ _ _ (by simp), World.cell?_setCell_other _ _ _ _ (by simp)]; exact h.c1
  · rw [World.frozen?_setCell, World.frozen?_setCell]; exact h.z0
  · rw [World.frozen?_setCell, World.frozen?_setCell]; exact h.z1
  · rw [World.cell?_setCell_other _ _ _ _ (by simp), World.cell?_setCell_same _ _ _ h.d0]
  · rw [World.cell?_setCell_same _ _ _ (by rw [World.cell?_setCell_other _ _ _ _ (by simp)]; exact h.d1)]
  · rw [World.frozen?_setCell, World.frozen?_setCell]; exact h.y0
  · rw [World.frozen?_setCell, World.frozen?_setCell]; exact h.y1
/-- The one that is found among the first k. -/
def Found (l : List T) (k : Nat) (f : T) : Prop := (k = 0 ∧ f = (0, 0)) ∨ (f ∈ l.take k ∧ ∀ t ∈ l.take k, ¬ before t f)
theorem found_first {l : List T} {f : T} (h : 0 < l.length) : Found l 1 l[0] := by
  right
  have e : l.take 1 = [l[0]] := by
    cases l with
    | nil => simp at h
    | cons a l => simp
  rw [e]
  exact ⟨by simp, fun t ht => by obtain rfl := List.mem_singleton.1 ht; exact before_irrefl _⟩
theorem found_more {l : List T} {k : Nat} {f : T} (hk : k < l.length) (h0 : k ≠ 0) (h : Found l k f) (hb : before l[k] f) : Found l (k + 1) l[k] := by
  rcases h with ⟨h1, _⟩ | ⟨h1, h2⟩
  · exact absurd h1 h0
  · right
    rw [List.take_succ_eq_append_getElem hk]
    refine ⟨List.mem_append_right _ (List.mem_singleton.2 rfl), fun t ht => ?_⟩
    rcases List.mem_append.1 ht with ht | ht
    · intro hc
      exact h2 t ht (before_trans hc hb)
    · obtain rfl := List.mem_singleton.1 ht
      exact before_irrefl _
theorem found_keep {l : List T} {k : Nat} {f : T} (hk : k < l.length) (h0 : k ≠ 0) (h : Found l k f) (hb : ¬ before l[k] f) : Found l (k + 1) f := by
  rcases h with ⟨h1, _⟩ | ⟨h1, h2⟩
  · exact absurd h1 h0
  · right
    rw [List.take_succ_eq_append_getElem hk]
    refine ⟨List.mem_append_left _ h1, fun t ht => ?_⟩
    rcases List.mem_append.1 ht with ht | ht
    · exact h2 t ht
    · obtain rfl := List.mem_singleton.1 ht
      exact hb
theorem found_all {l : List T} {f a : T} {r : List T} (h : Found l l.length f) (hp : l.Perm (a :: r)) (hs : Sorted (a :: r)) : f = a := by
  rcases h with ⟨h1, _⟩ | ⟨h1, h2⟩
  · have := hp.length_eq; rw [h1] at this; simp at this
  · rw [List.take_length] at h1 h2
    exact first_head hp hs h1 h2

set_option maxHeartbeats 4000000 in
theorem least_cons (w : World) (v : Value) (l : List T) (hl : l.length ≤ 200) (B0 e0 : Nat) (hown : w.ownsRow B0 e0 2 v l.length (tcells l)) (a : T) (r : List T) (hp : l.Perm (a :: r)) (hs : Sorted (a :: r)) :
    Calls Try.prog 51 #[v, .func (.func 52) #[] #[]] w fun e w' => e = .returned (.tuple #[.agg #[.int .i64 a.1, .int .i64 a.2], .bool true]) ∧ Below w.heap.size w w' := by
  obtain ⟨ao, cap, rfl, hcap, _, hrow⟩ := row_cells hown
  have HR : Hid (∀ j, (hj : j < l.length) → ∃ g, ao = some ⟨g, 0, none⟩ ∧ g < w.heap.size ∧ w.cell? ⟨g, j * 2, none⟩ = some (.int .i64 l[j].1) ∧ w.cell? ⟨g, j * 2 + 1, none⟩ = some (.int .i64 l[j].2) ∧ w.frozen? ⟨g, j * 2 + 1, none⟩ = false) := hrow
  have HP : Hid (l.Perm (a :: r)) := hp
  have HS : Hid (Sorted (a :: r)) := hs
  have hpos : 0 < l.length := by rw [hp.length_eq]; simp
  obtain ⟨w0, hw0⟩ : ∃ w0, w0 = (w.alloc (.cells #[.int .i64 0, .int .i64 0] 70)).alloc (.cells #[.int .i64 0, .int .i64 0] 70) := ⟨_, rfl⟩
  have HW0 : Hid (w0 = (w.alloc (.cells #[.int .i64 0, .int .i64 0] 70)).alloc (.cells #[.int .i64 0, .int .i64 0] 70)) := hw0
  have H0 : Hid (LAt w.heap.size (0, 0) w0) := by rw [hw0]; constructor <;> simp
  have HB0 : Hid (Below w.heap.size w w0) := by rw [hw0]; exact ((Below.refl _ _).alloc (Nat.le_refl _) _).alloc (by simp) _
  clear hrow hown hp hs hw0
  go_enter Try.func51, Try.ntmps51
  go_wp2
  rw [← HW0.out]
  clear HW0
  go_loopw [7, 8, 11] (fun _ _ i wr => ∃ (k : Nat) (f : T), k ≤ l.length ∧ i = .int .i64 (k : Int) ∧ Hid (Below w.heap.size w wr) ∧ Hid (LAt w.heap.size f wr) ∧ Hid (Found l k f)) (fun _ _ i _ => l.length - (intOf i).toNat)
  case atStart => exact ⟨0, (0, 0), Nat.zero_le _, rfl, HB0, H0, Or.inl ⟨rfl, rfl⟩⟩
  case round =>
    obtain ⟨k, f, hk, rfl, HB, HL, HF⟩ := hrel
    clear H0 HB0
    by_cases hlt : k < l.length
    · obtain ⟨g, rfl, hg, c1, c2, _⟩ := HR.out k hlt
      have e1 : wr.cell? ⟨g, k * 2, none⟩ = some (.int .i64 l[k].1) := (HB.out.cell (p := ⟨g, k * 2, none⟩) hg).trans c1
      have e2 : wr.cell? ⟨g, k * 2 + 1, none⟩ = some (.int .i64 l[k].2) := (HB.out.cell (p := ⟨g, k * 2 + 1, none⟩) hg).trans c2
      have i1 : (k : Int) < (l.length : Int) := by omega
      have hsz : w.heap.size + 1 < wr.heap.size := block_lt_of_cell HL.out.d0
      by_cases h0 : k = 0
      · subst h0
        have HF' : Hid (Found l 1 l[0]) := found_first (f := f) hlt
        have HL1 : Hid (LAt w.heap.size l[0] (((wr.setCell ⟨w.heap.size + 1, 0, none⟩ (.int .i64 l[0].1)).setCell ⟨w.heap.size + 1, 1, none⟩ (.int .i64 l[0].2)).alloc (.cells #[.int .i64 l[0].1, .int .i64 l[0].2] 70))) :=
          (HL.out.set l[0]).below ((Below.refl _ _).alloc (Nat.le_refl _) _)
        have HB1 : Hid (Below w.heap.size w (((wr.setCell ⟨w.heap.size + 1, 0, none⟩ (.int .i64 l[0].1)).setCell ⟨w.heap.size + 1, 1, none⟩ (.int .i64 l[0].2)).alloc (.cells #[.int .i64 l[0].1, .int .i64 l[0].2] 70))) :=
          ((HB.out.setCell (p := ⟨w.heap.size + 1, 0, none⟩) (by simp) _).setCell (p := ⟨w.heap.size + 1, 1, none⟩) (by simp) _).alloc (by have := HB.out.size; simp; omega) _
        obtain ⟨x1, x2, x3, x4, x5, x6, x7, x8⟩ := HL.out
        clear c1 c2 HF
        generalize l[0] = t at *
        obtain ⟨t1, t2⟩ := t
        simp only [Nat.zero_mul, Nat.zero_add] at e1 e2 HL1 HB1
        go_wp2
        exact ⟨⟨1, (t1, t2), by omega, rfl, HB1, HL1, HF'⟩, by simp [intOf]; omega⟩
      · have C : Hid (∀ w1, Calls Try.prog 52 #[.agg #[.int .i64 l[k].1, .int .i64 l[k].2], .agg #[.int .i64 f.1, .int .i64 f.2]] w1 fun e w' => e = .returned (.bool (decide (before l[k] f))) ∧ Below w1.heap.size w1 w') := fun w1 => by
          by_cases hb : before l[k] f
          · rw [decide_eq_true hb]; exact ahead_yes _ _ _ hb
          · rw [decide_eq_false hb]; exact ahead_no _ _ _ hb
        have HFy : Hid (before l[k] f → Found l (k + 1) l[k]) := fun hb => found_more hlt h0 HF.out hb
        have HFn : Hid (¬ before l[k] f → Found l (k + 1) f) := fun hb => found_keep hlt h0 HF.out hb
        have hb1 : Below wr.heap.size wr (wr.alloc (.cells #[.int .i64 l[k].1, .int .i64 l[k].2] 70)) := (Below.refl _ _).alloc (Nat.le_refl _) _
        have HL1 : Hid (LAt w.heap.size f (wr.alloc (.cells #[.int .i64 l[k].1, .int .i64 l[k].2] 70))) := HL.out.below hb1
        have HB1 : Hid (Below w.heap.size w (wr.alloc (.cells #[.int .i64 l[k].1, .int .i64 l[k].2] 70))) := HB.out.trans (hb1.mono HB.out.size)
        have j0 : decide ((k : Int) = 0) = false := by simp; omega
        have j1 : ((k : Int) == 0) = false := by simp; omega
        have j2 : ¬ (k : Int) = 0 := by omega
        obtain ⟨x1, x2, x3, x4, x5, x6, x7, x8⟩ := HL.out
        clear c1 c2 HF hb1 h0
        generalize l[k] = t at *
        obtain ⟨t1, t2⟩ := t
        simp only at e1 e2 HL1 HB1 C
        have HK : Hid (LAt w.heap.size f (wr.alloc (.cells #[.int .i64 t1, .int .i64 t2] 70))) := HL1
        go_wp2_with fail
        refine (C.out _).mono ?_
        rintro e w1 ⟨rfl, hb1⟩
        have hl1 := HL1.out.below hb1
        have n0 : w1.cell? ⟨wr.heap.size, 0, none⟩ = some (.int .i64 t1) := (hb1.cell (p := ⟨wr.heap.size, 0, none⟩) (by simp)).trans (by simp)
        have n1 : w1.cell? ⟨wr.heap.size, 1, none⟩ = some (.int .i64 t2) := (hb1.cell (p := ⟨wr.heap.size, 1, none⟩) (by simp)).trans (by simp)
        have hbw := HB1.out.trans (hb1.mono (HB1.out.size))
        have HBW : Hid (Below w.heap.size w w1) := hbw
        have HLW : Hid (LAt w.heap.size f w1) := hl1
        clear x1 x2 x3 x4 x5 x6 x7 x8 hb1 hbw C HB1 HL1 HK e1 e2 HB HL
        obtain ⟨x1, x2, x3, x4, x5, x6, x7, x8⟩ := hl1
        by_cases hb : before (t1, t2) f
        · have HF' : Hid (Found l (k + 1) (t1, t2)) := HFy.out hb
          have HL2 : Hid (LAt w.heap.size (t1, t2) ((w1.setCell ⟨w.heap.size + 1, 0, none⟩ (.int .i64 t1)).setCell ⟨w.heap.size + 1, 1, none⟩ (.int .i64 t2))) := HLW.out.set (t1, t2)
          have HB2 : Hid (Below w.heap.size w ((w1.setCell ⟨w.heap.size + 1, 0, none⟩ (.int .i64 t1)).setCell ⟨w.heap.size + 1, 1, none⟩ (.int .i64 t2))) := (HBW.out.setCell (p := ⟨w.heap.size + 1, 0, none⟩) (by simp) _).setCell (p := ⟨w.heap.size + 1, 1, none⟩) (by simp) _
          rw [decide_eq_true hb]
          clear hb HFy HFn
          go_wp2
          exact ⟨⟨k + 1, (t1, t2), by omega, by go_num, HB2, HL2, HF'⟩, by simp [intOf]; omega⟩
        · have HF' : Hid (Found l (k + 1) f) := HFn.out hb
          rw [decide_eq_false hb]
          clear hb HFy HFn
          go_wp2
          exact ⟨⟨k + 1, f, by omega, by go_num, HBW, HLW, HF'⟩, by simp [intOf]; omega⟩
    · obtain rfl : k = l.length := by omega
      have hfa : f = a := found_all HF.out HP.out HS.out
      subst hfa
      obtain ⟨x1, x2, x3, x4, x5, x6, x7, x8⟩ := HL.out
      have i2 : decide ((0 : Int) < (l.length : Int)) = true := by simp; omega
      clear HF
      go_wp2
      have HB2 : Below w.heap.size w ((wr.setCell ⟨w.heap.size, 0, none⟩ (.int .i64 f.1)).setCell ⟨w.heap.size, 1, none⟩ (.int .i64 f.2)) := (HB.out.setCell (p := ⟨w.heap.size, 0, none⟩) (Nat.le_refl _) _).setCell (p := ⟨w.heap.size, 1, none⟩) (Nat.le_refl _) _
      exact bodyPost_ret (v := .tuple #[.agg #[.int .i64 f.1, .int .i64 f.2], .bool true]) (by simp [results, Try.results51, go_sem, x1, x2]) rfl ⟨rfl, HB2⟩
end Go.Proofs.Yteadnjagandkfaa
