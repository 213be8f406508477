/- The walk of the law JournalMakes. -/
import Derived.Test.YtklgfapdgeoigaaDoorLaidDW
set_option linter.unusedVariables false
set_option maxRecDepth 100000
namespace Go.Proofs.YtklgfapdgeoigaaDoor
open Go.RowKit
open JournalMath DiskMath
open Fr (Tab tab_below tab_drewN)
open Dk (PDisk RDisk ROk DIn Chg fp fp_lt rdisk_below rdisk_chg chg_below pdisk_below pdisk_chg)

/-- The set of blocks that a call on the program's disk leaves alone, from a pair of disks on. -/
theorem Duo.set {B : Nat} {w w1 : World} {bd bx : Nat} {d e : DS} (h : Duo B w bd bx d e w1) (hB : B ≤ w1.heap.size) (hT : Tab w) (hBw : w.heap.size ≤ B) : ∃ V, PDisk w1 bd V d ∧ DIn (fun k => k < w1.heap.size ∧ ¬ fp bd V k) w1 bd d w1 ∧ (0 < w1.heap.size ∧ ¬ fp bd V 0) ∧ Tab w1 ∧ RDisk w1 bx e ∧ (bx < w1.heap.size ∧ ¬ fp bd V bx) ∧
    ∀ w2, Chg (fun k => ¬ (k < w1.heap.size ∧ ¬ fp bd V k)) w1 w2 → Below B w w2 := by
  obtain ⟨V, h1, h2, h3, h4, h5⟩ := h
  have hT1 : Tab w1 := fun i hi => by
    have h0 := hT i hi
    have hlt := block_lt_of_cell h0
    rw [h5.cell (p := ⟨0, i, none⟩) (by simp only at hlt ⊢; omega)]
    exact h0
  refine ⟨V, h1, ⟨V, h1, fun k hk _ ht => ht.2 hk, Chg.refl _ _⟩, ⟨tab_lt hT1, fun hf => ?_⟩, hT1, h2, ⟨h2.lt, h4⟩, fun w2 hc => h5.trans ⟨hc.os, hc.tape, hc.output, hc.size, fun k hk => hc.block k (by omega) (fun hn => hn ⟨by omega, fun hf => by have := h3 k (Or.inl hf); omega⟩)⟩⟩
  have := h3 _ (Or.inl hf)
  have := tab_lt hT
  omega
/-- Both News done: what is told of them, and two disks that are the same. -/
def BothNew (w : World) (bd bx : Nat) (er : Int) (pj py : Option Addr) (w' : World) : Prop := (pj = none ↔ py = none) ∧ ∃ V d, PDisk w' bd V d ∧ RDisk w' bx d ∧ Ok d ∧ Below w.heap.size w w'
theorem new_both {w w1 : World} {bd bx : Nat} {d : DS} (h : Duo w.heap.size w bd bx d d w1) (hB : w.heap.size ≤ w1.heap.size) (hk : Ok d) (hT : Tab w) :
    ∃ er : Int, Calls Tryd.prog 16 #[.pointer (some ⟨bd, 0, none⟩)] w1 fun e w' => ∃ pj, e = .returned (.tuple #[.pointer pj, .int .i64 er]) ∧
      Calls Tryd.prog 17 #[.pointer (some ⟨bx, 0, none⟩)] w' fun e2 w2 => ∃ py, e2 = .returned (.tuple #[.pointer py, .int .i64 er]) ∧ BothNew w bd bx er pj py w2 := by
  have hDuo := h
  obtain ⟨V, hP, hD, hG, hT1, hR, hx, hbel⟩ := h.set hB hT (Nat.le_refl _)
  by_cases hu : 0 < (d.F 0).length ∨ 0 < (d.F 1).length
  · refine ⟨60, (new_used hD hu).mono ?_⟩
    rintro e w' ⟨k1, hD'⟩
    obtain ⟨V2, g1, g2, g3⟩ := hD'
    have hR' := rdisk_chg hR g3 (fun hn => hn hx)
    refine ⟨none, k1, (refNew_used hR' hk hu).mono ?_⟩
    rintro e2 w2 ⟨k2, rfl⟩
    exact ⟨none, k2, Iff.rfl, V2, d, g1, hR', hk, hbel _ g3⟩
  · have h0 : d.F 0 = [] := List.eq_nil_of_length_eq_zero (by omega)
    have h1 : d.F 1 = [] := List.eq_nil_of_length_eq_zero (by omega)
    have hjok : JOk (jBegin ⟨d, 1, 0, 0⟩ []).1 := jok_begin ⟨d, 1, 0, 0⟩ [] ⟨hk, Nat.le_refl _, Nat.zero_le _, Nat.zero_le _⟩ (by show 0 < _; omega)
    refine ⟨(jBegin ⟨d, 1, 0, 0⟩ []).2, (new_fresh hD hk h0 h1 hG hT1).mono ?_⟩
    rintro e w' h
    rcases h with ⟨e0, bj, k1, hJ⟩ | ⟨e0, k1, hD'⟩
    · obtain ⟨V2, g1, g2, g3, g4, g5⟩ := hJ
      have hR' := rdisk_chg hR g5 (fun hn => hn hx)
      have hxf : ¬ fp bd V2 bx := fun hf => g3 bx (Or.inl hf) hx.1 hx
      refine ⟨some ⟨bj, 0, none⟩, by rw [e0]; exact k1, (refNew_fresh hR' hk h0 h1).mono ?_⟩
      rintro e2 w2 h2
      rcases h2 with ⟨_, by_, hby, k2, hR2, hJ2, hC2⟩ | ⟨e1, _⟩
      · refine ⟨some ⟨by_, 0, none⟩, by rw [e0]; exact k2, ⟨fun h => (by cases h), fun h => (by cases h)⟩, V2, _, pdisk_chg g1 hC2 (fun k hk e => hxf (by have e2 : k = bx := e; rw [← e2]; exact hk)), hR2, hjok.ok, (hbel _ g5).trans ⟨hC2.os, hC2.tape, hC2.output, hC2.size, fun k hk => hC2.block k (by have := g5.size; omega) (fun e => ?_)⟩⟩
        have e2 : k = bx := e
        obtain ⟨V0, _, _, q3, _, _⟩ := hDuo
        have := q3 bx (Or.inr rfl)
        omega
      · rw [e0] at e1; exact absurd e1 (by decide)
    · obtain ⟨V2, g1, g2, g3⟩ := hD'
      have hR' := rdisk_chg hR g3 (fun hn => hn hx)
      have hxf : ¬ fp bd V2 bx := fun hf => g2 bx hf hx.1 hx
      refine ⟨none, by rw [e0]; exact k1, (refNew_fresh hR' hk h0 h1).mono ?_⟩
      rintro e2 w2 h2
      rcases h2 with ⟨e1, _⟩ | ⟨_, k2, hR2, hC2⟩
      · rw [e0] at e1; exact absurd e1 (by decide)
      · refine ⟨none, by rw [e0]; exact k2, Iff.rfl, V2, d, pdisk_chg g1 hC2 (fun k hk e => hxf (by have e2 : k = bx := e; rw [← e2]; exact hk)), hR2, hk, (hbel _ g3).trans ⟨hC2.os, hC2.tape, hC2.output, hC2.size, fun k hk => hC2.block k (by have := g3.size; omega) (fun e => ?_)⟩⟩
        have e2 : k = bx := e
        obtain ⟨V0, _, _, q3, _, _⟩ := hDuo
        have := q3 bx (Or.inr rfl)
        omega

set_option maxHeartbeats 1000000 in
theorem journalMakes_walk (room : Int) (hroom : -9223372036854775808 ≤ room ∧ room ≤ 9223372036854775807) (l : List Im) (hl : ∀ x ∈ l, x.Safe.size ≤ 140737488351232 ∧ x.More.size ≤ 140737488351232) (hll : l.length ≤ 140737488355328) (v : Value) (w : World) (hv : IRow w v l) (hT : Tab w) :
    Calls Tryd.prog 4 #[.int .i64 room, v] w fun e w' => e = .returned (.bool true) ∧ Below w.heap.size w w' := by
  have C1 : Hid (Calls Tryd.prog 15 #[.int .i64 room, v] w fun e w' => LaidOk w e w') := laid_any room hroom l hl hll v w hv
  have HT : Hid (Tab w) := hT
  obtain ⟨ao, cap, rfl, _⟩ := hv
  clear hl hT
  go_enter Tryd.func4, Tryd.ntmps4
  go_wp2_with fail
  refine C1.out.mono ?_
  rintro e w1 ⟨bd, bx, d, rfl, hk, hD, hsz⟩
  have C2 : Hid (Calls Tryd.prog 11 #[] w1 fun e w' => e = .returned (.bool true) ∧ Below w1.heap.size w1 w') := begun_any w1 (tab_below HT.out hD.bel)
  have HD : Hid (Duo w.heap.size w bd bx d d w1) := hD
  have HK : Hid (Ok d) := hk
  have HS : Hid (w.heap.size ≤ w1.heap.size) := hsz
  clear hD hk hsz C1
  go_wp2_with fail
  refine C2.out.mono ?_
  rintro e w2 ⟨rfl, hb2⟩
  obtain ⟨er, hN⟩ := new_both (HD.out.below hb2 HS.out) (Nat.le_trans HS.out hb2.size) HK.out HT.out
  have C3 : Hid (Calls Tryd.prog 16 #[.pointer (some ⟨bd, 0, none⟩)] w2 fun e w' => ∃ pj, e = .returned (.tuple #[.pointer pj, .int .i64 er]) ∧ Calls Tryd.prog 17 #[.pointer (some ⟨bx, 0, none⟩)] w' fun e2 w2 => ∃ py, e2 = .returned (.tuple #[.pointer py, .int .i64 er]) ∧ BothNew w bd bx er pj py w2) := hN
  clear hb2 hN C2 HD HK HS
  go_wp2_with fail
  refine C3.out.mono ?_
  rintro e w3 ⟨pj, rfl, c4⟩
  have C4 : Hid (Calls Tryd.prog 17 #[.pointer (some ⟨bx, 0, none⟩)] w3 fun e2 w2 => ∃ py, e2 = .returned (.tuple #[.pointer py, .int .i64 er]) ∧ BothNew w bd bx er pj py w2) := c4
  clear c4 C3
  go_wp2_with fail
  refine C4.out.mono ?_
  rintro e w4 ⟨py, rfl, hiff, V, d', hP, hR, hk', hb4⟩
  have HB4 : Hid (Below w.heap.size w w4) := hb4
  have C5 : Hid (Calls Tryd.prog 13 #[.pointer (some ⟨bd, 0, none⟩), .pointer (some ⟨bx, 0, none⟩)] w4 fun e w' => e = .returned (.bool true) ∧ Below w4.heap.size w4 w') := alike_any w4 bd bx V d' hP hR hk'
  have C6 : Hid (∀ w, Calls Tryd.prog 16 #[.pointer none] w fun e w' => e = .returned (.tuple #[.pointer none, .int .i64 1]) ∧ w' = w) := new_nil
  clear hP hR hk' hb4 C4
  have hcase : (pj = none ∧ py = none) ∨ ∃ a b, pj = some a ∧ py = some b := by
    cases pj with
    | none => exact Or.inl ⟨rfl, hiff.1 rfl⟩
    | some a =>
      cases py with
      | none => exact absurd (hiff.2 rfl) (by simp)
      | some b => exact Or.inr ⟨a, b, rfl, rfl⟩
  clear hiff
  rcases hcase with ⟨rfl, rfl⟩ | ⟨a, b, rfl, rfl⟩
  all_goals
    go_wp2_with fail
    refine (C6.out _).mono ?_
    rintro e w5 ⟨rfl, hw5⟩
    rw [hw5]
    clear hw5
    go_wp2_with fail
    refine C5.out.mono ?_
    rintro e w6 ⟨rfl, hb6⟩
    have HB6 : Hid (Below w.heap.size w w6) := HB4.out.trans (hb6.mono HB4.out.size)
    clear hb6
    go_wp2_with fail
    go_ret
    exact ⟨rfl, HB6.out⟩
end Go.Proofs.YtklgfapdgeoigaaDoor
