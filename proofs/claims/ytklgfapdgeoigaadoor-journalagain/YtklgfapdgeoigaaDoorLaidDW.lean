/- The walk of the laws' own 'laid'. -/
import Derived.Test.YtklgfapdgeoigaaDoorDuoW
set_option linter.unusedVariables false
set_option maxRecDepth 100000
namespace Go.Proofs.YtklgfapdgeoigaaDoor
open Go.RowKit
open JournalMath DiskMath
open Fr (Tab tab_below tab_drewN)
open Dk (PDisk RDisk ROk DIn Chg fp fp_lt rdisk_below rdisk_chg chg_below pdisk_below pdisk_chg)

/-- How laid ends: two disks of the same bytes. -/
def LaidOk (w : World) (e : Ending) (w' : World) : Prop := ∃ bd bx d, e = .returned (.tuple #[.pointer (some ⟨bd, 0, none⟩), .pointer (some ⟨bx, 0, none⟩), .bool true]) ∧ Ok d ∧ Duo w.heap.size w bd bx d d w' ∧ w.heap.size ≤ w'.heap.size
set_option maxHeartbeats 1000000 in
theorem laid_any (room : Int) (hroom : -9223372036854775808 ≤ room ∧ room ≤ 9223372036854775807) (l : List Im) (hl : ∀ x ∈ l, x.Safe.size ≤ 140737488351232 ∧ x.More.size ≤ 140737488351232) (hll : l.length ≤ 140737488355328) (v : Value) (w : World) (hv : IRow w v l) :
    Calls Tryd.prog 15 #[.int .i64 room, v] w fun e w' => LaidOk w e w' := by
  obtain ⟨q, hq⟩ : ∃ q, q = pick room 1048576 := ⟨_, rfl⟩
  have hql : q < 1048576 := by rw [hq]; exact pick_lt room 1048576 (by decide)
  have C0 : Hid (Calls Tryd.prog 10 #[.int .i64 room, .int .i64 1048576] w fun e w' => e = .returned (.int .i64 (q : Int)) ∧ w' = w) := by rw [hq]; exact pick_any room 1048576 (by decide) (by decide) hroom w
  have hok : Ok (new (1 + q)) := ok_new (1 + q) (by omega) (by omega)
  have C1 : Hid (∀ w, Calls Tryd.prog 28 #[.int .i64 (1 + (q : Int))] w fun e w' => e = .returned (.tuple #[.pointer (some ⟨w.heap.size, 0, none⟩), .int .i64 0]) ∧ PDisk w' w.heap.size (fun _ => .slice none 0 0) (new (1 + q)) ∧ Below w.heap.size w w') := by
    intro w
    have := Dk.new_any (1 + q) (by omega) (by omega) w
    rw [Int.natCast_add] at this
    exact this
  have C2 : Hid (∀ w, Calls Tryd.prog 29 #[.int .i64 (1 + (q : Int))] w fun e w' => e = .returned (.tuple #[.pointer (some ⟨w.heap.size, 0, none⟩), .int .i64 0]) ∧ RDisk w' w.heap.size (new (1 + q)) ∧ w.heap.size < w'.heap.size ∧ Below w.heap.size w w') := by
    intro w
    have := Dk.refNew_any (1 + q) (by omega) (by omega) w
    rw [Int.natCast_add] at this
    exact this
  have HV : Hid (IRow w v l) := hv
  have HL : Hid (∀ x ∈ l, x.Safe.size ≤ 140737488351232 ∧ x.More.size ≤ 140737488351232) := hl
  have HOK : Hid (Ok (new (1 + q))) := hok
  obtain ⟨ao, cap, rfl, _⟩ := hv
  clear hq hok hl
  go_enter Tryd.func15, Tryd.ntmps15
  go_wp2_with fail
  refine C0.out.mono ?_
  rintro e w0 ⟨rfl, hw0⟩
  rw [hw0]
  clear hw0 C0
  go_wp2_with fail
  refine (C1.out _).mono ?_
  rintro e w1 ⟨rfl, hP1, hb1⟩
  go_wp2_with fail
  refine (C2.out _).mono ?_
  rintro e w2 ⟨rfl, hR2, hlt2, hb2⟩
  have hlt1 := hP1.lt
  have HD2 : Hid (Duo w.heap.size w w.heap.size w1.heap.size (new (1 + q)) (new (1 + q)) w2) := by
    have hfp : ∀ k, fp w.heap.size (fun _ => Value.slice none 0 0) k → k = w.heap.size := by
      rintro k (h | ⟨i, _, h⟩)
      · exact h
      · cases h
    exact ⟨_, pdisk_below hP1 hb2, hR2, fun k hk => by
      rcases hk with hk | hk
      · have := hfp k hk; omega
      · omega, fun hf => by have := hfp _ hf; omega, hb1.trans (hb2.mono hb1.size)⟩
  have HSZ2 : Hid (w.heap.size ≤ w2.heap.size) := by show _ ≤ _; omega
  generalize hd0 : new (1 + q) = d0 at *
  obtain ⟨bx, hbx⟩ : ∃ bx, bx = w1.heap.size := ⟨_, rfl⟩
  rw [← hbx] at HD2
  rw [← hbx]
  clear hP1 hb1 hR2 hlt2 hb2 hlt1 hd0 hbx
  go_wp2_with fail
  go_loopw [11] (fun i wr => ∃ (k : Nat) (d : DS), k ≤ 4 ∧ i = .int .i64 (k : Int) ∧ Hid (Ok d) ∧ Hid (Duo w.heap.size w w.heap.size bx d d wr) ∧ Hid (w.heap.size ≤ wr.heap.size)) (fun i _ => 4 - (intOf i).toNat)
  case atStart => exact ⟨0, d0, by decide, rfl, HOK, HD2, HSZ2⟩
  case round =>
    obtain ⟨k, d, hk4, rfl, HK, HD, HS⟩ := hrel
    clear HOK HD2 HSZ2
    by_cases hl1 : k < l.length
    · have i1 : (k : Int) < (l.length : Int) := by omega
      by_cases hl4 : k < 4
      · have i2 : (k : Int) < 4 := by omega
        have HV' := irow_below HV.out HD.out.bel
        obtain ⟨_, _, he, hrow⟩ := HV'
        obtain ⟨rfl, rfl⟩ : ao = _ ∧ cap = _ := by simpa using he
        obtain ⟨g, o, rfl, hg, m0, m1⟩ := hrow k hl1
        obtain ⟨hz0, hz1⟩ := HL.out l[k] (List.getElem_mem hl1)
        have hgw : g < w.heap.size := by
          obtain ⟨_, _, he2, hrow2⟩ := HV.out
          obtain ⟨rfl, rfl⟩ : some (⟨g, o, none⟩ : Addr) = _ ∧ cap = _ := by simpa using he2
          obtain ⟨g2, o2, e2, hg2, _⟩ := hrow2 k hl1
          obtain ⟨rfl, rfl⟩ : g = g2 ∧ o = o2 := by simpa using e2
          exact hg2
        have HCELL : Hid (∀ w', Below w.heap.size w w' → w'.cell? ⟨g, o + k * 2, none⟩ = some (.string l[k].Safe) ∧ w'.cell? ⟨g, o + k * 2 + 1, none⟩ = some (.string l[k].More)) := by
          intro w' hb
          have e0 := HD.out.bel.cell (p := ⟨g, o + k * 2, none⟩) hgw
          have e1 := HD.out.bel.cell (p := ⟨g, o + k * 2 + 1, none⟩) hgw
          exact ⟨(hb.cell (p := ⟨g, o + k * 2, none⟩) hgw).trans (e0.symm.trans m0), (hb.cell (p := ⟨g, o + k * 2 + 1, none⟩) hgw).trans (e1.symm.trans m1)⟩
        generalize l[k].Safe = sf at *
        generalize l[k].More = mo at *
        obtain ⟨d1, hd1⟩ : ∃ d1, d1 = (aApp d (k : Int) sf.data.toList).1 := ⟨_, rfl⟩
        obtain ⟨d2, hd2⟩ : ∃ d2, d2 = (aSyn d1 (k : Int)).1 := ⟨_, rfl⟩
        obtain ⟨d3, hd3⟩ : ∃ d3, d3 = (aApp d2 (k : Int) mo.data.toList).1 := ⟨_, rfl⟩
        have hk1 : Ok d1 := by rw [hd1]; exact ok_aApp _ _ _ HK.out
        have hk2 : Ok d2 := by rw [hd2]; exact ok_aSyn _ _ hk1
        have HK3 : Hid (Ok d3) := by show Ok d3; rw [hd3]; exact ok_aApp _ _ _ hk2
        have P1 : Hid (∀ w1, Duo w.heap.size w w.heap.size bx d d w1 → w.heap.size ≤ w1.heap.size → Calls Tryd.prog 40 #[.pointer (some ⟨w.heap.size, 0, none⟩), .int .i64 (k : Int), .string sf] w1 fun en w' => en = .returned (.int .i64 (aApp d (k : Int) sf.data.toList).2) ∧ Duo w.heap.size w w.heap.size bx d1 d w' ∧ w1.heap.size ≤ w'.heap.size) := fun w1 h hB => h.prog hB (fun T hD => by rw [hd1]; exact Dk.append_all (k : Int) sf (by omega) hD HK.out)
        have P2 : Hid (∀ w1, Duo w.heap.size w w.heap.size bx d1 d w1 → w.heap.size ≤ w1.heap.size → Calls Tryd.prog 41 #[.pointer (some ⟨w.heap.size, 0, none⟩), .int .i64 (k : Int)] w1 fun en w' => en = .returned (.int .i64 (aSyn d1 (k : Int)).2) ∧ Duo w.heap.size w w.heap.size bx d2 d w' ∧ w1.heap.size ≤ w'.heap.size) := fun w1 h hB => h.prog hB (fun T hD => by rw [hd2]; exact Dk.sync_all (k : Int) hD)
        have P3 : Hid (∀ w1, Duo w.heap.size w w.heap.size bx d2 d w1 → w.heap.size ≤ w1.heap.size → Calls Tryd.prog 40 #[.pointer (some ⟨w.heap.size, 0, none⟩), .int .i64 (k : Int), .string mo] w1 fun en w' => en = .returned (.int .i64 (aApp d2 (k : Int) mo.data.toList).2) ∧ Duo w.heap.size w w.heap.size bx d3 d w' ∧ w1.heap.size ≤ w'.heap.size) := fun w1 h hB => h.prog hB (fun T hD => by rw [hd3]; exact Dk.append_all (k : Int) mo (by omega) hD hk2)
        have R1 : Hid (∀ w1, Duo w.heap.size w w.heap.size bx d3 d w1 → w.heap.size ≤ w1.heap.size → Calls Tryd.prog 42 #[.pointer (some ⟨bx, 0, none⟩), .int .i64 (k : Int), .string sf] w1 fun en w' => en = .returned (.int .i64 (aApp d (k : Int) sf.data.toList).2) ∧ Duo w.heap.size w w.heap.size bx d3 d1 w' ∧ w1.heap.size ≤ w'.heap.size) := fun w1 h hB => h.ref hB (fun hR => by rw [hd1]; exact Dk.refAppend_all (k : Int) sf (by omega) hR HK.out)
        have R2 : Hid (∀ w1, Duo w.heap.size w w.heap.size bx d3 d1 w1 → w.heap.size ≤ w1.heap.size → Calls Tryd.prog 43 #[.pointer (some ⟨bx, 0, none⟩), .int .i64 (k : Int)] w1 fun en w' => en = .returned (.int .i64 (aSyn d1 (k : Int)).2) ∧ Duo w.heap.size w w.heap.size bx d3 d2 w' ∧ w1.heap.size ≤ w'.heap.size) := fun w1 h hB => h.ref hB (fun hR => by rw [hd2]; exact Dk.refSync_all (k : Int) hR)
        have R3 : Hid (∀ w1, Duo w.heap.size w w.heap.size bx d3 d2 w1 → w.heap.size ≤ w1.heap.size → Calls Tryd.prog 42 #[.pointer (some ⟨bx, 0, none⟩), .int .i64 (k : Int), .string mo] w1 fun en w' => en = .returned (.int .i64 (aApp d2 (k : Int) mo.data.toList).2) ∧ Duo w.heap.size w w.heap.size bx d3 d3 w' ∧ w1.heap.size ≤ w'.heap.size) := fun w1 h hB => h.ref hB (fun hR => by rw [hd3]; exact Dk.refAppend_all (k : Int) mo (by omega) hR hk2)
        have HL4 : Hid (k < 4) := hl4
        generalize (aApp d (k : Int) sf.data.toList).2 = e1 at *
        generalize (aSyn d1 (k : Int)).2 = e2 at *
        generalize (aApp d2 (k : Int) mo.data.toList).2 = e3 at *
        clear hd1 hd2 hd3 hk1 hk2 hrow he hgw hg
        go_wp2_with fail
        refine (P1.out _ HD.out HS.out).mono ?_
        rintro e x1 ⟨rfl, hD1, hS1⟩
        have HD1 : Hid (Duo w.heap.size w w.heap.size bx d1 d x1) := hD1
        have HS1 : Hid (w.heap.size ≤ x1.heap.size) := Nat.le_trans HS.out hS1
        obtain ⟨n0, n1⟩ := HCELL.out _ hD1.bel
        clear hD1 hS1 m0 m1
        go_wp2_with fail
        refine (P2.out _ HD1.out HS1.out).mono ?_
        rintro e x2 ⟨rfl, hD2, hS2⟩
        have HD2 : Hid (Duo w.heap.size w w.heap.size bx d2 d x2) := hD2
        have HS2 : Hid (w.heap.size ≤ x2.heap.size) := Nat.le_trans HS1.out hS2
        obtain ⟨m0, m1⟩ := HCELL.out _ hD2.bel
        clear hD2 hS2 n0 n1
        go_wp2_with fail
        refine (P3.out _ HD2.out HS2.out).mono ?_
        rintro e x3 ⟨rfl, hD3, hS3⟩
        have HD3 : Hid (Duo w.heap.size w w.heap.size bx d3 d x3) := hD3
        have HS3 : Hid (w.heap.size ≤ x3.heap.size) := Nat.le_trans HS2.out hS3
        obtain ⟨n0, n1⟩ := HCELL.out _ hD3.bel
        clear hD3 hS3 m0 m1
        go_wp2_with fail
        refine (R1.out _ HD3.out HS3.out).mono ?_
        rintro e x4 ⟨rfl, hD4, hS4⟩
        have HD4 : Hid (Duo w.heap.size w w.heap.size bx d3 d1 x4) := hD4
        have HS4 : Hid (w.heap.size ≤ x4.heap.size) := Nat.le_trans HS3.out hS4
        obtain ⟨m0, m1⟩ := HCELL.out _ hD4.bel
        clear hD4 hS4 n0 n1
        go_wp2_with fail
        refine (R2.out _ HD4.out HS4.out).mono ?_
        rintro e x5 ⟨rfl, hD5, hS5⟩
        have HD5 : Hid (Duo w.heap.size w w.heap.size bx d3 d2 x5) := hD5
        have HS5 : Hid (w.heap.size ≤ x5.heap.size) := Nat.le_trans HS4.out hS5
        obtain ⟨n0, n1⟩ := HCELL.out _ hD5.bel
        clear hD5 hS5 m0 m1
        go_wp2_with fail
        refine (R3.out _ HD5.out HS5.out).mono ?_
        rintro e x6 ⟨rfl, hD6, hS6⟩
        have HD6 : Hid (Duo w.heap.size w w.heap.size bx d3 d3 x6) := hD6
        have HS6 : Hid (w.heap.size ≤ x6.heap.size) := Nat.le_trans HS5.out hS6
        clear hD6 hS6 n0 n1
        go_wp2
        exact ⟨⟨k + 1, d3, by have := HL4.out; omega, by go_num, HK3, HD6, HS6⟩, by have := HL4.out; simp [intOf]; omega⟩
      · have i2 : ¬ (k : Int) < 4 := by omega
        go_wp2_with fail
        go_ret3
        exact ⟨_, _, d, rfl, HK.out, HD.out, HS.out⟩
    · have i1 : ¬ (k : Int) < (l.length : Int) := by omega
      go_wp2_with fail
      go_ret3
      exact ⟨_, _, d, rfl, HK.out, HD.out, HS.out⟩
end Go.Proofs.YtklgfapdgeoigaaDoor
