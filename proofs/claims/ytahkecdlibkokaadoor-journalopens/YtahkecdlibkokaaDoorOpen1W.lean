/- The walk of the journal's Open, where the file 1 holds. -/
import Derived.Test.YtahkecdlibkokaaDoorOpenW
import Derived.BigRegion
set_option linter.unusedVariables false
set_option maxRecDepth 100000
namespace Go.Proofs.YtahkecdlibkokaaDoor
open Go.RowKit
open JournalMath DiskMath
open FrameMath (scan)
open Fr (Tab tab_below tab_drewN)
open Dk (PDisk Chg fp DIn din_below din_same din_drewN pdisk_below pdisk_chg fp_lt)

set_option maxHeartbeats 4000000 in
theorem open_second {T : Nat → Prop} {w w1 : World} {b : Nat} {d : DS} (hD : DIn T w b d w1) (hk : Ok d) (hG : T 0) (hT : Tab w) (h1 : (found (d.F 0)).gen < (found (d.F 1)).gen) :
    Calls Tryd.prog 18 #[.pointer (some ⟨b, 0, none⟩)] w1 fun e w' => OpenOk T w w1 b (opened d 1 (found (d.F 1))) (found (d.F 1)).snap (found (d.F 1)).recs e w' := by
  have C0 : Hid (∀ w2, DIn T w b d w2 → Calls Tryd.prog 47 #[.pointer (some ⟨b, 0, none⟩), .int .i64 0] w2 fun e w' => LookOk w2 (found (d.F 0)) e w') := fun w2 h => look_any 0 (by decide) h hk hG hT
  have C1 : Hid (∀ w2, DIn T w b d w2 → Calls Tryd.prog 47 #[.pointer (some ⟨b, 0, none⟩), .int .i64 1] w2 fun e w' => LookOk w2 (found (d.F 1)) e w') := fun w2 h => look_any 1 (by decide) h hk hG hT
  have hfl := found_le (d.F 1)
  have hfg := (found_le (d.F 0)).2.2
  unfold opened
  generalize found (d.F 0) = x0 at *
  generalize found (d.F 1) = x1 at *
  obtain ⟨g0, sn0, rc0, n0⟩ := x0
  obtain ⟨g1, sn1, rc1, n1⟩ := x1
  simp only at h1 hfl hfg ⊢
  have HD : Hid (DIn T w b d w1) := hD
  have HOK : Hid (Ok d) := hk
  have HFL : Hid (n1 ≤ (d.F 1).length) := hfl.1
  have hrc : rc1.length ≤ 1048576 := by have h1 := file_le d 1 (by decide); have h2 := hk.room; have h3 := hk.most; omega
  have hg1 : g1 ≤ 1125899906842624 := hfl.2.2
  clear hD hfl
  have i1 : (g0 : Int) < (g1 : Int) := by omega
  have i2 : ((g1 : Int) == 0) = false := by rw [beq_eq_false_iff_ne]; omega
  go_enter Tryd.func18, Tryd.ntmps18
  go_wp2_with fail
  refine (C0.out _ HD.out).mono ?_
  rintro e w2 ⟨v0, rfl, hown0, hb2⟩
  obtain ⟨a0, c0, rfl, _, _⟩ := own_row hown0
  simp only at hown0
  have hbh : Below w2.heap.size w2 (w2.alloc (.cells #[.int .i64 (g0 : Int), .string ⟨sn0.toArray⟩, .slice a0 rc0.length c0, .int .i64 (n0 : Int)] 91)) := (Below.refl _ _).alloc (Nat.le_refl _) _
  have hb3 : Below w1.heap.size w1 (w2.alloc (.cells #[.int .i64 (g0 : Int), .string ⟨sn0.toArray⟩, .slice a0 rc0.length c0, .int .i64 (n0 : Int)] 91)) := hb2.trans (hbh.mono hb2.size)
  have HD3 : Hid (DIn T w b d (w2.alloc (.cells #[.int .i64 (g0 : Int), .string ⟨sn0.toArray⟩, .slice a0 rc0.length c0, .int .i64 (n0 : Int)] 91))) := din_below HD.out hb3
  obtain ⟨w3, hw3⟩ : ∃ w3, w2.alloc (.cells #[.int .i64 (g0 : Int), .string ⟨sn0.toArray⟩, .slice a0 rc0.length c0, .int .i64 (n0 : Int)] 91) = w3 := ⟨_, rfl⟩
  have HW3 : Hid (w2.alloc (.cells #[.int .i64 (g0 : Int), .string ⟨sn0.toArray⟩, .slice a0 rc0.length c0, .int .i64 (n0 : Int)] 91) = w3) := hw3
  have e0 : w3.cell? ⟨w2.heap.size, 0, none⟩ = some (.int .i64 (g0 : Int)) := by rw [← hw3]; simp
  have e1 : w3.cell? ⟨w2.heap.size, 1, none⟩ = some (.string ⟨sn0.toArray⟩) := by rw [← hw3]; simp
  have e2 : w3.cell? ⟨w2.heap.size, 2, none⟩ = some (.slice a0 rc0.length c0) := by rw [← hw3]; simp
  have e3 : w3.cell? ⟨w2.heap.size, 3, none⟩ = some (.int .i64 (n0 : Int)) := by rw [← hw3]; simp
  have ef : ∀ j, w3.frozen? ⟨w2.heap.size, j, none⟩ = false := fun j => by rw [← hw3, World.frozen?, heap_alloc_new w2 _]; simp
  have hown0' := own_below hown0 hbh
  rw [hw3] at HD3 hb3 hbh hown0'
  have HO0 : Hid (w3.ownsRow w1.heap.size 9 1 (.slice a0 rc0.length c0) rc0.length (rc0.map strV)) := hown0'
  have HB3 : Hid (Below w1.heap.size w1 w3) := hb3
  have hlt2 : w2.heap.size < w3.heap.size := by rw [← hw3]; simp
  have hle2 : w1.heap.size ≤ w2.heap.size := hb2.size
  clear hown0 hown0' hb2 hb3 hbh hw3
  go_wp2_with fail
  rw [HW3.out]
  refine (C1.out _ HD3.out).mono ?_
  rintro e w4 ⟨v1, rfl, hown1, hb4⟩
  obtain ⟨a1, c1, rfl, _, _⟩ := own_row hown1
  simp only at hown1
  have hb14 : Below w1.heap.size w1 w4 := HB3.out.trans (hb4.mono HB3.out.size)
  have HB4 : Hid (Below w1.heap.size w1 w4) := hb14
  have HO1 : Hid (w4.ownsRow w3.heap.size 9 1 (.slice a1 rc1.length c1) rc1.length (rc1.map strV)) := hown1
  have HO0' : Hid (w4.ownsRow w1.heap.size 9 1 (.slice a0 rc0.length c0) rc0.length (rc0.map strV)) := own_below HO0.out hb4
  have k0 : w4.cell? ⟨w2.heap.size, 0, none⟩ = some (.int .i64 (g0 : Int)) := (hb4.cell (p := ⟨w2.heap.size, 0, none⟩) hlt2).trans e0
  have k1 : w4.cell? ⟨w2.heap.size, 1, none⟩ = some (.string ⟨sn0.toArray⟩) := (hb4.cell (p := ⟨w2.heap.size, 1, none⟩) hlt2).trans e1
  have k2 : w4.cell? ⟨w2.heap.size, 2, none⟩ = some (.slice a0 rc0.length c0) := (hb4.cell (p := ⟨w2.heap.size, 2, none⟩) hlt2).trans e2
  have k3 : w4.cell? ⟨w2.heap.size, 3, none⟩ = some (.int .i64 (n0 : Int)) := (hb4.cell (p := ⟨w2.heap.size, 3, none⟩) hlt2).trans e3
  have kf : ∀ j, w4.frozen? ⟨w2.heap.size, j, none⟩ = false := fun j => (hb4.frozen (p := ⟨w2.heap.size, j, none⟩) hlt2).trans (ef j)
  have hsz4 : w3.heap.size ≤ w4.heap.size := hb4.size
  clear e0 e1 e2 e3 ef hown1 hb4 hb14 HO0 HD3 HW3 HB3
  have hlt4 : w2.heap.size < w4.heap.size := by omega
  have m0 : (w4.alloc (.cells #[.int .i64 (g1 : Int), .string ⟨sn1.toArray⟩, .slice a1 rc1.length c1, .int .i64 (n1 : Int)] 91)).cell? ⟨w2.heap.size, 0, none⟩ = some (.int .i64 (g0 : Int)) := (World.cell?_of_block (w := w4) (a := ⟨w2.heap.size, 0, none⟩) (heap_alloc_old w4 _ hlt4)).trans k0
  have m1 : (w4.alloc (.cells #[.int .i64 (g1 : Int), .string ⟨sn1.toArray⟩, .slice a1 rc1.length c1, .int .i64 (n1 : Int)] 91)).cell? ⟨w2.heap.size, 1, none⟩ = some (.string ⟨sn0.toArray⟩) := (World.cell?_of_block (w := w4) (a := ⟨w2.heap.size, 1, none⟩) (heap_alloc_old w4 _ hlt4)).trans k1
  have m2 : (w4.alloc (.cells #[.int .i64 (g1 : Int), .string ⟨sn1.toArray⟩, .slice a1 rc1.length c1, .int .i64 (n1 : Int)] 91)).cell? ⟨w2.heap.size, 2, none⟩ = some (.slice a0 rc0.length c0) := (World.cell?_of_block (w := w4) (a := ⟨w2.heap.size, 2, none⟩) (heap_alloc_old w4 _ hlt4)).trans k2
  have m3 : (w4.alloc (.cells #[.int .i64 (g1 : Int), .string ⟨sn1.toArray⟩, .slice a1 rc1.length c1, .int .i64 (n1 : Int)] 91)).cell? ⟨w2.heap.size, 3, none⟩ = some (.int .i64 (n0 : Int)) := (World.cell?_of_block (w := w4) (a := ⟨w2.heap.size, 3, none⟩) (heap_alloc_old w4 _ hlt4)).trans k3
  have hb5 : Below w1.heap.size w1 (w4.alloc (.cells #[.int .i64 (g1 : Int), .string ⟨sn1.toArray⟩, .slice a1 rc1.length c1, .int .i64 (n1 : Int)] 91)) := HB4.out.alloc (by omega) _
  have hb45 : Below w4.heap.size w4 (w4.alloc (.cells #[.int .i64 (g1 : Int), .string ⟨sn1.toArray⟩, .slice a1 rc1.length c1, .int .i64 (n1 : Int)] 91)) := (Below.refl _ _).alloc (Nat.le_refl _) _
  obtain ⟨w5, hw5⟩ : ∃ w5, (w4.alloc (.cells #[.int .i64 (g1 : Int), .string ⟨sn1.toArray⟩, .slice a1 rc1.length c1, .int .i64 (n1 : Int)] 91)) = w5 := ⟨_, rfl⟩
  have HW5 : Hid ((w4.alloc (.cells #[.int .i64 (g1 : Int), .string ⟨sn1.toArray⟩, .slice a1 rc1.length c1, .int .i64 (n1 : Int)] 91)) = w5) := hw5
  have u0 : w5.cell? ⟨w4.heap.size, 0, none⟩ = some (.int .i64 (g1 : Int)) := by rw [← hw5]; simp
  have u1 : w5.cell? ⟨w4.heap.size, 1, none⟩ = some (.string ⟨sn1.toArray⟩) := by rw [← hw5]; simp
  have u2 : w5.cell? ⟨w4.heap.size, 2, none⟩ = some (.slice a1 rc1.length c1) := by rw [← hw5]; simp
  have u3 : w5.cell? ⟨w4.heap.size, 3, none⟩ = some (.int .i64 (n1 : Int)) := by rw [← hw5]; simp
  have hlt5 : w4.heap.size < w5.heap.size := by rw [← hw5]; simp
  have HO5 : Hid ((w4.alloc (.cells #[.int .i64 (g1 : Int), .string ⟨sn1.toArray⟩, .slice a1 rc1.length c1, .int .i64 (n1 : Int)] 91)).ownsRow w3.heap.size 9 1 (.slice a1 rc1.length c1) rc1.length (rc1.map strV)) := own_below HO1.out hb45
  have kf5 : ∀ j, (w4.alloc (.cells #[.int .i64 (g1 : Int), .string ⟨sn1.toArray⟩, .slice a1 rc1.length c1, .int .i64 (n1 : Int)] 91)).frozen? ⟨w2.heap.size, j, none⟩ = false := fun j => (World.frozen?_of_block (w := w4) (a := ⟨w2.heap.size, j, none⟩) (heap_alloc_old w4 _ hlt4)).trans (kf j)
  have mm0 := m0
  have mm1 := m1
  have mm2 := m2
  have mm3 := m3
  rw [hw5] at hb5 HO5 kf5 mm0 mm1 mm2 mm3
  have HB5 : Hid (Below w1.heap.size w1 w5) := hb5
  clear hb5 hb45 hw5 k0 k1 k2 k3 kf HO0' HO1
  have ne1 : w2.heap.size ≠ w4.heap.size := by omega
  have ne2 : w4.heap.size ≠ w2.heap.size := by omega
  have f0 := kf5 0
  have f1 := kf5 1
  have f2 := kf5 2
  have f3 := kf5 3
  clear kf5
  go_wp2_with fail
  rw [HW5.out]
  clear m0 m1 m2 m3
  go_region
  have hbx : Below w1.heap.size w1 ((((w5.setCell ⟨w2.heap.size, 0, none⟩ (.int .i64 (g1 : Int))).setCell ⟨w2.heap.size, 1, none⟩ (.string ⟨sn1.toArray⟩)).setCell ⟨w2.heap.size, 2, none⟩ (.slice a1 rc1.length c1)).setCell ⟨w2.heap.size, 3, none⟩ (.int .i64 (n1 : Int))).drew :=
    below_drewN ((((HB5.out.setCell (p := ⟨w2.heap.size, 0, none⟩) hle2 _).setCell (p := ⟨w2.heap.size, 1, none⟩) hle2 _).setCell (p := ⟨w2.heap.size, 2, none⟩) hle2 _).setCell (p := ⟨w2.heap.size, 3, none⟩) hle2 _) 1
  have hs4 := set4 (.int .i64 (g1 : Int)) (.string ⟨sn1.toArray⟩) (.slice a1 rc1.length c1) (.int .i64 (n1 : Int)) mm0 mm1 mm2 mm3
  have hox := by
    have hne : ∀ j : Nat, (Value.slice a1 rc1.length c1).ownBlock ≠ some (⟨w2.heap.size, j, none⟩ : Addr).block := fun j e => by have := (HO5.out.lt _ e).1; simp at this; omega
    exact own_below (ownsRow_setCell_other (ownsRow_setCell_other (ownsRow_setCell_other (ownsRow_setCell_other (own_base HO5.out (show w1.heap.size ≤ w3.heap.size by omega)) (hne 0) (.int .i64 (g1 : Int))) (hne 1) (.string ⟨sn1.toArray⟩)) (hne 2) (.slice a1 rc1.length c1)) (hne 3) (.int .i64 (n1 : Int))) (below_drewN (Below.refl _ _) 1)
  obtain ⟨w6, hw6⟩ : ∃ w6, ((((w5.setCell ⟨w2.heap.size, 0, none⟩ (.int .i64 (g1 : Int))).setCell ⟨w2.heap.size, 1, none⟩ (.string ⟨sn1.toArray⟩)).setCell ⟨w2.heap.size, 2, none⟩ (.slice a1 rc1.length c1)).setCell ⟨w2.heap.size, 3, none⟩ (.int .i64 (n1 : Int))).drew = w6 := ⟨_, rfl⟩
  have x0 : w6.cell? ⟨w2.heap.size, 0, none⟩ = some (.int .i64 (g1 : Int)) := by rw [← hw6]; exact hs4.1
  have x1 : w6.cell? ⟨w2.heap.size, 1, none⟩ = some (.string ⟨sn1.toArray⟩) := by rw [← hw6]; exact hs4.2.1
  have x2 : w6.cell? ⟨w2.heap.size, 2, none⟩ = some (.slice a1 rc1.length c1) := by rw [← hw6]; exact hs4.2.2.1
  have x3 : w6.cell? ⟨w2.heap.size, 3, none⟩ = some (.int .i64 (n1 : Int)) := by rw [← hw6]; exact hs4.2.2.2
  have hlt6 : w2.heap.size < w6.heap.size := block_lt_of_cell x0
  have hb6 : Below w1.heap.size w1 w6 := by rw [← hw6]; exact hbx
  have HO6 : Hid (w6.ownsRow w1.heap.size 9 1 (.slice a1 rc1.length c1) rc1.length (rc1.map strV)) := by
    show World.ownsRow _ _ _ _ _ _ _
    rw [← hw6]; exact hox
  rw [hw6]
  clear hbx hs4 hox hw6 mm0 mm1 mm2 mm3 u0 u1 u2 u3 f0 f1 f2 f3 HO5 HB5 HW5
  obtain ⟨V, hP, hBT, hCh⟩ := HD.out
  have hfl : ∀ k, fp b V k → k < w1.heap.size := fp_lt hP
  have hC6 : Chg (fun k => ¬ T k) w w6 := hCh.trans (Dk.chg_below (S := fun _ => False) hb6) (fun _ _ h => h.elim)
  obtain ⟨hD6z, hup⟩ := din_all (pdisk_below hP hb6) hBT hC6
  have HCE : Hid (∀ d' w', DIn (fun k => k < w6.heap.size ∧ ¬ fp b V k) w6 b d' w' → w'.cell? ⟨w2.heap.size, 0, none⟩ = some (.int .i64 (g1 : Int)) ∧ w'.cell? ⟨w2.heap.size, 1, none⟩ = some (.string ⟨sn1.toArray⟩) ∧ w'.cell? ⟨w2.heap.size, 2, none⟩ = some (.slice a1 rc1.length c1) ∧ w'.cell? ⟨w2.heap.size, 3, none⟩ = some (.int .i64 (n1 : Int))) := by
    intro d' w' h
    obtain ⟨V2, _, _, h3⟩ := h
    have hblk : w'.heap[w2.heap.size]? = w6.heap[w2.heap.size]? := h3.block _ (by omega) (fun hn => hn ⟨by omega, fun hf => by have := hfl _ hf; omega⟩)
    have c := fun j => World.cell?_of_block (w := w6) (w' := w') (a := ⟨w2.heap.size, j, none⟩) hblk
    exact ⟨(c 0).trans x0, (c 1).trans x1, (c 2).trans x2, (c 3).trans x3⟩
  have C2 : Hid (Calls Tryd.prog 48 #[.pointer (some ⟨b, 0, none⟩), .int .i64 0, .int .i64 0] w6 fun e w' => e = .returned (.int .i64 0) ∧ DIn (fun k => k < w6.heap.size ∧ ¬ fp b V k) w6 b (cut d 0 0) w') := by
    have := Dk.cut_all ((0 : Nat) : Int) ((0 : Nat) : Int) hD6z HOK.out
    rw [aCut_file _ _ (by decide) 0 (Nat.zero_le _)] at this
    exact this
  have hok2 : Ok (cut d 0 0) := ok_cut d 0 0 HOK.out (by decide) (Nat.zero_le _)
  have C3 : Hid (∀ w6b, DIn (fun k => k < w6.heap.size ∧ ¬ fp b V k) w6 b (cut d 0 0) w6b → Calls Tryd.prog 48 #[.pointer (some ⟨b, 0, none⟩), .int .i64 1, .int .i64 (n1 : Int)] w6b fun e w' => e = .returned (.int .i64 0) ∧ DIn (fun k => k < w6.heap.size ∧ ¬ fp b V k) w6 b (cut (cut d 0 0) 1 n1) w') := by
    intro w6b h6
    have := Dk.cut_all ((1 : Nat) : Int) (n1 : Int) h6 hok2
    rw [aCut_file _ _ (by decide) n1 (by show n1 ≤ (d.F 1).length; exact HFL.out)] at this
    exact this
  have C4 : Hid (∀ w7, DIn (fun k => k < w6.heap.size ∧ ¬ fp b V k) w6 b (cut (cut d 0 0) 1 n1) w7 → Calls Tryd.prog 41 #[.pointer (some ⟨b, 0, none⟩), .int .i64 1] w7 fun e w' => e = .returned (.int .i64 0) ∧ DIn (fun k => k < w6.heap.size ∧ ¬ fp b V k) w6 b (syn (cut (cut d 0 0) 1 n1) 1) w') := by
    intro w7 h7
    have := Dk.sync_all ((1 : Nat) : Int) h7
    rw [aSyn_file _ _ (by decide)] at this
    exact this
  have HEND : Hid (∀ w8 q, DIn (fun k => k < w6.heap.size ∧ ¬ fp b V k) w6 b (syn (cut (cut d 0 0) 1 n1) 1) w8 → OpenOk T w w1 b ⟨syn (cut (cut d 0 0) 1 n1) 1, 1, g1, rc1.length⟩ sn1 rc1 (.returned (.tuple #[.pointer (some ⟨w8.heap.size, 0, none⟩), .string ⟨sn1.toArray⟩, .slice a1 rc1.length c1, .int .i64 0])) ((w8.alloc (.cells #[.pointer (some ⟨b, 0, none⟩), .int .i64 1, .int .i64 (g1 : Int), .int .i64 (rc1.length : Int)] 81)).drewN q)) :=
    fun w8 q h => open_end 1 g1 rc1.length sn1 hP hBT hCh hb6 h HO6.out q
  have HD6z : Hid (DIn (fun k => k < w6.heap.size ∧ ¬ fp b V k) w6 b d w6) := hD6z
  clear hP hBT hCh hfl hC6 hup hD6z hb6 hok2 HO6
  go_wp2_with fail
  refine C2.out.mono ?_
  rintro e w6c ⟨rfl, hD6⟩
  obtain ⟨p0, p1, p2, p3⟩ := HCE.out _ _ hD6
  have HD6 : Hid (DIn (fun k => k < w6.heap.size ∧ ¬ fp b V k) w6 b (cut d 0 0) w6c) := hD6
  clear hD6 x0 x1 x2 x3
  go_wp2_with fail
  refine (C3.out _ HD6.out).mono ?_
  rintro e w7 ⟨rfl, hD7⟩
  have HD7 : Hid (DIn (fun k => k < w6.heap.size ∧ ¬ fp b V k) w6 b (cut (cut d 0 0) 1 n1) w7) := hD7
  clear hD7 p0 p1 p2 p3
  go_wp2_with fail
  refine (C4.out _ HD7.out).mono ?_
  rintro e w8 ⟨rfl, hD8⟩
  obtain ⟨p0, p1, p2, p3⟩ := HCE.out _ _ hD8
  have hlt8 : w2.heap.size < w8.heap.size := block_lt_of_cell p0
  have HD8 : Hid (DIn (fun k => k < w6.heap.size ∧ ¬ fp b V k) w6 b (syn (cut (cut d 0 0) 1 n1) 1) w8) := hD8
  clear hD8
  have q0 := (World.cell?_of_block (w := w8) (a := ⟨w2.heap.size, 0, none⟩) (heap_alloc_old w8 (.cells #[.pointer (some ⟨b, 0, none⟩), .int .i64 1, .int .i64 (g1 : Int), .int .i64 (rc1.length : Int)] 81) hlt8)).trans p0
  have q1 := (World.cell?_of_block (w := w8) (a := ⟨w2.heap.size, 1, none⟩) (heap_alloc_old w8 (.cells #[.pointer (some ⟨b, 0, none⟩), .int .i64 1, .int .i64 (g1 : Int), .int .i64 (rc1.length : Int)] 81) hlt8)).trans p1
  have q2 := (World.cell?_of_block (w := w8) (a := ⟨w2.heap.size, 2, none⟩) (heap_alloc_old w8 (.cells #[.pointer (some ⟨b, 0, none⟩), .int .i64 1, .int .i64 (g1 : Int), .int .i64 (rc1.length : Int)] 81) hlt8)).trans p2
  go_wp2_with fail
  go_quiet (fail)
  go_wp2_with fail
  refine bodyPost_ret (results_tmp4 rfl _ _ _) rfl ?_
  exact HEND.out _ _ HD8.out
end Go.Proofs.YtahkecdlibkokaaDoor
