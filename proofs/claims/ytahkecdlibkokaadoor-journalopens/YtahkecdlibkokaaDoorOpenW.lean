/- The walk of the journal's Open. -/
import Derived.Test.YtahkecdlibkokaaDoorLookAllW
import Derived.RegionTactic
set_option linter.unusedVariables false
set_option maxRecDepth 100000
namespace Go.Proofs.YtahkecdlibkokaaDoor
open Go.RowKit
open JournalMath DiskMath
open FrameMath (scan)
open Fr (Tab tab_below tab_drewN)
open Dk (PDisk Chg fp DIn din_below din_same din_drewN pdisk_below pdisk_chg fp_lt)

theorem results_tmp4 {fn : Func} {t u v x : Tmp} (h : fn.results = #[.tmp t, .tmp u, .tmp v, .tmp x]) (tmps : Array Value) (P : Program) (w : World) :
    (results fn tmps).run P w = .ok (.tuple #[tmps.getD t undef, tmps.getD u undef, tmps.getD v undef, tmps.getD x undef]) w := by
  simp [results, h]
/-- A row stays where only other blocks were written. -/
theorem own_chg {S : Nat → Prop} {w w' : World} {B e n : Nat} {v : Value} {xs : List Value} (h : w.ownsRow B e 1 v n xs) (hc : Chg S w w') (hS : ∀ g, v.ownBlock = some g → ¬ S g) : w'.ownsRow B e 1 v n xs := by
  refine ⟨h.1, ?_⟩
  rcases h.2 with h0 | ⟨g, cap, cur, hv, hb, hgg, rest⟩
  · exact Or.inl h0
  · refine Or.inr ⟨g, cap, cur, hv, hb, ?_, rest⟩
    rw [hc.block g (Array.getElem?_eq_some_iff.1 hgg).1 (hS g (by rw [hv]; rfl))]
    exact hgg
/-- Calls on a disk from a world on, whatever else lies there. -/
theorem din_all {T : Nat → Prop} {w w1 : World} {b : Nat} {d : DS} {V : Nat → Value} (h1 : PDisk w1 b V d) (h2 : ∀ k, fp b V k → k < w.heap.size → ¬ T k) (h3 : Chg (fun k => ¬ T k) w w1) :
    DIn (fun k => k < w1.heap.size ∧ ¬ fp b V k) w1 b d w1 ∧ ∀ d' w2, DIn (fun k => k < w1.heap.size ∧ ¬ fp b V k) w1 b d' w2 → DIn T w b d' w2 := by
  refine ⟨⟨V, h1, fun k hk _ ht => ht.2 hk, Chg.refl _ _⟩, ?_⟩
  rintro d' w2 ⟨V2, k1, k2, k3⟩
  have hV : ∀ k, fp b V2 k → k < w1.heap.size → fp b V k := fun k hk hlt => Classical.byContradiction fun hn => k2 k hk hlt ⟨hlt, hn⟩
  have hsz := h3.size
  refine ⟨V2, k1, fun k hk hlt => h2 k (hV k hk (by omega)) hlt, h3.trans k3 (fun k hk hn => ?_)⟩
  by_cases hf : fp b V k
  · exact h2 k hf hk
  · exact absurd ⟨by omega, hf⟩ hn

/-- How Open ends when there is a journal. -/
def OpenOk (T : Nat → Prop) (w w1 : World) (b : Nat) (s : JS) (snap : List UInt8) (recs : List (List UInt8)) (e : Ending) (w' : World) : Prop :=
  ∃ jb v V, e = .returned (.tuple #[.pointer (some ⟨jb, 0, none⟩), .string ⟨snap.toArray⟩, v, .int .i64 0]) ∧ PDisk w' b V s.d ∧ JCells w' jb b s.f s.g s.n ∧ (∀ k, fp b V k ∨ k = jb → k < w.heap.size → ¬ T k) ∧ ¬ fp b V jb ∧ Chg (fun k => ¬ T k) w w' ∧
    w'.ownsRow w1.heap.size 9 1 v recs.length (recs.map strV) ∧ ∀ g, v.ownBlock = some g → ¬ fp b V g ∧ g ≠ jb
theorem open_nil (w : World) : Calls Tryd.prog 18 #[.pointer none] w fun e w' => e = .returned (.tuple #[.pointer none, .string ⟨#[]⟩, .slice none 0 0, .int .i64 1]) ∧ w' = w := by
  go_enter Tryd.func18, Tryd.ntmps18
  go_wp2
  refine bodyPost_ret (results_tmp4 rfl _ _ _) rfl ?_
  exact ⟨rfl, rfl⟩

theorem open_end {T : Nat → Prop} {w w1 w5 w8 : World} {b : Nat} {d d3 : DS} {V : Nat → Value} (f g n : Nat) {v : Value} {recs : List (List UInt8)} (snap : List UInt8) (hP : PDisk w1 b V d) (hBT : ∀ k, fp b V k → k < w.heap.size → ¬ T k) (hCh : Chg (fun k => ¬ T k) w w1) (hb5 : Below w1.heap.size w1 w5)
    (h8 : DIn (fun k => k < w5.heap.size ∧ ¬ fp b V k) w5 b d3 w8) (hown : w5.ownsRow w1.heap.size 9 1 v recs.length (recs.map strV)) (q : Nat) :
    OpenOk T w w1 b ⟨d3, f, g, n⟩ snap recs (.returned (.tuple #[.pointer (some ⟨w8.heap.size, 0, none⟩), .string ⟨snap.toArray⟩, v, .int .i64 0])) ((w8.alloc (.cells #[.pointer (some ⟨b, 0, none⟩), .int .i64 (f : Int), .int .i64 (g : Int), .int .i64 (n : Int)] 81)).drewN q) := by
  have hC5 : Chg (fun k => ¬ T k) w w5 := hCh.trans (Dk.chg_below (S := fun _ => False) hb5) (fun _ _ h => h.elim)
  have hD8 := (din_all (pdisk_below hP hb5) hBT hC5).2 _ _ h8
  have hb9 : Below w8.heap.size w8 ((w8.alloc (.cells #[.pointer (some ⟨b, 0, none⟩), .int .i64 (f : Int), .int .i64 (g : Int), .int .i64 (n : Int)] 81)).drewN q) := below_drewN ((Below.refl _ _).alloc (Nat.le_refl _) _) q
  obtain ⟨V2, k1, k2, k3⟩ := h8
  have hV : ∀ k, fp b V2 k → k < w5.heap.size → fp b V k := fun k hk hlt => Classical.byContradiction fun hn => k2 k hk hlt ⟨hlt, hn⟩
  have hnf : ∀ g, v.ownBlock = some g → ¬ fp b V g := fun g hg hf => by
    have h1 := (hown.lt g hg).1
    have h2 := fp_lt hP g hf
    omega
  have hsz := k3.size
  have hsz5 := hC5.size
  have hbd := k1.lt
  refine ⟨w8.heap.size, v, V2, rfl, pdisk_below k1 hb9, ?_, fun k hk hlt => ?_, fun hf => ?_, ?_, ?_, fun g hg => ⟨fun hf => hnf g hg (hV g hf (hown.lt g hg).2), ?_⟩⟩
  · exact (show JCells (w8.alloc (.cells #[.pointer (some ⟨b, 0, none⟩), .int .i64 (f : Int), .int .i64 (g : Int), .int .i64 (n : Int)] 81)) w8.heap.size b f g n from ⟨by simp, by simp, by simp, by simp, by simp, fun j => by rw [World.frozen?, heap_alloc_new w8 _]; simp⟩).block rfl (Nat.le_refl _)
  · rcases hk with hk | hk
    · exact hBT k (hV k hk (by omega)) hlt
    · omega
  · have := fp_lt k1 _ hf
    omega
  · obtain ⟨V3, _, _, h⟩ := hD8
    exact h.trans (Dk.chg_below (S := fun _ => False) hb9) (fun _ _ h => h.elim)
  · exact own_below (own_chg hown k3 (fun g hg hn => hn ⟨(hown.lt g hg).2, hnf g hg⟩)) hb9
  · have := (hown.lt g hg).2
    omega

set_option maxHeartbeats 4000000 in
theorem open_none {T : Nat → Prop} {w w1 : World} {b : Nat} {d : DS} (hD : DIn T w b d w1) (hk : Ok d) (hG : T 0) (hT : Tab w) (h0 : (found (d.F 0)).gen = 0) (h1 : (found (d.F 1)).gen = 0) :
    Calls Tryd.prog 18 #[.pointer (some ⟨b, 0, none⟩)] w1 fun e w' => e = .returned (.tuple #[.pointer none, .string ⟨#[]⟩, .slice none 0 0, .int .i64 61]) ∧ Below w1.heap.size w1 w' := by
  have C0 : Hid (∀ w2, DIn T w b d w2 → Calls Tryd.prog 47 #[.pointer (some ⟨b, 0, none⟩), .int .i64 0] w2 fun e w' => LookOk w2 (found (d.F 0)) e w') := fun w2 h => look_any 0 (by decide) h hk hG hT
  have C1 : Hid (∀ w2, DIn T w b d w2 → Calls Tryd.prog 47 #[.pointer (some ⟨b, 0, none⟩), .int .i64 1] w2 fun e w' => LookOk w2 (found (d.F 1)) e w') := fun w2 h => look_any 1 (by decide) h hk hG hT
  generalize found (d.F 0) = x0 at *
  generalize found (d.F 1) = x1 at *
  obtain ⟨g0, sn0, rc0, n0⟩ := x0
  obtain ⟨g1, sn1, rc1, n1⟩ := x1
  simp only at h0 h1
  subst h0 h1
  have HD : Hid (DIn T w b d w1) := hD
  clear hD
  go_enter Tryd.func18, Tryd.ntmps18
  go_wp2_with fail
  refine (C0.out _ HD.out).mono ?_
  rintro e w2 ⟨v0, rfl, hown0, hb2⟩
  obtain ⟨a0, c0, rfl, _, _⟩ := own_row hown0
  have hbh : Below w2.heap.size w2 (w2.alloc (.cells #[.int .i64 0, .string ⟨sn0.toArray⟩, .slice a0 rc0.length c0, .int .i64 (n0 : Int)] 91)) := (Below.refl _ _).alloc (Nat.le_refl _) _
  have hb3 : Below w1.heap.size w1 (w2.alloc (.cells #[.int .i64 0, .string ⟨sn0.toArray⟩, .slice a0 rc0.length c0, .int .i64 (n0 : Int)] 91)) := hb2.trans (hbh.mono hb2.size)
  have HD3 : Hid (DIn T w b d (w2.alloc (.cells #[.int .i64 0, .string ⟨sn0.toArray⟩, .slice a0 rc0.length c0, .int .i64 (n0 : Int)] 91))) := din_below HD.out hb3
  obtain ⟨w3, hw3⟩ : ∃ w3, w2.alloc (.cells #[.int .i64 0, .string ⟨sn0.toArray⟩, .slice a0 rc0.length c0, .int .i64 (n0 : Int)] 91) = w3 := ⟨_, rfl⟩
  have HW3 : Hid (w2.alloc (.cells #[.int .i64 0, .string ⟨sn0.toArray⟩, .slice a0 rc0.length c0, .int .i64 (n0 : Int)] 91) = w3) := hw3
  have e0 : w3.cell? ⟨w2.heap.size, 0, none⟩ = some (.int .i64 0) := by rw [← hw3]; simp
  have e1 : w3.cell? ⟨w2.heap.size, 1, none⟩ = some (.string ⟨sn0.toArray⟩) := by rw [← hw3]; simp
  have e2 : w3.cell? ⟨w2.heap.size, 2, none⟩ = some (.slice a0 rc0.length c0) := by rw [← hw3]; simp
  have e3 : w3.cell? ⟨w2.heap.size, 3, none⟩ = some (.int .i64 (n0 : Int)) := by rw [← hw3]; simp
  have ef : ∀ j, w3.frozen? ⟨w2.heap.size, j, none⟩ = false := fun j => by rw [← hw3, World.frozen?, heap_alloc_new w2 _]; simp
  have hown0' := own_below hown0 hbh
  rw [hw3] at HD3 hb3 hbh hown0'
  have HO0 : Hid (w3.ownsRow w1.heap.size 9 1 (.slice a0 rc0.length c0) rc0.length (rc0.map strV)) := hown0'
  have HB3 : Hid (Below w1.heap.size w1 w3) := hb3
  have hlt2 : w2.heap.size < w3.heap.size := by rw [← hw3]; simp
  have hle2 : w1.heap.size ≤ w2.heap.size := hb2.size
  clear hown0 hown0' hb2 hb3 hbh hw3
  go_wp2_with fail
  rw [HW3.out]
  refine (C1.out _ HD3.out).mono ?_
  rintro e w4 ⟨v1, rfl, hown1, hb4⟩
  obtain ⟨a1, c1, rfl, _, _⟩ := own_row hown1
  simp only at hown1
  have hb14 : Below w1.heap.size w1 w4 := HB3.out.trans (hb4.mono HB3.out.size)
  have HB4 : Hid (Below w1.heap.size w1 w4) := hb14
  have HO1 : Hid (w4.ownsRow w3.heap.size 9 1 (.slice a1 rc1.length c1) rc1.length (rc1.map strV)) := hown1
  have HO0' : Hid (w4.ownsRow w1.heap.size 9 1 (.slice a0 rc0.length c0) rc0.length (rc0.map strV)) := own_below HO0.out hb4
  have k0 : w4.cell? ⟨w2.heap.size, 0, none⟩ = some (.int .i64 0) := (hb4.cell (p := ⟨w2.heap.size, 0, none⟩) hlt2).trans e0
  have k1 : w4.cell? ⟨w2.heap.size, 1, none⟩ = some (.string ⟨sn0.toArray⟩) := (hb4.cell (p := ⟨w2.heap.size, 1, none⟩) hlt2).trans e1
  have k2 : w4.cell? ⟨w2.heap.size, 2, none⟩ = some (.slice a0 rc0.length c0) := (hb4.cell (p := ⟨w2.heap.size, 2, none⟩) hlt2).trans e2
  have k3 : w4.cell? ⟨w2.heap.size, 3, none⟩ = some (.int .i64 (n0 : Int)) := (hb4.cell (p := ⟨w2.heap.size, 3, none⟩) hlt2).trans e3
  have kf : ∀ j, w4.frozen? ⟨w2.heap.size, j, none⟩ = false := fun j => (hb4.frozen (p := ⟨w2.heap.size, j, none⟩) hlt2).trans (ef j)
  have hsz4 : w3.heap.size ≤ w4.heap.size := hb4.size
  clear e0 e1 e2 e3 ef hown1 hb4 hb14 HO0 HD3 HW3 HB3
  have hlt4 : w2.heap.size < w4.heap.size := by omega
  have m0 : (w4.alloc (.cells #[.int .i64 0, .string ⟨sn1.toArray⟩, .slice a1 rc1.length c1, .int .i64 (n1 : Int)] 91)).cell? ⟨w2.heap.size, 0, none⟩ = some (.int .i64 0) := (World.cell?_of_block (w := w4) (a := ⟨w2.heap.size, 0, none⟩) (heap_alloc_old w4 _ hlt4)).trans k0
  have m1 : (w4.alloc (.cells #[.int .i64 0, .string ⟨sn1.toArray⟩, .slice a1 rc1.length c1, .int .i64 (n1 : Int)] 91)).cell? ⟨w2.heap.size, 1, none⟩ = some (.string ⟨sn0.toArray⟩) := (World.cell?_of_block (w := w4) (a := ⟨w2.heap.size, 1, none⟩) (heap_alloc_old w4 _ hlt4)).trans k1
  have m2 : (w4.alloc (.cells #[.int .i64 0, .string ⟨sn1.toArray⟩, .slice a1 rc1.length c1, .int .i64 (n1 : Int)] 91)).cell? ⟨w2.heap.size, 2, none⟩ = some (.slice a0 rc0.length c0) := (World.cell?_of_block (w := w4) (a := ⟨w2.heap.size, 2, none⟩) (heap_alloc_old w4 _ hlt4)).trans k2
  have m3 : (w4.alloc (.cells #[.int .i64 0, .string ⟨sn1.toArray⟩, .slice a1 rc1.length c1, .int .i64 (n1 : Int)] 91)).cell? ⟨w2.heap.size, 3, none⟩ = some (.int .i64 (n0 : Int)) := (World.cell?_of_block (w := w4) (a := ⟨w2.heap.size, 3, none⟩) (heap_alloc_old w4 _ hlt4)).trans k3
  have HB5 : Hid (Below w1.heap.size w1 (w4.alloc (.cells #[.int .i64 0, .string ⟨sn1.toArray⟩, .slice a1 rc1.length c1, .int .i64 (n1 : Int)] 91))) := HB4.out.alloc (by omega) _
  go_wp2_with fail
  refine bodyPost_ret (results_tmp4 rfl _ _ _) rfl ?_
  exact ⟨rfl, HB5.out⟩

set_option maxHeartbeats 4000000 in
theorem open_first {T : Nat → Prop} {w w1 : World} {b : Nat} {d : DS} (hD : DIn T w b d w1) (hk : Ok d) (hG : T 0) (hT : Tab w) (h0 : (found (d.F 0)).gen ≠ 0) (h1 : ¬ (found (d.F 0)).gen < (found (d.F 1)).gen) :
    Calls Tryd.prog 18 #[.pointer (some ⟨b, 0, none⟩)] w1 fun e w' => OpenOk T w w1 b (opened d 0 (found (d.F 0))) (found (d.F 0)).snap (found (d.F 0)).recs e w' := by
  have C0 : Hid (∀ w2, DIn T w b d w2 → Calls Tryd.prog 47 #[.pointer (some ⟨b, 0, none⟩), .int .i64 0] w2 fun e w' => LookOk w2 (found (d.F 0)) e w') := fun w2 h => look_any 0 (by decide) h hk hG hT
  have C1 : Hid (∀ w2, DIn T w b d w2 → Calls Tryd.prog 47 #[.pointer (some ⟨b, 0, none⟩), .int .i64 1] w2 fun e w' => LookOk w2 (found (d.F 1)) e w') := fun w2 h => look_any 1 (by decide) h hk hG hT
  have hfl := found_le (d.F 0)
  have hfg := (found_le (d.F 1)).2.2
  unfold opened
  generalize found (d.F 0) = x0 at *
  generalize found (d.F 1) = x1 at *
  obtain ⟨g0, sn0, rc0, n0⟩ := x0
  obtain ⟨g1, sn1, rc1, n1⟩ := x1
  simp only at h0 h1 hfl hfg ⊢
  have HD : Hid (DIn T w b d w1) := hD
  have HOK : Hid (Ok d) := hk
  have HFL : Hid (n0 ≤ (d.F 0).length) := hfl.1
  have hrc : rc0.length ≤ 1048576 := by have h1 := file_le d 0 (by decide); have h2 := hk.room; have h3 := hk.most; omega
  have hg0 : g0 ≤ 1125899906842624 := hfl.2.2
  clear hD hfl
  have i1 : ¬ (g0 : Int) < (g1 : Int) := by omega
  have i2 : ((g0 : Int) == 0) = false := by rw [beq_eq_false_iff_ne]; omega
  go_enter Tryd.func18, Tryd.ntmps18
  go_wp2_with fail
  refine (C0.out _ HD.out).mono ?_
  rintro e w2 ⟨v0, rfl, hown0, hb2⟩
  obtain ⟨a0, c0, rfl, _, _⟩ := own_row hown0
  simp only at hown0
  have hbh : Below w2.heap.size w2 (w2.alloc (.cells #[.int .i64 (g0 : Int), .string ⟨sn0.toArray⟩, .slice a0 rc0.length c0, .int .i64 (n0 : Int)] 91)) := (Below.refl _ _).alloc (Nat.le_refl _) _
  have hb3 : Below w1.heap.size w1 (w2.alloc (.cells #[.int .i64 (g0 : Int), .string ⟨sn0.toArray⟩, .slice a0 rc0.length c0, .int .i64 (n0 : Int)] 91)) := hb2.trans (hbh.mono hb2.size)
  have HD3 : Hid (DIn T w b d (w2.alloc (.cells #[.int .i64 (g0 : Int), .string ⟨sn0.toArray⟩, .slice a0 rc0.length c0, .int .i64 (n0 : Int)] 91))) := din_below HD.out hb3
  obtain ⟨w3, hw3⟩ : ∃ w3, w2.alloc (.cells #[.int .i64 (g0 : Int), .string ⟨sn0.toArray⟩, .slice a0 rc0.length c0, .int .i64 (n0 : Int)] 91) = w3 := ⟨_, rfl⟩
  have HW3 : Hid (w2.alloc (.cells #[.int .i64 (g0 : Int), .string ⟨sn0.toArray⟩, .slice a0 rc0.length c0, .int .i64 (n0 : Int)] 91) = w3) := hw3
  have e0 : w3.cell? ⟨w2.heap.size, 0, none⟩ = some (.int .i64 (g0 : Int)) := by rw [← hw3]; simp
  have e1 : w3.cell? ⟨w2.heap.size, 1, none⟩ = some (.string ⟨sn0.toArray⟩) := by rw [← hw3]; simp
  have e2 : w3.cell? ⟨w2.heap.size, 2, none⟩ = some (.slice a0 rc0.length c0) := by rw [← hw3]; simp
  have e3 : w3.cell? ⟨w2.heap.size, 3, none⟩ = some (.int .i64 (n0 : Int)) := by rw [← hw3]; simp
  have ef : ∀ j, w3.frozen? ⟨w2.heap.size, j, none⟩ = false := fun j => by rw [← hw3, World.frozen?, heap_alloc_new w2 _]; simp
  have hown0' := own_below hown0 hbh
  rw [hw3] at HD3 hb3 hbh hown0'
  have HO0 : Hid (w3.ownsRow w1.heap.size 9 1 (.slice a0 rc0.length c0) rc0.length (rc0.map strV)) := hown0'
  have HB3 : Hid (Below w1.heap.size w1 w3) := hb3
  have hlt2 : w2.heap.size < w3.heap.size := by rw [← hw3]; simp
  have hle2 : w1.heap.size ≤ w2.heap.size := hb2.size
  clear hown0 hown0' hb2 hb3 hbh hw3
  go_wp2_with fail
  rw [HW3.out]
  refine (C1.out _ HD3.out).mono ?_
  rintro e w4 ⟨v1, rfl, hown1, hb4⟩
  obtain ⟨a1, c1, rfl, _, _⟩ := own_row hown1
  simp only at hown1
  have hb14 : Below w1.heap.size w1 w4 := HB3.out.trans (hb4.mono HB3.out.size)
  have HB4 : Hid (Below w1.heap.size w1 w4) := hb14
  have HO1 : Hid (w4.ownsRow w3.heap.size 9 1 (.slice a1 rc1.length c1) rc1.length (rc1.map strV)) := hown1
  have HO0' : Hid (w4.ownsRow w1.heap.size 9 1 (.slice a0 rc0.length c0) rc0.length (rc0.map strV)) := own_below HO0.out hb4
  have k0 : w4.cell? ⟨w2.heap.size, 0, none⟩ = some (.int .i64 (g0 : Int)) := (hb4.cell (p := ⟨w2.heap.size, 0, none⟩) hlt2).trans e0
  have k1 : w4.cell? ⟨w2.heap.size, 1, none⟩ = some (.string ⟨sn0.toArray⟩) := (hb4.cell (p := ⟨w2.heap.size, 1, none⟩) hlt2).trans e1
  have k2 : w4.cell? ⟨w2.heap.size, 2, none⟩ = some (.slice a0 rc0.length c0) := (hb4.cell (p := ⟨w2.heap.size, 2, none⟩) hlt2).trans e2
  have k3 : w4.cell? ⟨w2.heap.size, 3, none⟩ = some (.int .i64 (n0 : Int)) := (hb4.cell (p := ⟨w2.heap.size, 3, none⟩) hlt2).trans e3
  have kf : ∀ j, w4.frozen? ⟨w2.heap.size, j, none⟩ = false := fun j => (hb4.frozen (p := ⟨w2.heap.size, j, none⟩) hlt2).trans (ef j)
  have hsz4 : w3.heap.size ≤ w4.heap.size := hb4.size
  clear e0 e1 e2 e3 ef hown1 hb4 hb14 HO0 HD3 HW3 HB3
  have hlt4 : w2.heap.size < w4.heap.size := by omega
  have m0 : (w4.alloc (.cells #[.int .i64 (g1 : Int), .string ⟨sn1.toArray⟩, .slice a1 rc1.length c1, .int .i64 (n1 : Int)] 91)).cell? ⟨w2.heap.size, 0, none⟩ = some (.int .i64 (g0 : Int)) := (World.cell?_of_block (w := w4) (a := ⟨w2.heap.size, 0, none⟩) (heap_alloc_old w4 _ hlt4)).trans k0
  have m1 : (w4.alloc (.cells #[.int .i64 (g1 : Int), .string ⟨sn1.toArray⟩, .slice a1 rc1.length c1, .int .i64 (n1 : Int)] 91)).cell? ⟨w2.heap.size, 1, none⟩ = some (.string ⟨sn0.toArray⟩) := (World.cell?_of_block (w := w4) (a := ⟨w2.heap.size, 1, none⟩) (heap_alloc_old w4 _ hlt4)).trans k1
  have m2 : (w4.alloc (.cells #[.int .i64 (g1 : Int), .string ⟨sn1.toArray⟩, .slice a1 rc1.length c1, .int .i64 (n1 : Int)] 91)).cell? ⟨w2.heap.size, 2, none⟩ = some (.slice a0 rc0.length c0) := (World.cell?_of_block (w := w4) (a := ⟨w2.heap.size, 2, none⟩) (heap_alloc_old w4 _ hlt4)).trans k2
  have m3 : (w4.alloc (.cells #[.int .i64 (g1 : Int), .string ⟨sn1.toArray⟩, .slice a1 rc1.length c1, .int .i64 (n1 : Int)] 91)).cell? ⟨w2.heap.size, 3, none⟩ = some (.int .i64 (n0 : Int)) := (World.cell?_of_block (w := w4) (a := ⟨w2.heap.size, 3, none⟩) (heap_alloc_old w4 _ hlt4)).trans k3
  have hb5 : Below w1.heap.size w1 (w4.alloc (.cells #[.int .i64 (g1 : Int), .string ⟨sn1.toArray⟩, .slice a1 rc1.length c1, .int .i64 (n1 : Int)] 91)) := HB4.out.alloc (by omega) _
  have hb45 : Below w4.heap.size w4 (w4.alloc (.cells #[.int .i64 (g1 : Int), .string ⟨sn1.toArray⟩, .slice a1 rc1.length c1, .int .i64 (n1 : Int)] 91)) := (Below.refl _ _).alloc (Nat.le_refl _) _
  obtain ⟨w5, hw5⟩ : ∃ w5, (w4.alloc (.cells #[.int .i64 (g1 : Int), .string ⟨sn1.toArray⟩, .slice a1 rc1.length c1, .int .i64 (n1 : Int)] 91)) = w5 := ⟨_, rfl⟩
  have HW5 : Hid ((w4.alloc (.cells #[.int .i64 (g1 : Int), .string ⟨sn1.toArray⟩, .slice a1 rc1.length c1, .int .i64 (n1 : Int)] 91)) = w5) := hw5
  have hlt5 : w4.heap.size < w5.heap.size := by rw [← hw5]; simp
  have HO5 : Hid ((w4.alloc (.cells #[.int .i64 (g1 : Int), .string ⟨sn1.toArray⟩, .slice a1 rc1.length c1, .int .i64 (n1 : Int)] 91)).ownsRow w1.heap.size 9 1 (.slice a0 rc0.length c0) rc0.length (rc0.map strV)) := own_below HO0'.out hb45
  rw [hw5] at hb5 HO5
  obtain ⟨V, hP, hBT, hCh⟩ := HD.out
  have hfl : ∀ k, fp b V k → k < w1.heap.size := fp_lt hP
  have hC5 : Chg (fun k => ¬ T k) w w5 := hCh.trans (Dk.chg_below (S := fun _ => False) hb5) (fun _ _ h => h.elim)
  obtain ⟨hD5, hup⟩ := din_all (pdisk_below hP hb5) hBT hC5
  have HCE : Hid (∀ d' w', DIn (fun k => k < w5.heap.size ∧ ¬ fp b V k) w5 b d' w' → w'.cell? ⟨w2.heap.size, 0, none⟩ = some (.int .i64 (g0 : Int)) ∧ w'.cell? ⟨w2.heap.size, 1, none⟩ = some (.string ⟨sn0.toArray⟩) ∧ w'.cell? ⟨w2.heap.size, 2, none⟩ = some (.slice a0 rc0.length c0) ∧ w'.cell? ⟨w2.heap.size, 3, none⟩ = some (.int .i64 (n0 : Int))) := by
    intro d' w' h
    obtain ⟨V2, _, _, h3⟩ := h
    have hblk : w'.heap[w2.heap.size]? = w5.heap[w2.heap.size]? := h3.block _ (by omega) (fun hn => hn ⟨by omega, fun hf => by have := hfl _ hf; omega⟩)
    have c := fun j => World.cell?_of_block (w := w5) (w' := w') (a := ⟨w2.heap.size, j, none⟩) hblk
    rw [hw5] at m0 m1 m2 m3
    exact ⟨(c 0).trans m0, (c 1).trans m1, (c 2).trans m2, (c 3).trans m3⟩
  have C2 : Hid (Calls Tryd.prog 48 #[.pointer (some ⟨b, 0, none⟩), .int .i64 1, .int .i64 0] w5 fun e w' => e = .returned (.int .i64 0) ∧ DIn (fun k => k < w5.heap.size ∧ ¬ fp b V k) w5 b (cut d 1 0) w') := by
    have := Dk.cut_all ((1 : Nat) : Int) ((0 : Nat) : Int) hD5 HOK.out
    rw [aCut_file _ _ (by decide) 0 (Nat.zero_le _)] at this
    exact this
  have hok2 : Ok (cut d 1 0) := ok_cut d 1 0 HOK.out (by decide) (Nat.zero_le _)
  have C3 : Hid (∀ w6, DIn (fun k => k < w5.heap.size ∧ ¬ fp b V k) w5 b (cut d 1 0) w6 → Calls Tryd.prog 48 #[.pointer (some ⟨b, 0, none⟩), .int .i64 0, .int .i64 (n0 : Int)] w6 fun e w' => e = .returned (.int .i64 0) ∧ DIn (fun k => k < w5.heap.size ∧ ¬ fp b V k) w5 b (cut (cut d 1 0) 0 n0) w') := by
    intro w6 h6
    have := Dk.cut_all ((0 : Nat) : Int) (n0 : Int) h6 hok2
    rw [aCut_file _ _ (by decide) n0 (by show n0 ≤ (d.F 0).length; exact HFL.out)] at this
    exact this
  have C4 : Hid (∀ w7, DIn (fun k => k < w5.heap.size ∧ ¬ fp b V k) w5 b (cut (cut d 1 0) 0 n0) w7 → Calls Tryd.prog 41 #[.pointer (some ⟨b, 0, none⟩), .int .i64 0] w7 fun e w' => e = .returned (.int .i64 0) ∧ DIn (fun k => k < w5.heap.size ∧ ¬ fp b V k) w5 b (syn (cut (cut d 1 0) 0 n0) 0) w') := by
    intro w7 h7
    have := Dk.sync_all ((0 : Nat) : Int) h7
    rw [aSyn_file _ _ (by decide)] at this
    exact this
  have HEND : Hid (∀ w8 q, DIn (fun k => k < w5.heap.size ∧ ¬ fp b V k) w5 b (syn (cut (cut d 1 0) 0 n0) 0) w8 → OpenOk T w w1 b ⟨syn (cut (cut d 1 0) 0 n0) 0, 0, g0, rc0.length⟩ sn0 rc0 (.returned (.tuple #[.pointer (some ⟨w8.heap.size, 0, none⟩), .string ⟨sn0.toArray⟩, .slice a0 rc0.length c0, .int .i64 0])) ((w8.alloc (.cells #[.pointer (some ⟨b, 0, none⟩), .int .i64 0, .int .i64 (g0 : Int), .int .i64 (rc0.length : Int)] 81)).drewN q)) :=
    fun w8 q h => open_end 0 g0 rc0.length sn0 hP hBT hCh hb5 h HO5.out q
  have HD5 : Hid (DIn (fun k => k < w5.heap.size ∧ ¬ fp b V k) w5 b d w5) := hD5
  clear hP hBT hCh hfl hC5 hup hD5 hb5 hb45 hw5 hok2 HO5 HO0' HO1
  go_wp2_with fail
  rw [HW5.out]
  refine C2.out.mono ?_
  rintro e w6 ⟨rfl, hD6⟩
  obtain ⟨p0, p1, p2, p3⟩ := HCE.out _ _ hD6
  have HD6 : Hid (DIn (fun k => k < w5.heap.size ∧ ¬ fp b V k) w5 b (cut d 1 0) w6) := hD6
  clear hD6 m0 m1 m2 m3 k0 k1 k2 k3
  go_wp2_with fail
  refine (C3.out _ HD6.out).mono ?_
  rintro e w7 ⟨rfl, hD7⟩
  have HD7 : Hid (DIn (fun k => k < w5.heap.size ∧ ¬ fp b V k) w5 b (cut (cut d 1 0) 0 n0) w7) := hD7
  clear hD7 p0 p1 p2 p3
  go_wp2_with fail
  refine (C4.out _ HD7.out).mono ?_
  rintro e w8 ⟨rfl, hD8⟩
  obtain ⟨p0, p1, p2, p3⟩ := HCE.out _ _ hD8
  have hlt8 : w2.heap.size < w8.heap.size := block_lt_of_cell p0
  have HD8 : Hid (DIn (fun k => k < w5.heap.size ∧ ¬ fp b V k) w5 b (syn (cut (cut d 1 0) 0 n0) 0) w8) := hD8
  clear hD8
  have q0 := (World.cell?_of_block (w := w8) (a := ⟨w2.heap.size, 0, none⟩) (heap_alloc_old w8 (.cells #[.pointer (some ⟨b, 0, none⟩), .int .i64 0, .int .i64 (g0 : Int), .int .i64 (rc0.length : Int)] 81) hlt8)).trans p0
  have q1 := (World.cell?_of_block (w := w8) (a := ⟨w2.heap.size, 1, none⟩) (heap_alloc_old w8 (.cells #[.pointer (some ⟨b, 0, none⟩), .int .i64 0, .int .i64 (g0 : Int), .int .i64 (rc0.length : Int)] 81) hlt8)).trans p1
  have q2 := (World.cell?_of_block (w := w8) (a := ⟨w2.heap.size, 2, none⟩) (heap_alloc_old w8 (.cells #[.pointer (some ⟨b, 0, none⟩), .int .i64 0, .int .i64 (g0 : Int), .int .i64 (rc0.length : Int)] 81) hlt8)).trans p2
  go_wp2_with fail
  go_quiet (fail)
  go_wp2_with fail
  refine bodyPost_ret (results_tmp4 rfl _ _ _) rfl ?_
  exact HEND.out _ _ HD8.out
end Go.Proofs.YtahkecdlibkokaaDoor
