/- The walk of the law DiskApart. -/
import Derived.Test.YtnemnkmogbnjcaaFilesW
import Derived.Test.YtnemnkmogbnjcaaPMath
set_option linter.unusedVariables false
namespace Go.Proofs.Ytnemnkmogbnjcaa
open Go.RowKit
open DiskMath

theorem add_zero_plain (g j : Nat) : (⟨g, 0, none⟩ : Addr).add j = ⟨g, j, none⟩ := by unfold Addr.add; split <;> simp_all
/-- A row of files in memory, at a block of its own. -/
theorem frow {w : World} {B : Nat} {v : Value} {d : DS} (h : w.ownsRow B 49 2 v 4 (fcells d 4)) : ∃ g cap, v = .slice (some ⟨g, 0, none⟩) 4 cap ∧ B ≤ g ∧ g < w.heap.size ∧
    ∀ i, i < 4 → w.cell? ⟨g, i * 2, none⟩ = some (.string ⟨(d.F i).toArray⟩) ∧ w.cell? ⟨g, i * 2 + 1, none⟩ = some (.int .i64 (d.S i : Int)) := by
  rcases h.2 with ⟨rfl, h0⟩ | ⟨g, cap, cur, rfl, hb, hg, hnc, hcm, hcs, htake⟩
  · omega
  · refine ⟨g, cap, rfl, hb, (Array.getElem?_eq_some_iff.1 hg).1, fun i hi => ?_⟩
    have hf := fcells_at d 4 i hi
    constructor
    · have := h.cells (g := g) rfl (i * 2) _ hf.1
      rwa [add_zero_plain] at this
    · have := h.cells (g := g) rfl (i * 2 + 1) _ hf.2
      rwa [add_zero_plain] at this

/-- A disk behind files: the row that files made is kept, too. -/
theorem din_row {B : Nat} {w w1 w2 : World} {b : Nat} {d : DS} {g : Nat} (hBw : B ≤ w.heap.size) (hD : DIn (fun k => k < B) w b d w1) (hb : Below w1.heap.size w1 w2) (hg : w1.heap.size ≤ g) : DIn (fun k => k < B ∨ k = g) w2 b d w2 := by
  obtain ⟨V, hP, hf, hc⟩ := hD
  refine ⟨V, pdisk_below hP hb, fun k hk _ hT => ?_, Chg.refl _ _⟩
  have hlt := fp_lt hP k hk
  rcases hT with h | h
  · exact hf k hk (by omega) h
  · omega
theorem din_row_below {B : Nat} {w w1 w2 w3 : World} {b : Nat} {d e : DS} {g : Nat} (hBw : B ≤ w.heap.size) (hD : DIn (fun k => k < B) w b d w1) (hb : Below w1.heap.size w1 w2) (hE : DIn (fun k => k < B ∨ k = g) w2 b e w3) : Below B w w3 := by
  have h1 := below_of_din hD hBw
  have h2 : Below B w w2 := h1.trans (hb.mono (Nat.le_trans hBw h1.size))
  obtain ⟨V, _, _, hc⟩ := hE
  exact h2.trans ⟨hc.os, hc.tape, hc.output, hc.size, fun k hk => hc.block k (by have := h2.size; omega) (fun hn => hn (Or.inl hk))⟩
theorem din_row_cell {B : Nat} {w2 w3 : World} {b : Nat} {e : DS} {g j : Nat} (hg : g < w2.heap.size) (hE : DIn (fun k => k < B ∨ k = g) w2 b e w3) : w3.cell? ⟨g, j, none⟩ = w2.cell? ⟨g, j, none⟩ := by
  obtain ⟨V, _, _, hc⟩ := hE
  exact World.cell?_of_block (w := w2) (a := ⟨g, j, none⟩) (hc.block g hg (fun hn => hn (Or.inr rfl)))

set_option maxRecDepth 100000 in
set_option maxHeartbeats 3000000 in
theorem diskApart_walk (r : Int) (hr : -9223372036854775808 ≤ r ∧ r ≤ 9223372036854775807) (v : Value) (l : List DiskMath.Op) (hl : l.length ≤ 140737488355328) (hok : ∀ o ∈ l, OpOk o) (nm : Int) (hnm : -9223372036854775808 ≤ nm ∧ nm ≤ 9223372036854775807)
    (v2 : Value) (l2 : List DiskMath.Op) (hl2 : l2.length ≤ 140737488355328) (hok2 : ∀ o ∈ l2, OpOk o) (w : World) (hO : ORow w v l) (hO2 : ORow w v2 l2) :
    Calls Try.prog 8 #[.int .i64 r, v, .int .i64 nm, v2] w fun e w' => e = .returned (.bool true) ∧ Below w.heap.size w w' := by
  obtain ⟨vao, vlen, vcap, rfl⟩ : ∃ ao n cap, v = .slice ao n cap := by
    obtain ⟨ao, cap, h, _⟩ := hO
    exact ⟨ao, _, cap, h⟩
  have hf := pick_lt nm 4 (by decide)
  have hp := pick_lt r 200 (by decide)
  have okd : Ok (run (bd (3 + pick r 200)) l) := ok_run _ _ (ok_bd _ (by omega) (by omega))
  have C0 : Hid (Calls Try.prog 17 #[.int .i64 r, .slice vao vlen vcap] w fun e w' => ∃ b, e = .returned (.pointer (some ⟨b, 0, none⟩)) ∧ DIn (fun k => k < w.heap.size) w b (run (bd (3 + pick r 200)) l) w') := plays_any r hr _ l hl hok w hO
  have C1 : Hid (∀ w, Calls Try.prog 13 #[.int .i64 nm, .int .i64 4] w fun e w' => e = .returned (.int .i64 (pick nm 4 : Int)) ∧ w' = w) := fun w => pick_any nm 4 (by decide) (by decide) hnm w
  obtain ⟨d, hd⟩ : ∃ d, d = run (bd (3 + pick r 200)) l := ⟨_, rfl⟩
  rw [← hd] at C0 okd
  obtain ⟨f, hfe⟩ : ∃ f, f = pick nm 4 := ⟨_, rfl⟩
  rw [← hfe] at C1 hf
  clear hd hfe hp hok hO hl
  have HOKD : Hid (Ok d) := okd
  have HOT : Hid (Oth f d (run2 f d l2)) := oth_run2 f d l2 d (fun i _ => ⟨rfl, rfl⟩)
  have HOKS : Hid (∀ k, Ok (run2 f d (l2.take k))) := fun k => ok_run2 f _ _ okd
  have HSN : Hid (∀ k, (h : k < l2.length) → run2 f d (l2.take (k + 1)) = act2 f (run2 f d (l2.take k)) l2[k]) := fun k h => run2_snoc f _ l2 k h
  obtain ⟨ao, cap, rfl, hrow⟩ := hO2
  have HR : Hid (∀ j, (h : j < l2.length) → ∃ g o, ao = some ⟨g, o, none⟩ ∧ g < w.heap.size ∧
    w.cell? ⟨g, o + j * 5, none⟩ = some (.int .i64 l2[j].Do) ∧ w.cell? ⟨g, o + j * 5 + 1, none⟩ = some (.int .i64 l2[j].C) ∧ w.cell? ⟨g, o + j * 5 + 2, none⟩ = some (.int .i64 l2[j].File) ∧
    w.cell? ⟨g, o + j * 5 + 3, none⟩ = some (.int .i64 l2[j].N) ∧ w.cell? ⟨g, o + j * 5 + 4, none⟩ = some (.string l2[j].S)) := hrow
  have HOK : Hid (∀ o ∈ l2, OpOk o) := hok2
  clear hrow hok2 okd
  go_enter Try.func8, Try.ntmps8
  go_wp2_with fail
  refine C0.out.mono ?_
  rintro e w1 ⟨b, rfl, hD1⟩
  have CF1 : Hid (Calls Try.prog 18 #[.pointer (some ⟨b, 0, none⟩)] w1 fun e w' => ∃ g c, e = .returned (.tuple #[.slice (some ⟨g, 0, none⟩) 4 c, .bool true]) ∧ g < w'.heap.size ∧ (∀ i, i < 4 → w'.cell? ⟨g, i * 2, none⟩ = some (.string ⟨(d.F i).toArray⟩) ∧ w'.cell? ⟨g, i * 2 + 1, none⟩ = some (.int .i64 (d.S i : Int))) ∧
      DIn (fun k => k < w.heap.size ∨ k = g) w' b d w' ∧ ∀ e w3, DIn (fun k => k < w.heap.size ∨ k = g) w' b e w3 → Below w.heap.size w w3) := by
    have hD1' := hD1
    obtain ⟨V, hP, _, _⟩ := hD1'
    refine (files_any w1 b V d hP HOKD.out).mono ?_
    rintro e w' ⟨v, rfl, h2, h3⟩
    obtain ⟨g, c, rfl, h4, h5, h6⟩ := frow h2
    exact ⟨g, c, rfl, h5, h6, din_row (Nat.le_refl _) hD1 h3 h4, fun e w3 hE => din_row_below (Nat.le_refl _) hD1 h3 hE⟩
  clear hD1 C0
  go_wp2_with fail
  refine (C1.out _).mono ?_
  rintro e w1' ⟨rfl, hw⟩
  rw [hw]; clear hw w1' C1
  go_wp2_with fail
  refine CF1.out.mono ?_
  rintro e w2 ⟨g1, cp1, rfl, hg1, hrow1, hD2, hbel⟩
  have HBEL : Hid (∀ e w3, DIn (fun k => k < w.heap.size ∨ k = g1) w2 b e w3 → Below w.heap.size w w3) := hbel
  have HROW1 : Hid (∀ i, i < 4 → w2.cell? ⟨g1, i * 2, none⟩ = some (.string ⟨(d.F i).toArray⟩) ∧ w2.cell? ⟨g1, i * 2 + 1, none⟩ = some (.int .i64 (d.S i : Int))) := hrow1
  have HD2 : Hid (DIn (fun k => k < w.heap.size ∨ k = g1) w2 b (run2 f d (l2.take 0)) w2) := hD2
  clear hbel hrow1 hD2 CF1
  go_wp2_with fail
  go_loopw [13] (fun i wr => ∃ k : Nat, k ≤ l2.length ∧ i = .int .i64 (k : Int) ∧ Hid (DIn (fun k => k < w.heap.size ∨ k = g1) w2 b (run2 f d (l2.take k)) wr)) (fun i _ => l2.length - (intOf i).toNat)
  case atStart => exact ⟨0, Nat.zero_le _, rfl, HD2⟩
  case round =>
    obtain ⟨k, hk, rfl, HI⟩ := hrel
    clear HD2
    by_cases hlt : k < l2.length
    · obtain ⟨g, o, rfl, hgl, c0, c1, c2, c3, c4⟩ := HR.out k hlt
      have hwb := HBEL.out _ _ HI.out
      have cc : ∀ x, wr.cell? ⟨g, x, none⟩ = w.cell? ⟨g, x, none⟩ := fun x => hwb.cell (p := ⟨g, x, none⟩) hgl
      rw [← cc] at c0 c1 c2 c3 c4
      have hop := HOK.out _ (List.getElem_mem hlt)
      have HN := HSN.out k hlt
      have hkk := HOKS.out k
      generalize run2 f d (l2.take k) = dk at *
      generalize hdn : run2 f d (l2.take (k + 1)) = dn at *
      have HDN : Hid (run2 f d (l2.take (k + 1)) = dn) := hdn
      clear hdn
      generalize l2[k] = op at *
      obtain ⟨⟨o1, o2⟩, _, ⟨o3, o4⟩, hN, hS⟩ := hop
      obtain ⟨Do, C, File, N, S⟩ := op
      simp only at c0 c1 c2 c3 c4 o1 o2 o3 o4 hN hS
      have i1 : (k : Int) < (l2.length : Int) := by omega
      have HKK : Hid (Ok dk) := hkk
      have HSS : Hid (S.size ≤ 140737488355328) := by show _ ≤ _; omega
      clear hwb cc HR HOK HSN HOKS HOT hkk hN HBEL HROW1 HOKD
      by_cases z0 : Do = 0
      · subst z0
        have HN : Hid (dn = (aApp dk (f : Int) S.data.toList).1) := by rw [HN]; rfl
        go_wp2_with fail
        refine (append_all (f : Int) S HSS.out HI.out HKK.out).mono ?_
        rintro e w3 ⟨rfl, hD3⟩
        have HD3 : Hid (DIn (fun k => k < w.heap.size ∨ k = g1) w2 b dn w3) := by rw [HN.out]; exact hD3
        clear hD3 HN
        go_wp2
        exact ⟨⟨k + 1, by omega, by go_num, by rw [HDN.out]; exact HD3⟩, by simp [intOf]; omega⟩
      by_cases z1 : Do = 1
      · subst z1
        have HN : Hid (dn = (aSyn dk (f : Int)).1) := by rw [HN]; rfl
        go_wp2_with fail
        refine (sync_all (f : Int) HI.out).mono ?_
        rintro e w3 ⟨rfl, hD3⟩
        have HD3 : Hid (DIn (fun k => k < w.heap.size ∨ k = g1) w2 b dn w3) := by rw [HN.out]; exact hD3
        clear hD3 HN
        go_wp2
        exact ⟨⟨k + 1, by omega, by go_num, by rw [HDN.out]; exact HD3⟩, by simp [intOf]; omega⟩
      by_cases z2 : Do = 2
      · subst z2
        have HN : Hid (dn = (aCut dk (f : Int) N).1) := by rw [HN]; rfl
        go_wp2_with fail
        refine (cut_all (f : Int) N HI.out HKK.out).mono ?_
        rintro e w3 ⟨rfl, hD3⟩
        have HD3 : Hid (DIn (fun k => k < w.heap.size ∨ k = g1) w2 b dn w3) := by rw [HN.out]; exact hD3
        clear hD3 HN
        go_wp2
        exact ⟨⟨k + 1, by omega, by go_num, by rw [HDN.out]; exact HD3⟩, by simp [intOf]; omega⟩
      · have HD3 : Hid (DIn (fun k => k < w.heap.size ∨ k = g1) w2 b dn wr) := by
          rw [show dn = dk by rw [HN]; unfold act2; rw [if_neg z0, if_neg z1, if_neg z2]]; exact HI.out
        clear HN HI
        go_wp2
        exact ⟨⟨k + 1, by omega, by go_num, by rw [HDN.out]; exact HD3⟩, by simp [intOf]; omega⟩
    · obtain rfl : k = l2.length := by omega
      have hko := HOKS.out l2.length
      rw [List.take_length] at HI hko
      generalize run2 f d l2 = dz at *
      have CF2 : Hid (Calls Try.prog 18 #[.pointer (some ⟨b, 0, none⟩)] wr fun e w' => ∃ g c, e = .returned (.tuple #[.slice (some ⟨g, 0, none⟩) 4 c, .bool true]) ∧ (∀ i, i < 4 → w'.cell? ⟨g, i * 2, none⟩ = some (.string ⟨(dz.F i).toArray⟩) ∧ w'.cell? ⟨g, i * 2 + 1, none⟩ = some (.int .i64 (dz.S i : Int))) ∧
          (∀ i, i < 4 → w'.cell? ⟨g1, i * 2, none⟩ = some (.string ⟨(d.F i).toArray⟩) ∧ w'.cell? ⟨g1, i * 2 + 1, none⟩ = some (.int .i64 (d.S i : Int))) ∧ Below w.heap.size w w') := by
        have hI := HI.out
        obtain ⟨V, hP, hff, hcc⟩ := hI
        refine (files_any wr b V dz hP hko).mono ?_
        rintro e w' ⟨v, rfl, h2, h3⟩
        obtain ⟨g, c, rfl, h4, h5, h6⟩ := frow h2
        have hbw := HBEL.out _ _ HI.out
        refine ⟨g, c, rfl, h6, fun i hi => ?_, hbw.trans (h3.mono hbw.size)⟩
        have hgl : g1 < wr.heap.size := Nat.lt_of_lt_of_le hg1 hcc.size
        rw [h3.cell (p := ⟨g1, i * 2, none⟩) hgl, h3.cell (p := ⟨g1, i * 2 + 1, none⟩) hgl, din_row_cell hg1 HI.out, din_row_cell hg1 HI.out]
        exact HROW1.out i hi
      clear HI hko HR HOK HSN HOKS HBEL HROW1 HOKD hg1
      go_wp2_with fail
      refine CF2.out.mono ?_
      rintro e w5 ⟨g2, cp2, rfl, r2, r1, hb5⟩
      have HR2 : Hid (∀ i, i < 4 → w5.cell? ⟨g2, i * 2, none⟩ = some (.string ⟨(dz.F i).toArray⟩) ∧ w5.cell? ⟨g2, i * 2 + 1, none⟩ = some (.int .i64 (dz.S i : Int))) := r2
      have HR1 : Hid (∀ i, i < 4 → w5.cell? ⟨g1, i * 2, none⟩ = some (.string ⟨(d.F i).toArray⟩) ∧ w5.cell? ⟨g1, i * 2 + 1, none⟩ = some (.int .i64 (d.S i : Int))) := r1
      clear r1 r2 CF2
      go_wp2_with fail
      go_loopw [16] (fun i ws => ∃ k q : Nat, k ≤ 4 ∧ i = .int .i64 (k : Int) ∧ ws = w5.drewN q) (fun i _ => 4 - (intOf i).toNat)
      case atStart => exact ⟨0, 0, Nat.zero_le _, rfl, rfl⟩
      case round =>
        obtain ⟨i, q, hi4, rfl, rfl⟩ := hrel
        by_cases hlt2 : i < 4
        · obtain ⟨p1, p2⟩ := HR1.out i hlt2
          obtain ⟨p3, p4⟩ := HR2.out i hlt2
          have j4 : (i : Int) < 4 := by omega
          by_cases hif : i = f
          · have e1 : ((i : Int) == (f : Int)) = true := by simp [hif]
            have e2 : (i == f) = true := by simp [hif]
            have e3 : decide (i = f) = true := by simp [hif]
            have e4 : ((i : Int) = (f : Int)) = True := by simp [hif]
            have e5 : (i = f) = True := by simp [hif]
            have e6 : decide ((i : Int) = (f : Int)) = true := by simp [hif]
            clear p1 p2 p3 p4 HR1 HR2 HOT hif
            go_wp2_with fail
            go_quiet (fail)
            go_wp2
            exact ⟨⟨i + 1, _, by omega, by go_num, rfl⟩, by simp [intOf]; omega⟩
          · have e1 : ((i : Int) == (f : Int)) = false := by simp; omega
            obtain ⟨e2, e3⟩ := HOT.out i hif
            rw [e2] at p3
            rw [e3] at p4
            generalize ByteArray.mk (d.F i).toArray = y at *
            generalize d.S i = S0 at *
            clear e2 e3 HR1 HR2 HOT
            have e2 : (i == f) = false := by simp [hif]
            have e3 : decide (i = f) = false := by simp [hif]
            have e6 : decide ((i : Int) = (f : Int)) = false := by simp; omega
            have e7 : ((i : Int) != (f : Int)) = true := by simp; omega
            have e8 : (i != f) = true := by simp [hif]
            go_wp2_with fail
            go_quiet (fail)
            go_wp2
            exact ⟨⟨i + 1, _, by omega, by go_num, rfl⟩, by simp [intOf]; omega⟩
        · obtain rfl : i = 4 := by omega
          have HB : Hid (Below w.heap.size w (w5.drewN q)) := below_drewN hb5 q
          clear HR1 HR2 HOT
          go_wp2
          go_ret
          exact ⟨rfl, HB.out⟩
end Go.Proofs.Ytnemnkmogbnjcaa
