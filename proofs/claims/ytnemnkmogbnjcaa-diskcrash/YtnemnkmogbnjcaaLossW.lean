/- The walk of the law DiskCrash. -/
import Derived.Test.YtnemnkmogbnjcaaFilesW
import Derived.Test.YtnemnkmogbnjcaaCMath
set_option linter.unusedVariables false
namespace Go.Proofs.Ytnemnkmogbnjcaa
open Go.RowKit
open DiskMath

theorem add_zero_plain (g j : Nat) : (⟨g, 0, none⟩ : Addr).add j = ⟨g, j, none⟩ := by unfold Addr.add; split <;> simp_all
/-- A row of files in memory, at a block of its own. -/
theorem frow {w : World} {B : Nat} {v : Value} {d : DS} (h : w.ownsRow B 49 2 v 4 (fcells d 4)) : ∃ g cap, v = .slice (some ⟨g, 0, none⟩) 4 cap ∧ B ≤ g ∧ g < w.heap.size ∧
    ∀ i, i < 4 → w.cell? ⟨g, i * 2, none⟩ = some (.string ⟨(d.F i).toArray⟩) ∧ w.cell? ⟨g, i * 2 + 1, none⟩ = some (.int .i64 (d.S i : Int)) := by
  rcases h.2 with ⟨rfl, h0⟩ | ⟨g, cap, cur, rfl, hb, hg, hnc, hcm, hcs, htake⟩
  · omega
  · refine ⟨g, cap, rfl, hb, (Array.getElem?_eq_some_iff.1 hg).1, fun i hi => ?_⟩
    have hf := fcells_at d 4 i hi
    constructor
    · have := h.cells (g := g) rfl (i * 2) _ hf.1
      rwa [add_zero_plain] at this
    · have := h.cells (g := g) rfl (i * 2 + 1) _ hf.2
      rwa [add_zero_plain] at this


/-- A disk behind files: the row that files made is kept from now on. -/
theorem din_again {T : Nat → Prop} {B : Nat} {w2 w3 w4 : World} {b : Nat} {e : DS} {g : Nat} (hT : ∀ k, k < B → T k) (hB : B ≤ w2.heap.size) (hE : DIn T w2 b e w3) (hb : Below w3.heap.size w3 w4) (hg : w3.heap.size ≤ g) : DIn (fun k => k < B ∨ k = g) w4 b e w4 := by
  obtain ⟨V, hP, hf, hc⟩ := hE
  refine ⟨V, pdisk_below hP hb, fun k hk _ hT' => ?_, Chg.refl _ _⟩
  have hlt := fp_lt hP k hk
  rcases hT' with h | h
  · exact hf k hk (by omega) (hT k h)
  · omega
theorem din_to_below {T : Nat → Prop} {B : Nat} {w2 w3 : World} {b : Nat} {e : DS} (hT : ∀ k, k < B → T k) (hB : B ≤ w2.heap.size) (hE : DIn T w2 b e w3) : Below B w2 w3 := by
  obtain ⟨V, _, _, hc⟩ := hE
  exact ⟨hc.os, hc.tape, hc.output, hc.size, fun k hk => hc.block k (by omega) (fun hn => hn (hT k hk))⟩
theorem din_keeps {T : Nat → Prop} {w2 w3 : World} {b : Nat} {e : DS} {g j : Nat} (hT : T g) (hg : g < w2.heap.size) (hE : DIn T w2 b e w3) : w3.cell? ⟨g, j, none⟩ = w2.cell? ⟨g, j, none⟩ := by
  obtain ⟨V, _, _, hc⟩ := hE
  exact World.cell?_of_block (w := w2) (a := ⟨g, j, none⟩) (hc.block g hg (fun hn => hn hT))
/-- files, with the row kept from now on. -/
theorem files_row {T : Nat → Prop} {B : Nat} {w w2 w3 : World} {b : Nat} {x : DS} (hT : ∀ k, k < B → T k) (hB : B ≤ w2.heap.size) (hw : Below B w w2) (hE : DIn T w2 b x w3) (hk : Ok x) :
    Calls Try.prog 18 #[.pointer (some ⟨b, 0, none⟩)] w3 fun e w' => ∃ g c, e = .returned (.tuple #[.slice (some ⟨g, 0, none⟩) 4 c, .bool true]) ∧ g < w'.heap.size ∧ (∀ i, i < 4 → w'.cell? ⟨g, i * 2, none⟩ = some (.string ⟨(x.F i).toArray⟩) ∧ w'.cell? ⟨g, i * 2 + 1, none⟩ = some (.int .i64 (x.S i : Int))) ∧
      DIn (fun k => k < B ∨ k = g) w' b x w' ∧ Below B w w' ∧ ∀ g1 j, T g1 → g1 < w2.heap.size → w'.cell? ⟨g1, j, none⟩ = w2.cell? ⟨g1, j, none⟩ := by
  have hE' := hE
  obtain ⟨V, hP, _, hc⟩ := hE'
  refine (files_any w3 b V x hP hk).mono ?_
  rintro e' w' ⟨v, rfl, h2, h3⟩
  obtain ⟨g, c, rfl, h4, h5, h6⟩ := frow h2
  have h7 := hw.trans (din_to_below hT hB hE)
  refine ⟨g, c, rfl, h5, h6, din_again hT hB hE h3 h4, h7.trans (h3.mono (Nat.le_trans hB hc.size)), fun g1 j hg1 hgl => ?_⟩
  rw [h3.cell (p := ⟨g1, j, none⟩) (Nat.lt_of_lt_of_le hgl hc.size)]
  exact din_keeps hg1 hgl hE

set_option maxRecDepth 100000 in
set_option maxHeartbeats 3000000 in
theorem diskCrash_walk (r : Int) (hr : -9223372036854775808 ≤ r ∧ r ≤ 9223372036854775807) (v : Value) (l : List DiskMath.Op) (hl : l.length ≤ 140737488355328) (hok : ∀ o ∈ l, OpOk o) (keep : Int) (hkp : -9223372036854775808 ≤ keep ∧ keep ≤ 9223372036854775807)
    (again : Int) (hag : -9223372036854775808 ≤ again ∧ again ≤ 9223372036854775807) (w : World) (hO : ORow w v l) :
    Calls Try.prog 5 #[.int .i64 r, v, .int .i64 keep, .int .i64 again] w fun e w' => e = .returned (.bool true) ∧ Below w.heap.size w w' := by
  obtain ⟨vao, vlen, vcap, rfl⟩ : ∃ ao n cap, v = .slice ao n cap := by
    obtain ⟨ao, cap, h, _⟩ := hO
    exact ⟨ao, _, cap, h⟩
  have hp := pick_lt r 200 (by decide)
  have okd : Ok (run (bd (3 + pick r 200)) l) := ok_run _ _ (ok_bd _ (by omega) (by omega))
  have C0 : Hid (Calls Try.prog 17 #[.int .i64 r, .slice vao vlen vcap] w fun e w' => ∃ b, e = .returned (.pointer (some ⟨b, 0, none⟩)) ∧ DIn (fun k => k < w.heap.size) w b (run (bd (3 + pick r 200)) l) w') := plays_any r hr _ l hl hok w hO
  obtain ⟨d, hd⟩ : ∃ d, d = run (bd (3 + pick r 200)) l := ⟨_, rfl⟩
  rw [← hd] at C0 okd
  clear hd hp hok hO hl
  obtain ⟨e1, he1⟩ : ∃ e1, e1 = crash d keep.toNat := ⟨_, rfl⟩
  obtain ⟨e2, he2⟩ : ∃ e2, e2 = crash e1 again.toNat := ⟨_, rfl⟩
  have HOK : Hid (Ok d) := okd
  have HOK1 : Hid (Ok e1) := by rw [he1]; exact ok_crash _ _ okd
  have HOK2 : Hid (Ok e2) := by rw [he2]; exact ok_crash _ _ HOK1.out
  have HE1 : Hid (e1 = crash d keep.toNat) := he1
  have HE2 : Hid (e2 = crash e1 again.toNat) := he2
  have HTW : Hid (∀ i, i < 4 → e2.F i = e1.F i ∧ e2.S i = e1.S i) := fun i hi => by rw [he2, he1]; exact crash_twice d okd _ _ i hi
  have HTL : Hid (∀ i, i < 4 → (e1.F i).length ≤ (d.F i).length ∧ (d.F i).take (e1.F i).length = e1.F i ∧ d.S i ≤ (e1.F i).length ∧ e1.S i = (e1.F i).length ∧ keptTo d keep.toNat (i + 1) + d.S i = keptTo d keep.toNat i + (e1.F i).length ∧ unsafeTo d (i + 1) + d.S i = unsafeTo d i + (d.F i).length) := fun i hi => by rw [he1]; exact crash_tells d okd _ i hi
  have HLE : Hid (∀ k, k ≤ 4 → keptTo d keep.toNat k ≤ 1048576 ∧ unsafeTo d k ≤ 1048576) := fun k hk => kept_le d okd _ k hk
  have HFL : Hid (∀ i, i < 4 → (d.F i).length ≤ 1048576) := fun i hi => by
    have h1 := file_le d i hi
    have h2 := okd.room
    have h3 := okd.most
    omega
  have HKA : Hid ((keptTo d keep.toNat 4 : Int) = min (max keep 0) (unsafeTo d 4 : Int)) := kept_all d keep
  have HKP : Hid (-9223372036854775808 ≤ keep ∧ keep ≤ 9223372036854775807) := hkp
  have HAG : Hid (-9223372036854775808 ≤ again ∧ again ≤ 9223372036854775807) := hag
  have HZ : Hid (keptTo d keep.toNat 0 = 0 ∧ unsafeTo d 0 = 0) := ⟨rfl, rfl⟩
  obtain ⟨KT, hKT⟩ : ∃ f : Nat → Nat, f = keptTo d keep.toNat := ⟨_, rfl⟩
  obtain ⟨UT, hUT⟩ : ∃ f : Nat → Nat, f = unsafeTo d := ⟨_, rfl⟩
  rw [← hKT] at HKA HLE HZ
  rw [← hUT] at HKA HLE HZ
  have HTL : Hid (∀ i, i < 4 → (e1.F i).length ≤ (d.F i).length ∧ (d.F i).take (e1.F i).length = e1.F i ∧ d.S i ≤ (e1.F i).length ∧ e1.S i = (e1.F i).length ∧ KT (i + 1) + d.S i = KT i + (e1.F i).length ∧ UT (i + 1) + d.S i = UT i + (d.F i).length) := by rw [hKT, hUT]; exact HTL.out
  clear okd he1 he2 hkp hag hKT hUT
  go_enter Try.func5, Try.ntmps5
  go_wp2_with fail
  refine C0.out.mono ?_
  rintro e w1 ⟨b, rfl, hD1⟩
  have CF1 : Hid (Calls Try.prog 18 #[.pointer (some ⟨b, 0, none⟩)] w1 fun e w' => ∃ g c, e = .returned (.tuple #[.slice (some ⟨g, 0, none⟩) 4 c, .bool true]) ∧ g < w'.heap.size ∧ (∀ i, i < 4 → w'.cell? ⟨g, i * 2, none⟩ = some (.string ⟨(d.F i).toArray⟩) ∧ w'.cell? ⟨g, i * 2 + 1, none⟩ = some (.int .i64 (d.S i : Int))) ∧
      DIn (fun k => k < w.heap.size ∨ k = g) w' b d w' ∧ Below w.heap.size w w' ∧ ∀ g1 j, g1 < w.heap.size → g1 < w.heap.size → w'.cell? ⟨g1, j, none⟩ = w.cell? ⟨g1, j, none⟩) := files_row (B := w.heap.size) (w := w) (fun k h => h) (Nat.le_refl _) (Below.refl _ _) hD1 HOK.out
  clear hD1 C0
  go_wp2_with fail
  refine CF1.out.mono ?_
  rintro e w2 ⟨g1, cp1, rfl, hg1, hrow1, hD2, hb2, _⟩
  have HB2 : Hid (Below w.heap.size w w2) := hb2
  have HROW1 : Hid (∀ i, i < 4 → w2.cell? ⟨g1, i * 2, none⟩ = some (.string ⟨(d.F i).toArray⟩) ∧ w2.cell? ⟨g1, i * 2 + 1, none⟩ = some (.int .i64 (d.S i : Int))) := hrow1
  have CK1 : Hid (Calls Try.prog 19 #[.pointer (some ⟨b, 0, none⟩), .int .i64 keep] w2 fun e w' => e = .returned (.tuple #[]) ∧ DIn (fun k => k < w.heap.size ∨ k = g1) w2 b e1 w') := by
    rw [HE1.out]
    exact crash_all keep HKP.out hD2 HOK.out
  have HG1 : Hid (g1 < w2.heap.size) := hg1
  clear hb2 hrow1 hD2 CF1 hg1
  go_wp2_with fail
  refine CK1.out.mono ?_
  rintro e w3 ⟨rfl, hD3⟩
  have CF2 : Hid (Calls Try.prog 18 #[.pointer (some ⟨b, 0, none⟩)] w3 fun e w' => ∃ g c, e = .returned (.tuple #[.slice (some ⟨g, 0, none⟩) 4 c, .bool true]) ∧ g < w'.heap.size ∧ (∀ i, i < 4 → w'.cell? ⟨g, i * 2, none⟩ = some (.string ⟨(e1.F i).toArray⟩) ∧ w'.cell? ⟨g, i * 2 + 1, none⟩ = some (.int .i64 (e1.S i : Int))) ∧
      DIn (fun k => k < w.heap.size ∨ k = g) w' b e1 w' ∧ Below w.heap.size w w' ∧ ∀ g1' j, (g1' < w.heap.size ∨ g1' = g1) → g1' < w2.heap.size → w'.cell? ⟨g1', j, none⟩ = w2.cell? ⟨g1', j, none⟩) := files_row (B := w.heap.size) (w := w) (fun k h => Or.inl h) HB2.out.size HB2.out hD3 HOK1.out
  clear hD3 CK1
  go_wp2_with fail
  refine CF2.out.mono ?_
  rintro e w4 ⟨g2, cp2, rfl, hg2, hrow2, hD4, hb4, hold⟩
  have HR1 : Hid (∀ i, i < 4 → w4.cell? ⟨g1, i * 2, none⟩ = some (.string ⟨(d.F i).toArray⟩) ∧ w4.cell? ⟨g1, i * 2 + 1, none⟩ = some (.int .i64 (d.S i : Int))) := fun i hi => by
    rw [hold g1 _ (Or.inr rfl) HG1.out, hold g1 _ (Or.inr rfl) HG1.out]
    exact HROW1.out i hi
  have HB4 : Hid (Below w.heap.size w w4) := hb4
  have HR2 : Hid (∀ i, i < 4 → w4.cell? ⟨g2, i * 2, none⟩ = some (.string ⟨(e1.F i).toArray⟩) ∧ w4.cell? ⟨g2, i * 2 + 1, none⟩ = some (.int .i64 (e1.S i : Int))) := hrow2
  have HD4 : Hid (DIn (fun k => k < w.heap.size ∨ k = g2) w4 b e1 w4) := hD4
  have HG2 : Hid (g2 < w4.heap.size) := hg2
  clear hb4 hrow2 hD4 CF2 hg2 hold HROW1 HG1 HB2
  go_wp2_with fail
  go_loopw [14, 15, 16] (fun a c i ws => ∃ k q : Nat, k ≤ 4 ∧ a = .int .i64 (UT k : Int) ∧ c = .int .i64 (KT k : Int) ∧ i = .int .i64 (k : Int) ∧ ws = w4.drewN q) (fun _ _ i _ => 4 - (intOf i).toNat)
  case atStart => exact ⟨0, 0, Nat.zero_le _, by rw [HZ.out.2]; rfl, by rw [HZ.out.1]; rfl, rfl, rfl⟩
  case round =>
    obtain ⟨k, q, hk4, rfl, rfl, rfl, rfl⟩ := hrel
    by_cases hlt : k < 4
    · obtain ⟨p1, p2⟩ := HR1.out k hlt
      obtain ⟨p3, p4⟩ := HR2.out k hlt
      obtain ⟨t1, t2, t3, t4, t5, t6⟩ := HTL.out k hlt
      have hfl := HFL.out k hlt
      obtain ⟨hk1, hu1⟩ := HLE.out k hk4
      obtain ⟨hk2, hu2⟩ := HLE.out (k + 1) (by omega)
      have HEX : Hid ((ByteArray.mk (d.F k).toArray).extract 0 (e1.F k).length = ByteArray.mk (e1.F k).toArray) := by
        show _ = _
        apply ByteArray.ext
        apply Array.ext'
        rw [extract_data, mk_data, mk_data, List.drop_zero, Nat.sub_zero, t2]
      rw [t4] at p4
      have hzy := strV_size (d.F k)
      have hzz := strV_size (e1.F k)
      rw [← hzz] at t1 t3 t5 p4 HEX
      rw [← hzy] at t1 t6 hfl
      generalize ByteArray.mk (d.F k).toArray = y at *
      generalize ByteArray.mk (e1.F k).toArray = z at *
      clear t2 t4 hzy hzz
      generalize d.S k = S0 at *
      have HK1 : Hid ((KT (k + 1) : Int) = (KT k : Int) + (z.size : Int) - (S0 : Int)) := by show _ = _; omega
      have HU1 : Hid ((UT (k + 1) : Int) = (UT k : Int) + (y.size : Int) - (S0 : Int)) := by show _ = _; omega
      have hkz : KT k + z.size ≤ 9000000 := by omega
      have huz : UT k + y.size ≤ 9000000 := by omega
      have hkz2 : S0 ≤ KT k + z.size := by omega
      have huz2 : S0 ≤ UT k + y.size := by omega
      clear t5 t6 hk2 hu2 HR1 HR2 HTL HFL HLE HD4 HOK1 HOK2 HE2 HTW HKA HKP HAG HZ HB4 HG2 HOK HE1
      generalize KT k = K0 at *
      generalize UT k = U0 at *
      have j4 : (k : Int) < 4 := by omega
      have c1 : decide ((y.size : Int) < (z.size : Int)) = false := by simp; omega
      have c2 : decide (y.size < z.size) = false := by simp; omega
      have c3 : decide ((z.size : Int) < (S0 : Int)) = false := by simp; omega
      have c4 : decide (z.size < S0) = false := by simp; omega
      have c5 : ((y.extract 0 z.size).toList == z.toList) = true := by rw [HEX.out]; simp
      have c6 : ((y.extract 0 z.size).toList != z.toList) = false := by rw [HEX.out]; simp
      have c7 : (z.size : Int) ≤ (y.size : Int) := by omega
      go_wp2_with fail
      go_quiet (fail)
      go_wp2_with fail
      go_quiet (fail)
      go_wp2
      exact ⟨⟨k + 1, _, by omega, by rw [HU1.out], by rw [HK1.out], by go_num, rfl⟩, by simp [intOf]; omega⟩
    · obtain rfl : k = 4 := by omega
      obtain ⟨hk1, hu1⟩ := HLE.out 4 (by omega)
      have hka := HKA.out
      obtain ⟨hkp1, hkp2⟩ := HKP.out
      clear HR1 HTL HFL HLE HZ HOK HE1 HKA
      generalize KT 4 = K0 at *
      generalize UT 4 = U0 at *
      have CK2 : Hid (∀ q, Calls Try.prog 19 #[.pointer (some ⟨b, 0, none⟩), .int .i64 again] (w4.drewN q) fun e w' => e = .returned (.tuple #[]) ∧ DIn (fun k => k < w.heap.size ∨ k = g2) w4 b e2 w') := fun q => by
        rw [HE2.out]
        exact crash_all again HAG.out (din_drewN HD4.out ⟨q, rfl⟩) HOK1.out
      clear HD4 HAG HE2 HOK1
      have hka2 : ((K0 : Int) != (if (U0 : Int) < (if keep < 0 then 0 else keep) then (U0 : Int) else if keep < 0 then 0 else keep)) = false := by
        simp only [bne_eq_false_iff_eq]
        rw [hka]
        repeat' split
        all_goals omega
      clear hka
      go_wp2_with fail
      all_goals (
        refine (CK2.out q).mono ?_
        rintro e w5 ⟨rfl, hD5⟩
        have CF3 : Hid (Calls Try.prog 18 #[.pointer (some ⟨b, 0, none⟩)] w5 fun e w' => ∃ g c, e = .returned (.tuple #[.slice (some ⟨g, 0, none⟩) 4 c, .bool true]) ∧ g < w'.heap.size ∧ (∀ i, i < 4 → w'.cell? ⟨g, i * 2, none⟩ = some (.string ⟨(e2.F i).toArray⟩) ∧ w'.cell? ⟨g, i * 2 + 1, none⟩ = some (.int .i64 (e2.S i : Int))) ∧
            DIn (fun k => k < w.heap.size ∨ k = g) w' b e2 w' ∧ Below w.heap.size w w' ∧ ∀ g1' j, (g1' < w.heap.size ∨ g1' = g2) → g1' < w4.heap.size → w'.cell? ⟨g1', j, none⟩ = w4.cell? ⟨g1', j, none⟩) := files_row (B := w.heap.size) (w := w) (fun k h => Or.inl h) HB4.out.size HB4.out hD5 HOK2.out
        clear hD5 CK2 hka2 HOK2
        go_wp2_with fail
        refine CF3.out.mono ?_
        rintro e w6 ⟨g3, cp3, rfl, hg3, hrow3, hD6, hb6, hold⟩
        have HS2 : Hid (∀ i, i < 4 → w6.cell? ⟨g2, i * 2, none⟩ = some (.string ⟨(e1.F i).toArray⟩) ∧ w6.cell? ⟨g2, i * 2 + 1, none⟩ = some (.int .i64 (e1.S i : Int))) := fun i hi => by
          rw [hold g2 _ (Or.inr rfl) HG2.out, hold g2 _ (Or.inr rfl) HG2.out]
          exact HR2.out i hi
        have HS3 : Hid (∀ i, i < 4 → w6.cell? ⟨g3, i * 2, none⟩ = some (.string ⟨(e1.F i).toArray⟩) ∧ w6.cell? ⟨g3, i * 2 + 1, none⟩ = some (.int .i64 (e1.S i : Int))) := fun i hi => by
          have h1 := hrow3 i hi
          rw [(HTW.out i hi).1, (HTW.out i hi).2] at h1
          exact h1
        have HB6 : Hid (Below w.heap.size w w6) := hb6
        clear hg3 hrow3 hD6 hb6 hold CF3 HR2 HTW HG2 HB4
        go_wp2_with fail
        go_loopw [19, 20] (fun a i ws => ∃ k q : Nat, k ≤ 4 ∧ a = .bool true ∧ i = .int .i64 (k : Int) ∧ ws = w6.drewN q) (fun _ i _ => 4 - (intOf i).toNat)
        case atStart => exact ⟨0, 0, Nat.zero_le _, rfl, rfl, rfl⟩
        case round =>
          obtain ⟨i, q2, hi4, rfl, rfl, rfl⟩ := hrel
          by_cases hlt2 : i < 4
          · obtain ⟨p1, p2⟩ := HS2.out i hlt2
            obtain ⟨p3, p4⟩ := HS3.out i hlt2
            have j4 : (i : Int) < 4 := by omega
            generalize ByteArray.mk (e1.F i).toArray = y at *
            generalize e1.S i = S0 at *
            clear HS2 HS3 HB6
            go_wp2_with fail
            go_quiet (fail)
            go_wp2
            exact ⟨⟨i + 1, _, by omega, rfl, by go_num, rfl⟩, by simp [intOf]; omega⟩
          · obtain rfl : i = 4 := by omega
            have HB : Hid (Below w.heap.size w (w6.drewN q2)) := below_drewN HB6.out q2
            clear HS2 HS3 HB6
            go_wp2
            go_ret
            exact ⟨rfl, HB.out⟩)
end Go.Proofs.Ytnemnkmogbnjcaa
