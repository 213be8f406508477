/- The walk of the law DiskRoom. -/
import Derived.Test.YtnemnkmogbnjcaaPlaysW
import Derived.Test.YtnemnkmogbnjcaaRMath
set_option linter.unusedVariables false
namespace Go.Proofs.Ytnemnkmogbnjcaa
open Go.RowKit
open DiskMath

set_option maxRecDepth 100000 in
set_option maxHeartbeats 2000000 in
theorem diskRoom_walk (r : Int) (hr : -9223372036854775808 ≤ r ∧ r ≤ 9223372036854775807) (v : Value) (l : List DiskMath.Op) (hl : l.length ≤ 140737488355328) (hok : ∀ o ∈ l, OpOk o) (op : DiskMath.Op) (hop : OpOk op) (w : World) (hO : ORow w v l) :
    Calls Try.prog 7 #[.int .i64 r, v, .agg #[.int .i64 op.Do, .int .i64 op.C, .int .i64 op.File, .int .i64 op.N, .string op.S]] w fun e w' => e = .returned (.bool true) ∧ Below w.heap.size w w' := by
  obtain ⟨vao, vlen, vcap, rfl⟩ : ∃ ao n cap, v = .slice ao n cap := by
    obtain ⟨ao, cap, h, _⟩ := hO
    exact ⟨ao, _, cap, h⟩
  obtain ⟨Do, C, File, N, S⟩ := op
  obtain ⟨_, _, hFi, hN, hS⟩ := hop
  simp only at hFi hN hS ⊢
  obtain ⟨w0, hw0⟩ : ∃ w0, w0 = w.alloc (.cells #[.int .i64 Do, .int .i64 C, .int .i64 File, .int .i64 N, .string S] 38) := ⟨_, rfl⟩
  have HW0 : Hid (w0 = w.alloc (.cells #[.int .i64 Do, .int .i64 C, .int .i64 File, .int .i64 N, .string S] 38)) := hw0
  have hb0 : Below w.heap.size w w0 := by rw [hw0]; exact (Below.refl _ _).alloc (Nat.le_refl _) _
  have hs0 : w.heap.size < w0.heap.size := by rw [hw0]; simp
  have k2 : w0.cell? ⟨w.heap.size, 2, none⟩ = some (.int .i64 File) := by rw [hw0]; simp
  have k3 : w0.cell? ⟨w.heap.size, 3, none⟩ = some (.int .i64 N) := by rw [hw0]; simp
  have k4 : w0.cell? ⟨w.heap.size, 4, none⟩ = some (.string S) := by rw [hw0]; simp
  obtain ⟨T, hT⟩ : ∃ T : Nat → Prop, T = fun k => k < w0.heap.size := ⟨_, rfl⟩
  have HC : Hid (∀ b dd w1, DIn T w0 b dd w1 → w1.cell? ⟨w.heap.size, 2, none⟩ = some (.int .i64 File) ∧ w1.cell? ⟨w.heap.size, 3, none⟩ = some (.int .i64 N) ∧ w1.cell? ⟨w.heap.size, 4, none⟩ = some (.string S)) := by
    intro b dd w1 hD
    rw [hT] at hD
    have hb := below_of_din hD (Nat.le_refl _)
    exact ⟨(hb.cell (p := ⟨w.heap.size, 2, none⟩) hs0).trans k2, (hb.cell (p := ⟨w.heap.size, 3, none⟩) hs0).trans k3, (hb.cell (p := ⟨w.heap.size, 4, none⟩) hs0).trans k4⟩
  have HBW : Hid (∀ b dd w1, DIn T w0 b dd w1 → Below w.heap.size w w1) := by
    intro b dd w1 hD
    rw [hT] at hD
    have hb := below_of_din hD (Nat.le_refl _)
    exact hb0.trans (hb.mono hb0.size)
  have hf := pick_lt File 4 (by decide)
  have hp := pick_lt r 200 (by decide)
  have okd : Ok (run (bd (3 + pick r 200)) l) := ok_run _ _ (ok_bd _ (by omega) (by omega))
  have C0 : Hid (Calls Try.prog 17 #[.int .i64 r, .slice vao vlen vcap] w0 fun e w' => ∃ b, e = .returned (.pointer (some ⟨b, 0, none⟩)) ∧ DIn T w0 b (run (bd (3 + pick r 200)) l) w') := by
    rw [hT]
    exact plays_any r hr _ l hl hok w0 (orow_below hO hb0)
  have C1 : Hid (∀ w, Calls Try.prog 13 #[.int .i64 File, .int .i64 4] w fun e w' => e = .returned (.int .i64 (pick File 4 : Int)) ∧ w' = w) := fun w => pick_any File 4 (by decide) (by decide) hFi w
  obtain ⟨d, hd⟩ : ∃ d, d = run (bd (3 + pick r 200)) l := ⟨_, rfl⟩
  rw [← hd] at C0 okd
  obtain ⟨f, hfe⟩ : ∃ f, f = pick File 4 := ⟨_, rfl⟩
  rw [← hfe] at C1 hf
  clear hd hfe hp hok hO hl hb0 hs0 k2 k3 k4 hT hw0
  have hlf : (d.F f).length ≤ 1048576 := by
    have h1 := file_le d f hf
    have h2 := okd.room
    have h3 := okd.most
    omega
  have CR1 : Hid (∀ w1 b, DIn T w0 b d w1 → Calls Try.prog 21 #[.pointer (some ⟨b, 0, none⟩), .int .i64 (f : Int)] w1 fun e w' => e = .returned (.tuple #[.string ⟨(d.F f).toArray⟩, .int .i64 0]) ∧ DIn T w0 b d w') := fun w1 b hD => read_all f hf hD okd
  have CU1 : Hid (∀ w1 b, DIn T w0 b d w1 → Calls Try.prog 23 #[.pointer (some ⟨b, 0, none⟩)] w1 fun e w' => e = .returned (.int .i64 (used d : Int)) ∧ w' = w1) := fun w1 b hD => used_all hD okd
  have QM1 : Hid (∀ w1 b, DIn T w0 b d w1 → ∀ q, Calls Try.prog 24 #[.pointer (some ⟨b, 0, none⟩)] (w1.drewN q) fun e w' => e = .returned (.int .i64 (d.R : Int)) ∧ w' = w1.drewN q) := fun w1 b hD q => room_all (din_drewN hD ⟨q, rfl⟩)
  have hru := okd.room
  have hrm := okd.most
  generalize hud : used d = ud at *
  generalize hrr : d.R = rr at *
  have hge1 : decide ((rr : Int) < (ud : Int)) = false := by simp; omega
  have hge2 : decide ((ud : Int) < 0) = false := by simp
  have hge3 : decide (rr < ud) = false := by simp; omega
  by_cases hfit : ud + S.size ≤ rr
  · -- it fits
    have g1 : (S.size : Int) ≤ (rr : Int) - (ud : Int) := by omega
    have had : aApp d (f : Int) S.data.toList = (app d f S.data.toList, 0) := by
      unfold aApp
      rw [if_neg (show ¬ bad (f : Int) by unfold bad; omega), size_data, if_neg (by omega)]
      rfl
    obtain ⟨d2, hd2⟩ : ∃ d2, d2 = app d f S.data.toList := ⟨_, rfl⟩
    have ok2 : Ok d2 := by rw [hd2]; exact ok_app d f _ okd hf (by rw [size_data]; omega)
    have hu2 : used d2 = ud + S.size := by rw [hd2, used_app d f hf, size_data, hud]
    have hr2 : d2.R = rr := by rw [hd2]; exact hrr
    have ht2 : ByteArray.mk (d2.F f).toArray = ByteArray.mk (d.F f).toArray ++ S := by
      rw [hd2]
      rw [app_F]; apply ByteArray.ext; simp [ByteArray.data_append]
    have CA : Hid (∀ w1 b, DIn T w0 b d w1 → Calls Try.prog 22 #[.pointer (some ⟨b, 0, none⟩), .int .i64 (f : Int), .string S] w1 fun e w' => e = .returned (.int .i64 0) ∧ DIn T w0 b d2 w') := fun w1 b hD => by
      have := append_all (f : Int) S (by omega) hD okd
      rw [had, ← hd2] at this
      exact this
    have hl2 : (d2.F f).length ≤ 1048576 := by
      have h1 := file_le d2 f hf
      have h2 := ok2.room
      have h3 := ok2.most
      omega
    have hp2 := pick_lt N ((d2.F f).length + 1) (by omega)
    obtain ⟨n, hn⟩ : ∃ n, n = pick N ((d2.F f).length + 1) := ⟨_, rfl⟩
    have CP : Hid (∀ w, Calls Try.prog 13 #[.int .i64 N, .int .i64 (((ByteArray.mk (d2.F f).toArray).size : Int) + 1)] w fun e w' => e = .returned (.int .i64 (n : Int)) ∧ w' = w) := fun w => by
      have := pick_any N ((d2.F f).length + 1) (by omega) (by omega) hN w
      rw [strV_size, hn]
      exact this
    rw [← hn] at hp2
    have hnl : n ≤ (d2.F f).length := by omega
    have ok3 := ok_cut d2 f n ok2 hf hnl
    have hu3 := used_cut d2 f hf n hnl
    have hF3 := cut_F d2 f n
    have hcd : aCut d2 (f : Int) (n : Int) = (cut d2 f n, 0) := by
      unfold aCut
      rw [if_neg (show ¬ bad (f : Int) by unfold bad; omega), if_neg (by simp; omega)]
      rfl
    have CC : Hid (∀ w1 b, DIn T w0 b d2 w1 → Calls Try.prog 25 #[.pointer (some ⟨b, 0, none⟩), .int .i64 (f : Int), .int .i64 (n : Int)] w1 fun e w' => e = .returned (.int .i64 0) ∧ DIn T w0 b (cut d2 f n) w') := fun w1 b hD => by
      have := cut_all (f : Int) (n : Int) hD ok2
      rw [hcd] at this
      exact this
    obtain ⟨d3, hd3⟩ : ∃ d3, d3 = cut d2 f n := ⟨_, rfl⟩
    rw [← hd3] at CC ok3 hu3 hF3
    have CR2 : Hid (∀ w1 b, DIn T w0 b d2 w1 → Calls Try.prog 21 #[.pointer (some ⟨b, 0, none⟩), .int .i64 (f : Int)] w1 fun e w' => e = .returned (.tuple #[.string ⟨(d2.F f).toArray⟩, .int .i64 0]) ∧ DIn T w0 b d2 w') := fun w1 b hD => read_all f hf hD ok2
    have CR3 : Hid (∀ w1 b, DIn T w0 b d3 w1 → Calls Try.prog 21 #[.pointer (some ⟨b, 0, none⟩), .int .i64 (f : Int)] w1 fun e w' => e = .returned (.tuple #[.string ((ByteArray.mk (d2.F f).toArray).extract 0 n), .int .i64 0]) ∧ DIn T w0 b d3 w') := fun w1 b hD => by
      have := read_all f hf hD ok3
      rw [show ByteArray.mk (d3.F f).toArray = (ByteArray.mk (d2.F f).toArray).extract 0 n from by
        apply ByteArray.ext; apply Array.ext'
        rw [extract_data, mk_data, mk_data, hF3, List.drop_zero, Nat.sub_zero]] at this
      exact this
    have QU2 : Hid (∀ w1 b, DIn T w0 b d2 w1 → ∀ q, Calls Try.prog 23 #[.pointer (some ⟨b, 0, none⟩)] (w1.drewN q) fun e w' => e = .returned (.int .i64 (used d2 : Int)) ∧ w' = w1.drewN q) := fun w1 b hD q => used_all (din_drewN hD ⟨q, rfl⟩) ok2
    have QM2 : Hid (∀ w1 b, DIn T w0 b d2 w1 → ∀ q, Calls Try.prog 24 #[.pointer (some ⟨b, 0, none⟩)] (w1.drewN q) fun e w' => e = .returned (.int .i64 (rr : Int)) ∧ w' = w1.drewN q) := fun w1 b hD q => by
      have := room_all (din_drewN hD ⟨q, rfl⟩)
      rw [hr2] at this
      exact this
    have CU2 : Hid (∀ w1 b, DIn T w0 b d2 w1 → Calls Try.prog 23 #[.pointer (some ⟨b, 0, none⟩)] w1 fun e w' => e = .returned (.int .i64 (used d2 : Int)) ∧ w' = w1) := fun w1 b hD => used_all hD ok2
    have CU3 : Hid (∀ w1 b, DIn T w0 b d3 w1 → Calls Try.prog 23 #[.pointer (some ⟨b, 0, none⟩)] w1 fun e w' => e = .returned (.int .i64 (used d3 : Int)) ∧ w' = w1) := fun w1 b hD => used_all hD ok3
    rw [hu2, Int.natCast_add] at QU2 CU2
    have hz2 := strV_size (d2.F f)
    have HU3 : Hid ((used d3 : Int) = ((ud : Int) + (S.size : Int)) - ((ByteArray.mk (d2.F f).toArray).size : Int) + (n : Int)) := by show _ = _; omega
    have hnz : (n : Int) ≤ ((ByteArray.mk (d2.F f).toArray).size : Int) := by omega
    have htz : (ByteArray.mk (d2.F f).toArray).size ≤ 1048576 := by omega
    rw [ht2] at CR2 CR3 CP HU3 hnz htz
    have hub : used d3 ≤ 1048576 := by
      have h2 := ok3.room
      have h3 := ok3.most
      omega
    have hu2b : used d2 ≤ 1048576 := by
      have h2 := ok2.room
      have h3 := ok2.most
      omega
    rw [hu2] at hu2b
    generalize used d3 = u3 at *
    clear had hn hcd hu3 hF3 hl2 hp2 hnl ok2 ok3 hu2 hr2 ht2 hz2 hd2 hd3 okd hud hrr
    have hfz : (ByteArray.mk (d.F f).toArray).size ≤ 1048576 := by rw [strV_size]; exact hlf
    generalize ByteArray.mk (d.F f).toArray = sb at *
    clear hlf
    rw [ByteArray.size_append, Int.natCast_add] at CP HU3 hnz
    rw [ByteArray.size_append] at htz
    go_enter Try.func7, Try.ntmps7
    go_wp2_with fail
    rw [← HW0.out]
    refine C0.out.mono ?_
    rintro e w1 ⟨b, rfl, hD1⟩
    have HD1 : Hid (DIn T w0 b d w1) := hD1
    obtain ⟨a2, a3, a4⟩ := HC.out _ _ _ hD1
    clear hD1 C0
    go_wp2_with fail
    refine (C1.out _).mono ?_
    rintro e w1' ⟨rfl, hw⟩
    rw [hw]; clear hw w1' C1
    go_wp2_with fail
    refine (CR1.out _ _ HD1.out).mono ?_
    rintro e w2 ⟨rfl, hD2⟩
    have HD2 : Hid (DIn T w0 b d w2) := hD2
    clear a2 a3 a4 HD1
    obtain ⟨a2, a3, a4⟩ := HC.out _ _ _ hD2
    clear hD2
    go_wp2_with fail
    refine (CU1.out _ _ HD2.out).mono ?_
    rintro e w2' ⟨rfl, hw⟩
    rw [hw]; clear hw w2'
    go_wp2_with fail
    go_quiet (exact Calls.quiet_of_same (QM1.out _ _ HD2.out _))
    go_wp2_with fail
    refine (CA.out _ _ (din_drewN HD2.out ⟨_, rfl⟩)).mono ?_
    rintro e w4 ⟨rfl, hD4⟩
    have HD4 : Hid (DIn T w0 b d2 w4) := hD4
    clear a2 a3 a4 HD2
    obtain ⟨a2, a3, a4⟩ := HC.out _ _ _ hD4
    clear hD4
    go_wp2_with fail
    go_quiet (first | (go_at_call 24; exact Calls.quiet_of_same (QM2.out _ _ HD4.out _)) | (go_at_call 23; exact Calls.quiet_of_same (QU2.out _ _ HD4.out _)))
    go_wp2_with fail
    refine (CR2.out _ _ (din_drewN HD4.out ⟨_, rfl⟩)).mono ?_
    rintro e w6 ⟨rfl, hD6⟩
    have HD6 : Hid (DIn T w0 b d2 w6) := hD6
    clear a2 a3 a4 HD4
    obtain ⟨a2, a3, a4⟩ := HC.out _ _ _ hD6
    clear hD6
    go_wp2_with fail
    refine (CP.out _).mono ?_
    rintro e w6' ⟨rfl, hw⟩
    rw [hw]; clear hw w6'
    go_wp2_with fail
    refine (CU2.out _ _ HD6.out).mono ?_
    rintro e w6' ⟨rfl, hw⟩
    rw [hw]; clear hw w6'
    go_wp2_with fail
    refine (CC.out _ _ HD6.out).mono ?_
    rintro e w7 ⟨rfl, hD7⟩
    have HD7 : Hid (DIn T w0 b d3 w7) := hD7
    clear hD7 HD6 a2 a3 a4
    go_wp2_with fail
    refine (CR3.out _ _ HD7.out).mono ?_
    rintro e w8 ⟨rfl, hD8⟩
    have HD8 : Hid (DIn T w0 b d3 w8) := hD8
    clear hD8 HD7
    go_wp2_with fail
    refine (CU3.out _ _ HD8.out).mono ?_
    rintro e w8' ⟨rfl, hw⟩
    rw [hw]; clear hw w8'
    have HB := HBW.out _ _ _ HD8.out
    rw [HU3.out]
    clear HD8 HU3
    go_wp2
    go_ret
    exact ⟨rfl, HB⟩
  · -- it does not fit
    have g1 : decide ((S.size : Int) ≤ (rr : Int) - (ud : Int)) = false := by simp; omega
    have had : aApp d (f : Int) S.data.toList = (d, 41) := by
      unfold aApp
      rw [if_neg (show ¬ bad (f : Int) by unfold bad; omega), size_data, if_pos (by omega)]
      
    obtain ⟨d2, hd2⟩ : ∃ d2, d2 = d := ⟨_, rfl⟩
    have ok2 : Ok d2 := by rw [hd2]; exact okd
    have hu2 : used d2 = ud := by rw [hd2, hud]
    have hr2 : d2.R = rr := by rw [hd2]; exact hrr
    have ht2 : ByteArray.mk (d2.F f).toArray = ByteArray.mk (d.F f).toArray := by
      rw [hd2]
      
    have CA : Hid (∀ w1 b, DIn T w0 b d w1 → Calls Try.prog 22 #[.pointer (some ⟨b, 0, none⟩), .int .i64 (f : Int), .string S] w1 fun e w' => e = .returned (.int .i64 41) ∧ DIn T w0 b d2 w') := fun w1 b hD => by
      have := append_all (f : Int) S (by omega) hD okd
      rw [had, ← hd2] at this
      exact this
    have hl2 : (d2.F f).length ≤ 1048576 := by
      have h1 := file_le d2 f hf
      have h2 := ok2.room
      have h3 := ok2.most
      omega
    have hp2 := pick_lt N ((d2.F f).length + 1) (by omega)
    obtain ⟨n, hn⟩ : ∃ n, n = pick N ((d2.F f).length + 1) := ⟨_, rfl⟩
    have CP : Hid (∀ w, Calls Try.prog 13 #[.int .i64 N, .int .i64 (((ByteArray.mk (d2.F f).toArray).size : Int) + 1)] w fun e w' => e = .returned (.int .i64 (n : Int)) ∧ w' = w) := fun w => by
      have := pick_any N ((d2.F f).length + 1) (by omega) (by omega) hN w
      rw [strV_size, hn]
      exact this
    rw [← hn] at hp2
    have hnl : n ≤ (d2.F f).length := by omega
    have ok3 := ok_cut d2 f n ok2 hf hnl
    have hu3 := used_cut d2 f hf n hnl
    have hF3 := cut_F d2 f n
    have hcd : aCut d2 (f : Int) (n : Int) = (cut d2 f n, 0) := by
      unfold aCut
      rw [if_neg (show ¬ bad (f : Int) by unfold bad; omega), if_neg (by simp; omega)]
      rfl
    have CC : Hid (∀ w1 b, DIn T w0 b d2 w1 → Calls Try.prog 25 #[.pointer (some ⟨b, 0, none⟩), .int .i64 (f : Int), .int .i64 (n : Int)] w1 fun e w' => e = .returned (.int .i64 0) ∧ DIn T w0 b (cut d2 f n) w') := fun w1 b hD => by
      have := cut_all (f : Int) (n : Int) hD ok2
      rw [hcd] at this
      exact this
    obtain ⟨d3, hd3⟩ : ∃ d3, d3 = cut d2 f n := ⟨_, rfl⟩
    rw [← hd3] at CC ok3 hu3 hF3
    have CR2 : Hid (∀ w1 b, DIn T w0 b d2 w1 → Calls Try.prog 21 #[.pointer (some ⟨b, 0, none⟩), .int .i64 (f : Int)] w1 fun e w' => e = .returned (.tuple #[.string ⟨(d2.F f).toArray⟩, .int .i64 0]) ∧ DIn T w0 b d2 w') := fun w1 b hD => read_all f hf hD ok2
    have CR3 : Hid (∀ w1 b, DIn T w0 b d3 w1 → Calls Try.prog 21 #[.pointer (some ⟨b, 0, none⟩), .int .i64 (f : Int)] w1 fun e w' => e = .returned (.tuple #[.string ((ByteArray.mk (d2.F f).toArray).extract 0 n), .int .i64 0]) ∧ DIn T w0 b d3 w') := fun w1 b hD => by
      have := read_all f hf hD ok3
      rw [show ByteArray.mk (d3.F f).toArray = (ByteArray.mk (d2.F f).toArray).extract 0 n from by
        apply ByteArray.ext; apply Array.ext'
        rw [extract_data, mk_data, mk_data, hF3, List.drop_zero, Nat.sub_zero]] at this
      exact this
    have QU2 : Hid (∀ w1 b, DIn T w0 b d2 w1 → ∀ q, Calls Try.prog 23 #[.pointer (some ⟨b, 0, none⟩)] (w1.drewN q) fun e w' => e = .returned (.int .i64 (used d2 : Int)) ∧ w' = w1.drewN q) := fun w1 b hD q => used_all (din_drewN hD ⟨q, rfl⟩) ok2
    have QM2 : Hid (∀ w1 b, DIn T w0 b d2 w1 → ∀ q, Calls Try.prog 24 #[.pointer (some ⟨b, 0, none⟩)] (w1.drewN q) fun e w' => e = .returned (.int .i64 (rr : Int)) ∧ w' = w1.drewN q) := fun w1 b hD q => by
      have := room_all (din_drewN hD ⟨q, rfl⟩)
      rw [hr2] at this
      exact this
    have CU2 : Hid (∀ w1 b, DIn T w0 b d2 w1 → Calls Try.prog 23 #[.pointer (some ⟨b, 0, none⟩)] w1 fun e w' => e = .returned (.int .i64 (used d2 : Int)) ∧ w' = w1) := fun w1 b hD => used_all hD ok2
    have CU3 : Hid (∀ w1 b, DIn T w0 b d3 w1 → Calls Try.prog 23 #[.pointer (some ⟨b, 0, none⟩)] w1 fun e w' => e = .returned (.int .i64 (used d3 : Int)) ∧ w' = w1) := fun w1 b hD => used_all hD ok3
    rw [hu2] at QU2 CU2
    have hz2 := strV_size (d2.F f)
    have HU3 : Hid ((used d3 : Int) = ((ud : Int)) - ((ByteArray.mk (d2.F f).toArray).size : Int) + (n : Int)) := by show _ = _; omega
    have hnz : (n : Int) ≤ ((ByteArray.mk (d2.F f).toArray).size : Int) := by omega
    have htz : (ByteArray.mk (d2.F f).toArray).size ≤ 1048576 := by omega
    rw [ht2] at CR2 CR3 CP HU3 hnz htz
    have hub : used d3 ≤ 1048576 := by
      have h2 := ok3.room
      have h3 := ok3.most
      omega
    have hu2b : used d2 ≤ 1048576 := by
      have h2 := ok2.room
      have h3 := ok2.most
      omega
    rw [hu2] at hu2b
    generalize used d3 = u3 at *
    clear had hn hcd hu3 hF3 hl2 hp2 hnl ok2 ok3 hu2 hr2 ht2 hz2 hd2 hd3 okd hud hrr
    have hfz : (ByteArray.mk (d.F f).toArray).size ≤ 1048576 := by rw [strV_size]; exact hlf
    generalize ByteArray.mk (d.F f).toArray = sb at *
    clear hlf
    go_enter Try.func7, Try.ntmps7
    go_wp2_with fail
    rw [← HW0.out]
    refine C0.out.mono ?_
    rintro e w1 ⟨b, rfl, hD1⟩
    have HD1 : Hid (DIn T w0 b d w1) := hD1
    obtain ⟨a2, a3, a4⟩ := HC.out _ _ _ hD1
    clear hD1 C0
    go_wp2_with fail
    refine (C1.out _).mono ?_
    rintro e w1' ⟨rfl, hw⟩
    rw [hw]; clear hw w1' C1
    go_wp2_with fail
    refine (CR1.out _ _ HD1.out).mono ?_
    rintro e w2 ⟨rfl, hD2⟩
    have HD2 : Hid (DIn T w0 b d w2) := hD2
    clear a2 a3 a4 HD1
    obtain ⟨a2, a3, a4⟩ := HC.out _ _ _ hD2
    clear hD2
    go_wp2_with fail
    refine (CU1.out _ _ HD2.out).mono ?_
    rintro e w2' ⟨rfl, hw⟩
    rw [hw]; clear hw w2'
    go_wp2_with fail
    go_quiet (exact Calls.quiet_of_same (QM1.out _ _ HD2.out _))
    go_wp2_with fail
    refine (CA.out _ _ (din_drewN HD2.out ⟨_, rfl⟩)).mono ?_
    rintro e w4 ⟨rfl, hD4⟩
    have HD4 : Hid (DIn T w0 b d2 w4) := hD4
    clear a2 a3 a4 HD2
    obtain ⟨a2, a3, a4⟩ := HC.out _ _ _ hD4
    clear hD4
    go_wp2_with fail
    go_quiet (first | (go_at_call 24; exact Calls.quiet_of_same (QM2.out _ _ HD4.out _)) | (go_at_call 23; exact Calls.quiet_of_same (QU2.out _ _ HD4.out _)))
    go_wp2_with fail
    refine (CR2.out _ _ (din_drewN HD4.out ⟨_, rfl⟩)).mono ?_
    rintro e w6 ⟨rfl, hD6⟩
    have HD6 : Hid (DIn T w0 b d2 w6) := hD6
    clear a2 a3 a4 HD4
    obtain ⟨a2, a3, a4⟩ := HC.out _ _ _ hD6
    clear hD6
    go_wp2_with fail
    refine (CP.out _).mono ?_
    rintro e w6' ⟨rfl, hw⟩
    rw [hw]; clear hw w6'
    go_wp2_with fail
    refine (CU2.out _ _ HD6.out).mono ?_
    rintro e w6' ⟨rfl, hw⟩
    rw [hw]; clear hw w6'
    go_wp2_with fail
    refine (CC.out _ _ HD6.out).mono ?_
    rintro e w7 ⟨rfl, hD7⟩
    have HD7 : Hid (DIn T w0 b d3 w7) := hD7
    clear hD7 HD6 a2 a3 a4
    go_wp2_with fail
    refine (CR3.out _ _ HD7.out).mono ?_
    rintro e w8 ⟨rfl, hD8⟩
    have HD8 : Hid (DIn T w0 b d3 w8) := hD8
    clear hD8 HD7
    go_wp2_with fail
    refine (CU3.out _ _ HD8.out).mono ?_
    rintro e w8' ⟨rfl, hw⟩
    rw [hw]; clear hw w8'
    have HB := HBW.out _ _ _ HD8.out
    rw [HU3.out]
    clear HD8 HU3
    go_wp2
    go_ret
    exact ⟨rfl, HB⟩
end Go.Proofs.Ytnemnkmogbnjcaa
