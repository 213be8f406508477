/- The walk of the law DiskSafe. -/
import Derived.Test.YtnemnkmogbnjcaaPlaysW
import Derived.Test.YtnemnkmogbnjcaaSMath
import Derived.Deep.RegionWith
set_option linter.unusedVariables false
namespace Go.Proofs.Ytnemnkmogbnjcaa
open Go.RowKit
open DiskMath

set_option maxRecDepth 100000 in
set_option maxHeartbeats 8000000 in
theorem diskSafe_walk (r : Int) (hr : -9223372036854775808 ≤ r ∧ r ≤ 9223372036854775807) (v : Value) (l : List DiskMath.Op) (hl : l.length ≤ 140737488355328) (hok : ∀ o ∈ l, OpOk o) (nm : Int) (hnm : -9223372036854775808 ≤ nm ∧ nm ≤ 9223372036854775807)
    (v2 : Value) (l2 : List DiskMath.Op) (hl2 : l2.length ≤ 140737488355328) (hok2 : ∀ o ∈ l2, OpOk o) (w : World) (hO : ORow w v l) (hO2 : ORow w v2 l2) :
    Calls Try.prog 6 #[.int .i64 r, v, .int .i64 nm, v2] w fun e w' => e = .returned (.bool true) ∧ Below w.heap.size w w' := by
  obtain ⟨vao, vlen, vcap, rfl⟩ : ∃ ao n cap, v = .slice ao n cap := by
    obtain ⟨ao, cap, h, _⟩ := hO
    exact ⟨ao, _, cap, h⟩
  have hf := pick_lt nm 4 (by decide)
  have hp := pick_lt r 200 (by decide)
  have okd : Ok (run (bd (3 + pick r 200)) l) := ok_run _ _ (ok_bd _ (by omega) (by omega))
  have C0 : Hid (Calls Try.prog 17 #[.int .i64 r, .slice vao vlen vcap] w fun e w' => ∃ b, e = .returned (.pointer (some ⟨b, 0, none⟩)) ∧ DIn (fun k => k < w.heap.size) w b (run (bd (3 + pick r 200)) l) w') := plays_any r hr _ l hl hok w hO
  have C1 : Hid (∀ w, Calls Try.prog 13 #[.int .i64 nm, .int .i64 4] w fun e w' => e = .returned (.int .i64 (pick nm 4 : Int)) ∧ w' = w) := fun w => pick_any nm 4 (by decide) (by decide) hnm w
  obtain ⟨d, hd⟩ : ∃ d, d = run (bd (3 + pick r 200)) l := ⟨_, rfl⟩
  rw [← hd] at C0 okd
  obtain ⟨f, hfe⟩ : ∃ f, f = pick nm 4 := ⟨_, rfl⟩
  rw [← hfe] at C1 hf
  clear hd hfe hp hok hO hl
  have okd1 := ok_syn d f okd
  have hlen : ((syn d f).F f).length ≤ 1048576 := by
    have h1 := file_le (syn d f) f hf
    have h2 := okd1.room
    have h3 := okd1.most
    omega
  have CS : Hid (∀ w1 b, DIn (fun k => k < w.heap.size) w b d w1 → Calls Try.prog 20 #[.pointer (some ⟨b, 0, none⟩), .int .i64 (f : Int)] w1 fun e w' => e = .returned (.int .i64 0) ∧ DIn (fun k => k < w.heap.size) w b (syn d f) w') := fun w1 b hD => by
    have := sync_all (d := d) (f : Int) hD
    rw [show aSyn d (f : Int) = (syn d f, 0) by unfold aSyn; rw [if_neg (show ¬ bad (f : Int) by unfold bad; omega)]; rfl] at this
    exact this
  have CR : Hid (∀ dd, Ok dd → ∀ w1 b, DIn (fun k => k < w.heap.size) w b dd w1 → Calls Try.prog 21 #[.pointer (some ⟨b, 0, none⟩), .int .i64 (f : Int)] w1 fun e w' => e = .returned (.tuple #[.string ⟨(dd.F f).toArray⟩, .int .i64 0]) ∧ DIn (fun k => k < w.heap.size) w b dd w') := fun dd hdd w1 b hD => read_all f hf hD hdd
  have HPR : Hid (∀ k, Pre f ((syn d f).F f) (run3 (syn d f) (l2.take k))) := fun k => pre_run3 _ _ (pre_self d f)
  have HOKS : Hid (∀ k, Ok (run3 (syn d f) (l2.take k))) := fun k => ok_run3 _ _ okd1
  have HSN : Hid (∀ k, (h : k < l2.length) → run3 (syn d f) (l2.take (k + 1)) = act3 (run3 (syn d f) (l2.take k)) l2[k]) := fun k h => run3_snoc _ l2 k h
  obtain ⟨ao, cap, rfl, hrow⟩ := hO2
  have HR : Hid (∀ j, (h : j < l2.length) → ∃ g o, ao = some ⟨g, o, none⟩ ∧ g < w.heap.size ∧
    w.cell? ⟨g, o + j * 5, none⟩ = some (.int .i64 l2[j].Do) ∧ w.cell? ⟨g, o + j * 5 + 1, none⟩ = some (.int .i64 l2[j].C) ∧ w.cell? ⟨g, o + j * 5 + 2, none⟩ = some (.int .i64 l2[j].File) ∧
    w.cell? ⟨g, o + j * 5 + 3, none⟩ = some (.int .i64 l2[j].N) ∧ w.cell? ⟨g, o + j * 5 + 4, none⟩ = some (.string l2[j].S)) := hrow
  have HOK : Hid (∀ o ∈ l2, OpOk o) := hok2
  clear hrow hok2 okd
  have HOK1 : Hid (Ok (syn d f)) := okd1
  clear okd1
  generalize syn d f = d1 at *
  go_enter Try.func6, Try.ntmps6
  go_wp2_with fail
  refine C0.out.mono ?_
  rintro e w1 ⟨b, rfl, hD⟩
  have HD : Hid (DIn (fun k => k < w.heap.size) w b d w1) := hD
  clear hD C0
  go_wp2_with fail
  refine (C1.out _).mono ?_
  rintro e w2 ⟨rfl, hw⟩
  rw [hw]; clear hw w2 C1
  go_wp2_with fail
  refine (CS.out _ _ HD.out).mono ?_
  rintro e w2 ⟨rfl, hD2⟩
  have HD2 : Hid (DIn (fun k => k < w.heap.size) w b d1 w2) := hD2
  clear hD2 HD CS
  go_wp2_with fail
  refine (CR.out d1 HOK1.out _ _ HD2.out).mono ?_
  rintro e w3 ⟨rfl, hD3⟩
  have HD3 : Hid (DIn (fun k => k < w.heap.size) w b (run3 d1 (l2.take 0)) w3) := hD3
  clear hD3 HD2
  have hsz := strV_size (d1.F f)
  generalize hsb : ByteArray.mk (d1.F f).toArray = sb at *
  have HSB : Hid (ByteArray.mk (d1.F f).toArray = sb) := hsb
  rw [← hsz] at hlen
  have HSZ : Hid (sb.size = (d1.F f).length) := hsz
  clear hsb hsz
  go_wp2_with fail
  go_loopw [13] (fun i wr => ∃ k : Nat, k ≤ l2.length ∧ i = .int .i64 (k : Int) ∧ Hid (DIn (fun k => k < w.heap.size) w b (run3 d1 (l2.take k)) wr)) (fun i _ => l2.length - (intOf i).toNat)
  case atStart => exact ⟨0, Nat.zero_le _, rfl, HD3⟩
  case round =>
    obtain ⟨k, hk, rfl, HI⟩ := hrel
    clear HD3
    by_cases hlt : k < l2.length
    · obtain ⟨g, o, rfl, hgl, c0, c1, c2, c3, c4⟩ := HR.out k hlt
      have hwb := below_of_din HI.out (Nat.le_refl _)
      have cc : ∀ x, wr.cell? ⟨g, x, none⟩ = w.cell? ⟨g, x, none⟩ := fun x => hwb.cell (p := ⟨g, x, none⟩) hgl
      rw [← cc] at c0 c1 c2 c3 c4
      have hop := HOK.out _ (List.getElem_mem hlt)
      have HN := HSN.out k hlt
      have hkk := HOKS.out k
      generalize run3 d1 (l2.take k) = dk at *
      generalize hdn : run3 d1 (l2.take (k + 1)) = dn at *
      have HDN : Hid (run3 d1 (l2.take (k + 1)) = dn) := hdn
      clear hdn
      generalize l2[k] = op at *
      obtain ⟨⟨o1, o2⟩, _, ⟨o3, o4⟩, hN, hS⟩ := hop
      obtain ⟨Do, C, File, N, S⟩ := op
      simp only at c0 c1 c2 c3 c4 o1 o2 o3 o4 hN hS
      have i1 : (k : Int) < (l2.length : Int) := by omega
      have HKK : Hid (Ok dk) := hkk
      have HHN : Hid (-9223372036854775808 ≤ N ∧ N ≤ 9223372036854775807) := hN
      have HSS : Hid (S.size ≤ 140737488355328) := by show _ ≤ _; omega
      clear hwb cc HR HOK HSN HOKS HPR hkk hN CR
      by_cases z0 : Do = 0
      · subst z0
        have HN : Hid (dn = (aApp dk File S.data.toList).1) := by rw [HN]; rfl
        have HC : Hid (∀ q, Calls Try.prog 22 #[.pointer (some ⟨b, 0, none⟩), .int .i64 File, .string S] (wr.drewN q) fun e w' => ∃ e0, e = .returned (.int .i64 e0) ∧ Hid (DIn (fun k => k < w.heap.size) w b dn w')) := fun q =>
          (append_all File S HSS.out (din_drewN HI.out ⟨q, rfl⟩) HKK.out).mono fun e w' ⟨k1, k2⟩ => ⟨_, k1, by rw [HN.out]; exact k2⟩
        have HCd : Hid (Calls Try.prog 22 #[.pointer (some ⟨b, 0, none⟩), .int .i64 File, .string S] wr.drew fun e w' => ∃ e0, e = .returned (.int .i64 e0) ∧ Hid (DIn (fun k => k < w.heap.size) w b dn w')) := HC.out 1
        clear HC HI
        go_wp2_with fail
        go_region_with (go_at_call 22; refine HCd.out.mono ?_; rintro e w2 ⟨e0, rfl, HD2⟩)
        all_goals go_wp2
        all_goals exact ⟨⟨k + 1, by omega, by go_num, by rw [HDN.out]; assumption⟩, by simp [intOf]; omega⟩
      by_cases z1 : Do = 1
      · subst z1
        have HN : Hid (dn = (aSyn dk File).1) := by rw [HN]; rfl
        go_wp2_with fail
        refine (sync_all File HI.out).mono ?_
        rintro e w2 ⟨rfl, hD2⟩
        have HD2 : Hid (DIn (fun k => k < w.heap.size) w b dn w2) := by rw [HN.out]; exact hD2
        clear hD2 HN
        go_wp2
        exact ⟨⟨k + 1, by omega, by go_num, by rw [HDN.out]; exact HD2⟩, by simp [intOf]; omega⟩
      by_cases z5 : Do = 5
      · subst z5
        have HN : Hid (dn = crash dk N.toNat) := by rw [HN]; rfl
        go_wp2_with fail
        refine (crash_all N HHN.out HI.out HKK.out).mono ?_
        rintro e w2 ⟨rfl, hD2⟩
        have HD2 : Hid (DIn (fun k => k < w.heap.size) w b dn w2) := by rw [HN.out]; exact hD2
        clear hD2 HN
        go_wp2
        exact ⟨⟨k + 1, by omega, by go_num, by rw [HDN.out]; exact HD2⟩, by simp [intOf]; omega⟩
      · have HD2 : Hid (DIn (fun k => k < w.heap.size) w b dn wr) := by
          rw [show dn = dk by rw [HN]; unfold act3; rw [if_neg z0, if_neg z1, if_neg z5]]; exact HI.out
        clear HN HI
        go_wp2
        exact ⟨⟨k + 1, by omega, by go_num, by rw [HDN.out]; exact HD2⟩, by simp [intOf]; omega⟩
    · obtain rfl : k = l2.length := by omega
      have hpr := HPR.out l2.length
      have hko := HOKS.out l2.length
      rw [List.take_length] at HI hpr hko
      generalize run3 d1 l2 = dz at *
      have hle := pre_len hpr
      have hzz := strV_size (dz.F f)
      have hbz : (dz.F f).length ≤ 1048576 := by
        have h1 := file_le dz f hf
        have h2 := hko.room
        have h3 := hko.most
        omega
      have HEX : Hid ((ByteArray.mk (dz.F f).toArray).extract 0 sb.size = sb) := by
        show _ = _
        apply ByteArray.ext
        apply Array.ext'
        rw [extract_data, mk_data, List.drop_zero, Nat.sub_zero, HSZ.out, hpr.1, ← HSB.out, mk_data]
      have HKO : Hid (Ok dz) := hko
      rw [← HSZ.out, ← hzz] at hle
      rw [← hzz] at hbz
      clear hzz hpr hko HR HOK HSN HOKS HPR HSZ HSB HOK1
      have CRz : Hid (Calls Try.prog 21 #[.pointer (some ⟨b, 0, none⟩), .int .i64 (f : Int)] wr fun e w' => e = .returned (.tuple #[.string ⟨(dz.F f).toArray⟩, .int .i64 0]) ∧ DIn (fun k => k < w.heap.size) w b dz w') := CR.out dz HKO.out _ _ HI.out
      generalize ByteArray.mk (dz.F f).toArray = tb at *
      have q1 : (sb.size : Int) ≤ (tb.size : Int) := by omega
      clear CR HI
      go_wp2_with fail
      refine CRz.out.mono ?_
      rintro e w5 ⟨rfl, hD5⟩
      have HB5 : Hid (Below w.heap.size w w5) := below_of_din hD5 (Nat.le_refl _)
      have hq : ((tb.extract 0 sb.size).toList == sb.toList) = true := by rw [HEX.out]; simp
      clear hD5 CRz
      go_wp2
      go_ret
      exact ⟨rfl, HB5.out⟩
end Go.Proofs.Ytnemnkmogbnjcaa
