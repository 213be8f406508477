/- The walks of the journal's calls: Add, Sync, Stat, begin, Compact, New. -/
import Derived.Test.YtahkecdlibkokaaDoorJBase
import Derived.Deep.RegionHeld3
set_option linter.unusedVariables false
set_option maxRecDepth 100000
namespace Go.Proofs.YtahkecdlibkokaaDoor
open Go.RowKit
open JournalMath DiskMath
open Fr (Tab tab_below tab_drewN)
open Dk (PDisk Chg fp DIn din_below din_same din_drewN pdisk_below pdisk_chg)

theorem aApp_file (d : DS) (f : Nat) (hf : f < 4) (l : List UInt8) : aApp d (f : Int) l = if d.R < used d + l.length then (d, 41) else (app d f l, 0) := by
  unfold aApp
  rw [if_neg (by unfold bad; omega)]
  rfl
theorem aSyn_file (d : DS) (f : Nat) (hf : f < 4) : aSyn d (f : Int) = (syn d f, 0) := by
  unfold aSyn
  rw [if_neg (by unfold bad; omega)]
  rfl
theorem aCut_file (d : DS) (f : Nat) (hf : f < 4) (n : Nat) (hn : n ≤ (d.F f).length) : aCut d (f : Int) (n : Int) = (cut d f n, 0) := by
  unfold aCut
  rw [if_neg (by unfold bad; omega)]
  have e : ((f : Int)).toNat = f := rfl
  rw [e, if_neg (by omega)]
  rfl

set_option maxHeartbeats 1000000 in
theorem add_any {T : Nat → Prop} {w w1 : World} {bj bd : Nat} {s : JS} (r : ByteArray) (hr : r.size ≤ 140737488355328) (hJ : JIn T w bj bd s w1) (hk : JOk s) (hG : T 0) (hT : Tab w) :
    Calls Tryd.prog 30 #[.pointer (some ⟨bj, 0, none⟩), .string r] w1 fun e w' => e = .returned (.int .i64 (jAdd s r.data.toList).2) ∧ JIn T w bj bd (jAdd s r.data.toList).1 w' := by
  have hc := hJ.cells
  have HJ : Hid (JIn T w bj bd s w1) := hJ
  have c0 := hc.disk
  have c1 := hc.file
  unfold jAdd
  by_cases h1 : 4000 < r.data.toList.length
  · rw [if_pos h1]
    rw [size_data] at h1
    have i1 : (4000 : Int) < (r.size : Int) := by omega
    clear hJ hc
    go_enter Tryd.func30, Tryd.ntmps30
    go_wp2
    go_ret
    exact ⟨rfl, HJ.out⟩
  · rw [if_neg h1]
    rw [size_data] at h1
    have i1 : ¬ (4000 : Int) < (r.size : Int) := by omega
    have hJd : JIn T w bj bd s w1.drew := jin_drewN hJ ⟨1, rfl⟩
    obtain ⟨T', hD, hG', hT', hnext⟩ := jin_disk hJd hG hT
    have hf4 : s.f < 4 := by have := hk.file; omega
    have c2 := put_any s.f hf4 r (by omega) hD hk.ok hG' hT'
    rw [aApp_file _ _ hf4] at c2
    have C2 : Hid (Calls Tryd.prog 53 #[.pointer (some ⟨bd, 0, none⟩), .int .i64 (s.f : Int), .string r] w1.drew fun e w' => e = .returned (.int .i64 (if s.d.R < used s.d + (FrameMath.wrap r.data.toList).length then (s.d, (41 : Int)) else (app s.d s.f (FrameMath.wrap r.data.toList), 0)).2) ∧ w'.cell? ⟨bj, 0, none⟩ = some (.pointer (some ⟨bd, 0, none⟩)) ∧ w'.cell? ⟨bj, 1, none⟩ = some (.int .i64 (s.f : Int)) ∧ Hid (JIn T w bj bd ⟨(if s.d.R < used s.d + (FrameMath.wrap r.data.toList).length then (s.d, (41 : Int)) else (app s.d s.f (FrameMath.wrap r.data.toList), 0)).1, s.f, s.g, s.n⟩ w')) := c2.mono fun e w' ⟨k1, k2⟩ => ⟨k1, (hnext _ _ k2).cells.disk, (hnext _ _ k2).cells.file, hnext _ _ k2⟩
    have hn : s.n ≤ 1048576 := by have h1 := hk.count; have h2 := file_le s.d s.f hf4; have h3 := hk.ok.room; have h4 := hk.ok.most; omega
    clear c2 hnext hD hJd
    by_cases h2 : s.d.R < used s.d + (FrameMath.wrap r.data.toList).length
    · rw [if_pos h2] at C2 ⊢
      clear hJ hc
      go_enter Tryd.func30, Tryd.ntmps30
      go_wp2_with fail
      go_region_held3 (fun w' => w'.cell? ⟨bj, 0, none⟩ = some (.pointer (some ⟨bd, 0, none⟩)) ∧ w'.cell? ⟨bj, 1, none⟩ = some (.int .i64 (s.f : Int))) (go_keep) (first | (go_at_call 53; refine C2.out.mono ?_; rintro e w2 ⟨rfl, m0, m1, HJ2⟩))
      go_wp2_with fail
      go_ret
      exact ⟨rfl, HJ2.out⟩
    · rw [if_neg h2] at C2 ⊢
      generalize app s.d s.f (FrameMath.wrap r.data.toList) = d' at *
      clear hJ hc
      go_enter Tryd.func30, Tryd.ntmps30
      go_wp2_with fail
      go_region_held3 (fun w' => w'.cell? ⟨bj, 0, none⟩ = some (.pointer (some ⟨bd, 0, none⟩)) ∧ w'.cell? ⟨bj, 1, none⟩ = some (.int .i64 (s.f : Int))) (go_keep) (first | (go_at_call 53; refine C2.out.mono ?_; rintro e w2 ⟨rfl, m0, m1, HJ2⟩))
      have hJ2 := HJ2.out
      have k1 := hJ2.cells.count
      have k2 := hJ2.cells.free 3
      have HJ3 : Hid (JIn T w bj bd ⟨d', s.f, s.g, s.n + 1⟩ (w2.setCell ⟨bj, 3, none⟩ (.int .i64 ((s.n : Int) + 1)))) := by
        have := jin_set (s' := ⟨d', s.f, s.g, s.n + 1⟩) hJ2 3 (.int .i64 ((s.n + 1 : Nat) : Int)) rfl (fun h => h.setCount _)
        rw [Int.natCast_add] at this
        exact this
      simp only at k1
      clear hJ2 HJ2
      go_wp2
      go_ret
      exact ⟨rfl, HJ3.out⟩

theorem jsync_any {T : Nat → Prop} {w w1 : World} {bj bd : Nat} {s : JS} (hJ : JIn T w bj bd s w1) (hk : JOk s) (hG : T 0) (hT : Tab w) :
    Calls Tryd.prog 31 #[.pointer (some ⟨bj, 0, none⟩)] w1 fun e w' => e = .returned (.int .i64 0) ∧ JIn T w bj bd (jSyn s) w' := by
  have hc := hJ.cells
  have c0 := hc.disk
  have c1 := hc.file
  have hJd : JIn T w bj bd s w1.drew := jin_drewN hJ ⟨1, rfl⟩
  obtain ⟨T', hD, hG', hT', hnext⟩ := jin_disk hJd hG hT
  have hf4 : s.f < 4 := by have := hk.file; omega
  have c2 := Dk.sync_all (s.f : Int) hD
  rw [aSyn_file _ _ hf4] at c2
  have C2 : Hid (Calls Tryd.prog 41 #[.pointer (some ⟨bd, 0, none⟩), .int .i64 (s.f : Int)] w1.drew fun e w' => e = .returned (.int .i64 0) ∧ w'.cell? ⟨bj, 0, none⟩ = some (.pointer (some ⟨bd, 0, none⟩)) ∧ w'.cell? ⟨bj, 1, none⟩ = some (.int .i64 (s.f : Int)) ∧ Hid (JIn T w bj bd (jSyn s) w')) := c2.mono fun e w' ⟨k1, k2⟩ => ⟨k1, (hnext _ _ k2).cells.disk, (hnext _ _ k2).cells.file, hnext _ _ k2⟩
  clear hJ hc c2 hnext hD hJd
  go_enter Tryd.func31, Tryd.ntmps31
  go_wp2_with fail
  go_region_held3 (fun w' => w'.cell? ⟨bj, 0, none⟩ = some (.pointer (some ⟨bd, 0, none⟩)) ∧ w'.cell? ⟨bj, 1, none⟩ = some (.int .i64 (s.f : Int))) (go_keep) (first | (go_at_call 41; refine C2.out.mono ?_; rintro e w2 ⟨rfl, m0, m1, HJ2⟩))
  go_wp2_with fail
  go_ret
  exact ⟨rfl, HJ2.out⟩

theorem stat_any {T : Nat → Prop} {w w1 : World} {bj bd : Nat} {s : JS} (hJ : JIn T w bj bd s w1) (hk : JOk s) (hG : T 0) (hT : Tab w) :
    Calls Tryd.prog 21 #[.pointer (some ⟨bj, 0, none⟩)] w1 fun e w' => e = .returned (.tuple #[.int .i64 (s.g : Int), .int .i64 (s.n : Int), .int .i64 ((s.d.F s.f).length : Int)]) ∧ JIn T w bj bd s w' := by
  have hc := hJ.cells
  have c0 := hc.disk
  have c1 := hc.file
  have c2 := hc.gen
  have c3 := hc.count
  have hJd : JIn T w bj bd s w1.drew := jin_drewN hJ ⟨1, rfl⟩
  obtain ⟨T', hD, hG', hT', hnext⟩ := jin_disk hJd hG hT
  have hf4 : s.f < 4 := by have := hk.file; omega
  have c4 := sizeOf_any s.f hf4 hD
  have C2 : Hid (Calls Tryd.prog 44 #[.pointer (some ⟨bd, 0, none⟩), .int .i64 (s.f : Int)] w1.drew fun e w' => e = .returned (.int .i64 ((s.d.F s.f).length : Int)) ∧ w'.cell? ⟨bj, 0, none⟩ = some (.pointer (some ⟨bd, 0, none⟩)) ∧ w'.cell? ⟨bj, 1, none⟩ = some (.int .i64 (s.f : Int)) ∧ w'.cell? ⟨bj, 2, none⟩ = some (.int .i64 (s.g : Int)) ∧ w'.cell? ⟨bj, 3, none⟩ = some (.int .i64 (s.n : Int)) ∧ Hid (JIn T w bj bd s w')) := c4.mono fun e w' ⟨k1, k2⟩ => ⟨k1, (hnext _ _ k2).cells.disk, (hnext _ _ k2).cells.file, (hnext _ _ k2).cells.gen, (hnext _ _ k2).cells.count, hnext _ _ k2⟩
  generalize (s.d.F s.f).length = n at *
  clear hJ hc c4 hnext hD hJd
  go_enter Tryd.func21, Tryd.ntmps21
  go_wp2_with fail
  go_region_held3 (fun w' => w'.cell? ⟨bj, 0, none⟩ = some (.pointer (some ⟨bd, 0, none⟩)) ∧ w'.cell? ⟨bj, 1, none⟩ = some (.int .i64 (s.f : Int)) ∧ w'.cell? ⟨bj, 2, none⟩ = some (.int .i64 (s.g : Int)) ∧ w'.cell? ⟨bj, 3, none⟩ = some (.int .i64 (s.n : Int))) (go_keep) (first | (go_at_call 44; refine C2.out.mono ?_; rintro e w2 ⟨rfl, m0, m1, m2, m3, HJ2⟩))
  go_wp2_with fail
  go_ret3
  exact ⟨rfl, HJ2.out⟩

end Go.Proofs.YtahkecdlibkokaaDoor
