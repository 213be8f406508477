/- The walk of the journal's begin, whose label is jumped back to once. -/
import Derived.Test.YtahkecdlibkokaaDoorJCallW
set_option linter.unusedVariables false
set_option maxRecDepth 100000
namespace Go.Proofs.YtahkecdlibkokaaDoor
open Go.RowKit
open JournalMath DiskMath
open Fr (Tab tab_below tab_drewN)
open Dk (PDisk Chg fp DIn din_below din_same din_drewN pdisk_below pdisk_chg)

/-- A record's text: the mark, a number's bytes, a snapshot. -/
theorem head_text (g : Nat) (snap : ByteArray) : ByteArray.mk #[72] ++ ByteArray.mk (PackMath.num g).toArray ++ snap = ByteArray.mk (head g snap.data.toList).toArray := by
  apply ByteArray.ext
  apply Array.ext'
  simp [ByteArray.data_append, head]

set_option maxHeartbeats 2000000 in
theorem begin_any {T : Nat → Prop} {w w1 : World} {bj bd : Nat} {s : JS} (snap : ByteArray) (hs : snap.size ≤ 190000) (hJ : JIn T w bj bd s w1) (hk : Ok s.d) (hf : s.f ≤ 1) (hg : s.g < 1125899906842624) (hG : T 0) (hT : Tab w) :
    Calls Tryd.prog 45 #[.pointer (some ⟨bj, 0, none⟩), .string snap] w1 fun e w' => e = .returned (.int .i64 (jBegin s snap.data.toList).2) ∧ JIn T w bj bd (jBegin s snap.data.toList).1 w' := by
  have hc := hJ.cells
  have c1 := hc.file
  have c2 := hc.gen
  have hhl := head_length (s.g + 1) snap.data.toList (by omega)
  rw [size_data] at hhl
  have C1 : Hid (∀ w, Calls Tryd.prog 58 #[.int .i64 ((s.g : Int) + 1)] w fun e w' => e = .returned (.tuple #[.string ⟨(PackMath.num (s.g + 1)).toArray⟩, .int .i64 0]) ∧ Below w.heap.size w w') := by
    intro w
    have := Pk.num_any (s.g + 1) (by omega) w
    rw [Int.natCast_add] at this
    exact this
  have hnl := PackMath.num_len8 (s.g + 1) (by omega)
  have hnz : (ByteArray.mk (PackMath.num (s.g + 1)).toArray).size ≤ 8 := by rw [strV_size]; exact hnl
  have HX : Hid (ByteArray.mk #[72] ++ ByteArray.mk (PackMath.num (s.g + 1)).toArray ++ snap = ByteArray.mk (head (s.g + 1) snap.data.toList).toArray) := head_text _ _
  have HJ : Hid (JIn T w bj bd s w1) := hJ
  have hfe : ((1 - s.f : Nat) : Int) = 1 - (s.f : Int) := by omega
  have C2 : Hid (∀ w2, JIn T w bj bd s w2 → Calls Tryd.prog 53 #[.pointer (some ⟨bd, 0, none⟩), .int .i64 (1 - (s.f : Int)), .string ⟨(head (s.g + 1) snap.data.toList).toArray⟩] w2 fun e w' => e = .returned (.int .i64 (jBegin s snap.data.toList).2) ∧ JIn T w bj bd ⟨(if s.d.R < used s.d + (FrameMath.wrap (head (s.g + 1) snap.data.toList)).length then (s.d, (41 : Int)) else (app s.d (1 - s.f) (FrameMath.wrap (head (s.g + 1) snap.data.toList)), 0)).1, s.f, s.g, s.n⟩ w') := by
    intro w2 hJ2
    obtain ⟨T', hD, hG', hT', hnext⟩ := jin_disk hJ2 hG hT
    have := put_any (1 - s.f) (by omega) ⟨(head (s.g + 1) snap.data.toList).toArray⟩ (by rw [strV_size]; omega) hD hk hG' hT'
    rw [mk_data, aApp_file _ _ (by omega), hfe] at this
    refine this.mono ?_
    rintro e w' ⟨k1, k2⟩
    refine ⟨?_, hnext _ _ k2⟩
    rw [k1]
    unfold jBegin
    split <;> rfl
  by_cases hfull : s.d.R < used s.d + (FrameMath.wrap (head (s.g + 1) snap.data.toList)).length
  · have e1 : jBegin s snap.data.toList = (s, 41) := by unfold jBegin; rw [if_pos hfull]
    rw [e1, if_pos hfull] at C2
    rw [e1]
    generalize ByteArray.mk (head (s.g + 1) snap.data.toList).toArray = hb at *
    generalize ByteArray.mk (PackMath.num (s.g + 1)).toArray = nb at *
    clear hJ hc e1 hhl hnl
    go_enter Tryd.func45, Tryd.ntmps45
    go_wp2_with fail
    refine wp_scope_once 0 rfl ?_
    go_wp2_with fail
    refine (C1.out _).mono ?_
    rintro e w2 ⟨rfl, hb2⟩
    have hJ2 := jin_below HJ.out hb2
    have c5 := hJ2.cells.disk
    have c6 := hJ2.cells.file
    have HJ2 : Hid (JIn T w bj bd s w2) := hJ2
    clear hb2 hJ2 c1 c2
    go_wp2_with fail
    go_step3
    go_wp2_with fail
    rw [HX.out]
    refine (C2.out _ HJ2.out).mono ?_
    rintro e w3 ⟨rfl, hJ3⟩
    go_wp2_with fail
    simp only [Exit.jump]
    go_ret
    exact ⟨rfl, hJ3⟩
  · have e1 : jBegin s snap.data.toList = (⟨begins s.d s.f s.g snap.data.toList, 1 - s.f, s.g + 1, 0⟩, 0) := by unfold jBegin; rw [if_neg hfull]
    rw [e1, if_neg hfull] at C2
    rw [e1]
    unfold begins
    have hok1 : Ok (app s.d (1 - s.f) (FrameMath.wrap (head (s.g + 1) snap.data.toList))) := ok_app _ _ _ hk (by omega) (by omega)
    generalize app s.d (1 - s.f) (FrameMath.wrap (head (s.g + 1) snap.data.toList)) = d1 at *
    have hok2 : Ok (syn d1 (1 - s.f)) := ok_syn _ _ hok1
    have C3 : Hid (∀ w2, JIn T w bj bd ⟨d1, s.f, s.g, s.n⟩ w2 → Calls Tryd.prog 41 #[.pointer (some ⟨bd, 0, none⟩), .int .i64 (1 - (s.f : Int))] w2 fun e w' => e = .returned (.int .i64 0) ∧ JIn T w bj bd ⟨syn d1 (1 - s.f), s.f, s.g, s.n⟩ w') := by
      intro w2 hJ2
      obtain ⟨T', hD, hG', hT', hnext⟩ := jin_disk hJ2 hG hT
      have := Dk.sync_all ((1 - s.f : Nat) : Int) hD
      rw [aSyn_file _ _ (by omega), hfe] at this
      exact this.mono fun e w' ⟨k1, k2⟩ => ⟨k1, hnext _ _ k2⟩
    have C4 : Hid (∀ w2, JIn T w bj bd ⟨syn d1 (1 - s.f), s.f, s.g, s.n⟩ w2 → Calls Tryd.prog 48 #[.pointer (some ⟨bd, 0, none⟩), .int .i64 (s.f : Int), .int .i64 0] w2 fun e w' => e = .returned (.int .i64 0) ∧ JIn T w bj bd ⟨cut (syn d1 (1 - s.f)) s.f 0, s.f, s.g, s.n⟩ w') := by
      intro w2 hJ2
      obtain ⟨T', hD, hG', hT', hnext⟩ := jin_disk hJ2 hG hT
      have := Dk.cut_all (s.f : Int) ((0 : Nat) : Int) hD hok2
      rw [aCut_file _ _ (by omega) 0 (Nat.zero_le _)] at this
      exact this.mono fun e w' ⟨k1, k2⟩ => ⟨k1, hnext _ _ k2⟩
    generalize cut (syn d1 (1 - s.f)) s.f 0 = d3 at *
    generalize syn d1 (1 - s.f) = d2 at *
    generalize ByteArray.mk (head (s.g + 1) snap.data.toList).toArray = hb at *
    generalize ByteArray.mk (PackMath.num (s.g + 1)).toArray = nb at *
    have n1 : (1 - (s.f : Int) == (s.f : Int)) = false := by rw [beq_eq_false_iff_ne]; omega
    have HFE : Hid (((1 - s.f : Nat) : Int) = 1 - (s.f : Int)) := hfe
    clear hJ hc e1 hhl hnl hfe
    go_enter Tryd.func45, Tryd.ntmps45
    go_wp2_with fail
    refine wp_scope_once 0 rfl ?_
    go_wp2_with fail
    refine (C1.out _).mono ?_
    rintro e w2 ⟨rfl, hb2⟩
    have hJ2 := jin_below HJ.out hb2
    have c5 := hJ2.cells.disk
    have c6 := hJ2.cells.file
    have HJ2 : Hid (JIn T w bj bd s w2) := hJ2
    clear hb2 hJ2 c1 c2
    go_wp2_with fail
    go_step3
    go_wp2_with fail
    rw [HX.out]
    refine (C2.out _ HJ2.out).mono ?_
    rintro e w3 ⟨rfl, hJ3⟩
    have c5 := hJ3.cells.disk
    have c6 := hJ3.cells.file
    have HJ3 : Hid (JIn T w bj bd ⟨d1, s.f, s.g, s.n⟩ w3) := hJ3
    clear hJ3 HJ2
    simp only at c6
    go_wp2_with fail
    refine (C3.out _ HJ3.out).mono ?_
    rintro e w4 ⟨rfl, hJ4⟩
    have c5 := hJ4.cells.disk
    have c6 := hJ4.cells.file
    have HJ4 : Hid (JIn T w bj bd ⟨d2, s.f, s.g, s.n⟩ w4) := hJ4
    clear hJ4 HJ3
    simp only at c6
    go_wp2_with fail
    go_step3
    refine ⟨rfl, ?_⟩
    go_wp2_with fail
    refine (C4.out _ HJ4.out).mono ?_
    rintro e w5 ⟨rfl, hJ5⟩
    have c7 := hJ5.cells.gen
    simp only at c7
    have k0 : ∃ x, w5.cell? ⟨bj, 1, none⟩ = some x := ⟨_, hJ5.cells.file⟩
    have k3 : ∃ x, w5.cell? ⟨bj, 3, none⟩ = some x := ⟨_, hJ5.cells.count⟩
    have f1 := hJ5.cells.free 1
    have f2 := hJ5.cells.free 2
    have f3 := hJ5.cells.free 3
    have c8 := hJ5.cells.file
    have c9 := hJ5.cells.count
    simp only at c8 c9
    have HJ8 : Hid (JIn T w bj bd ⟨d3, 1 - s.f, s.g + 1, 0⟩ (((w5.setCell ⟨bj, 1, none⟩ (.int .i64 (1 - (s.f : Int)))).setCell ⟨bj, 2, none⟩ (.int .i64 ((s.g : Int) + 1))).setCell ⟨bj, 3, none⟩ (.int .i64 0))) := by
      have h1 := jin_set (s' := ⟨d3, 1 - s.f, s.g, s.n⟩) hJ5 1 (.int .i64 ((1 - s.f : Nat) : Int)) rfl (fun h => h.setFile _)
      have h2 := jin_set (s' := ⟨d3, 1 - s.f, s.g + 1, s.n⟩) h1 2 (.int .i64 ((s.g + 1 : Nat) : Int)) rfl (fun h => h.setGen _)
      have h3 := jin_set (s' := ⟨d3, 1 - s.f, s.g + 1, 0⟩) h2 3 (.int .i64 ((0 : Nat) : Int)) rfl (fun h => h.setCount _)
      rw [HFE.out, Int.natCast_add] at h3
      exact h3
    clear hJ5 HJ4 k0 k3
    go_wp2_with fail
    simp only [Exit.jump]
    go_ret
    exact ⟨rfl, HJ8.out⟩

/-- Compact of any snapshot. -/
theorem compact_any {T : Nat → Prop} {w w1 : World} {bj bd : Nat} {s : JS} (snap : ByteArray) (hs : snap.size ≤ 140737488355328) (hJ : JIn T w bj bd s w1) (hk : JOk s) (hG : T 0) (hT : Tab w) :
    Calls Tryd.prog 26 #[.pointer (some ⟨bj, 0, none⟩), .string snap] w1 fun e w' => e = .returned (.int .i64 (jCmp s snap.data.toList).2) ∧ JIn T w bj bd (jCmp s snap.data.toList).1 w' := by
  have c2 := hJ.cells.gen
  have HJ : Hid (JIn T w bj bd s w1) := hJ
  have hg := hk.gen
  unfold jCmp
  rw [size_data]
  by_cases h1 : 190000 < snap.size
  · rw [if_pos (Or.inl h1)]
    have i1 : (190000 : Int) < (snap.size : Int) := by omega
    clear hJ
    go_enter Tryd.func26, Tryd.ntmps26
    go_wp2
    go_ret
    exact ⟨rfl, HJ.out⟩
  · have i1 : ¬ (190000 : Int) < (snap.size : Int) := by omega
    by_cases h2 : s.g = 1125899906842624
    · rw [if_pos (Or.inr h2)]
      have i2 : ((s.g : Int) == 1125899906842624) = true := by rw [beq_iff_eq]; omega
      clear hJ
      go_enter Tryd.func26, Tryd.ntmps26
      go_wp2
      go_ret
      exact ⟨rfl, HJ.out⟩
    · rw [if_neg (by omega)]
      have i2 : ((s.g : Int) == 1125899906842624) = false := by rw [beq_eq_false_iff_ne]; omega
      have C1 : Hid (Calls Tryd.prog 45 #[.pointer (some ⟨bj, 0, none⟩), .string snap] w1 fun e w' => e = .returned (.int .i64 (jBegin s snap.data.toList).2) ∧ JIn T w bj bd (jBegin s snap.data.toList).1 w') := begin_any snap (by omega) hJ hk.ok hk.file (by omega) hG hT
      generalize (jBegin s snap.data.toList).2 = er at *
      generalize (jBegin s snap.data.toList).1 = s2 at *
      clear hJ
      go_enter Tryd.func26, Tryd.ntmps26
      go_wp2_with fail
      refine C1.out.mono ?_
      rintro e w2 ⟨rfl, hJ2⟩
      go_wp2_with fail
      go_ret
      exact ⟨rfl, hJ2⟩
end Go.Proofs.YtahkecdlibkokaaDoor
