/- The walks of the disk's own calls, but for Crash and Copy. -/
import Derived.Test.YtahkecdlibkokaaDoorDkDBase
set_option linter.unusedVariables false
set_option maxRecDepth 100000
namespace Go.Proofs.YtahkecdlibkokaaDoor.Dk
open Go.RowKit
open DiskMath

theorem isFile_no (i : Int) (h : i < 0 ∨ 4 ≤ i) (w : World) : Calls Tryd.prog 51 #[.int .i64 i] w fun e w' => e = .returned (.bool false) ∧ w' = w := by
  by_cases h0 : i < 0
  · have h1 : decide ((0 : Int) ≤ i) = false := by simp; omega
    clear h
    go_enter Tryd.func51, Tryd.ntmps51
    go_wp2
    go_ret
    exact ⟨rfl, rfl⟩
  · have h1 : (0 : Int) ≤ i := by omega
    have h2 : decide (i < 4) = false := by simp; omega
    clear h
    go_enter Tryd.func51, Tryd.ntmps51
    go_wp2
    go_ret
    exact ⟨rfl, rfl⟩
theorem isFile_yes (i : Nat) (h : i < 4) (w : World) : Calls Tryd.prog 51 #[.int .i64 (i : Int)] w fun e w' => e = .returned (.bool true) ∧ w' = w := by
  have h2 : (i : Int) < 4 := by omega
  go_enter Tryd.func51, Tryd.ntmps51
  go_wp2
  go_ret
  exact ⟨rfl, rfl⟩

theorem sync_bad (p : Value) (i : Int) (h : i < 0 ∨ 4 ≤ i) (w : World) : Calls Tryd.prog 41 #[p, .int .i64 i] w fun e w' => e = .returned (.int .i64 40) ∧ w' = w := by
  go_enter Tryd.func41, Tryd.ntmps41
  go_wp2_with (go_at_call 51; refine (isFile_no i h _).mono ?_; rintro e w' ⟨rfl, hw'⟩; rw [hw']; clear hw' w')
  go_ret
  exact ⟨rfl, rfl⟩
theorem append_bad (p : Value) (i : Int) (s : ByteArray) (h : i < 0 ∨ 4 ≤ i) (w : World) : Calls Tryd.prog 40 #[p, .int .i64 i, .string s] w fun e w' => e = .returned (.int .i64 40) ∧ w' = w := by
  go_enter Tryd.func40, Tryd.ntmps40
  go_wp2_with (go_at_call 51; refine (isFile_no i h _).mono ?_; rintro e w' ⟨rfl, hw'⟩; rw [hw']; clear hw' w')
  go_ret
  exact ⟨rfl, rfl⟩
theorem cut_bad (p : Value) (i n : Int) (h : i < 0 ∨ 4 ≤ i) (w : World) : Calls Tryd.prog 48 #[p, .int .i64 i, .int .i64 n] w fun e w' => e = .returned (.int .i64 40) ∧ w' = w := by
  go_enter Tryd.func48, Tryd.ntmps48
  go_wp2_with (go_at_call 51; refine (isFile_no i h _).mono ?_; rintro e w' ⟨rfl, hw'⟩; rw [hw']; clear hw' w')
  go_ret
  exact ⟨rfl, rfl⟩
theorem read_bad (p : Value) (i : Int) (h : i < 0 ∨ 4 ≤ i) (w : World) : Calls Tryd.prog 33 #[p, .int .i64 i] w fun e w' => e = .returned (.tuple #[.string ⟨#[]⟩, .int .i64 40]) ∧ w' = w := by
  go_enter Tryd.func33, Tryd.ntmps33
  go_wp2_with (go_at_call 51; refine (isFile_no i h _).mono ?_; rintro e w' ⟨rfl, hw'⟩; rw [hw']; clear hw' w')
  go_ret2
  exact ⟨rfl, rfl⟩
theorem size_bad (p : Value) (i : Int) (h : i < 0 ∨ 4 ≤ i) (w : World) : Calls Tryd.prog 20 #[p, .int .i64 i] w fun e w' => e = .returned (.tuple #[.int .i64 0, .int .i64 0, .int .i64 40]) ∧ w' = w := by
  go_enter Tryd.func20, Tryd.ntmps20
  go_wp2_with (go_at_call 51; refine (isFile_no i h _).mono ?_; rintro e w' ⟨rfl, hw'⟩; rw [hw']; clear hw' w')
  go_ret3
  exact ⟨rfl, rfl⟩

set_option maxHeartbeats 1000000 in
theorem sync_any (w : World) (b : Nat) (V : Nat → Value) (d : DS) (i : Nat) (hi : i < 4) (h : PDisk w b V d) :
    Calls Tryd.prog 41 #[.pointer (some ⟨b, 0, none⟩), .int .i64 (i : Int)] w fun e w' => e = .returned (.int .i64 0) ∧ POk w b V (syn d i) w' := by
  have h1 := h.bytes i hi
  have h2 := h.safe i hi
  have h3 := h.free (i * 2 + 1)
  obtain ⟨ao, cap, hv, hcap, _⟩ := own_row (h.rows i hi)
  rw [hv] at h1
  have i4 : (i : Int) < 4 := by omega
  have HP : Hid (POk w b V (syn d i) (w.setCell ⟨b, i * 2 + 1, none⟩ (.int .i64 ((d.F i).length : Int)))) := POk.same (pdisk_safe h i _ hi) ((chg_set w _ _).mono fun k _ e => Or.inl e)
  clear h hv hcap
  go_enter Tryd.func41, Tryd.ntmps41
  go_wp2
  go_ret
  exact ⟨rfl, HP.out⟩

set_option maxHeartbeats 1000000 in
theorem used_any (w : World) (b : Nat) (V : Nat → Value) (d : DS) (h : PDisk w b V d) (hk : Ok d) :
    Calls Tryd.prog 27 #[.pointer (some ⟨b, 0, none⟩)] w fun e w' => e = .returned (.int .i64 (used d : Int)) ∧ w' = w := by
  have HC : Hid (∀ i, i < 4 → ∃ ao cap, w.cell? ⟨b, i * 2, none⟩ = some (.slice ao (d.F i).length cap)) := fun i hi => by
    obtain ⟨ao, cap, hv, _, _⟩ := own_row (h.rows i hi)
    exact ⟨ao, cap, by rw [← hv]; exact h.bytes i hi⟩
  have hm := hk.most
  have hr := hk.room
  have HU : Hid (∀ k, k ≤ 4 → usedTo d k ≤ used d) := usedTo_le d
  clear h hk
  go_enter Tryd.func27, Tryd.ntmps27
  go_wp2
  go_loop [3, 5] (fun u i => ∃ k : Nat, k ≤ 4 ∧ i = .int .i64 (k : Int) ∧ u = .int .i64 (usedTo d k : Int)) (fun _ i => 4 - (intOf i).toNat)
  case atStart => exact ⟨0, Nat.zero_le _, rfl, rfl⟩
  case round =>
    obtain ⟨k, hk4, rfl, rfl⟩ := hrel
    by_cases hlt : k < 4
    · obtain ⟨ao, cap, hc⟩ := HC.out k hlt
      have h1 := HU.out k (by omega)
      have h2 := HU.out (k + 1) (by omega)
      have HE : Hid (usedTo d (k + 1) = usedTo d k + (d.F k).length) := rfl
      rw [HE.out] at h2
      have i4 : (k : Int) < 4 := by omega
      generalize usedTo d k = u at *
      go_wp2
      exact ⟨⟨k + 1, by omega, by go_num, by rw [HE.out]; go_num⟩, by simp [intOf]; omega⟩
    · obtain rfl : k = 4 := by omega
      rw [usedTo_four]
      go_wp2
      go_ret
      exact ⟨rfl, rfl⟩

set_option maxHeartbeats 1000000 in
theorem size_any (w : World) (b : Nat) (V : Nat → Value) (d : DS) (i : Nat) (hi : i < 4) (h : PDisk w b V d) :
    Calls Tryd.prog 20 #[.pointer (some ⟨b, 0, none⟩), .int .i64 (i : Int)] w fun e w' => e = .returned (.tuple #[.int .i64 ((d.F i).length : Int), .int .i64 (d.S i : Int), .int .i64 0]) ∧ ∃ q, w' = w.drewN q := by
  have h1 := h.bytes i hi
  have h2 := h.safe i hi
  obtain ⟨ao, cap, hv, hcap, _⟩ := own_row (h.rows i hi)
  rw [hv] at h1
  have i4 : (i : Int) < 4 := by omega
  clear h hv hcap
  go_enter Tryd.func20, Tryd.ntmps20
  go_wp2_with (go_at_call 51; refine (isFile_yes i hi _).mono ?_; rintro e w' ⟨rfl, hw'⟩; rw [hw']; clear hw' w')
  go_quiet (fail)
  go_wp2
  go_ret3
  exact ⟨rfl, _, rfl⟩

set_option maxHeartbeats 1000000 in
/-- A row's first bytes, as memory of its own. -/
theorem first_any (w : World) (v : Value) (l : List UInt8) (n : Nat) (hn : n ≤ l.length) (hl : l.length ≤ 1048576) (hv : w.ownsRow 0 5 1 v l.length (cells8 l)) :
    Calls Tryd.prog 52 #[v, .int .i64 (n : Int)] w fun e w' => ∃ v', e = .returned v' ∧ w'.ownsRow w.heap.size 5 1 v' n (cells8 (l.take n)) ∧ Below w.heap.size w w' := by
  obtain ⟨i0, hi, hz0, hz1, hz2⟩ := info_parts infoB
  obtain ⟨ao, cap, rfl, hcap, hrow⟩ := own_row hv
  have hmk := run_makeSlice (P := Tryd.prog) w 99 5 i0 (.int .u8 0) Tryd.underlying99 hi hz0 .i64 .i64 (n : Int) (n : Int) (by omega) (by omega) (by rw [hz1]; omega) (by rw [hz2]; omega) (by omega)
  rw [hz1, Nat.mul_one, Int.toNat_natCast, show (Value.int .u8 0).cells = #[Value.int .u8 0] from rfl] at hmk
  have hcl : (cells8 (l.take n)).length = n := by simp [cells8]; omega
  have hms : (madeCells #[Value.int .u8 0] n).toList.length = n := by rw [Array.length_toList, size_madeCells]
  have hg : Hid ((w.alloc (.cells (madeCells #[Value.int .u8 0] n) 5)).heap[w.heap.size]? = some (.cells (madeCells #[Value.int .u8 0] n).toList.toArray 5 (0, 0))) := by
    show _ = _
    rw [Array.toArray_toList]
    exact heap_alloc_new w _
  have HCL : Hid ((cells8 (l.take n)).length = n) := hcl
  have HMS : Hid ((madeCells #[Value.int .u8 0] n).toList.length = n) := hms
  have hpos : Hid (0 < (cells8 (l.take n)).length → ∃ ad, ao = some ad ∧ ∀ j v, (cells8 (l.take n))[j]? = some v → (w.alloc (.cells (madeCells #[Value.int .u8 0] n) 5)).cell? (ad.add j) = some v) := by
    intro h0
    obtain ⟨g, hao, _, hgl, _⟩ := hrow 0 (by omega)
    refine ⟨⟨g, 0, none⟩, hao, fun j u hj => ?_⟩
    have hjl : j < n := by
      have := (List.getElem?_eq_some_iff.1 hj).1
      omega
    obtain ⟨g', h1, _, h3, h4⟩ := hrow j (by omega)
    obtain rfl : g = g' := by rw [hao] at h1; simpa using h1
    have hadd : (⟨g, 0, none⟩ : Addr).add j = ⟨g, j, none⟩ := by unfold Addr.add; split <;> simp_all
    rw [hadd, World.cell?_of_block (w := w) (a := ⟨g, j, none⟩) (heap_alloc_old w _ h3), h4]
    rw [← hj]
    simp [cells8, hjl]
  have hone : Hid (∀ v ∈ cells8 (l.take n), v.oneCell' = true) := by
    intro u hu
    obtain ⟨x, _, rfl⟩ := List.mem_map.1 hu
    rfl
  have hb0 : Below w.heap.size w (w.alloc (.cells (madeCells #[Value.int .u8 0] n) 5)) := (Below.refl _ _).alloc (Nat.le_refl _) _
  have hinf : (Tryd.prog.info? 5).map (·.size) = some 1 := by rw [hi, Option.map_some, hz1]
  generalize hW : w.alloc (.cells (madeCells #[Value.int .u8 0] n) 5) = w1 at *
  clear hW hrow hv hcl hms
  have hn1 : (n : Int) ≤ (l.length : Int) := by omega
  have hn2 : (n : Int) ≤ (cap : Int) := by have := hcap.1; omega
  have HCP : Hid (l.length ≤ cap ∧ (ao = none → cap = 0)) := hcap
  clear hcap
  go_enter Tryd.func52, Tryd.ntmps52
  go_wp2_with (refine wpList_copy_splice rfl _ _ 99 99 rfl 5 Tryd.underlying99 hinf (some ⟨w.heap.size, 0, none⟩) ao n n n n rfl rfl w.heap.size 0 (madeCells #[Value.int .u8 0] n).toList 5 hg.out (cells8 (l.take n)) (by rw [HCL.out]; exact (Nat.min_self n).symm) (fun h0 => ⟨rfl, hpos.out h0⟩) (by rw [HCL.out, HMS.out]; omega) hone.out w.heap.size w hb0 (Nat.le_refl _) ?_)
  intro w2 hrow2 hb2
  have HO : Hid (w2.ownsRow w.heap.size 5 1 (.slice (some ⟨w.heap.size, 0, none⟩) n n) n (cells8 (l.take n))) := by
    refine ⟨by rw [HCL.out, Nat.mul_one], Or.inr ⟨w.heap.size, n, _, rfl, Nat.le_refl _, hrow2.out, Nat.le_refl _, by unfold maxLen; omega, ?_, ?_⟩⟩
    · rw [List.size_toArray, length_splice _ _ _ (by rw [HCL.out, HMS.out]; omega), HMS.out, Nat.mul_one]
    · have h1 : splice (madeCells #[Value.int .u8 0] n).toList 0 (cells8 (l.take n)) = cells8 (l.take n) := by
        unfold splice
        rw [List.take_zero, List.nil_append, HCL.out, List.drop_of_length_le (by rw [HMS.out]; omega), List.append_nil]
      rw [h1, show (cells8 (l.take n)).toArray.toList = cells8 (l.take n) from rfl, List.take_of_length_le (by rw [HCL.out]; omega)]
  clear hrow2 hg hpos hone
  go_wp2
  go_ret
  exact ⟨_, rfl, HO.out, hb2⟩

end Go.Proofs.YtahkecdlibkokaaDoor.Dk