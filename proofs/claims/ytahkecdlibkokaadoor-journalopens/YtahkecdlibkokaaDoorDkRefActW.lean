/- The walks of the document's disk: Sync, Append, Cut, Crash, Copy. -/
import Derived.Test.YtahkecdlibkokaaDoorDkRefW
import Derived.Test.YtahkecdlibkokaaDoorDkAMath
set_option linter.unusedVariables false
set_option maxRecDepth 100000
namespace Go.Proofs.YtahkecdlibkokaaDoor.Dk
open Go.RowKit
open DiskMath

/-- Behind a call on the document's disk: the disk as it is now; nothing else changed. -/
def ROk (w : World) (b : Nat) (d' : DS) (w' : World) : Prop := RDisk w' b d' ∧ Chg (fun k => k = b) w w'
theorem rdisk_bytes {w : World} {b : Nat} {d : DS} (h : RDisk w b d) (i : Nat) (hi : i < 4) (l : List UInt8) : RDisk (w.setCell ⟨b, i * 2, none⟩ (.string ⟨l.toArray⟩)) b ⟨upd d.F i l, d.S, d.R⟩ := by
  refine ⟨by simpa using h.lt, fun j hj => ?_, fun j hj => ?_, ?_, fun j => ?_⟩
  · by_cases e : j = i
    · subst e
      rw [World.cell?_setCell_same w _ _ (h.bytes j hj)]
      simp [upd, strV]
    · rw [World.cell?_setCell_other w _ _ _ (by simp <;> omega)]
      simp [upd, e]
      exact h.bytes j hj
  · rw [World.cell?_setCell_other w _ _ _ (by simp <;> omega)]; exact h.safe j hj
  · rw [World.cell?_setCell_other w _ _ _ (by simp <;> omega)]; exact h.room
  · rw [World.frozen?_setCell]; exact h.free j
theorem rdisk_safe {w : World} {b : Nat} {d : DS} (h : RDisk w b d) (i n : Nat) (hi : i < 4) : RDisk (w.setCell ⟨b, i * 2 + 1, none⟩ (.int .i64 (n : Int))) b ⟨d.F, upd d.S i n, d.R⟩ := by
  refine ⟨by simpa using h.lt, fun j hj => ?_, fun j hj => ?_, ?_, fun j => ?_⟩
  · rw [World.cell?_setCell_other w _ _ _ (by simp <;> omega)]; exact h.bytes j hj
  · by_cases e : j = i
    · subst e
      rw [World.cell?_setCell_same w _ _ (h.safe j hj)]
      simp [upd]
    · rw [World.cell?_setCell_other w _ _ _ (by simp <;> omega)]
      simp [upd, e]
      exact h.safe j hj
  · rw [World.cell?_setCell_other w _ _ _ (by simp <;> omega)]; exact h.room
  · rw [World.frozen?_setCell]; exact h.free j
theorem ROk.below {w w1 w2 : World} {b : Nat} {d : DS} (h : ROk w b d w1) (hb : Below w1.heap.size w1 w2) : ROk w b d w2 :=
  ⟨rdisk_below h.1 hb, h.2.trans (chg_below hb) (fun j _ hj => hj)⟩
theorem ROk.self {w : World} {b : Nat} {d : DS} (h : RDisk w b d) : ROk w b d w := ⟨h, Chg.refl _ _⟩
theorem ROk.drew {w : World} {b : Nat} {d : DS} (h : RDisk w b d) (q : Nat) : ROk w b d (w.drewN q) := (ROk.self h).below (below_drewN (Below.refl _ _) q)
theorem ROk.bytes {w w1 : World} {b : Nat} {d : DS} (h : ROk w b d w1) (i : Nat) (hi : i < 4) (l : List UInt8) : ROk w b ⟨upd d.F i l, d.S, d.R⟩ (w1.setCell ⟨b, i * 2, none⟩ (.string ⟨l.toArray⟩)) :=
  ⟨rdisk_bytes h.1 i hi l, h.2.trans (chg_set _ _ _) (fun j _ hj => hj)⟩
theorem ROk.safe {w w1 : World} {b : Nat} {d : DS} (h : ROk w b d w1) (i n : Nat) (hi : i < 4) : ROk w b ⟨d.F, upd d.S i n, d.R⟩ (w1.setCell ⟨b, i * 2 + 1, none⟩ (.int .i64 (n : Int))) :=
  ⟨rdisk_safe h.1 i n hi, h.2.trans (chg_set _ _ _) (fun j _ hj => hj)⟩

theorem ROk.drew1 {w w1 : World} {b : Nat} {d : DS} (h : ROk w b d w1) : ROk w b d w1.drew := h.below (below_drewN (Below.refl _ _) 1)
theorem str_append (l : List UInt8) (s : ByteArray) : ByteArray.mk (l ++ s.data.toList).toArray = ByteArray.mk l.toArray ++ s := by
  apply ByteArray.ext
  rw [ByteArray.data_append]
  apply Array.ext'
  simp
theorem str_take (l : List UInt8) (n : Nat) : ByteArray.mk (l.take n).toArray = (ByteArray.mk l.toArray).extract 0 n := by
  apply ByteArray.ext
  apply Array.ext'
  rw [extract_data, mk_data, mk_data, List.drop_zero, Nat.sub_zero]

theorem refSync_bad (p : Value) (i : Int) (h : i < 0 ∨ 4 ≤ i) (w : World) : Calls Tryd.prog 43 #[p, .int .i64 i] w fun e w' => e = .returned (.int .i64 40) ∧ w' = w := by
  go_enter Tryd.func43, Tryd.ntmps43
  go_wp2_with (go_at_call 54; refine (refIs_no i h _).mono ?_; rintro e w' ⟨rfl, hw'⟩; rw [hw']; clear hw' w')
  go_ret
  exact ⟨rfl, rfl⟩
theorem refAppend_bad (p : Value) (i : Int) (s : ByteArray) (h : i < 0 ∨ 4 ≤ i) (w : World) : Calls Tryd.prog 42 #[p, .int .i64 i, .string s] w fun e w' => e = .returned (.int .i64 40) ∧ w' = w := by
  go_enter Tryd.func42, Tryd.ntmps42
  go_wp2_with (go_at_call 54; refine (refIs_no i h _).mono ?_; rintro e w' ⟨rfl, hw'⟩; rw [hw']; clear hw' w')
  go_ret
  exact ⟨rfl, rfl⟩
theorem refCut_bad (p : Value) (i n : Int) (h : i < 0 ∨ 4 ≤ i) (w : World) : Calls Tryd.prog 56 #[p, .int .i64 i, .int .i64 n] w fun e w' => e = .returned (.int .i64 40) ∧ w' = w := by
  go_enter Tryd.func56, Tryd.ntmps56
  go_wp2_with (go_at_call 54; refine (refIs_no i h _).mono ?_; rintro e w' ⟨rfl, hw'⟩; rw [hw']; clear hw' w')
  go_ret
  exact ⟨rfl, rfl⟩

set_option maxHeartbeats 1000000 in
theorem refSync_any (w : World) (b : Nat) (d : DS) (i : Nat) (hi : i < 4) (h : RDisk w b d) :
    Calls Tryd.prog 43 #[.pointer (some ⟨b, 0, none⟩), .int .i64 (i : Int)] w fun e w' => e = .returned (.int .i64 0) ∧ ROk w b (syn d i) w' := by
  have h1 := h.bytes i hi
  have h2 := h.safe i hi
  have h3 := h.free (i * 2 + 1)
  have i4 : (i : Int) < 4 := by omega
  have hz := strV_size (d.F i)
  unfold strV at h1
  have HP : Hid (ROk w b (syn d i) (w.setCell ⟨b, i * 2 + 1, none⟩ (.int .i64 ((ByteArray.mk (d.F i).toArray).size : Int))).drew) := by
    rw [hz]; exact ((ROk.self h).safe i _ hi).drew1
  generalize ByteArray.mk (d.F i).toArray = y at *
  clear h hz
  go_enter Tryd.func43, Tryd.ntmps43
  go_wp2_with (go_at_call 54; refine (refIs_yes i hi _).mono ?_; rintro e w' ⟨rfl, hw'⟩; rw [hw']; clear hw' w')
  go_region
  go_wp2
  go_ret
  exact ⟨rfl, HP.out⟩

set_option maxHeartbeats 1000000 in
theorem refAppend_full (w : World) (b : Nat) (d : DS) (i : Nat) (s : ByteArray) (hi : i < 4) (h : RDisk w b d) (hk : Ok d) (hs : s.size ≤ 140737488355328) (hf : d.R < used d + s.size) :
    Calls Tryd.prog 42 #[.pointer (some ⟨b, 0, none⟩), .int .i64 (i : Int), .string s] w fun e w' => e = .returned (.int .i64 41) ∧ ROk w b d w' := by
  have h1 := h.room
  have hrm := hk.room
  have hmo := hk.most
  have HU : Hid (∀ n, Calls Tryd.prog 57 #[.pointer (some ⟨b, 0, none⟩)] (w.drewN n) fun e w' => e = .returned (.int .i64 (used d : Int)) ∧ w' = w.drewN n) := fun n => refUsed_any (w.drewN n) b d (rdisk_drewN h n) hk
  have HP : Hid (∀ q, ROk w b d (w.drewN q)) := fun q => ROk.drew h q
  have q1 : (d.R : Int) - (used d : Int) < (s.size : Int) := by omega
  clear h hk
  generalize used d = u at *
  generalize d.R = r at *
  go_enter Tryd.func42, Tryd.ntmps42
  go_wp2_with (go_at_call 54; refine (refIs_yes i hi _).mono ?_; rintro e w' ⟨rfl, hw'⟩; rw [hw']; clear hw' w')
  go_quiet (exact Calls.quiet_of_same (HU.out _))
  go_wp2
  go_ret
  exact ⟨rfl, HP.out _⟩

set_option maxHeartbeats 1000000 in
theorem refAppend_any (w : World) (b : Nat) (d : DS) (i : Nat) (s : ByteArray) (hi : i < 4) (h : RDisk w b d) (hk : Ok d) (hf : used d + s.size ≤ d.R) :
    Calls Tryd.prog 42 #[.pointer (some ⟨b, 0, none⟩), .int .i64 (i : Int), .string s] w fun e w' => e = .returned (.int .i64 0) ∧ ROk w b (app d i s.data.toList) w' := by
  have h1 := h.room
  have h2 := h.bytes i hi
  have h3 := h.free (i * 2)
  have i4 : (i : Int) < 4 := by omega
  have hle := file_le d i hi
  have hrm := hk.room
  have hmo := hk.most
  unfold strV at h2
  have HU : Hid (∀ n, Calls Tryd.prog 57 #[.pointer (some ⟨b, 0, none⟩)] (w.drewN n) fun e w' => e = .returned (.int .i64 (used d : Int)) ∧ w' = w.drewN n) := fun n => refUsed_any (w.drewN n) b d (rdisk_drewN h n) hk
  have HP : Hid (∀ q, ROk w b (app d i s.data.toList) ((w.drewN q).setCell ⟨b, i * 2, none⟩ (.string (ByteArray.mk (d.F i).toArray ++ s)))) := fun q => by
    rw [← str_append]; exact (ROk.drew h q).bytes i hi _
  have q1 : ¬ ((d.R : Int) - (used d : Int) < (s.size : Int)) := by omega
  have hz := strV_size (d.F i)
  have hyz : (ByteArray.mk (d.F i).toArray).size ≤ 1048576 := by omega
  have hss : s.size ≤ 1048576 := by omega
  generalize ByteArray.mk (d.F i).toArray = y at *
  clear h hk hle hz
  generalize used d = u at *
  generalize d.R = r at *
  go_enter Tryd.func42, Tryd.ntmps42
  go_wp2_with (go_at_call 54; refine (refIs_yes i hi _).mono ?_; rintro e w' ⟨rfl, hw'⟩; rw [hw']; clear hw' w')
  go_quiet (exact Calls.quiet_of_same (HU.out _))
  go_wp2_with fail
  go_region
  go_wp2
  go_ret
  exact ⟨rfl, HP.out _⟩

set_option maxHeartbeats 1000000 in
theorem refCut_arg (w : World) (b : Nat) (d : DS) (i : Nat) (n : Int) (hi : i < 4) (h : RDisk w b d) (hn : n < 0 ∨ ((d.F i).length : Int) < n) :
    Calls Tryd.prog 56 #[.pointer (some ⟨b, 0, none⟩), .int .i64 (i : Int), .int .i64 n] w fun e w' => e = .returned (.int .i64 1) ∧ ROk w b d w' := by
  have h1 := h.bytes i hi
  have i4 : (i : Int) < 4 := by omega
  have hz := strV_size (d.F i)
  unfold strV at h1
  rw [← hz] at hn
  generalize ByteArray.mk (d.F i).toArray = y at *
  have HP : Hid (ROk w b d w) := ROk.self h
  clear h hz
  by_cases h0 : n < 0
  · clear hn
    go_enter Tryd.func56, Tryd.ntmps56
    go_wp2_with (go_at_call 54; refine (refIs_yes i hi _).mono ?_; rintro e w' ⟨rfl, hw'⟩; rw [hw']; clear hw' w')
    go_ret
    exact ⟨rfl, HP.out⟩
  · have h2 : (y.size : Int) < n := by omega
    have h3 : decide (n < 0) = false := by simp; omega
    clear hn
    go_enter Tryd.func56, Tryd.ntmps56
    go_wp2_with (go_at_call 54; refine (refIs_yes i hi _).mono ?_; rintro e w' ⟨rfl, hw'⟩; rw [hw']; clear hw' w')
    go_ret
    exact ⟨rfl, HP.out⟩

set_option maxHeartbeats 1000000 in
theorem refCut_any (w : World) (b : Nat) (d : DS) (i n : Nat) (hi : i < 4) (h : RDisk w b d) (hn : n ≤ (d.F i).length) (hl : (d.F i).length ≤ 1048576) :
    Calls Tryd.prog 56 #[.pointer (some ⟨b, 0, none⟩), .int .i64 (i : Int), .int .i64 (n : Int)] w fun e w' => e = .returned (.int .i64 0) ∧ ROk w b (cut d i n) w' := by
  have h1 := h.bytes i hi
  have h2 := h.safe i hi
  have h3 := h.free (i * 2)
  have h3' := h.free (i * 2 + 1)
  have i4 : (i : Int) < 4 := by omega
  have hz := strV_size (d.F i)
  unfold strV at h1
  have HP : Hid (ROk w b (cut d i n) (((w.setCell ⟨b, i * 2, none⟩ (.string ((ByteArray.mk (d.F i).toArray).extract 0 n))).drew).setCell ⟨b, i * 2 + 1, none⟩ (.int .i64 ((min (d.S i) n : Nat) : Int))).drew) := by
    rw [← str_take]; exact ((((ROk.self h).bytes i hi _).drew1).safe i _ hi).drew1
  have p1 := ((ROk.self h).bytes i hi ((d.F i).take n)).drew1
  have k1 := p1.1.safe i hi
  have k2 := p1.1.free (i * 2 + 1)
  rw [str_take] at k1 k2
  simp only at k1
  clear p1
  rw [← hz] at hn hl
  generalize ByteArray.mk (d.F i).toArray = y at *
  generalize d.S i = S0 at *
  clear h hz
  have j0 : decide ((n : Int) < 0) = false := by simp
  have j1 : ¬ ((y.size : Int) < (n : Int)) := by omega
  by_cases hm : S0 ≤ n
  · rw [Nat.min_eq_left hm] at HP
    have q1 : (S0 : Int) ≤ (n : Int) := by omega
    go_enter Tryd.func56, Tryd.ntmps56
    go_wp2_with (go_at_call 54; refine (refIs_yes i hi _).mono ?_; rintro e w' ⟨rfl, hw'⟩; rw [hw']; clear hw' w')
    go_region
    go_wp2_with fail
    go_region
    go_wp2
    go_ret
    exact ⟨rfl, HP.out⟩
  · rw [Nat.min_eq_right (by omega)] at HP
    have q1 : (n : Int) < (S0 : Int) := by omega
    go_enter Tryd.func56, Tryd.ntmps56
    go_wp2_with (go_at_call 54; refine (refIs_yes i hi _).mono ?_; rintro e w' ⟨rfl, hw'⟩; rw [hw']; clear hw' w')
    go_region
    go_wp2_with fail
    go_region
    go_wp2
    go_ret
    exact ⟨rfl, HP.out⟩
end Go.Proofs.YtahkecdlibkokaaDoor.Dk