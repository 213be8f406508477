/- The walks of Append, Cut and New. -/
import Derived.Test.YtahkecdlibkokaaDoorDkOpsW
set_option linter.unusedVariables false
set_option maxRecDepth 100000
namespace Go.Proofs.YtahkecdlibkokaaDoor.Dk
open Go.RowKit
open DiskMath

theorem own_zero {w : World} {B e n : Nat} {v : Value} {xs : List Value} (h : w.ownsRow B e 1 v n xs) : w.ownsRow 0 e 1 v n xs := own_base h (Nat.zero_le _)

set_option maxHeartbeats 2000000 in
theorem append_full (w : World) (b : Nat) (V : Nat → Value) (d : DS) (i : Nat) (s : ByteArray) (hi : i < 4) (h : PDisk w b V d) (hk : Ok d) (hs : s.size ≤ 140737488355328) (hf : d.R < used d + s.size) :
    Calls Tryd.prog 40 #[.pointer (some ⟨b, 0, none⟩), .int .i64 (i : Int), .string s] w fun e w' => e = .returned (.int .i64 41) ∧ ∃ q, w' = w.drewN q := by
  have h1 := h.room
  have hrm := hk.room
  have hmo := hk.most
  have HU : Hid (∀ n, Calls Tryd.prog 27 #[.pointer (some ⟨b, 0, none⟩)] (w.drewN n) fun e w' => e = .returned (.int .i64 (used d : Int)) ∧ w' = w.drewN n) := fun n => used_any (w.drewN n) b V d (pdisk_drewN h n) hk
  have q1 : (d.R : Int) - (used d : Int) < (s.size : Int) := by omega
  clear h hk
  generalize used d = u at *
  generalize d.R = r at *
  go_enter Tryd.func40, Tryd.ntmps40
  go_wp2_with (go_at_call 51; refine (isFile_yes i hi _).mono ?_; rintro e w' ⟨rfl, hw'⟩; rw [hw']; clear hw' w')
  go_quiet (exact Calls.quiet_of_same (HU.out _))
  go_wp2
  go_ret
  exact ⟨rfl, _, rfl⟩

set_option maxHeartbeats 2000000 in
theorem append_any (w : World) (b : Nat) (V : Nat → Value) (d : DS) (i : Nat) (s : ByteArray) (hi : i < 4) (h : PDisk w b V d) (hk : Ok d) (hf : used d + s.size ≤ d.R) :
    Calls Tryd.prog 40 #[.pointer (some ⟨b, 0, none⟩), .int .i64 (i : Int), .string s] w fun e w' => e = .returned (.int .i64 0) ∧ POk w b V (app d i s.data.toList) w' := by
  obtain ⟨i0, hinf, hz0, hz1, hz2⟩ := info_parts infoB
  have h1 := h.room
  have h2 := h.bytes i hi
  have hr := h.rows i hi
  have hfb := h.free (i * 2)
  have hle := file_le d i hi
  have hrm := hk.room
  have hmo := hk.most
  have hlt := h.lt
  have hoff := h.off i hi
  have HU : Hid (∀ n, Calls Tryd.prog 27 #[.pointer (some ⟨b, 0, none⟩)] (w.drewN n) fun e w' => e = .returned (.int .i64 (used d : Int)) ∧ w' = w.drewN n) := fun n => used_any (w.drewN n) b V d (pdisk_drewN h n) hk
  have HP : Hid (∀ n (w' : World) v', (w.drewN n).grownBy w' (V i).ownBlock → w'.ownsRow 0 5 1 v' (d.F i ++ s.data.toList).length (cells8 (d.F i ++ s.data.toList)) → (∀ g, v'.ownBlock = some g → (V i).ownBlock = some g ∨ (w.drewN n).heap.size ≤ g) → POk w b V (app d i s.data.toList) (w'.setCell ⟨b, i * 2, none⟩ v')) := by
    intro n w' v' hg hv hf
    obtain ⟨p1, p2, p3⟩ := pdisk_row (pdisk_drewN h n) i hi hg v' _ hv hf
    have hb : Below w.heap.size w (w.drewN n) := below_drewN (Below.refl _ _) n
    have hsz : (w.drewN n).heap.size = w.heap.size := by simp
    refine ⟨_, p1, (chg_below hb).trans p2 (fun j _ hj => hj), fun k hk => ?_⟩
    rcases p3 k hk with h1 | h1
    · exact Or.inl h1
    · right; omega
  have HRW : Hid (∀ n, (w.drewN n).ownsRow 0 5 1 (V i) (d.F i).length (cells8 (d.F i))) := fun n => own_below hr (below_drewN (Below.refl _ _) n)
  have HCE : Hid (∀ n (w' : World), (w.drewN n).grownBy w' (V i).ownBlock → w'.cell? ⟨b, i * 2, none⟩ = some (V i) ∧ w'.frozen? ⟨b, i * 2, none⟩ = false) := by
    intro n w' hg
    have hb : w'.heap[b]? = (w.drewN n).heap[b]? := hg.block b (by simpa using hlt) (fun e => hoff e.symm)
    refine ⟨?_, ?_⟩
    · rw [World.cell?_of_block (w := w.drewN n) (a := ⟨b, i * 2, none⟩) hb]; simpa using h2
    · rw [World.frozen?_of_block (w := w.drewN n) (a := ⟨b, i * 2, none⟩) hb]; simpa using hfb
  have q1 : ¬ ((d.R : Int) - (used d : Int) < (s.size : Int)) := by omega
  have hbd : (d.F i).length + s.size ≤ 140737488355328 := by omega
  clear h hk hr hle hfb hlt hoff
  generalize used d = u at *
  generalize d.R = r at *
  go_enter Tryd.func40, Tryd.ntmps40
  go_wp2_with (go_at_call 51; refine (isFile_yes i hi _).mono ?_; rintro e w' ⟨rfl, hw'⟩; rw [hw']; clear hw' w')
  go_quiet (exact Calls.quiet_of_same (HU.out _))
  rename_i nq
  go_wp2_with (at_builtin; refine wpList_append_where _ rfl _ _ 99 9 rfl 5 i0 Tryd.underlying99 Tryd.underlying9 hinf hz0 hz1 hz2 (V i) (d.F i) rfl (HRW.out nq) s rfl hbd ?_)
  intro v' w' hv' hg' hf'
  obtain ⟨hce, hfr⟩ := HCE.out nq w' hg'
  have HPO : Hid (POk w b V (app d i s.data.toList) (w'.setCell ⟨b, i * 2, none⟩ v')) := HP.out nq w' v' hg' (own_cast (by rw [List.length_append, size_data]) rfl hv') hf'
  obtain ⟨ao', cap', hsh, _, _⟩ := own_row hv'
  subst hsh
  clear hv' hg' hf' HP HRW HCE HU
  go_wp2
  go_ret
  exact ⟨rfl, HPO.out⟩

set_option maxHeartbeats 2000000 in
theorem cut_arg (w : World) (b : Nat) (V : Nat → Value) (d : DS) (i : Nat) (n : Int) (hi : i < 4) (h : PDisk w b V d) (hk : Ok d) (hn : n < 0 ∨ ((d.F i).length : Int) < n) :
    Calls Tryd.prog 48 #[.pointer (some ⟨b, 0, none⟩), .int .i64 (i : Int), .int .i64 n] w fun e w' => e = .returned (.int .i64 1) ∧ w' = w := by
  have h1 := h.bytes i hi
  obtain ⟨ao, cap, hv, hcap, _⟩ := own_row (h.rows i hi)
  rw [hv] at h1
  have i4 : (i : Int) < 4 := by omega
  clear h hk hv hcap
  by_cases h0 : n < 0
  · clear hn
    go_enter Tryd.func48, Tryd.ntmps48
    go_wp2_with (go_at_call 51; refine (isFile_yes i hi _).mono ?_; rintro e w' ⟨rfl, hw'⟩; rw [hw']; clear hw' w')
    go_ret
    exact ⟨rfl, rfl⟩
  · have h2 : ((d.F i).length : Int) < n := by omega
    have h3 : decide (n < 0) = false := by simp; omega
    clear hn
    go_enter Tryd.func48, Tryd.ntmps48
    go_wp2_with (go_at_call 51; refine (isFile_yes i hi _).mono ?_; rintro e w' ⟨rfl, hw'⟩; rw [hw']; clear hw' w')
    go_ret
    exact ⟨rfl, rfl⟩

set_option maxHeartbeats 2000000 in
theorem cut_any (w : World) (b : Nat) (V : Nat → Value) (d : DS) (i n : Nat) (hi : i < 4) (h : PDisk w b V d) (hk : Ok d) (hn : n ≤ (d.F i).length) :
    Calls Tryd.prog 48 #[.pointer (some ⟨b, 0, none⟩), .int .i64 (i : Int), .int .i64 (n : Int)] w fun e w' => e = .returned (.int .i64 0) ∧ POk w b V (cut d i n) w' := by
  have h1 := h.bytes i hi
  have hr := h.rows i hi
  have hle := file_le d i hi
  have hrm := hk.room
  have hmo := hk.most
  obtain ⟨ao, cap, hv, hcap, _⟩ := own_row hr
  have HC : Hid (Calls Tryd.prog 52 #[.slice ao (d.F i).length cap, .int .i64 (n : Int)] w fun e w'' => ∃ ao' cap', e = .returned (.slice ao' n cap') ∧ w''.cell? ⟨b, i * 2, none⟩ = some (V i) ∧ w''.frozen? ⟨b, i * 2, none⟩ = false ∧
      (w''.setCell ⟨b, i * 2, none⟩ (.slice ao' n cap')).cell? ⟨b, i * 2 + 1, none⟩ = some (.int .i64 (d.S i : Int)) ∧ (w''.setCell ⟨b, i * 2, none⟩ (.slice ao' n cap')).frozen? ⟨b, i * 2 + 1, none⟩ = false ∧
      POk w b V (cut d i n) ((w''.setCell ⟨b, i * 2, none⟩ (.slice ao' n cap')).setCell ⟨b, i * 2 + 1, none⟩ (.int .i64 ((min (d.S i) n : Nat) : Int)))) := by
    rw [hv] at hr
    refine (first_any w _ (d.F i) n hn (by omega) hr).mono ?_
    rintro e w'' ⟨v', rfl, h2, h3⟩
    have hlen : n = ((d.F i).take n).length := by rw [List.length_take]; omega
    have hv0 : w''.ownsRow 0 5 1 v' ((d.F i).take n).length (cells8 ((d.F i).take n)) := own_cast hlen rfl (own_zero h2)
    obtain ⟨p1, p2, p3⟩ := pdisk_row h i hi ⟨h3.os, h3.tape, h3.output, h3.size, fun k hk _ => h3.block k hk⟩ v' _ hv0 (fun g hg => Or.inr (h2.lt g hg).1)
    have p4 := pdisk_safe p1 i (min (d.S i) n) hi
    obtain ⟨ao', cap', rfl, _, _⟩ := own_row h2
    have hb := h3.block b h.lt
    refine ⟨ao', cap', rfl, ?_, ?_, p1.safe i hi, p1.free _, ?_⟩
    · rw [World.cell?_of_block (w := w) (a := ⟨b, i * 2, none⟩) hb]; exact h.bytes i hi
    · rw [World.frozen?_of_block (w := w) (a := ⟨b, i * 2, none⟩) hb]; exact h.free _
    · exact ⟨_, p4, p2.trans (chg_set _ _ _) (fun k _ e => Or.inl e), p3⟩
  rw [hv] at h1
  have HV : Hid (V i = .slice ao (d.F i).length cap) := hv
  have i4 : (i : Int) < 4 := by omega
  have j0 : decide ((n : Int) < 0) = false := by simp
  have j1 : ¬ (((d.F i).length : Int) < (n : Int)) := by omega
  have hsf := hk.safe i hi
  clear h hk hr hcap hle hv
  generalize (d.F i).length = L at *
  generalize d.S i = S0 at *
  by_cases hm : S0 ≤ n
  · rw [Nat.min_eq_left hm] at HC
    have q1 : (S0 : Int) ≤ (n : Int) := by omega
    go_enter Tryd.func48, Tryd.ntmps48
    go_wp2_with (go_at_call 51; refine (isFile_yes i hi _).mono ?_; rintro e w' ⟨rfl, hw'⟩; rw [hw']; clear hw' w')
    refine HC.out.mono ?_
    rintro e w2 ⟨ao', cap', rfl, e1, e2, e3, e4, e5⟩
    have HE5 : Hid (POk w b V (cut d i n) ((w2.setCell ⟨b, i * 2, none⟩ (.slice ao' n cap')).setCell ⟨b, i * 2 + 1, none⟩ (.int .i64 (S0 : Int)))) := e5
    rw [HV.out] at e1
    clear e5 h1
    go_wp2
    go_ret
    exact ⟨rfl, HE5.out⟩
  · rw [Nat.min_eq_right (by omega)] at HC
    have q1 : (n : Int) < (S0 : Int) := by omega
    go_enter Tryd.func48, Tryd.ntmps48
    go_wp2_with (go_at_call 51; refine (isFile_yes i hi _).mono ?_; rintro e w' ⟨rfl, hw'⟩; rw [hw']; clear hw' w')
    refine HC.out.mono ?_
    rintro e w2 ⟨ao', cap', rfl, e1, e2, e3, e4, e5⟩
    have HE5 : Hid (POk w b V (cut d i n) ((w2.setCell ⟨b, i * 2, none⟩ (.slice ao' n cap')).setCell ⟨b, i * 2 + 1, none⟩ (.int .i64 (n : Int)))) := e5
    rw [HV.out] at e1
    clear e5 h1
    go_wp2
    go_ret
    exact ⟨rfl, HE5.out⟩

theorem new_bad (r : Int) (h : r < 1 ∨ 1048576 < r) (w : World) : Calls Tryd.prog 28 #[.int .i64 r] w fun e w' => e = .returned (.tuple #[.pointer none, .int .i64 1]) ∧ w' = w := by
  by_cases h0 : r < 1
  · clear h
    go_enter Tryd.func28, Tryd.ntmps28
    go_wp2
    go_ret2
    exact ⟨rfl, rfl⟩
  · have h1 : 1048576 < r := by omega
    have h2 : decide (r < 1) = false := by simp; omega
    clear h
    go_enter Tryd.func28, Tryd.ntmps28
    go_wp2
    go_ret2
    exact ⟨rfl, rfl⟩
theorem pdisk_new (w : World) (r : Nat) : PDisk (w.alloc (.cells #[.slice none 0 0, .int .i64 0, .slice none 0 0, .int .i64 0, .slice none 0 0, .int .i64 0, .slice none 0 0, .int .i64 0, .int .i64 (r : Int)] 104)) w.heap.size (fun _ => .slice none 0 0) (new r) := by
  refine ⟨by simp, fun i hi => ?_, fun i hi => ?_, by simp [new], fun j => ?_, fun i hi => World.ownsRow_nil _ _ _ _, fun i j _ _ _ g hg => (by cases hg), fun i _ h => (by cases h)⟩
  · rcases (show i = 0 ∨ i = 1 ∨ i = 2 ∨ i = 3 by omega) with rfl | rfl | rfl | rfl <;> simp
  · rcases (show i = 0 ∨ i = 1 ∨ i = 2 ∨ i = 3 by omega) with rfl | rfl | rfl | rfl <;> simp [new]
  · rw [World.frozen?, heap_alloc_new w _]
    simp
theorem new_any (r : Nat) (h1 : 1 ≤ r) (h2 : r ≤ 1048576) (w : World) : Calls Tryd.prog 28 #[.int .i64 (r : Int)] w fun e w' => e = .returned (.tuple #[.pointer (some ⟨w.heap.size, 0, none⟩), .int .i64 0]) ∧ PDisk w' w.heap.size (fun _ => .slice none 0 0) (new r) ∧ Below w.heap.size w w' := by
  have q1 : ¬ ((r : Int) < 1) := by omega
  have q2 : ¬ ((1048576 : Int) < (r : Int)) := by omega
  go_enter Tryd.func28, Tryd.ntmps28
  go_wp2
  go_ret2
  exact ⟨rfl, pdisk_new w r, (Below.refl _ _).alloc (Nat.le_refl _) _⟩
end Go.Proofs.YtahkecdlibkokaaDoor.Dk