/- The walk of Crash. -/
import Derived.Test.YtahkecdlibkokaaDoorDkStepW
import Derived.Deep.RegionWith
set_option linter.unusedVariables false
set_option maxRecDepth 100000
namespace Go.Proofs.YtahkecdlibkokaaDoor.Dk
open Go.RowKit
open DiskMath

set_option maxRecDepth 100000 in
set_option maxHeartbeats 8000000 in
theorem crash_neg (w : World) (b : Nat) (V : Nat → Value) (d : DS) (keep : Int) (hneg : keep < 0) (hb : -9223372036854775808 ≤ keep) (h : PDisk w b V d) (hk : Ok d) :
    Calls Tryd.prog 22 #[.pointer (some ⟨b, 0, none⟩), .int .i64 keep] w fun e w' => e = .returned (.tuple #[]) ∧ POk w b V (crash d 0) w' := by
  have HOK : Hid (∀ k, k ≤ 4 → Ok (crs d 0 k).1) := ok_crs d 0 hk
  have HP0 : Hid (POk w b V (crs d 0 0).1 w) := POk.same h (Chg.refl _ _)
  have HL : Hid (∀ k, (crs d 0 k).2 ≤ 0) := crs_left d 0
  clear h hk
  go_enter Tryd.func22, Tryd.ntmps22
  go_wp2
  go_loopw [4, 10] (fun lf i wr => ∃ k : Nat, k ≤ 4 ∧ i = .int .i64 (k : Int) ∧ lf = .int .i64 (((crs d 0 k).2 : Nat) : Int) ∧ Hid (POk w b V (crs d 0 k).1 wr)) (fun _ i _ => 4 - (intOf i).toNat)
  case atStart => exact ⟨0, Nat.zero_le _, rfl, rfl, HP0⟩
  case round =>
    obtain ⟨k, hk4, rfl, rfl, HP⟩ := hrel
    have hlk := HL.out k
    by_cases hlt : k < 4
    · obtain ⟨V', hP, hC, hfp⟩ := HP.out
      have hok := HOK.out k hk4
      generalize hdk : (crs d 0 k).1 = dk at *
      generalize hleft : (crs d 0 k).2 = left at *
      have f1 := hP.bytes k hlt
      have f2 := hP.safe k hlt
      have hle := file_le dk k hlt
      have hrm := hok.room
      have hmo := hok.most
      have hsf := hok.safe k hlt
      obtain ⟨ao, cap, hv, _, _⟩ := own_row (hP.rows k hlt)
      rw [hv] at f1
      generalize hS0 : dk.S k = S0 at *
      generalize hn : (dk.F k).length = n at *
      have i4 : (k : Int) < 4 := by omega
      obtain ⟨m, hm⟩ : ∃ m, n = S0 + m := ⟨n - S0, by omega⟩
      subst hm
      have e0 : (S0 : Int) + (m : Int) - (S0 : Int) = (m : Int) := by omega
      clear HP
      by_cases hcs : left ≤ m
      · have q1 : (left : Int) ≤ (m : Int) := by omega
        have hst : stay dk k left = left := by unfold stay; omega
        have HC : Hid (∀ nq, Calls Tryd.prog 52 #[.slice ao (S0 + m) cap, .int .i64 (IntKind.i64.wrap ((S0 : Int) + (left : Int)))] (wr.drewN nq) fun e w'' => ∃ ao' cap', e = .returned (.slice ao' (S0 + left) cap') ∧ w''.cell? ⟨b, k * 2, none⟩ = some (.slice ao (S0 + m) cap) ∧ w''.frozen? ⟨b, k * 2, none⟩ = false ∧
            (w''.setCell ⟨b, k * 2, none⟩ (.slice ao' (S0 + left) cap')).cell? ⟨b, k * 2 + 1, none⟩ = some (.int .i64 (S0 : Int)) ∧ (w''.setCell ⟨b, k * 2, none⟩ (.slice ao' (S0 + left) cap')).frozen? ⟨b, k * 2 + 1, none⟩ = false ∧
            (w''.setCell ⟨b, k * 2, none⟩ (.slice ao' (S0 + left) cap')).cell? ⟨b, k * 2, none⟩ = some (.slice ao' (S0 + left) cap') ∧
            Hid (POk w b V (crs d 0 (k + 1)).1 ((w''.setCell ⟨b, k * 2, none⟩ (.slice ao' (S0 + left) cap')).setCell ⟨b, k * 2 + 1, none⟩ (.int .i64 ((S0 : Int) + (left : Int)))))) := by
          intro nq
          have hw1 : Below wr.heap.size wr (wr.drewN nq) := below_drewN (Below.refl _ _) nq
          have cf := first_put (wr.drewN nq) b V' dk k (S0 + left) (pdisk_below hP hw1) hok hlt (by omega)
          have hcr : (crs d 0 (k + 1)).1 = ⟨upd dk.F k ((dk.F k).take (S0 + left)), upd dk.S k (S0 + left), dk.R⟩ := by
            show cr (crs d 0 k).1 k (crs d 0 k).2 = _
            rw [hdk, hleft]
            unfold cr
            rw [hst, hS0]
          rw [show IntKind.i64.wrap ((S0 : Int) + (left : Int)) = (S0 : Int) + (left : Int) by rw [IntKind.wrap_i64]; omega]
          rw [hv, show ((S0 + left : Nat) : Int) = (S0 : Int) + (left : Int) by omega, hS0, ← hcr] at cf
          refine cf.mono ?_
          rintro e w'' ⟨ao', cap', k1, k2, k3, k4, k5, k6, k7⟩
          exact ⟨ao', cap', k1, k2, k3, k4, k5, k6, POk.step hC hfp (POk.below hw1 k7)⟩
        have HN : Hid ((crs d 0 (k + 1)).2 = left - left) := by
          show (crs d 0 k).2 - stay (crs d 0 k).1 k (crs d 0 k).2 = _
          rw [hdk, hleft, hst]
        have hbnd : S0 + left ≤ 1048576 := by omega
        have hsl : left ≤ left := by omega
        clear hP hC hfp hv hS0 hn hst hdk hleft HOK hok
        go_wp2_with fail
        go_quiet (fail)
        rename_i nq
        go_wp2_with fail
        go_region_with (go_at_call 52; refine (HC.out _).mono ?_; rintro e w2 ⟨ao', cap', rfl, e1, e2, e3, e4, e5, e6⟩)
        all_goals go_wp2
        all_goals exact ⟨⟨k + 1, by omega, by go_num, by rw [HN.out]; go_num, by assumption⟩, by simp [intOf]; omega⟩
      · omega
    · obtain rfl : k = 4 := by omega
      go_wp2
      go_end0
      exact ⟨rfl, HP.out⟩

set_option maxRecDepth 100000 in
set_option maxHeartbeats 8000000 in
theorem crash_nat (w : World) (b : Nat) (V : Nat → Value) (d : DS) (K : Nat) (hb : K ≤ 9223372036854775807) (h : PDisk w b V d) (hk : Ok d) :
    Calls Tryd.prog 22 #[.pointer (some ⟨b, 0, none⟩), .int .i64 (K : Int)] w fun e w' => e = .returned (.tuple #[]) ∧ POk w b V (crash d K) w' := by
  have HOK : Hid (∀ k, k ≤ 4 → Ok (crs d K k).1) := ok_crs d K hk
  have HP0 : Hid (POk w b V (crs d K 0).1 w) := POk.same h (Chg.refl _ _)
  have HL : Hid (∀ k, (crs d K k).2 ≤ K) := crs_left d K
  have hnn : decide ((K : Int) < 0) = false := by simp
  clear h hk
  go_enter Tryd.func22, Tryd.ntmps22
  go_wp2
  go_loopw [4, 10] (fun lf i wr => ∃ k : Nat, k ≤ 4 ∧ i = .int .i64 (k : Int) ∧ lf = .int .i64 (((crs d K k).2 : Nat) : Int) ∧ Hid (POk w b V (crs d K k).1 wr)) (fun _ i _ => 4 - (intOf i).toNat)
  case atStart => exact ⟨0, Nat.zero_le _, rfl, rfl, HP0⟩
  case round =>
    obtain ⟨k, hk4, rfl, rfl, HP⟩ := hrel
    have hlk := HL.out k
    by_cases hlt : k < 4
    · obtain ⟨V', hP, hC, hfp⟩ := HP.out
      have hok := HOK.out k hk4
      generalize hdk : (crs d K k).1 = dk at *
      generalize hleft : (crs d K k).2 = left at *
      have f1 := hP.bytes k hlt
      have f2 := hP.safe k hlt
      have hle := file_le dk k hlt
      have hrm := hok.room
      have hmo := hok.most
      have hsf := hok.safe k hlt
      obtain ⟨ao, cap, hv, _, _⟩ := own_row (hP.rows k hlt)
      rw [hv] at f1
      generalize hS0 : dk.S k = S0 at *
      generalize hn : (dk.F k).length = n at *
      have i4 : (k : Int) < 4 := by omega
      obtain ⟨m, hm⟩ : ∃ m, n = S0 + m := ⟨n - S0, by omega⟩
      subst hm
      have e0 : (S0 : Int) + (m : Int) - (S0 : Int) = (m : Int) := by omega
      clear HP
      by_cases hcs : left ≤ m
      · have q1 : (left : Int) ≤ (m : Int) := by omega
        have hst : stay dk k left = left := by unfold stay; omega
        have HC : Hid (∀ nq, Calls Tryd.prog 52 #[.slice ao (S0 + m) cap, .int .i64 (IntKind.i64.wrap ((S0 : Int) + (left : Int)))] (wr.drewN nq) fun e w'' => ∃ ao' cap', e = .returned (.slice ao' (S0 + left) cap') ∧ w''.cell? ⟨b, k * 2, none⟩ = some (.slice ao (S0 + m) cap) ∧ w''.frozen? ⟨b, k * 2, none⟩ = false ∧
            (w''.setCell ⟨b, k * 2, none⟩ (.slice ao' (S0 + left) cap')).cell? ⟨b, k * 2 + 1, none⟩ = some (.int .i64 (S0 : Int)) ∧ (w''.setCell ⟨b, k * 2, none⟩ (.slice ao' (S0 + left) cap')).frozen? ⟨b, k * 2 + 1, none⟩ = false ∧
            (w''.setCell ⟨b, k * 2, none⟩ (.slice ao' (S0 + left) cap')).cell? ⟨b, k * 2, none⟩ = some (.slice ao' (S0 + left) cap') ∧
            Hid (POk w b V (crs d K (k + 1)).1 ((w''.setCell ⟨b, k * 2, none⟩ (.slice ao' (S0 + left) cap')).setCell ⟨b, k * 2 + 1, none⟩ (.int .i64 ((S0 : Int) + (left : Int)))))) := by
          intro nq
          have hw1 : Below wr.heap.size wr (wr.drewN nq) := below_drewN (Below.refl _ _) nq
          have cf := first_put (wr.drewN nq) b V' dk k (S0 + left) (pdisk_below hP hw1) hok hlt (by omega)
          have hcr : (crs d K (k + 1)).1 = ⟨upd dk.F k ((dk.F k).take (S0 + left)), upd dk.S k (S0 + left), dk.R⟩ := by
            show cr (crs d K k).1 k (crs d K k).2 = _
            rw [hdk, hleft]
            unfold cr
            rw [hst, hS0]
          rw [show IntKind.i64.wrap ((S0 : Int) + (left : Int)) = (S0 : Int) + (left : Int) by rw [IntKind.wrap_i64]; omega]
          rw [hv, show ((S0 + left : Nat) : Int) = (S0 : Int) + (left : Int) by omega, hS0, ← hcr] at cf
          refine cf.mono ?_
          rintro e w'' ⟨ao', cap', k1, k2, k3, k4, k5, k6, k7⟩
          exact ⟨ao', cap', k1, k2, k3, k4, k5, k6, POk.step hC hfp (POk.below hw1 k7)⟩
        have HN : Hid ((crs d K (k + 1)).2 = left - left) := by
          show (crs d K k).2 - stay (crs d K k).1 k (crs d K k).2 = _
          rw [hdk, hleft, hst]
        have hbnd : S0 + left ≤ 1048576 := by omega
        have hsl : left ≤ left := by omega
        clear hP hC hfp hv hS0 hn hst hdk hleft HOK hok
        go_wp2_with fail
        go_quiet (fail)
        rename_i nq
        go_wp2_with fail
        go_region_with (go_at_call 52; refine (HC.out _).mono ?_; rintro e w2 ⟨ao', cap', rfl, e1, e2, e3, e4, e5, e6⟩)
        all_goals go_wp2
        all_goals exact ⟨⟨k + 1, by omega, by go_num, by rw [HN.out]; go_num, by assumption⟩, by simp [intOf]; omega⟩
      · have q1 : (m : Int) < (left : Int) := by omega
        have hst : stay dk k left = m := by unfold stay; omega
        have HC : Hid (∀ nq, Calls Tryd.prog 52 #[.slice ao (S0 + m) cap, .int .i64 (IntKind.i64.wrap ((S0 : Int) + (m : Int)))] (wr.drewN nq) fun e w'' => ∃ ao' cap', e = .returned (.slice ao' (S0 + m) cap') ∧ w''.cell? ⟨b, k * 2, none⟩ = some (.slice ao (S0 + m) cap) ∧ w''.frozen? ⟨b, k * 2, none⟩ = false ∧
            (w''.setCell ⟨b, k * 2, none⟩ (.slice ao' (S0 + m) cap')).cell? ⟨b, k * 2 + 1, none⟩ = some (.int .i64 (S0 : Int)) ∧ (w''.setCell ⟨b, k * 2, none⟩ (.slice ao' (S0 + m) cap')).frozen? ⟨b, k * 2 + 1, none⟩ = false ∧
            (w''.setCell ⟨b, k * 2, none⟩ (.slice ao' (S0 + m) cap')).cell? ⟨b, k * 2, none⟩ = some (.slice ao' (S0 + m) cap') ∧
            Hid (POk w b V (crs d K (k + 1)).1 ((w''.setCell ⟨b, k * 2, none⟩ (.slice ao' (S0 + m) cap')).setCell ⟨b, k * 2 + 1, none⟩ (.int .i64 ((S0 : Int) + (m : Int)))))) := by
          intro nq
          have hw1 : Below wr.heap.size wr (wr.drewN nq) := below_drewN (Below.refl _ _) nq
          have cf := first_put (wr.drewN nq) b V' dk k (S0 + m) (pdisk_below hP hw1) hok hlt (by omega)
          have hcr : (crs d K (k + 1)).1 = ⟨upd dk.F k ((dk.F k).take (S0 + m)), upd dk.S k (S0 + m), dk.R⟩ := by
            show cr (crs d K k).1 k (crs d K k).2 = _
            rw [hdk, hleft]
            unfold cr
            rw [hst, hS0]
          rw [show IntKind.i64.wrap ((S0 : Int) + (m : Int)) = (S0 : Int) + (m : Int) by rw [IntKind.wrap_i64]; omega]
          rw [hv, show ((S0 + m : Nat) : Int) = (S0 : Int) + (m : Int) by omega, hS0, ← hcr] at cf
          refine cf.mono ?_
          rintro e w'' ⟨ao', cap', k1, k2, k3, k4, k5, k6, k7⟩
          exact ⟨ao', cap', k1, k2, k3, k4, k5, k6, POk.step hC hfp (POk.below hw1 k7)⟩
        have HN : Hid ((crs d K (k + 1)).2 = left - m) := by
          show (crs d K k).2 - stay (crs d K k).1 k (crs d K k).2 = _
          rw [hdk, hleft, hst]
        have hbnd : S0 + m ≤ 1048576 := by omega
        have hsl : m ≤ left := by omega
        clear hP hC hfp hv hS0 hn hst hdk hleft HOK hok
        go_wp2_with fail
        go_quiet (fail)
        rename_i nq
        go_wp2_with fail
        go_region_with (go_at_call 52; refine (HC.out _).mono ?_; rintro e w2 ⟨ao', cap', rfl, e1, e2, e3, e4, e5, e6⟩)
        all_goals go_wp2
        all_goals exact ⟨⟨k + 1, by omega, by go_num, by rw [HN.out]; go_num, by assumption⟩, by simp [intOf]; omega⟩
    · obtain rfl : k = 4 := by omega
      go_wp2
      go_end0
      exact ⟨rfl, HP.out⟩

theorem crash_any (w : World) (b : Nat) (V : Nat → Value) (d : DS) (keep : Int) (h : PDisk w b V d) (hk : Ok d) (hb : -9223372036854775808 ≤ keep ∧ keep ≤ 9223372036854775807) :
    Calls Tryd.prog 22 #[.pointer (some ⟨b, 0, none⟩), .int .i64 keep] w fun e w' => e = .returned (.tuple #[]) ∧ POk w b V (crash d keep.toNat) w' := by
  by_cases h0 : keep < 0
  · rw [show keep.toNat = 0 by omega]
    exact crash_neg w b V d keep h0 hb.1 h hk
  · obtain ⟨K, rfl⟩ := Int.eq_ofNat_of_zero_le (show 0 ≤ keep by omega)
    exact crash_nat w b V d K (by omega) h hk
end Go.Proofs.YtahkecdlibkokaaDoor.Dk