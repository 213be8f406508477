/- The walks of the laws' own 'pick' and 'same'. -/
import Derived.Test.YtahkecdlibkokaaDoorRefJW
import Derived.Test.YtahkecdlibkokaaDoorJMath2
set_option linter.unusedVariables false
set_option maxRecDepth 100000
namespace Go.Proofs.YtahkecdlibkokaaDoor
open Go.RowKit
open DiskMath

theorem pick_any (c : Int) (n : Nat) (h1 : 1 ≤ n) (h2 : n ≤ 4194304) (hc : -9223372036854775808 ≤ c ∧ c ≤ 9223372036854775807) (w : World) :
    Calls Tryd.prog 10 #[.int .i64 c, .int .i64 (n : Int)] w fun e w' => e = .returned (.int .i64 (pick c n : Int)) ∧ w' = w := by
  by_cases h : c < 0
  · obtain ⟨m, hm⟩ := Int.eq_ofNat_of_zero_le (show 0 ≤ -(c + 1) by omega)
    have hp : Hid ((pick c n : Int) = -(c + 1).tmod (n : Int)) := by
      show _ = _
      unfold pick
      rw [if_pos h, ← Int.neg_tmod, hm, Int.tmod_eq_emod_of_nonneg (by omega), Int.toNat_natCast]
      rfl
    clear hm
    have n0 : ¬ n = 0 := by omega
    go_enter Tryd.func10, Tryd.ntmps10
    go_wp2
    go_ret
    rw [hp.out]
    exact ⟨rfl, rfl⟩
  · obtain ⟨m, rfl⟩ := Int.eq_ofNat_of_zero_le (show 0 ≤ c by omega)
    have hp : Hid ((pick (m : Int) n : Int) = (m : Int) % (n : Int)) := by
      show _ = _
      unfold pick
      rw [if_neg h, Int.toNat_natCast]
      rfl
    have n0 : ¬ n = 0 := by omega
    go_enter Tryd.func10, Tryd.ntmps10
    go_wp2
    go_ret
    rw [hp.out]
    exact ⟨rfl, rfl⟩
theorem pick_lt (c : Int) (n : Nat) (h : 1 ≤ n) : pick c n < n := by unfold pick; exact Nat.mod_lt _ h
theorem srow_drewN {w : World} {v : Value} {xs : List (List UInt8)} (h : SRow w v xs) (n : Nat) : SRow (w.drewN n) v xs := by
  obtain ⟨ao, cap, rfl, hc, hrow⟩ := h
  refine ⟨ao, cap, rfl, hc, fun j hj => ?_⟩
  obtain ⟨g, o, h1, h2⟩ := hrow j hj
  exact ⟨g, o, h1, by rw [← h2]; simp [World.cell?]⟩
theorem srow_set {w : World} {v : Value} {xs : List (List UInt8)} (h : SRow w v xs) (p : Addr) (u : Value) (hne : ∀ g, v.ownBlock = some g → g ≠ p.block) : SRow (w.setCell p u) v xs := by
  obtain ⟨ao, cap, rfl, hc, hrow⟩ := h
  refine ⟨ao, cap, rfl, hc, fun j hj => ?_⟩
  obtain ⟨g, o, rfl, h2⟩ := hrow j hj
  refine ⟨g, o, rfl, ?_⟩
  rw [World.cell?_setCell_other w _ _ _ (fun e => hne g rfl (by rw [e]))]
  exact h2
/-- What an owned row that is not empty looks like. -/
theorem own_shape {w : World} {B e n : Nat} {v : Value} {xs : List Value} (h : w.ownsRow B e 1 v n xs) (hn : 0 < n) : ∃ g cap, v = .slice (some ⟨g, 0, none⟩) n cap ∧ B ≤ g ∧ g < w.heap.size ∧ n ≤ cap ∧ cap ≤ maxLen ∧
    (∀ j, j < n → w.cell? ⟨g, j, none⟩ = xs[j]?) ∧ ∀ j, w.frozen? ⟨g, j, none⟩ = false := by
  rcases h.2 with ⟨rfl, h0⟩ | ⟨g, cap, cur, rfl, hb, hg, hnc, hcm, hcs, htake⟩
  · omega
  · exact ⟨g, cap, rfl, hb, (Array.getElem?_eq_some_iff.1 hg).1, hnc, hcm, fun j hj => h.cellAt j (by omega), fun j => h.frozenAt j⟩

set_option maxHeartbeats 1600000 in
theorem same_true (xs : List (List UInt8)) (hx : xs.length ≤ 140737488355328) (v v2 : Value) (w : World) (h1 : SRow w v xs) (h2 : SRow w v2 xs) :
    Calls Tryd.prog 23 #[v, v2] w fun e w' => e = .returned (.bool true) ∧ ∃ q, w' = w.drewN q := by
  obtain ⟨ao, cap, rfl, hca, hrow⟩ := h1
  obtain ⟨bo, cap2, rfl, hcb, hrow2⟩ := h2
  have HR : Hid (∀ j, (h : j < xs.length) → ∃ g o, ao = some ⟨g, o, none⟩ ∧ w.cell? ⟨g, o + j, none⟩ = some (strV xs[j])) := hrow
  have HR2 : Hid (∀ j, (h : j < xs.length) → ∃ g o, bo = some ⟨g, o, none⟩ ∧ w.cell? ⟨g, o + j, none⟩ = some (strV xs[j])) := hrow2
  clear hrow hrow2
  go_enter Tryd.func23, Tryd.ntmps23
  go_wp2
  go_loopw [5] (fun i wr => ∃ k q : Nat, wr = w.drewN q ∧ k ≤ xs.length ∧ i = .int .i64 k) (fun i _ => xs.length - (intOf i).toNat)
  case atStart => exact ⟨0, 0, rfl, Nat.zero_le _, rfl⟩
  case round =>
    obtain ⟨k, q, rfl, hk, rfl⟩ := hrel
    by_cases hlt : k < xs.length
    · obtain ⟨g, o, rfl, hc1⟩ := HR.out k hlt
      obtain ⟨g2, o2, rfl, hc2⟩ := HR2.out k hlt
      unfold strV at hc1 hc2
      generalize xs[k] = x at *
      generalize (ByteArray.mk x.toArray) = y at *
      clear HR HR2
      have i1 : (k : Int) < (xs.length : Int) := by omega
      go_wp2
      go_quiet (fail)
      go_wp2
      exact ⟨⟨k + 1, _, rfl, by omega, by go_num⟩, by simp [intOf]; omega⟩
    · clear HR HR2
      go_wp2
      go_ret
      exact ⟨rfl, q, rfl⟩
theorem below_drew_of {B : Nat} {w w1 w' : World} (h : Below B w w1) {q : Nat} (e : w' = w1.drewN q) : Below B w w' := by rw [e]; exact below_drewN h q
end Go.Proofs.YtahkecdlibkokaaDoor
