/- The walks of the laws' own 'set'. -/
import Derived.Test.YthenmngjojgmkaaSeqW
set_option linter.unusedVariables false
set_option maxRecDepth 100000
namespace Go.Proofs.Ythenmngjojgmkaa
open Go.RowKit
open WheelMath

set_option maxHeartbeats 2000000 in
theorem setF_any (v : Value) (l : List Op) (hl : l.length ≤ 140737488355328) (hok : ∀ o ∈ l, OpOk o) (w : World) (hO : ORow w v l) :
    Calls Try.prog 23 #[v, .bool false] w fun e w' => ∃ b, e = .returned (.pointer (some ⟨b, 0, none⟩)) ∧ WIn (fun k => k < w.heap.size) w b (seqR (pF l) l.length) w' := by
  have CB : Hid (Calls Try.prog 8 #[] w fun e w' => ∃ b, e = .returned (.pointer (some ⟨b, 0, none⟩)) ∧ WIn (fun k => k < w.heap.size) w b (seqR (pF l) 0) w') := begun_any w
  have HS : Hid (∀ b r w1 id tm, WIn (fun k => k < w.heap.size) w b r w1 → WheelMath.Good r → Calls Try.prog 11 #[.pointer (some ⟨b, 0, none⟩), .int .i64 id, .int .i64 tm] w1 fun e w' => e = .returned (.int .i64 (aSet r id tm).2) ∧ WIn (fun k => k < w.heap.size) w b (aSet r id tm).1 w') := fun b r w1 id tm h hg => set_all h hg id tm
  have HB : Hid (∀ b r w1, WIn (fun k => k < w.heap.size) w b r w1 → Below w.heap.size w w1) := fun b r w1 h => below_of_win h (Nat.le_refl _)
  have HO : Hid (ORow w v l) := hO
  have HOK : Hid (∀ o ∈ l, OpOk o) := hok
  obtain ⟨ao, cap, rfl, _⟩ := hO
  generalize hD : WIn (fun k => k < w.heap.size) w = D at *
  clear hD hok
  go_enter Try.func23, Try.ntmps23
  go_wp2_with fail
  refine CB.out.mono ?_
  rintro e w1 ⟨b, rfl, d1⟩
  have HD1 : Hid (D b (seqR (pF l) 0) w1) := d1
  clear d1 CB
  go_wp2_with fail
  go_loopw [6, 7] (fun i _ wr => ∃ k : Nat, k ≤ l.length ∧ i = .int .i64 (k : Int) ∧ Hid (D b (seqR (pF l) k) wr)) (fun i _ _ => l.length - (intOf i).toNat)
  case atStart => exact ⟨0, Nat.zero_le _, rfl, HD1⟩
  case round =>
    obtain ⟨k, hk, rfl, HI⟩ := hrel
    clear HD1
    by_cases hlt : k < l.length
    · have hq : k < l.length := by omega
      obtain ⟨_, _, he, _, _, hrow⟩ := HO.out
      cases he
      obtain ⟨g, o, rfl, hgl, _, _, c2⟩ := hrow k hq
      have e2 : wr.cell? ⟨g, o + k * 3 + 2, none⟩ = some (.int .i64 (l[k]'hq).At) := ((HB.out _ _ _ HI.out).cell (p := ⟨g, o + k * 3 + 2, none⟩) hgl).trans c2
      have hop := (HOK.out _ (List.getElem_mem hq)).2.2
      have CP : Hid (∀ w1, Calls Try.prog 22 #[.int .i64 (l[k]'hq).At, .int .i64 1000] w1 fun e w' => e = .returned (.int .i64 (pF l k).2) ∧ w' = w1) := fun w1 => by
        have := pick_any (l[k]'hq).At 1000 (by decide) (by decide) hop w1
        rw [show (pF l k).2 = ((pick (l[k]'hq).At 1000 : Nat) : Int) by unfold pF; rw [List.getD_eq_getElem?_getD, List.getElem?_eq_getElem hq]; rfl]
        exact this
      have CS : Hid (Calls Try.prog 11 #[.pointer (some ⟨b, 0, none⟩), .int .i64 ((((k) % 150 : Nat)) : Int), .int .i64 (pF l k).2] wr fun e w' => e = .returned (.int .i64 0) ∧ D b (seqR (pF l) (k + 1)) w') := by
        have := HS.out b _ wr (pF l k).1 (pF l k).2 HI.out (good_seq _ _)
        rw [setF_zero l k] at this
        exact this
      have i1 : (k : Int) < (l.length : Int) := by omega
      clear c2 hrow hop
      generalize (l[k]'hq).At = tm at *
      generalize (pF l k).2 = pt at *
      go_wp2_with fail
      refine (CP.out _).mono ?_
      rintro e w2 ⟨rfl, hw⟩
      rw [hw]; clear hw w2 CP
      go_wp2_with fail
      refine CS.out.mono ?_
      rintro e w2 ⟨rfl, d2⟩
      have HD2 : Hid (D b (seqR (pF l) (k + 1)) w2) := d2
      clear d2 CS HI
      go_wp2
      exact ⟨⟨k + 1, by omega, by go_num, HD2⟩, by simp [intOf]; omega⟩
    · obtain rfl : k = l.length := by omega
      go_wp2
      go_ret
      exact ⟨b, rfl, HI.out⟩
set_option maxHeartbeats 2000000 in
theorem setB_any (v : Value) (l : List Op) (hl : l.length ≤ 140737488355328) (hn : l.length ≤ 150) (hok : ∀ o ∈ l, OpOk o) (w : World) (hO : ORow w v l) :
    Calls Try.prog 23 #[v, .bool true] w fun e w' => ∃ b, e = .returned (.pointer (some ⟨b, 0, none⟩)) ∧ WIn (fun k => k < w.heap.size) w b (seqR (pB l) l.length) w' := by
  have CB : Hid (Calls Try.prog 8 #[] w fun e w' => ∃ b, e = .returned (.pointer (some ⟨b, 0, none⟩)) ∧ WIn (fun k => k < w.heap.size) w b (seqR (pB l) 0) w') := begun_any w
  have HS : Hid (∀ b r w1 id tm, WIn (fun k => k < w.heap.size) w b r w1 → WheelMath.Good r → Calls Try.prog 11 #[.pointer (some ⟨b, 0, none⟩), .int .i64 id, .int .i64 tm] w1 fun e w' => e = .returned (.int .i64 (aSet r id tm).2) ∧ WIn (fun k => k < w.heap.size) w b (aSet r id tm).1 w') := fun b r w1 id tm h hg => set_all h hg id tm
  have HB : Hid (∀ b r w1, WIn (fun k => k < w.heap.size) w b r w1 → Below w.heap.size w w1) := fun b r w1 h => below_of_win h (Nat.le_refl _)
  have HO : Hid (ORow w v l) := hO
  have HOK : Hid (∀ o ∈ l, OpOk o) := hok
  obtain ⟨ao, cap, rfl, _⟩ := hO
  generalize hD : WIn (fun k => k < w.heap.size) w = D at *
  clear hD hok
  go_enter Try.func23, Try.ntmps23
  go_wp2_with fail
  refine CB.out.mono ?_
  rintro e w1 ⟨b, rfl, d1⟩
  have HD1 : Hid (D b (seqR (pB l) 0) w1) := d1
  clear d1 CB
  go_wp2_with fail
  go_loopw [6, 7] (fun i _ wr => ∃ k : Nat, k ≤ l.length ∧ i = .int .i64 (k : Int) ∧ Hid (D b (seqR (pB l) k) wr)) (fun i _ _ => l.length - (intOf i).toNat)
  case atStart => exact ⟨0, Nat.zero_le _, rfl, HD1⟩
  case round =>
    obtain ⟨k, hk, rfl, HI⟩ := hrel
    clear HD1
    by_cases hlt : k < l.length
    · have hq : (l.length - 1 - k) < l.length := by omega
      obtain ⟨_, _, he, _, _, hrow⟩ := HO.out
      cases he
      obtain ⟨g, o, rfl, hgl, _, _, c2⟩ := hrow (l.length - 1 - k) hq
      have e2 : wr.cell? ⟨g, o + (l.length - 1 - k) * 3 + 2, none⟩ = some (.int .i64 (l[(l.length - 1 - k)]'hq).At) := ((HB.out _ _ _ HI.out).cell (p := ⟨g, o + (l.length - 1 - k) * 3 + 2, none⟩) hgl).trans c2
      have hop := (HOK.out _ (List.getElem_mem hq)).2.2
      have CP : Hid (∀ w1, Calls Try.prog 22 #[.int .i64 (l[(l.length - 1 - k)]'hq).At, .int .i64 1000] w1 fun e w' => e = .returned (.int .i64 (pB l k).2) ∧ w' = w1) := fun w1 => by
        have := pick_any (l[(l.length - 1 - k)]'hq).At 1000 (by decide) (by decide) hop w1
        rw [show (pB l k).2 = ((pick (l[(l.length - 1 - k)]'hq).At 1000 : Nat) : Int) by unfold pB; unfold pF; rw [List.getD_eq_getElem?_getD, List.getElem?_eq_getElem hq]; rfl]
        exact this
      have CS : Hid (Calls Try.prog 11 #[.pointer (some ⟨b, 0, none⟩), .int .i64 (((((l.length - 1 - k)) % 150 : Nat)) : Int), .int .i64 (pB l k).2] wr fun e w' => e = .returned (.int .i64 0) ∧ D b (seqR (pB l) (k + 1)) w') := by
        have := HS.out b _ wr (pB l k).1 (pB l k).2 HI.out (good_seq _ _)
        rw [(pB_mem l hn k (by omega)).2.2 hlt] at this
        exact this
      have i1 : (k : Int) < (l.length : Int) := by omega
      have i2 : (l.length : Int) - 1 - (k : Int) = ((l.length - 1 - k : Nat) : Int) := by omega
      have i3 : ((l.length - 1 - k : Nat) : Int) < (l.length : Int) := by omega
      clear c2 hrow hop
      generalize (l[(l.length - 1 - k)]'hq).At = tm at *
      generalize (pB l k).2 = pt at *
      go_wp2_with fail
      refine (CP.out _).mono ?_
      rintro e w2 ⟨rfl, hw⟩
      rw [hw]; clear hw w2 CP
      go_wp2_with fail
      refine CS.out.mono ?_
      rintro e w2 ⟨rfl, d2⟩
      have HD2 : Hid (D b (seqR (pB l) (k + 1)) w2) := d2
      clear d2 CS HI
      go_wp2
      exact ⟨⟨k + 1, by omega, by go_num, HD2⟩, by simp [intOf]; omega⟩
    · obtain rfl : k = l.length := by omega
      go_wp2
      go_ret
      exact ⟨b, rfl, HI.out⟩
end Go.Proofs.Ythenmngjojgmkaa
