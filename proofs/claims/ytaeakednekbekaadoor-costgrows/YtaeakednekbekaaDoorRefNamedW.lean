/- The walk of the document's Named. -/
import Derived.Test.YtaeakednekbekaaDoorNamedW
import Derived.Test.YtaeakednekbekaaDoorRefXW
set_option linter.unusedVariables false
set_option maxRecDepth 100000
namespace Go.Proofs.YtaeakednekbekaaDoor
open Go.RowKit CheckMath
open Go.Proofs.YtaeakednekbekaaDoor.Nm

set_option maxHeartbeats 4000000 in
theorem refNamed_any (v : Value) (D : DefD) (hz : SzD D) (w : World) (h : DefIn w v D) :
    Calls Tryd.prog 10 #[v] w fun e w' => ∃ v', e = .returned v' ∧ w'.ownsRow w.heap.size 3 1 v' (nbL (namedB D) 4).length ((nbL (namedB D) 4).map nV) ∧ Below w.heap.size w w' := by
  have CX : Hid (∀ wq, Below w.heap.size w wq → Calls Tryd.prog 16 #[v] wq fun e w' => e = .returned (.tuple #[.int .i64 (checkM D).1, .int .i64 (checkM D).2]) ∧ Below wq.heap.size wq w') := fun wq hq => refCheck_any v D hz wq (h.below hq)
  obtain ⟨sv, rfl, hd⟩ := h
  obtain ⟨ao, cap, rfl, hcap, hn0, hlen, hrow⟩ := hd
  have HROW : Hid (∀ j, j < D.steps.length → ∃ g o, ao = some ⟨g, o, none⟩ ∧ g < w.heap.size ∧ StepIn w g (o + j * 5) (nth D.steps j)) := hrow
  obtain ⟨i0, hi, hz0, hz1, hz2⟩ := info_parts infoI
  have HS0 : Hid (Has w.heap.size w [BlockR w.heap.size [.string D.name, .slice ao D.steps.length cap]] (w.alloc (.cells #[.string D.name, .slice ao D.steps.length cap] 24))) := (Has.start w).box [.string D.name, .slice ao D.steps.length cap] 24
  clear hz hrow hn0
  have HN : Hid (∀ p, namedB D p = (decide ((checkM D).2 = 0) && nmd D.steps p)) := fun p => rfl
  generalize (checkM D).1 = m1 at *
  generalize (checkM D).2 = m2 at *
  generalize hb : namedB D = b at *
  clear hb
  go_enter Tryd.func10, Tryd.ntmps10
  go_wp2_with fail
  refine (CX.out _ HS0.out.bel).mono ?_
  rintro e w0 ⟨rfl, hb1⟩
  have HS1 : Hid (Has w.heap.size w [BlockR w.heap.size [.string D.name, .slice ao D.steps.length cap]] w0) := HS0.out.below hb1
  clear CX HS0 hb1
  have HW : Hid (∀ wq, Below w0.heap.size w0 wq → Below w.heap.size w wq ∧ wq.cell? ⟨w.heap.size, 1, none⟩ = some (.slice ao D.steps.length cap)) := fun wq hq => by
    have h := HS1.out.below hq
    exact ⟨h.bel, (h.cell List.mem_cons_self 1 _ rfl).1⟩
  have HSZ : Hid (w.heap.size ≤ w0.heap.size) := HS1.out.size
  clear HS1
  by_cases hm : m2 = 0
  · have hm2 : (m2 == 0) = true := by simpa using hm
    have HNM : Hid (∀ p, b p = nmd D.steps p) := fun p => by rw [HN.out, decide_eq_true hm, Bool.true_and]
    subst hm
    clear HN hm2
    go_wp2_with fail
    go_loopw [5, 6] (fun vv k wr => ∃ n : Nat, n ≤ 4 ∧ k = .int .i64 (n : Int) ∧ Hid (wr.ownsRow w0.heap.size 3 1 vv (nbL b n).length ((nbL b n).map nV)) ∧ Hid (Below w0.heap.size w0 wr)) (fun _ k _ => 4 - (intOf k).toNat)
    case atStart => exact ⟨0, Nat.zero_le _, rfl, World.ownsRow_nil _ _ _ _, Below.refl _ _⟩
    case round =>
      obtain ⟨n, hn, rfl, HO, HB⟩ := hrel
      obtain ⟨hbw, p1⟩ := HW.out _ HB.out
      have HBW : Hid (Below w.heap.size w wr) := hbw
      clear hbw
      by_cases hlt : n < 4
      · have hltI : (n : Int) < 4 := by omega
        go_wp2_with fail
        go_loop [7, 8] (fun is i => ∃ k : Nat, k ≤ D.steps.length ∧ i = .int .i64 (k : Int) ∧ is = .bool (nmd (D.steps.take k) n)) (fun _ i => D.steps.length - (intOf i).toNat)
        case atStart => exact ⟨0, Nat.zero_le _, rfl, rfl⟩
        case round =>
          obtain ⟨k, hk, rfl, rfl⟩ := hrel
          by_cases hlk : k < D.steps.length
          · have hlkI : (k : Int) < (D.steps.length : Int) := by omega
            obtain ⟨g, o, rfl, hg, hs⟩ := HROW.out k hlk
            have d2 := (HBW.out.cell (p := ⟨g, o + k * 5 + 2, none⟩) hg).trans hs.2.2.1
            have hmore := nmd_more (D.steps.take k) (nth D.steps k) n
            rw [← take_nth hlk] at hmore
            have HM : Hid (nmd (D.steps.take (k + 1)) n = (nmd (D.steps.take k) n || decide ((nth D.steps k).part = (n : Int)))) := hmore
            clear hs hmore
            generalize hb0 : nmd (D.steps.take k) n = b0 at *
            cases b0 with
            | true =>
              go_wp2
              go_round
              case rel => exact ⟨k + 1, by omega, by go_num, by rw [HM.out]; rfl⟩
              case measure => simp [intOf]; omega
            | false =>
              go_wp2
              go_round
              case rel => exact ⟨k + 1, by omega, by go_num, by rw [HM.out, Bool.false_or]; rfl⟩
              case measure => simp [intOf]; omega
          · have hlkI : ¬ (k : Int) < (D.steps.length : Int) := by omega
            have hkk : k = D.steps.length := by omega
            have HT : Hid (D.steps.take k = D.steps) := by rw [hkk]; exact List.take_length
            clear hkk
            have hown := HO.out
            have hgl := nbL_len b n
            have hbn := HNM.out n
            rw [← HT.out] at hbn
            generalize nmd (D.steps.take k) n = b0 at *
            cases b0 with
            | true =>
              have HL : Hid (nbL b (n + 1) = nbL b n ++ [n]) := nbL_yes hbn
              clear hbn
              go_wp2_with (at_builtin; refine wpList_append_own _ rfl _ _ 32 rfl w0.heap.size 3 i0 (.int .i64 0) 1 8 Tryd.underlying32 hi hz0 hz1 hz2 rfl (by decide) _ _ _ rfl (hown.alloc _) ⟨_, 0, none⟩ 1 1 [nV n] rfl rfl (cells_new _ _ _) (one_iV _) (by unfold maxLen; omega) (by omega) (by simp; have := HB.out.size; omega) ?_)
              intro v' w' hown' hgrow hnn
              have HB' : Hid (Below w0.heap.size w0 w') := (HB.out.alloc HB.out.size _).grown hgrow (by simp; have := HB.out.size; omega) (fun k h => (hown.lt k h).1)
              have HO3 : Hid (w'.ownsRow w0.heap.size 3 1 v' (nbL b (n + 1)).length ((nbL b (n + 1)).map nV)) := by
                rw [HL.out, List.map_append, List.length_append]; exact hown'
              clear hown' hgrow hnn hown HO HB
              go_wp2
              exact ⟨⟨n + 1, by omega, by go_num, HO3, HB'⟩, by simp [intOf]; omega⟩
            | false =>
              have HO3 : Hid (wr.ownsRow w0.heap.size 3 1 u5 (nbL b (n + 1)).length ((nbL b (n + 1)).map nV)) := by rw [nbL_no hbn]; exact hown
              clear hbn
              go_wp2
              exact ⟨⟨n + 1, by omega, by go_num, HO3, HB⟩, by simp [intOf]; omega⟩
      · have hltI : ¬ (n : Int) < 4 := by omega
        have HE : Hid (wr.ownsRow w.heap.size 3 1 u5 (nbL b 4).length ((nbL b 4).map nV)) := by
          rw [show 4 = n by omega]
          exact own_base HO.out HSZ.out
        go_wp2
        go_ret
        exact ⟨_, rfl, HE.out, HBW.out⟩
  · have hm2 : (m2 == 0) = false := by simpa using hm
    have hnil : nbL b 4 = [] := by
      have : ∀ p, b p = false := fun p => by rw [HN.out, decide_eq_false hm, Bool.false_and]
      simp [nbL, this]
    have HNIL : Hid (nbL b 4 = []) := hnil
    have HBE : Hid (Below w.heap.size w w0) := (HW.out _ (Below.refl _ _)).1
    clear hnil HN
    go_wp2_with fail
    go_loop [5, 6] (fun vv k => vv = .slice none 0 0 ∧ k = .int .i64 0) (fun _ _ => 0)
    case atStart => exact ⟨rfl, rfl⟩
    case round =>
      obtain ⟨rfl, rfl⟩ := hrel
      go_wp2
      go_ret
      exact ⟨_, rfl, by rw [HNIL.out]; exact World.ownsRow_nil _ _ _ _, HBE.out⟩
end Go.Proofs.YtaeakednekbekaaDoor
