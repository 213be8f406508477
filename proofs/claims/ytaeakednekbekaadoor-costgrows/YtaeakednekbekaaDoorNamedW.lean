/- The walk of Named. -/
import Derived.Test.YtaeakednekbekaaDoorOfW
set_option linter.unusedVariables false
set_option maxRecDepth 100000
namespace Go.Proofs.YtaeakednekbekaaDoor
open Go.RowKit CheckMath
open Go.Proofs.YtaeakednekbekaaDoor.Nm

def nbL (b : Nat → Bool) (n : Nat) : List Nat := (List.range n).filter b
theorem nbL_yes {b : Nat → Bool} {n : Nat} (h : b n = true) : nbL b (n + 1) = nbL b n ++ [n] := by simp [nbL, List.range_succ, List.filter_append, h]
theorem nbL_no {b : Nat → Bool} {n : Nat} (h : b n = false) : nbL b (n + 1) = nbL b n := by simp [nbL, List.range_succ, List.filter_append, h]
theorem nbL_len (b : Nat → Bool) (n : Nat) : (nbL b n).length ≤ n := by
  have := List.length_filter_le b (List.range n)
  rw [List.length_range] at this
  exact this

set_option maxHeartbeats 4000000 in
theorem named_of (v : Value) (D : DefD) (w : World) (h : DefIn w v D) (f : Nat → Nat) (b : Nat → Bool) (hb : ∀ p, p < 4 → (b p = true ↔ 0 < f p))
    (hC : ∀ wq, Below w.heap.size w wq → Calls Tryd.prog 17 #[v] wq fun e w' => e = .returned (.agg #[.int .i64 (f 0 : Nat), .int .i64 (f 1 : Nat), .int .i64 (f 2 : Nat), .int .i64 (f 3 : Nat), .int .i64 (f 4 : Nat)]) ∧ Below wq.heap.size wq w') :
    Calls Tryd.prog 9 #[v] w fun e w' => ∃ v', e = .returned v' ∧ w'.ownsRow w.heap.size 3 1 v' (nbL b 4).length ((nbL b 4).map nV) ∧ Below w.heap.size w w' := by
  have CX : Hid (∀ wq, Below w.heap.size w wq → Calls Tryd.prog 17 #[v] wq fun e w' => e = .returned (.agg #[.int .i64 (f 0 : Nat), .int .i64 (f 1 : Nat), .int .i64 (f 2 : Nat), .int .i64 (f 3 : Nat), .int .i64 (f 4 : Nat)]) ∧ Below wq.heap.size wq w') := hC
  have HBF : Hid (∀ p, p < 4 → (b p = true ↔ 0 < f p)) := hb
  obtain ⟨sv, rfl, hd⟩ := h
  obtain ⟨ao, cap, rfl, hcap, _, hlen, _⟩ := hd
  obtain ⟨i0, hi, hz0, hz1, hz2⟩ := info_parts infoI
  have HB0 : Hid (Below w.heap.size w (w.alloc (.cells #[.string D.name, .slice ao D.steps.length cap] 24))) := (Below.refl _ _).alloc (Nat.le_refl _) _
  clear hC hb
  go_enter Tryd.func9, Tryd.ntmps9
  go_wp2_with fail
  refine (CX.out _ HB0.out).mono ?_
  rintro e w1 ⟨rfl, hb1⟩
  have HB1 : Hid (Below w.heap.size w w1) := HB0.out.trans (hb1.mono HB0.out.size)
  clear CX HB0 hb1
  have HS2 : Hid (Has w1.heap.size w1 [BlockR w1.heap.size (fl f)] (w1.alloc (.cells #[.int .i64 (f 0 : Nat), .int .i64 (f 1 : Nat), .int .i64 (f 2 : Nat), .int .i64 (f 3 : Nat), .int .i64 (f 4 : Nat)] 47))) := (Has.start w1).box (fl f) 47
  have HW : Hid (∀ wq, Below (w1.alloc (.cells #[.int .i64 (f 0 : Nat), .int .i64 (f 1 : Nat), .int .i64 (f 2 : Nat), .int .i64 (f 3 : Nat), .int .i64 (f 4 : Nat)] 47)).heap.size (w1.alloc (.cells #[.int .i64 (f 0 : Nat), .int .i64 (f 1 : Nat), .int .i64 (f 2 : Nat), .int .i64 (f 3 : Nat), .int .i64 (f 4 : Nat)] 47)) wq →
      Below w.heap.size w wq ∧ ∀ j, j < 5 → wq.cell? ⟨w1.heap.size, j, none⟩ = some (.int .i64 (f j : Nat))) := fun wq hq => by
    have h := HS2.out.below hq
    exact ⟨HB1.out.trans (h.bel.mono HB1.out.size), fun j hj => (h.five List.mem_cons_self j hj).1⟩
  have HSZ : Hid (w.heap.size ≤ (w1.alloc (.cells #[.int .i64 (f 0 : Nat), .int .i64 (f 1 : Nat), .int .i64 (f 2 : Nat), .int .i64 (f 3 : Nat), .int .i64 (f 4 : Nat)] 47)).heap.size) := (HB1.out.alloc HB1.out.size _).size
  clear HS2
  go_wp2_with fail
  generalize (w1.alloc (.cells #[.int .i64 (f 0 : Nat), .int .i64 (f 1 : Nat), .int .i64 (f 2 : Nat), .int .i64 (f 3 : Nat), .int .i64 (f 4 : Nat)] 47)) = w0 at *
  generalize w1.heap.size = sb at *
  go_loopw [4, 8] (fun vv k wr => ∃ n : Nat, n ≤ 4 ∧ k = .int .i64 (n : Int) ∧ Hid (wr.ownsRow w0.heap.size 3 1 vv (nbL b n).length ((nbL b n).map nV)) ∧ Hid (Below w0.heap.size w0 wr)) (fun _ k _ => 4 - (intOf k).toNat)
  case atStart => exact ⟨0, Nat.zero_le _, rfl, World.ownsRow_nil _ _ _ _, Below.refl _ _⟩
  case round =>
    obtain ⟨n, hn, rfl, HO, HB⟩ := hrel
    obtain ⟨hbw, p2⟩ := HW.out _ HB.out
    by_cases hlt : n < 4
    · have hltI : (n : Int) < 4 := by omega
      have hltJ : (n : Int) < 5 := by omega
      have q1 := p2 n (by omega)
      have hgl := nbL_len b n
      have hown := HO.out
      have hbn := HBF.out n hlt
      clear p2 hbw
      cases hb : b n with
      | true =>
        have hf : (0 : Int) < (f n : Int) := by have := hbn.1 hb; omega
        have HL : Hid (nbL b (n + 1) = nbL b n ++ [n]) := nbL_yes hb
        clear hb hbn
        go_wp2_with (at_builtin; refine wpList_append_own _ rfl _ _ 32 rfl w0.heap.size 3 i0 (.int .i64 0) 1 8 Tryd.underlying32 hi hz0 hz1 hz2 rfl (by decide) _ _ _ rfl (hown.alloc _) ⟨_, 0, none⟩ 1 1 [nV n] rfl rfl (cells_new _ _ _) (one_iV _) (by unfold maxLen; omega) (by omega) (by simp; have := HB.out.size; omega) ?_)
        intro v' w' hown' hgrow hnn
        have HB' : Hid (Below w0.heap.size w0 w') := (HB.out.alloc HB.out.size _).grown hgrow (by simp; have := HB.out.size; omega) (fun k h => (hown.lt k h).1)
        have HO3 : Hid (w'.ownsRow w0.heap.size 3 1 v' (nbL b (n + 1)).length ((nbL b (n + 1)).map nV)) := by
          rw [HL.out, List.map_append, List.length_append]; exact hown'
        clear hown' hgrow hnn hown HO HB
        go_wp2
        exact ⟨⟨n + 1, by omega, by go_num, HO3, HB'⟩, by simp [intOf]; omega⟩
      | false =>
        have hf : ¬ (0 : Int) < (f n : Int) := by
          intro h
          rw [hbn.2 (by omega)] at hb
          cases hb
        have HO3 : Hid (wr.ownsRow w0.heap.size 3 1 u4 (nbL b (n + 1)).length ((nbL b (n + 1)).map nV)) := by rw [nbL_no hb]; exact hown
        clear hb hbn
        go_wp2
        exact ⟨⟨n + 1, by omega, by go_num, HO3, HB⟩, by simp [intOf]; omega⟩
    · have hltI : ¬ (n : Int) < 4 := by omega
      have HE : Hid (wr.ownsRow w.heap.size 3 1 u4 (nbL b 4).length ((nbL b 4).map nV)) := by
        rw [show 4 = n by omega]
        exact own_base HO.out HSZ.out
      clear p2
      go_wp2
      go_ret
      exact ⟨_, rfl, HE.out, hbw⟩

/-- What Named answers. -/
noncomputable def namedB (D : DefD) : Nat → Bool := fun p => decide ((checkM D).2 = 0) && nmd D.steps p
theorem named_any (v : Value) (D : DefD) (w : World) (h : DefIn w v D) (hT : Tabs w) :
    Calls Tryd.prog 9 #[v] w fun e w' => ∃ v', e = .returned v' ∧ w'.ownsRow w.heap.size 3 1 v' (nbL (namedB D) 4).length ((nbL (namedB D) 4).map nV) ∧ Below w.heap.size w w' := by
  by_cases hc : (checkM D).2 = 0
  · refine named_of v D w h (rec5 D.steps) (namedB D) (fun p hp => ?_) (fun wq hq => reckon_good v D wq (h.below hq) (Utf8Tabs_below hT hq) hc)
    unfold namedB rec5
    rw [if_neg (by omega), decide_eq_true hc, Bool.true_and]
    constructor
    · intro hn
      have : ¬ cP D.steps p = 0 := fun e => by rw [cP_zero.1 e] at hn; cases hn
      omega
    · intro hpos
      cases e : nmd D.steps p with
      | true => rfl
      | false => rw [cP_zero.2 e] at hpos; omega
  · refine named_of v D w h (fun _ => 0) (namedB D) (fun p hp => ?_) (fun wq hq => reckon_bad v D wq (h.below hq) (Utf8Tabs_below hT hq) hc)
    unfold namedB
    rw [decide_eq_false hc, Bool.false_and]
    simp
end Go.Proofs.YtaeakednekbekaaDoor
