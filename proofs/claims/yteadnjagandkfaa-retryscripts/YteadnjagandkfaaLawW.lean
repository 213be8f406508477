/- The laws' own helpers: pick, same, has, filled, fit. -/
import Derived.Test.YteadnjagandkfaaRtW
import Derived.Deep.AppendLies
set_option linter.unusedVariables false
set_option maxRecDepth 100000
namespace Go.Proofs.Yteadnjagandkfaa
open Go.RowKit
open WheelMath RetryMath
open Go.Maps (Keyed)

def pick (c : Int) (n : Nat) : Nat := if c < 0 then (-(c + 1)).toNat % n else c.toNat % n
theorem pick_lt (c : Int) (n : Nat) (h : 1 ≤ n) : pick c n < n := by unfold pick; split <;> exact Nat.mod_lt _ h
theorem pick_any (c : Int) (n : Nat) (h1 : 1 ≤ n) (h2 : n ≤ 4194304) (hc : -9223372036854775808 ≤ c ∧ c ≤ 9223372036854775807) (w : World) :
    Calls Try.prog 14 #[.int .i64 c, .int .i64 (n : Int)] w fun e w' => e = .returned (.int .i64 (pick c n : Int)) ∧ w' = w := by
  by_cases h : c < 0
  · obtain ⟨m, hm⟩ := Int.eq_ofNat_of_zero_le (show 0 ≤ -(c + 1) by omega)
    have hp : Hid ((pick c n : Int) = -(c + 1).tmod (n : Int)) := by
      show _ = _
      unfold pick
      rw [if_pos h, ← Int.neg_tmod, hm, Int.tmod_eq_emod_of_nonneg (by omega), Int.toNat_natCast]
      rfl
    clear hm
    have n0 : ¬ n = 0 := by omega
    go_enter Try.func14, Try.ntmps14
    go_wp2
    go_ret
    rw [hp.out]
    exact ⟨rfl, rfl⟩
  · obtain ⟨m, rfl⟩ := Int.eq_ofNat_of_zero_le (show 0 ≤ c by omega)
    have hp : Hid ((pick (m : Int) n : Int) = (m : Int) % (n : Int)) := by
      show _ = _
      unfold pick
      rw [if_neg h, Int.toNat_natCast]
      rfl
    have n0 : ¬ n = 0 := by omega
    go_enter Try.func14, Try.ntmps14
    go_wp2
    go_ret
    rw [hp.out]
    exact ⟨rfl, rfl⟩


set_option maxHeartbeats 1000000 in
theorem same_yes (w : World) (a b : Value) (xs : List Int) (hl : xs.length ≤ 140737488355328) (ha : IRow w a xs) (hb : IRow w b xs) :
    Calls Try.prog 24 #[a, b] w fun e w' => e = .returned (.bool true) ∧ Below w.heap.size w w' := by
  obtain ⟨ao, ac, rfl, _, _, ra⟩ := ha
  obtain ⟨bo, bc, rfl, _, _, rb⟩ := hb
  have RA : Hid (∀ j, (h : j < xs.length) → ∃ g o, ao = some ⟨g, o, none⟩ ∧ g < w.heap.size ∧ w.cell? ⟨g, o + j, none⟩ = some (.int .i64 xs[j])) := ra
  have RB : Hid (∀ j, (h : j < xs.length) → ∃ g o, bo = some ⟨g, o, none⟩ ∧ g < w.heap.size ∧ w.cell? ⟨g, o + j, none⟩ = some (.int .i64 xs[j])) := rb
  clear ra rb
  go_enter Try.func24, Try.ntmps24
  go_wp2
  go_loopw [5] (fun i wr => ∃ k : Nat, k ≤ xs.length ∧ i = .int .i64 (k : Int) ∧ Hid (Below w.heap.size w wr)) (fun i _ => xs.length - (intOf i).toNat)
  case atStart => exact ⟨0, Nat.zero_le _, rfl, Below.refl _ _⟩
  case round =>
    obtain ⟨k, hk, rfl, HB⟩ := hrel
    by_cases hlt : k < xs.length
    · obtain ⟨g, o, rfl, hg, c1⟩ := RA.out k hlt
      obtain ⟨g2, o2, rfl, hg2, c2⟩ := RB.out k hlt
      have d1 : wr.cell? ⟨g, o + k, none⟩ = some (.int .i64 xs[k]) := (HB.out.cell (p := ⟨g, o + k, none⟩) hg).trans c1
      have d2 : wr.cell? ⟨g2, o2 + k, none⟩ = some (.int .i64 xs[k]) := (HB.out.cell (p := ⟨g2, o2 + k, none⟩) hg2).trans c2
      have i1 : (k : Int) < (xs.length : Int) := by omega
      clear c1 c2
      generalize xs[k] = x at *
      go_wp2_with fail
      go_quiet (fail)
      rename_i nq
      have HB1 : Hid (Below w.heap.size w (wr.drewN nq)) := below_drewN HB.out nq
      go_wp2
      exact ⟨⟨k + 1, by omega, by go_num, HB1⟩, by simp [intOf]; omega⟩
    · obtain rfl : k = xs.length := by omega
      go_wp2
      go_ret
      exact ⟨rfl, HB.out⟩
theorem sameH {B : Nat} {w wr : World} {rs : List Res} (h : Has B w rs wr) {a b : Value} {l : List Int} (ha : IRowR a l ∈ rs) (hb : IRowR b l ∈ rs) (hl : l.length ≤ 140737488355328) :
    Calls Try.prog 24 #[a, b] wr fun e w' => e = .returned (.bool true) ∧ Has B w rs w' :=
  (same_yes wr a b l hl (h.irow ha) (h.irow hb)).mono (fun e w' ⟨he, hb⟩ => ⟨he, h.below hb⟩)
/-- Is a number in a row? -/
theorem has_row (w : World) (a : Value) (xs : List Int) (hl : xs.length ≤ 140737488355328) (ha : IRow w a xs) (id : Int) :
    Calls Try.prog 25 #[a, .int .i64 id] w fun e w' => e = .returned (.bool (decide (id ∈ xs))) ∧ w' = w := by
  obtain ⟨ao, ac, rfl, _, _, ra⟩ := ha
  have RA : Hid (∀ j, (h : j < xs.length) → ∃ g o, ao = some ⟨g, o, none⟩ ∧ g < w.heap.size ∧ w.cell? ⟨g, o + j, none⟩ = some (.int .i64 xs[j])) := ra
  have HY : Hid (∀ j, (h : j < xs.length) → xs[j] = id → decide (id ∈ xs) = true) := fun j h e => decide_eq_true (e ▸ List.getElem_mem h)
  have HN : Hid ((∀ j, (h : j < xs.length) → xs[j] ≠ id) → decide (id ∈ xs) = false) := fun h => decide_eq_false (fun hm => by
    obtain ⟨j, hj, e⟩ := List.mem_iff_getElem.1 hm
    exact h j hj e)
  clear ra
  generalize decide (id ∈ xs) = r at *
  go_enter Try.func25, Try.ntmps25
  go_wp2
  go_loop [5] (fun i => ∃ k : Nat, k ≤ xs.length ∧ i = .int .i64 (k : Int) ∧ Hid (∀ j, (h : j < xs.length) → j < k → xs[j] ≠ id)) (fun i => xs.length - (intOf i).toNat)
  case atStart => exact ⟨0, Nat.zero_le _, rfl, fun j _ h => absurd h (Nat.not_lt_zero _)⟩
  case round =>
    obtain ⟨k, hk, rfl, HP⟩ := hrel
    by_cases hlt : k < xs.length
    · obtain ⟨g, o, rfl, hg, c1⟩ := RA.out k hlt
      have i1 : (k : Int) < (xs.length : Int) := by omega
      have HY2 : Hid (xs[k] = id → r = true) := HY.out k hlt
      have HP2 : Hid (xs[k] ≠ id → ∀ j, (h : j < xs.length) → j < k + 1 → xs[j] ≠ id) := fun hne j h hj => by
        by_cases e : j = k
        · subst e; exact hne
        · exact HP.out j h (by omega)
      clear HP HY HN RA
      generalize xs[k] = x at *
      by_cases hx : x = id
      · have hr := HY2.out hx
        have d1 : (x == id) = true := by simpa using hx
        clear HY2 HP2
        subst hx
        go_wp2
        go_ret
        exact ⟨rfl, rfl⟩
      · have d1 : (x == id) = false := by simpa using hx
        have HP3 : Hid (∀ j, (h : j < xs.length) → j < k + 1 → xs[j] ≠ id) := HP2.out hx
        clear HY2 HP2
        go_wp2
        exact ⟨⟨k + 1, by omega, by go_num, HP3⟩, by simp [intOf]; omega⟩
    · have hr := HN.out (fun j h => HP.out j h (by omega))
      have i1 : ¬ (k : Int) < (xs.length : Int) := by omega
      clear HP HY HN RA
      go_wp2
      go_ret
      exact ⟨rfl, rfl⟩
theorem hasH {B : Nat} {w wr : World} {rs : List Res} (h : Has B w rs wr) {a : Value} {l : List Int} (ha : IRowR a l ∈ rs) (hl : l.length ≤ 140737488355328) (id : Int) :
    Calls Try.prog 25 #[a, .int .i64 id] wr fun e w' => e = .returned (.bool (decide (id ∈ l))) ∧ Has B w rs w' :=
  (has_row wr a l hl (h.irow ha) id).mono (fun e w' ⟨he, hw⟩ => ⟨he, by rw [hw]; exact h⟩)
set_option maxHeartbeats 4000000 in
theorem filled_own (w : World) (B n : Nat) (v : Value) (xs : List Value) (hown : w.ownsRow B 3 1 v n xs) (hn : n ≤ 4194304) :
    Calls Try.prog 15 #[v] w fun e w' => e = .returned (.tuple #[]) ∧ Chg (fun k => v.ownBlock = some k) w w' := by
  obtain ⟨i0, hi, hz0, hz1, hz2⟩ := info_parts infoI
  obtain ⟨ao, cap, rfl, _⟩ := own_form hown
  generalize hV : (Value.slice ao n cap).ownBlock = vb at *
  have HV : Hid ((Value.slice ao n cap).ownBlock = vb) := hV
  have HO : Hid (w.ownsRow B 3 1 (.slice ao n cap) n xs) := hown
  clear hown hV
  go_enter Try.func15, Try.ntmps15
  go_wp2
  go_loopw [2] (fun i wr => ∃ (k : Nat) (ys : List Value), k ≤ n ∧ i = .int .i64 k ∧ Hid (wr.ownsRow B 3 1 (.slice ao n cap) n ys) ∧ Hid (Chg (fun k => vb = some k) w wr)) (fun i _ => n - (intOf i).toNat)
  case atStart => exact ⟨0, xs, Nat.zero_le _, rfl, HO, Chg.refl _ _⟩
  case round =>
    obtain ⟨k, ys, hk, rfl, HR, HC⟩ := hrel
    by_cases hlt : k < n
    · obtain ⟨_, _, hv, _, h0, hr⟩ := own_form HR.out
      cases hv
      cases ao with
      | none => have := (h0 rfl).1; omega
      | some p =>
        obtain ⟨g, rfl, _, _, hc, hf, _⟩ := hr p rfl
        have hyl : ys.length = n := HR.out.1.trans (Nat.mul_one n)
        have hck := hc k (by omega)
        rw [List.getElem?_eq_getElem (by omega)] at hck
        generalize ys[k]'(by omega) = y at *
        have hfk := hf k
        have i1 : (k : Int) < (n : Int) := by omega
        clear hc hf hr h0
        go_wp2
        refine ⟨⟨k + 1, _, by omega, by go_num, own_set HR.out k _, ?_⟩, by simp [intOf]; omega⟩
        refine HC.out.trans (Chg.mono (chg_set _ _ _) (T := fun k => vb = some k) ?_) (fun _ _ h => h)
        rintro _ _ rfl
        exact HV.out.symm
    · obtain rfl : k = n := by omega
      have hr := HR.out
      go_wp2_with (at_builtin; refine wpList_append_more _ rfl _ _ 22 rfl B 3 i0 (.int .i64 0) 1 8 Try.underlying22 hi hz0 hz1 hz2 rfl (by decide) _ _ _ rfl (hr.alloc _) ⟨_, 0, none⟩ 2 2 [.int .i64 (-9), .int .i64 (-9)] rfl rfl (two_new _ _ _ _) (two_int _ _) (by decide) (by unfold maxLen; omega) (by omega) ?_)
      intro g' cap' w5 hown' hat hchg
      have hat2 : Hid (vb = some g' ∨ wr.heap.size < g') := by
        rcases hat with h | h
        · exact Or.inl (HV.out.symm.trans h)
        · refine Or.inr ?_
          have h2 := World.size_alloc wr (.cells #[.int .i64 (-9), .int .i64 (-9)] 3)
          omega
      have HC5 : Hid (Chg (fun j => vb = some j) w w5) := by
        refine (HC.out.trans (chg_below ((Below.refl _ _).alloc (Nat.le_refl _) _)) (fun _ _ h => h)).trans hchg (fun j _ h => ?_)
        exact HV.out.symm.trans h
      obtain ⟨M, hM⟩ : ∃ M, k + 2 = M + 1 := ⟨k + 1, rfl⟩
      have hc5 := hown'.cellAt M (by omega)
      have hf5 := hown'.frozenAt M
      have hl5 := hown'.1
      rw [List.getElem?_eq_getElem (by omega)] at hc5
      generalize (ys ++ [Value.int .i64 (-9), Value.int .i64 (-9)])[M]'(by omega) = y at hc5
      rw [hM]
      have hMn : M ≤ 4194305 := by omega
      have HS : Hid (w.heap.size ≤ wr.heap.size) := HC.out.size
      clear hown' hat hchg hl5 HC hr HR HO
      go_wp2
      refine bodyPost_end (results_none rfl _ _ _) rfl ?_
      refine ⟨rfl, HC5.out.trans (chg_set _ _ _) ?_⟩
      rintro j hj rfl
      rcases hat2.out with h | h
      · exact h
      · have := HS.out
        omega
theorem filledH {B : Nat} {w wr : World} {rs : List Res} {u : Value} {l : List Int} (h : Has B w (IRowR u l :: rs) wr) (hn : l.length ≤ 4194304) :
    Calls Try.prog 15 #[u] wr fun e w' => e = .returned (.tuple #[]) ∧ Has B w rs w' := by
  refine (filled_own wr 0 l.length u _ (h.own (t := 3) (size := 1) (v := u) (n := l.length) (xs := l.map fun n => .int .i64 n) List.mem_cons_self) hn).mono ?_
  rintro e w' ⟨rfl, hc⟩
  refine ⟨rfl, h.turn (new := []) ?_⟩
  rintro F ⟨_, rfl⟩
  exact ⟨fun _ => False, fun k => id, hc, fun k hk => hk.elim⟩
end Go.Proofs.Yteadnjagandkfaa
