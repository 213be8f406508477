/- The law's own small functions: same, has, copied, small. -/
import Derived.Test.YthdloddcljbjhaaDoorSortT
set_option linter.unusedVariables false
set_option maxRecDepth 100000
namespace Go.Proofs.YthdloddcljbjhaaDoor
open Go.RowKit CheckMath

instance (s : ByteArray) (l : List ByteArray) : Decidable (s ∈ l) := decidable_of_iff (l.any (fun x => decide (x = s)) = true) (by simp)
set_option maxHeartbeats 2000000 in
theorem same_any (u v : Value) (xs : List ByteArray) (w : World) (hu : KRow w u xs) (hv : KRow w v xs) :
    Calls Tryd.prog 12 #[u, v] w fun e w' => e = .returned (.bool true) ∧ Below w.heap.size w w' := by
  obtain ⟨ao, cap, rfl, hcap, _, ⟨hlen, _⟩, hrow⟩ := hu
  obtain ⟨bo, cbp, rfl, hcbp, _, _, hrow2⟩ := hv
  have HR : Hid (∀ j, j < xs.length → ∃ g o, ao = some ⟨g, o, none⟩ ∧ g < w.heap.size ∧ w.cell? ⟨g, o + j, none⟩ = some (.string (keyAt xs j))) := hrow
  have HR2 : Hid (∀ j, j < xs.length → ∃ g o, bo = some ⟨g, o, none⟩ ∧ g < w.heap.size ∧ w.cell? ⟨g, o + j, none⟩ = some (.string (keyAt xs j))) := hrow2
  clear hrow hrow2
  go_enter Tryd.func12, Tryd.ntmps12
  go_wp2
  go_loopw [5] (fun k wr => ∃ n : Nat, n ≤ xs.length ∧ k = .int .i64 (n : Int) ∧ Hid (Below w.heap.size w wr)) (fun k _ => xs.length - (intOf k).toNat)
  case atStart => exact ⟨0, Nat.zero_le _, rfl, Below.refl _ _⟩
  case round =>
    obtain ⟨n, hn, rfl, HB⟩ := hrel
    by_cases hlt : n < xs.length
    · obtain ⟨g, o, rfl, hg, c0⟩ := HR.out n hlt
      obtain ⟨g2, o2, rfl, hg2, c2⟩ := HR2.out n hlt
      have d0 := (HB.out.cell (p := ⟨g, o + n, none⟩) hg).trans c0
      have d2 := (HB.out.cell (p := ⟨g2, o2 + n, none⟩) hg2).trans c2
      have hltI : (n : Int) < (xs.length : Int) := by omega
      clear c0 c2 HR HR2
      generalize keyAt xs n = z at *
      go_wp2
      go_quiet (fail)
      go_wp2
      exact ⟨⟨n + 1, by omega, by go_num, below_drewN HB.out _⟩, by simp [intOf]; omega⟩
    · have hltI : ¬ (n : Int) < (xs.length : Int) := by omega
      clear HR HR2
      go_wp2
      go_ret
      exact ⟨rfl, HB.out⟩
set_option maxHeartbeats 2000000 in
theorem has_any (u : Value) (xs : List ByteArray) (s : ByteArray) (w : World) (hu : KRow w u xs) :
    Calls Tryd.prog 23 #[u, .string s] w fun e w' => e = .returned (.bool (decide (s ∈ xs))) ∧ w' = w := by
  obtain ⟨ao, cap, rfl, hcap, _, ⟨hlen, _⟩, hrow⟩ := hu
  have HR : Hid (∀ j, j < xs.length → ∃ g o, ao = some ⟨g, o, none⟩ ∧ g < w.heap.size ∧ w.cell? ⟨g, o + j, none⟩ = some (.string (keyAt xs j))) := hrow
  have HY : Hid (∀ k, k < xs.length → keyAt xs k = s → decide (s ∈ xs) = true) := fun k hk h => by
    rw [decide_eq_true_iff, ← h]
    simp [keyAt, List.getD, hk]
  have HN : Hid ((∀ j, j < xs.length → keyAt xs j ≠ s) → decide (s ∈ xs) = false) := fun h => by
    rw [decide_eq_false_iff_not]
    intro hm
    obtain ⟨j, hj, rfl⟩ := List.mem_iff_getElem.1 hm
    exact h j hj (by simp [keyAt, List.getD, hj])
  clear hrow
  generalize decide (s ∈ xs) = R at *
  go_enter Tryd.func23, Tryd.ntmps23
  go_wp2_with fail
  go_loop [5] (fun iv => ∃ k : Nat, k ≤ xs.length ∧ iv = .int .i64 (k : Int) ∧ Hid (∀ j, j < k → keyAt xs j ≠ s)) (fun iv => xs.length - (intOf iv).toNat)
  case atStart => exact ⟨0, Nat.zero_le _, rfl, fun j hj => absurd hj (Nat.not_lt_zero _)⟩
  case round =>
    obtain ⟨k, hk, rfl, HP⟩ := hrel
    by_cases hlt : k < xs.length
    · have hltI : (k : Int) < (xs.length : Int) := by omega
      obtain ⟨g, o, rfl, hg, d0⟩ := HR.out k hlt
      by_cases hs : keyAt xs k = s
      · have HE : Hid (R = true) := HY.out k hlt hs
        have he : ((keyAt xs k).toList == s.toList) = true := txt_eq hs
        clear HP HY HN HR hs hg
        generalize keyAt xs k = x at *
        go_wp2_with fail
        go_ret
        exact ⟨by rw [HE.out]; rfl, rfl⟩
      · have he : ((keyAt xs k).toList == s.toList) = false := txt_ne hs
        have HP2 : Hid (∀ j, j < k + 1 → keyAt xs j ≠ s) := fun j hj => by
          by_cases e : j = k
          · subst e; exact hs
          · exact HP.out j (by omega)
        clear HP HY HN HR hs hg
        generalize keyAt xs k = x at *
        go_wp2_with fail
        exact ⟨⟨k + 1, by omega, by go_num, HP2⟩, by simp [intOf]; omega⟩
    · have hltI : ¬ (k : Int) < (xs.length : Int) := by omega
      have HE : Hid (R = false) := HN.out (fun j hj => HP.out j (by omega))
      clear HP HY HN HR
      go_wp2_with fail
      go_ret
      exact ⟨by rw [HE.out]; rfl, rfl⟩
theorem strs_one (l : List ByteArray) : ∀ u ∈ l.map (fun s => Value.string s), u.oneCell' = true := by
  intro u hu
  obtain ⟨s, _, rfl⟩ := List.mem_map.1 hu
  rfl
theorem krow_cells {w : World} {ao : Option Addr} {cap : Nat} {l : List ByteArray} (h : KRow w (.slice ao l.length cap) l) : (ao = none ∧ l.length = 0 ∧ cap = 0) ∨ ∃ ad, ao = some ad ∧ ∀ j u, (l.map fun s => Value.string s)[j]? = some u → w.cell? (ad.add j) = some u := by
  obtain ⟨a2, c2, e, hc, hn, _, hr⟩ := h
  injection e with e1 e2 e3
  subst e1 e3
  cases ao with
  | none => exact Or.inl ⟨rfl, by have := hn rfl; omega, hn rfl⟩
  | some ad =>
    refine Or.inr ⟨ad, rfl, fun j u hj => ?_⟩
    have hlt : j < l.length := by
      have := (List.getElem?_eq_some_iff.1 hj).1
      simpa using this
    obtain ⟨g, o, e, _, hcell⟩ := hr j hlt
    cases e
    have : u = .string (keyAt l j) := by
      simp [hlt] at hj
      rw [← hj]
      simp [keyAt, List.getD, hlt]
    rw [this, Go.WideShapes.add_plain]
    exact hcell
/-- A copy of a list. -/
theorem copied_any {B : Nat} {w wr : World} {rs : List Res} (h : Has B w rs wr) (v : Value) (l : List ByteArray) (hl : KRow wr v l) (hn : l.length ≤ 1048576) :
    Calls Tryd.prog 9 #[v] wr fun e w' => ∃ u, e = .returned u ∧ Has B w (KR u l :: rs) w' := by
  obtain ⟨i0, hi, hz0, hz1, hz2⟩ := info_parts infoS
  have HH : Hid (Has B w rs wr) := h
  obtain ⟨ao, cap, rfl, hcap, hnil, hrest⟩ := hl
  have HC : Hid ((ao = none ∧ l.length = 0 ∧ cap = 0) ∨ ∃ ad, ao = some ad ∧ ∀ j u, (l.map fun s => Value.string s)[j]? = some u → wr.cell? (ad.add j) = some u) := krow_cells ⟨ao, cap, rfl, hcap, hnil, hrest⟩
  have hml : (l.map fun s => Value.string s).length = l.length * 1 := by simp
  clear h hrest hnil
  go_enter Tryd.func9, Tryd.ntmps9
  go_wp2_with (at_builtin; refine wpList_append_any _ rfl _ _ 27 rfl wr.heap.size 9 i0 (.string ⟨#[]⟩) 1 16 Tryd.underlying27 hi hz0 hz1 hz2 rfl (by decide) wr (Below.refl _ _) (Nat.le_refl _) (.slice none 0 0) 0 [] rfl (World.ownsRow_nil _ _ _ _) ao l.length cap (l.map fun s => Value.string s) rfl hml HC.out (strs_one l) (by unfold maxLen; omega) (by omega) ?_)
  intro a6 c6 w6 ho6 hb6 hs6
  have ho7 := own_base ho6 (Nat.zero_le _)
  have HN : Hid (Has B w (KR (.slice a6 l.length c6) l :: rs) w6) := HH.out.add (new := [KR (.slice a6 l.length c6) l]) hb6 (Hold.one ⟨ho7, rfl⟩) (fun k hk => (ho6.lt k hk).1)
  clear ho7
  clear ho6 hb6 hs6 HH HC
  go_wp2_with fail
  go_ret
  exact ⟨_, rfl, HN.out⟩
/-- A number made one of 0 to n - 1. -/
def pick (c : Int) (n : Nat) : Nat := if c < 0 then (-(c + 1)).toNat % n else c.toNat % n
theorem pick_lt (c : Int) (n : Nat) (h : 1 ≤ n) : pick c n < n := by unfold pick; split <;> exact Nat.mod_lt _ h
theorem pick_any (c : Int) (n : Nat) (h1 : 1 ≤ n) (h2 : n ≤ 4194304) (hc : -9223372036854775808 ≤ c ∧ c ≤ 9223372036854775807) (w : World) :
    Calls Tryd.prog 32 #[.int .i64 c, .int .i64 (n : Int)] w fun e w' => e = .returned (.int .i64 (pick c n : Int)) ∧ w' = w := by
  by_cases h : c < 0
  · obtain ⟨m, hm⟩ := Int.eq_ofNat_of_zero_le (show 0 ≤ -(c + 1) by omega)
    have hp : Hid ((pick c n : Int) = -(c + 1).tmod (n : Int)) := by
      show _ = _
      unfold pick
      rw [if_pos h, ← Int.neg_tmod, hm, Int.tmod_eq_emod_of_nonneg (by omega), Int.toNat_natCast]
      rfl
    clear hm
    have n0 : ¬ n = 0 := by omega
    go_enter Tryd.func32, Tryd.ntmps32
    go_wp2
    go_ret
    rw [hp.out]
    exact ⟨rfl, rfl⟩
  · obtain ⟨m, rfl⟩ := Int.eq_ofNat_of_zero_le (show 0 ≤ c by omega)
    have hp : Hid ((pick (m : Int) n : Int) = (m : Int) % (n : Int)) := by
      show _ = _
      unfold pick
      rw [if_neg h, Int.toNat_natCast]
      rfl
    have n0 : ¬ n = 0 := by omega
    go_enter Tryd.func32, Tryd.ntmps32
    go_wp2
    go_ret
    rw [hp.out]
    exact ⟨rfl, rfl⟩
/-- An instance of 1 to 6. -/
def smallZ (c : Int) : Int := 1 + (pick c 6 : Int)
theorem smallZ_range (c : Int) : 1 ≤ smallZ c ∧ smallZ c ≤ 6 := by unfold smallZ; have := pick_lt c 6 (by decide); omega
theorem small_any (c : Int) (hc : -9223372036854775808 ≤ c ∧ c ≤ 9223372036854775807) (w : World) :
    Calls Tryd.prog 21 #[.int .i64 c] w fun e w' => e = .returned (.int .i64 (smallZ c)) ∧ w' = w := by
  have C : Hid (Calls Tryd.prog 32 #[.int .i64 c, .int .i64 6] w fun e w' => e = .returned (.int .i64 (pick c 6 : Int)) ∧ w' = w) := pick_any c 6 (by decide) (by decide) hc w
  have hp := pick_lt c 6 (by decide)
  unfold smallZ
  generalize pick c 6 = p at *
  go_enter Tryd.func21, Tryd.ntmps21
  go_wp2_with fail
  refine C.out.mono ?_
  rintro e w1 ⟨rfl, rfl⟩
  clear C
  go_wp2_with fail
  go_ret
  exact ⟨rfl, rfl⟩
end Go.Proofs.YthdloddcljbjhaaDoor
