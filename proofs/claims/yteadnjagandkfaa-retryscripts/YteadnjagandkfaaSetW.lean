/- The walks of slices.Delete at timers, Set, Stop, Len, New. -/
import Derived.Test.YteadnjagandkfaaPlaceW
set_option linter.unusedVariables false
set_option maxRecDepth 100000
namespace Go.Proofs.Yteadnjagandkfaa
open Go.RowKit
open WheelMath

/-- clear of one timer. -/
theorem clear_one (w : World) (ty : TypeId) (g o c : Nat) (h0 : (w.cell? ⟨g, o, none⟩).isSome = true) (h1 : (w.cell? ⟨g, o + 1, none⟩).isSome = true) (f0 : w.frozen? ⟨g, o, none⟩ = false) (f1 : w.frozen? ⟨g, o + 1, none⟩ = false) :
    (Builtin.clear_ #[65] ty #[.slice (some ⟨g, o, none⟩) 1 c]).run Try.prog w = .ok (.tuple #[]) (w.setCells g o [.int .i64 0, .int .i64 0]) := by
  have hzc : (Builtin.zeroCells (Value.agg #[.int .i64 0, .int .i64 0]).cells 1).toList = [.int .i64 0, .int .i64 0] := by kernel_rfl
  have hst := run_storeCells_cells (P := Try.prog) g o [.int .i64 0, .int .i64 0] 0 w (fun j hj => by
      match j, hj with
      | 0, _ => exact h0
      | 1, _ => exact h1) (fun j hj => by
      match j, hj with
      | 0, _ => exact f0
      | 1, _ => exact f1) (two_int 0 0)
  simp only [Nat.add_zero] at hst
  simp [Builtin.clear_, run_underlying Try.underlying65, hzc, hst]

theorem splice_erase (l : List T) (k : Nat) (hk : k < l.length) : (splice (tcells l) (k * 2) (tcells (l.drop (k + 1)))).take ((l.length - 1) * 2) = tcells (l.eraseIdx k) := by
  unfold splice
  rw [List.eraseIdx_eq_take_drop_succ, tcells_append, tcells_take, ← List.append_assoc]
  rw [List.take_append_of_le_length (by simp [tcells_len]; omega)]
  rw [List.take_of_length_le (by simp [tcells_len]; omega)]

set_option maxHeartbeats 4000000 in
theorem delete_any (w : World) (B g cap : Nat) (l : List T) (k : Nat) (hk : k < l.length) (hl : l.length ≤ 200) (hown : w.ownsRow B 70 2 (.slice (some ⟨g, 0, none⟩) l.length cap) l.length (tcells l)) :
    Calls Try.prog 43 #[.slice (some ⟨g, 0, none⟩) l.length cap, .int .i64 (k : Int), .int .i64 ((k : Int) + 1)] w fun e w' =>
      e = .returned (.slice (some ⟨g, 0, none⟩) (l.length - 1) cap) ∧ w'.ownsRow B 70 2 (.slice (some ⟨g, 0, none⟩) (l.length - 1) cap) (l.length - 1) (tcells (l.eraseIdx k)) ∧ Chg (fun j => j = g) w w' := by
  obtain ⟨i0, hi0, hz0, hz1, hz2⟩ := info_parts infoT
  obtain ⟨n, hn⟩ : ∃ n, n = l.length := ⟨_, rfl⟩
  obtain ⟨news, hnews⟩ : ∃ news, news = tcells (l.drop (k + 1)) := ⟨_, rfl⟩
  have hlen : news.length = (n - (k + 1)) * 2 := by rw [hnews, tcells_len, List.length_drop, hn]
  have hcapm : cap ≤ maxLen ∧ l.length ≤ cap := by
    rcases hown.2 with ⟨hv, _⟩ | ⟨g', cap', cur, hv, hb, hg, hnc, hcm, hcs, htake⟩
    · cases hv
    · cases hv; exact ⟨hcm, hnc⟩
  have hod : w.drew.ownsRow B 70 2 (.slice (some ⟨g, 0, none⟩) l.length cap) l.length (tcells l) := own_below hown (below_drewN (Below.refl _ _) 1)
  have hcell : ∀ j, j < n * 2 → w.drew.cell? ⟨g, j, none⟩ = (tcells l)[j]? := by
    obtain ⟨ao, cap', hv, _, _, h3⟩ := own_form hod
    cases hv
    obtain ⟨b', hb', _, _, k3, _⟩ := h3 _ rfl
    cases hb'
    rw [hn]; exact k3
  have hfrz : ∀ j, w.drew.frozen? ⟨g, j, none⟩ = false := fun j => hod.frozenAt j
  obtain ⟨A, hA, hsrc⟩ : ∃ A : Addr, (if cap = k + 1 then some (⟨g, 0, none⟩ : Addr) else some ⟨g, (k + 1) * 2, none⟩) = some A ∧ Hid (∀ t u, news[t]? = some u → w.drew.cell? (A.add t) = some u) := by
    by_cases h : cap = k + 1
    · refine ⟨⟨g, 0, none⟩, by simp [h], fun t u hu => ?_⟩
      have h0 : news.length = 0 := by rw [hlen]; have := hcapm.2; omega
      rw [List.length_eq_zero_iff.1 h0] at hu
      simp at hu
    · refine ⟨⟨g, (k + 1) * 2, none⟩, by simp [h], fun t u hu => ?_⟩
      have ht : t < news.length := (List.getElem?_eq_some_iff.1 hu).1
      rw [hlen] at ht
      rw [Addr.add_lit, hcell _ (by omega), ← hu, hnews, ← tcells_drop, List.getElem?_drop]
  have s1 : Hid (news.length = (n - (k + 1)) * 2) := hlen
  have s2 : Hid (∀ u ∈ news, u.oneCell' = true) := by rw [hnews]; exact tcells_one _
  have s3 : Hid (∀ t, t < news.length → (w.drew.cell? ⟨g, 0 + k * 2 + t, none⟩).isSome = true ∧ w.drew.frozen? ⟨g, 0 + k * 2 + t, none⟩ = false) := by
    intro t ht
    rw [hlen] at ht
    refine ⟨?_, hfrz _⟩
    rw [hcell _ (by omega), List.getElem?_eq_getElem (by rw [tcells_len]; omega)]
    rfl
  obtain ⟨W1, hW1⟩ : ∃ W1, W1 = w.drew.setCells g (0 + k * 2) news := ⟨_, rfl⟩
  have o1 : W1.ownsRow B 70 2 (.slice (some ⟨g, 0, none⟩) l.length cap) l.length (splice (tcells l) (k * 2) news) := by
    rw [hW1, Nat.zero_add]
    exact own_sets news (k * 2) _ _ hod (by rw [hlen, tcells_len]; omega)
  have hx1 : (splice (tcells l) (k * 2) news).length = l.length * 2 := by rw [length_splice _ _ _ (by rw [hlen, tcells_len]; omega), tcells_len]
  have hc1 : ∀ j, j < l.length * 2 → (W1.cell? ⟨g, j, none⟩).isSome = true := by
    obtain ⟨ao, cap', hv, _, _, h3⟩ := own_form o1
    cases hv
    obtain ⟨b', hb', _, _, k3, _⟩ := h3 _ rfl
    cases hb'
    intro j hj
    rw [k3 j hj, List.getElem?_eq_getElem (by rw [hx1]; exact hj)]
    rfl
  obtain ⟨m, hm⟩ : ∃ m, m = k + (n - (k + 1)) := ⟨_, rfl⟩
  have hm1 : m = n - 1 := by omega
  have hcl : ∀ ty, (Builtin.clear_ #[65] ty #[.slice (some ⟨g, (k + (n - (k + 1))) * 2, none⟩) (n - (k + (n - (k + 1)))) (cap - (k + (n - (k + 1))))]).run Try.prog W1 = .ok (.tuple #[]) (W1.setCells g ((k + (n - (k + 1))) * 2) [.int .i64 0, .int .i64 0]) := fun ty => by
    rw [show n - (k + (n - (k + 1))) = 1 by omega]
    exact clear_one W1 ty g _ _ (hc1 _ (by omega)) (hc1 _ (by omega)) (o1.frozenAt _) (o1.frozenAt _)
  have HO : Hid ((W1.setCells g ((k + (n - (k + 1))) * 2) [.int .i64 0, .int .i64 0]).ownsRow B 70 2 (.slice (some ⟨g, 0, none⟩) (l.length - 1) cap) (l.length - 1) (tcells (l.eraseIdx k))) := by
    have o2 := own_sets [.int .i64 0, .int .i64 0] ((k + (n - (k + 1))) * 2) W1 _ o1 (by rw [hx1]; simp; omega)
    refine own_cast rfl ?_ (own_cut o2 (m := l.length - 1) (by omega))
    rw [← splice_erase l k hk, ← hnews, show k + (n - (k + 1)) = l.length - 1 by omega]
    generalize splice (tcells l) (k * 2) news = z at *
    unfold splice
    rw [List.take_append_of_le_length (by rw [List.length_take, hx1]; omega), List.take_take, Nat.min_self]
  have HCh : Hid (Chg (fun j => j = g) w (W1.setCells g ((k + (n - (k + 1))) * 2) [.int .i64 0, .int .i64 0])) := by
    have c : ∀ (vs : List Value) (o : Nat) (u : World), Chg (fun j => j = g) u (u.setCells g o vs) := by
      intro vs
      induction vs with
      | nil => intro o u; exact Chg.refl _ _
      | cons x r ih =>
        intro o u
        exact (chg_set u ⟨g, o, none⟩ x).trans (ih (o + 1) _) (fun _ _ h => h)
    rw [hW1]
    exact ((chg_below (S := fun j => j = g) (below_drewN (Below.refl _ w) 1)).trans (c _ _ _) (fun _ _ h => h)).trans (c _ _ _) (fun _ _ h => h)
  have hW : Hid (W1 = w.drew.setCells g (0 + k * 2) news) := hW1
  have hkc : k ≤ cap := by have := hcapm.2; omega
  have hkc' : k + 1 ≤ cap := by have := hcapm.2; omega
  have hkn : k + 1 ≤ n := by omega
  have hnc : n ≤ cap := by have := hcapm.2; omega
  have hroom : k + (n - (k + 1)) ≤ cap := by omega
  have hn2 : n ≤ 200 := by omega
  have HN : Hid (n = l.length) := hn
  have i1 : (k : Int) < (k : Int) + 1 := by omega
  have i2 : ¬ ((k : Int) = (k : Int) + 1) := by omega
  have i3 : ((k : Int) == (k : Int) + 1) = false := by simp; omega
  have i4 : (k : Int) + 1 ≤ (n : Int) := by omega
  have i5 : ((k : Int) + 1).toNat = k + 1 := by omega
  have i7 : (0 : Int) ≤ (k : Int) + 1 := by omega
  have i6 : (k : Int) + 1 ≤ (cap : Int) := by omega
  rw [← hn]
  clear hW1 o1 hx1 hc1 hm1 hm hcell hfrz hod hown hnews hlen hcapm hn
  go_enter Try.func43, Try.ntmps43
  go_wp2_with fail
  go_region_law (refine step_append_room rfl (.tmp 22) (.tmp 25) 65 rfl 70 i0 2 Try.underlying65 hi0 hz1 g 0 k cap (by simp [Act.eval, Act.put]) A (n - (k + 1)) (cap - (k + 1)) news (by simp [Act.eval, Act.put]) s1.out hsrc.out s2.out (by omega) s3.out ?_; rw [← hW.out])
  go_wp2
  go_ret
  exact ⟨by rw [show k + (n - (k + 1)) = n - 1 by omega]; rfl, by rw [HN.out]; rw [HN.out] at HO; exact HO.out, HCh.out⟩
end Go.Proofs.Yteadnjagandkfaa
