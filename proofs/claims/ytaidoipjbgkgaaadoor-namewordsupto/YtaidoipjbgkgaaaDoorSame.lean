/- Lists of texts in memory; the walk of the laws' own 'same'; the walk of the document's Words. -/
import Derived.Test.YtaidoipjbgkgaaaDoorRefOwn
set_option linter.unusedVariables false
namespace Go.Proofs.YtaidoipjbgkgaaaDoor
open Go.RowKit

/-- A slice value that leads to the texts xs. -/
def SRow (w : World) (v : Value) (xs : List (List UInt8)) : Prop := ∃ ao cap, v = .slice ao xs.length cap ∧ ∀ j, (h : j < xs.length) → ∃ g, ao = some ⟨g, 0, none⟩ ∧ w.cell? ⟨g, j, none⟩ = some (strV xs[j])
theorem srow_own {w : World} {B e : Nat} {v : Value} {xs : List (List UInt8)} (h : w.ownsRow B e 1 v xs.length (xs.map strV)) : SRow w v xs := by
  obtain ⟨ao, cap, rfl, _, hrow⟩ := own_row h
  refine ⟨ao, cap, rfl, fun j hj => ?_⟩
  obtain ⟨g, h1, _, _, h4⟩ := hrow j hj
  exact ⟨g, h1, by rw [h4]; simp [hj]⟩
theorem srow_below {w w' : World} {v : Value} {xs : List (List UInt8)} (h : SRow w v xs) (hb : Below w.heap.size w w') : SRow w' v xs := by
  obtain ⟨ao, cap, rfl, hrow⟩ := h
  refine ⟨ao, cap, rfl, fun j hj => ?_⟩
  obtain ⟨g, h1, h2⟩ := hrow j hj
  exact ⟨g, h1, by rw [hb.cell (p := ⟨g, j, none⟩) (block_lt_of_cell h2)]; exact h2⟩

set_option maxHeartbeats 1600000 in
theorem same_true (xs : List (List UInt8)) (hx : xs.length ≤ 140737488355328) (v v2 : Value) (w : World) (h1 : SRow w v xs) (h2 : SRow w v2 xs) :
    Calls Tryd.prog 20 #[v, v2] w fun e w' => e = .returned (.bool true) ∧ ∃ q, w' = w.drewN q := by
  obtain ⟨ao, cap, rfl, hrow⟩ := h1
  obtain ⟨bo, cap2, rfl, hrow2⟩ := h2
  have HR : Hid (∀ j, (h : j < xs.length) → ∃ g, ao = some ⟨g, 0, none⟩ ∧ w.cell? ⟨g, j, none⟩ = some (strV xs[j])) := hrow
  have HR2 : Hid (∀ j, (h : j < xs.length) → ∃ g, bo = some ⟨g, 0, none⟩ ∧ w.cell? ⟨g, j, none⟩ = some (strV xs[j])) := hrow2
  clear hrow hrow2
  go_enter Tryd.func20, Tryd.ntmps20
  go_wp2
  go_loopw [5] (fun i wr => ∃ k q : Nat, wr = w.drewN q ∧ k ≤ xs.length ∧ i = .int .i64 k) (fun i _ => xs.length - (intOf i).toNat)
  case atStart => exact ⟨0, 0, rfl, Nat.zero_le _, rfl⟩
  case round =>
    obtain ⟨k, q, rfl, hk, rfl⟩ := hrel
    by_cases hlt : k < xs.length
    · obtain ⟨g, rfl, hc1⟩ := HR.out k hlt
      obtain ⟨g2, rfl, hc2⟩ := HR2.out k hlt
      unfold strV at hc1 hc2
      generalize xs[k] = x at *
      generalize (ByteArray.mk x.toArray) = y at *
      clear HR HR2
      have i1 : (k : Int) < (xs.length : Int) := by omega
      go_wp2
      go_quiet (fail)
      go_wp2
      exact ⟨⟨k + 1, _, rfl, by omega, by go_num⟩, by simp [intOf]; omega⟩
    · clear HR HR2
      go_wp2
      go_ret
      exact ⟨rfl, q, rfl⟩

theorem blank_cases (r : Nat) : (NameMath.blank r = true ∧ (r = 9 ∨ r = 32 ∨ r = 160 ∨ r = 8195)) ∨ (NameMath.blank r = false ∧ r ≠ 9 ∧ r ≠ 32 ∧ r ≠ 160 ∧ r ≠ 8195) := by
  by_cases h : r = 9 ∨ r = 32 ∨ r = 160 ∨ r = 8195
  · exact .inl ⟨by simpa [NameMath.blank] using h, h⟩
  · refine .inr ⟨by simpa [NameMath.blank] using h, ?_, ?_, ?_, ?_⟩ <;> omega

set_option maxRecDepth 100000 in
set_option maxHeartbeats 3000000 in
theorem refWords_any (s : ByteArray) (hs : s.size ≤ 1048576) (w : World) :
    Calls Tryd.prog 19 #[.string s] w fun e w' => ∃ v, e = .returned v ∧ w'.ownsRow w.heap.size 9 1 v (NameMath.words s.data.toList).length ((NameMath.words s.data.toList).map strV) ∧ Below w.heap.size w w' := by
  obtain ⟨i0, hi, hz0, hz1, hz2⟩ := info_parts infoS
  go_enter Tryd.func19, Tryd.ntmps19
  go_wp2
  go_loopw [3, 4, 5] (fun v fr t wr => ∃ (pos from_ : Nat) (acc : List (List UInt8)), pos ≤ s.size ∧ t = .int .i64 pos ∧ fr = .int .i64 from_ ∧ from_ ≤ pos ∧ acc.length ≤ from_ ∧
      wr.ownsRow w.heap.size 9 1 v acc.length (acc.map strV) ∧ Below w.heap.size w wr ∧
      Hid (NameMath.words s.data.toList = acc ++ NameMath.wd (NameMath.cut (s.data.toList.drop pos)) ((s.data.toList.drop from_).take (pos - from_)))) (fun _ _ t _ => s.size - (intOf t).toNat)
  case atStart => exact ⟨0, 0, [], Nat.zero_le _, rfl, rfl, Nat.le_refl _, Nat.le_refl _, World.ownsRow_nil _ _ _ _, Below.refl _ _, by show _ = _; rfl⟩
  case round =>
    obtain ⟨pos, from_, acc, hpos, rfl, rfl, hfr, hacc, hown, hbw, HI⟩ := hrel
    by_cases hlt : pos < s.size
    · go_wp2_with fail
      refine (next_any s pos hlt (by omega) _).mono ?_
      rintro e w1 ⟨r, k, ok, rfl, hw1, hdec, hok⟩
      subst hw1
      obtain ⟨hr, hk1, hk2, hrun, hcut, hne⟩ := next_use s pos hlt hdec
      rw [hcut] at HI
      clear hrun hcut hne hok hdec
      rcases blank_cases r with ⟨hbl, hb4⟩ | ⟨hbl, n1, n2, n3, n4⟩
      · have hbt : ((((r : Int) == 9) = true ∨ ((r : Int) == 32) = true) ∨ ((r : Int) == 160) = true) ∨ ((r : Int) == 8195) = true := by
          simp only [beq_iff_eq]; omega
        by_cases hin : from_ < pos
        · have hcne := piece_ne s.data.toList from_ pos hin (by rw [Array.length_toList]; exact hpos)
          have HE : Hid (NameMath.words s.data.toList = (acc ++ [(s.data.toList.drop from_).take (pos - from_)]) ++ NameMath.wd (NameMath.cut (s.data.toList.drop (pos + k))) ((s.data.toList.drop (pos + k)).take (pos + k - (pos + k)))) := by
            show _ = _; rw [HI.out, wd_blank_in _ _ _ _ hbl hcne]; simp
          clear HI hcne hbl
          rcases hb4 with rfl | rfl | rfl | rfl
          all_goals
            clear hbt
            go_wp2_with (at_builtin; refine wpList_append_own _ rfl _ _ 28 rfl w.heap.size 9 i0 (.string ⟨#[]⟩) 1 16 Tryd.underlying28 hi hz0 hz1 hz2 rfl (by decide) _ _ _ rfl (hown.alloc _) ⟨_, 0, none⟩ 1 1 [.string (s.extract from_ pos)] rfl rfl (one_new _ _ _) (one_cell _) (by unfold maxLen; omega) (by omega) (by simp; have := hbw.size; omega) ?_)
            intro v' w' hown' hgrow hnn
            have hb' := below_append hbw hown hgrow
            have hown3 : w'.ownsRow w.heap.size 9 1 v' (acc ++ [(s.data.toList.drop from_).take (pos - from_)]).length ((acc ++ [(s.data.toList.drop from_).take (pos - from_)]).map strV) := by
              rw [List.map_append, List.length_append, List.map_singleton, ← strV_extract]; exact hown'
            have HO3 : Hid _ := hown3
            clear hown' hgrow hnn hown3 hown
            go_wp2
            exact ⟨⟨pos + k, pos + k, _, hk2, by go_num, by go_num, Nat.le_refl _, by simp; omega, HO3.out, hb', HE⟩, by simp [intOf]; omega⟩
        · have hnil : (s.data.toList.drop from_).take (pos - from_) = [] := by rw [show pos - from_ = 0 by omega]; rfl
          have HE : Hid (NameMath.words s.data.toList = acc ++ NameMath.wd (NameMath.cut (s.data.toList.drop (pos + k))) ((s.data.toList.drop (pos + k)).take (pos + k - (pos + k)))) := by
            show _ = _; rw [HI.out, hnil, wd_blank_out _ _ _ hbl]; simp
          clear HI hnil hbl
          rcases hb4 with rfl | rfl | rfl | rfl
          all_goals
            clear hbt
            go_wp2
            exact ⟨⟨pos + k, pos + k, acc, hk2, by go_num, by go_num, Nat.le_refl _, by omega, hown, hbw, HE⟩, by simp [intOf]; omega⟩
      · have HE : Hid (NameMath.words s.data.toList = acc ++ NameMath.wd (NameMath.cut (s.data.toList.drop (pos + k))) ((s.data.toList.drop from_).take (pos + k - from_))) := by
          show _ = _; rw [HI.out, wd_letter _ _ _ _ hbl, piece_more _ _ _ _ hfr]
        have m1 : ((r : Int) == 9) = false := beq_eq_false_iff_ne.2 (by omega)
        have m2 : ((r : Int) == 32) = false := beq_eq_false_iff_ne.2 (by omega)
        have m3 : ((r : Int) == 160) = false := beq_eq_false_iff_ne.2 (by omega)
        have m4 : ((r : Int) == 8195) = false := beq_eq_false_iff_ne.2 (by omega)
        clear HI hbl n1 n2 n3 n4
        go_wp2
        exact ⟨⟨pos + k, from_, acc, hk2, by go_num, rfl, by omega, hacc, hown, hbw, HE⟩, by simp [intOf]; omega⟩
    · rw [drop_end s pos hlt] at HI
      have hps : pos = s.size := by omega
      by_cases hin : from_ < pos
      · have hcne := piece_ne s.data.toList from_ pos hin (by rw [Array.length_toList]; exact hpos)
        have HE : Hid (NameMath.words s.data.toList = acc ++ [(s.data.toList.drop from_).take (pos - from_)]) := by
          show _ = _; rw [HI.out]; simp [NameMath.cut_nil, NameMath.wd, hcne]
        have HPS : Hid _ := hps
        have hfs : from_ < s.size := by omega
        clear HI hcne hps
        go_wp2_with (at_builtin; refine wpList_append_own _ rfl _ _ 28 rfl w.heap.size 9 i0 (.string ⟨#[]⟩) 1 16 Tryd.underlying28 hi hz0 hz1 hz2 rfl (by decide) _ _ _ rfl (hown.alloc _) ⟨_, 0, none⟩ 1 1 [.string (s.extract from_ s.size)] rfl rfl (one_new _ _ _) (one_cell _) (by unfold maxLen; omega) (by omega) (by simp; have := hbw.size; omega) ?_)
        intro v' w' hown' hgrow hnn
        have hb' := below_append hbw hown hgrow
        have hown3 : w'.ownsRow w.heap.size 9 1 v' (acc ++ [(s.data.toList.drop from_).take (pos - from_)]).length ((acc ++ [(s.data.toList.drop from_).take (pos - from_)]).map strV) := by
          rw [List.map_append, List.length_append, List.map_singleton, HPS.out, ← strV_extract]; exact hown'
        have HO3 : Hid _ := hown3
        clear hown' hgrow hnn hown3 hown
        go_wp2
        go_ret
        exact ⟨v', rfl, by rw [HE.out]; exact HO3.out, hb'⟩
      · have HE : Hid (NameMath.words s.data.toList = acc) := by
          show _ = _; rw [HI.out, show pos - from_ = 0 by omega]; simp [NameMath.cut_nil, NameMath.wd]
        have hfs : ¬ from_ < s.size := by omega
        clear HI hps
        go_wp2
        go_ret
        exact ⟨_, rfl, by rw [HE.out]; exact hown, hbw⟩
end Go.Proofs.YtaidoipjbgkgaaaDoor
