/- The walks of the document's Runes and Owner. -/
import Derived.Test.YthdloddcljbjhaaDoorNmRefIs

import Derived.Test.YthdloddcljbjhaaDoorNmWordsW
set_option linter.unusedVariables false
set_option maxRecDepth 100000
namespace Go.Proofs.YthdloddcljbjhaaDoor.Nm
open Go.RowKit

theorem infoI : (Tryd.prog.info? 3).map (fun i => (i.zero, i.size, i.bytes)) = some (some (.int .i64 0), 1, 8) := by kernel_rfl
def iV (r : Nat) : Value := .int .i64 (r : Int)
theorem one_cellI (n : Int) : ∀ u ∈ [Value.int .i64 n], u.oneCell' = true := by intro u hu; simp at hu; subst hu; rfl
/-- Behind an append onto a row of the call's own (no iterator). -/
theorem below_append {w w2 w' : World} {o : Obj} {e : TypeId} {sz n : Nat} {v : Value} {xs : List Value} (hb2 : Below w.heap.size w w2)
    (hown2 : w2.ownsRow w.heap.size e sz v n xs) (hg : (w2.alloc o).grownBy w' v.ownBlock) : Below w.heap.size w w' :=
  (hb2.alloc hb2.size o).grown hg (by simp; have := hb2.size; omega) (fun k h => (hown2.lt k h).1)
theorem runes_le : ∀ (l : List UInt8), ∀ r ∈ NameMath.runes l, r ≤ 1114111 := by
  apply NameMath.byRunes
  · intro r hr; cases hr
  · intro l h ih r hr
    rw [NameMath.runes_cons l h] at hr
    rcases List.mem_cons.1 hr with rfl | hr
    · exact NameMath.dec_max l
    · exact ih r hr
theorem runes_length : ∀ (l : List UInt8), (NameMath.runes l).length ≤ l.length := by
  apply NameMath.byRunes
  · exact Nat.le_refl _
  · intro l h ih
    rw [NameMath.runes_cons l h, List.length_cons]
    have := NameMath.dec_pos l
    have := NameMath.dec_le l h
    rw [List.length_drop] at ih
    omega

set_option maxHeartbeats 1600000 in
theorem refRunes_any (s : ByteArray) (hs : s.size ≤ 1048576) (w : World) :
    Calls Tryd.prog 36 #[.string s] w fun e w' => ∃ v, e = .returned v ∧ w'.ownsRow w.heap.size 3 1 v (NameMath.runes s.data.toList).length ((NameMath.runes s.data.toList).map iV) ∧ Below w.heap.size w w' := by
  obtain ⟨i0, hi, hz0, hz1, hz2⟩ := info_parts infoI
  go_enter Tryd.func36, Tryd.ntmps36
  go_wp2
  go_loopw [3, 4] (fun v t wr => ∃ (pos : Nat) (acc : List Nat), pos ≤ s.size ∧ t = .int .i64 pos ∧ acc.length ≤ pos ∧ wr.ownsRow w.heap.size 3 1 v acc.length (acc.map iV) ∧ Below w.heap.size w wr ∧
      Hid (NameMath.runes s.data.toList = acc ++ NameMath.runes (s.data.toList.drop pos))) (fun _ t _ => s.size - (intOf t).toNat)
  case atStart => exact ⟨0, [], Nat.zero_le _, rfl, Nat.le_refl _, World.ownsRow_nil _ _ _ _, Below.refl _ _, rfl⟩
  case round =>
    obtain ⟨pos, acc, hpos, rfl, hacc, hown, hbw, HI⟩ := hrel
    by_cases hlt : pos < s.size
    · go_wp2_with fail
      refine (next_any s pos hlt (by omega) _).mono ?_
      rintro e w1 ⟨r, k, ok, rfl, hw1, hdec, hok⟩
      subst hw1
      obtain ⟨hr, hk1, hk2, hrun, hcut, hne⟩ := next_use s pos hlt hdec
      rw [hrun] at HI
      clear hrun hcut hne hok hdec
      go_wp2_with (at_builtin; refine wpList_append_own _ rfl _ _ 62 rfl w.heap.size 3 i0 (.int .i64 0) 1 8 Tryd.underlying62 hi hz0 hz1 hz2 rfl (by decide) _ _ _ rfl (hown.alloc _) ⟨_, 0, none⟩ 1 1 [.int .i64 (r : Int)] rfl rfl (one_new _ _ _) (one_cellI _) (by unfold maxLen; omega) (by omega) (by simp; have := hbw.size; omega) ?_)
      intro v' w' hown' hgrow hnn
      have hb' := below_append hbw hown hgrow
      have HE : Hid (NameMath.runes s.data.toList = (acc ++ [r]) ++ NameMath.runes (s.data.toList.drop (pos + k))) := by show _ = _; rw [HI.out]; simp
      have hown3 : w'.ownsRow w.heap.size 3 1 v' (acc ++ [r]).length ((acc ++ [r]).map iV) := by
        rw [List.map_append, List.length_append]; exact hown'
      have HO3 : Hid _ := hown3
      clear hown' hgrow hnn hown3 HI hown
      go_wp2
      exact ⟨⟨pos + k, acc ++ [r], hk2, by go_num, by simp; omega, HO3.out, hb', HE⟩, by simp [intOf]; omega⟩
    · rw [drop_end s pos hlt] at HI
      have HE : Hid (NameMath.runes s.data.toList = acc) := by show _ = _; rw [HI.out]; simp [NameMath.runes_nil]
      clear HI
      go_wp2
      go_ret
      exact ⟨_, rfl, by rw [HE.out]; exact hown, hbw⟩
end Go.Proofs.YthdloddcljbjhaaDoor.Nm