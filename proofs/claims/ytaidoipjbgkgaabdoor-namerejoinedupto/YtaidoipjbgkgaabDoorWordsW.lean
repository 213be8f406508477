/- The walk of Words, in package name. -/
import Derived.Test.YtaidoipjbgkgaabDoorComp
import Derived.OwnWalk
import Derived.Deep.DeepMust
import Derived.WalkSmall
import Derived.Laws.OwnMore
set_option linter.unusedVariables false
namespace Go.Proofs.YtaidoipjbgkgaabDoor
open Go.RowKit

theorem infoS : (Tryd.prog.info? 9).map (fun i => (i.zero, i.size, i.bytes)) = some (some (.string ⟨#[]⟩), 1, 16) := by kernel_rfl

/-- A text as a value. -/
def strV (l : List UInt8) : Value := .string ⟨l.toArray⟩
theorem strV_data (s : ByteArray) : strV s.data.toList = .string s := by unfold strV; simp
theorem extract_data (s : ByteArray) (a b : Nat) : (s.extract a b).data.toList = (s.data.toList.drop a).take (b - a) := by
  simp [ByteArray.data_extract, Array.toList_extract, List.extract]
theorem strV_extract (s : ByteArray) (a b : Nat) : .string (s.extract a b) = strV ((s.data.toList.drop a).take (b - a)) := by
  rw [← strV_data, extract_data]

theorem wd_blank_in (r : Nat) (c cur : List UInt8) (ps : List (Nat × List UInt8)) (hb : NameMath.blank r = true) (hc : cur ≠ []) : NameMath.wd ((r, c) :: ps) cur = cur :: NameMath.wd ps [] := by
  simp [NameMath.wd, hb, hc]
theorem wd_blank_out (r : Nat) (c : List UInt8) (ps : List (Nat × List UInt8)) (hb : NameMath.blank r = true) : NameMath.wd ((r, c) :: ps) [] = NameMath.wd ps [] := by
  simp [NameMath.wd, hb]
theorem wd_letter (r : Nat) (c cur : List UInt8) (ps : List (Nat × List UInt8)) (hb : NameMath.blank r = false) : NameMath.wd ((r, c) :: ps) cur = NameMath.wd ps (cur ++ c) := by
  simp [NameMath.wd, hb]
theorem piece_ne (L : List UInt8) (a b : Nat) (h : a < b) (hb : b ≤ L.length) : (L.drop a).take (b - a) ≠ [] := by
  intro e
  have := congrArg List.length e
  simp at this
  omega
theorem piece_more (L : List UInt8) (a b k : Nat) (h : a ≤ b) : (L.drop a).take (b - a) ++ (L.drop b).take k = (L.drop a).take (b + k - a) := by
  have e : L.drop b = (L.drop a).drop (b - a) := by rw [List.drop_drop]; congr 1; omega
  rw [e, ← List.take_add]
  congr 1
  omega
/-- Behind an append onto a row of the call's own: the iterator stands as it stood; what was there is as it was. -/
theorem after_append {w w2 w' : World} {o it : Obj} {e : TypeId} {sz n : Nat} {v : Value} {xs : List Value} (hb2 : Below w.heap.size w w2) (hz : w.heap.size < w2.heap.size) (hit2 : w2.heap[w.heap.size]? = some it)
    (hown2 : w2.ownsRow (w.heap.size + 1) e sz v n xs) (hg : (w2.alloc o).grownBy w' v.ownBlock) : w'.heap[w.heap.size]? = some it ∧ Below w.heap.size w w' := by
  have hne : ∀ k, v.ownBlock = some k → w.heap.size + 1 ≤ k := fun k h => (hown2.lt k h).1
  constructor
  · rw [hg.block w.heap.size (by simp; omega) (fun h => by have := hne _ h.symm; omega), heap_alloc_old w2 o hz]
    exact hit2
  · exact (hb2.alloc hb2.size o).grown hg (by simp; have := hb2.size; omega) (fun k h => by have := hne k h; omega)
theorem one_cell (s : ByteArray) : ∀ u ∈ [Value.string s], u.oneCell' = true := by intro u hu; simp at hu; subst hu; rfl
theorem one_new (w : World) (u : Value) (t : TypeId) : ∀ (j : Nat) (x : Value), [u][j]? = some x → (w.alloc (.cells #[u] t)).cell? ((⟨w.heap.size, 0, none⟩ : Addr).add j) = some x := cell_one_new w u t

set_option maxHeartbeats 1600000 in
theorem words_any (s : ByteArray) (hs : s.size ≤ 1048576) (w : World) :
    Calls Tryd.prog 12 #[.string s] w fun e w' => ∃ v, e = .returned v ∧ w'.ownsRow (w.heap.size + 1) 9 1 v (NameMath.words s.data.toList).length ((NameMath.words s.data.toList).map strV) ∧ Below w.heap.size w w' := by
  obtain ⟨i0, hi, hz0, hz1, hz2⟩ := info_parts infoS
  go_enter Tryd.func12, Tryd.ntmps12
  go_wp2
  go_loopw [3, 4, 5] (fun v st b wr => ∃ (pos start : Nat) (inside : Bool) (acc : List (List UInt8)) (cur : List UInt8), wr.heap[w.heap.size]? = some (.stringIter s pos) ∧ pos ≤ s.size ∧ st = .int .i64 start ∧ b = .bool inside ∧ start ≤ pos ∧ acc.length ≤ pos ∧
      wr.ownsRow (w.heap.size + 1) 9 1 v acc.length (acc.map strV) ∧ Below w.heap.size w wr ∧ Hid (inside = true → cur = (s.data.toList.drop start).take (pos - start) ∧ start < pos) ∧ Hid (inside = false → cur = []) ∧
      Hid (NameMath.words s.data.toList = acc ++ NameMath.wd (NameMath.cut (s.data.toList.drop pos)) cur)) (fun _ _ _ wr => s.size - wr.iterPos w.heap.size)
  case atStart => exact ⟨0, 0, false, [], [], World.iter_heap w s 0, Nat.zero_le _, rfl, rfl, Nat.le_refl _, Nat.le_refl _, World.ownsRow_nil _ _ _ _, below_iter _ _ _, (fun h => by cases h), (fun _ => rfl), rfl⟩
  case round =>
    obtain ⟨pos, start, inside, acc, cur, hit, hpos, rfl, rfl, hst, hacc, hown, hbw, HC, HN, HI⟩ := hrel
    have hme : wr.iterPos w.heap.size = pos := by simp [World.iterPos, hit]
    by_cases hlt : pos < s.size
    · obtain ⟨r, k, hr, hk1, hk2, hdec, hne, hrun, hcut, hd1, hd2⟩ := next_at s pos hlt
      have hnx := fun ty => Lib.run_next_any_at (P := Tryd.prog) wr w.heap.size s pos ty hit hlt
      rw [hd1, hd2] at hnx
      rw [hcut] at HI
      have hit2 := Lib.iterAt_heap wr w.heap.size s pos (pos + k) hit
      have hb2 := Lib.below_iterAt hbw (Nat.le_refl _) s (pos + k)
      have hown2 := ownsRow_iterAt hown (Nat.lt_succ_self _) s (pos + k)
      clear hrun hcut hdec hd1 hd2 hne
      have hz : w.heap.size < (wr.iterAt w.heap.size s (pos + k)).heap.size := (Array.getElem?_eq_some_iff.1 hit2).1
      generalize wr.iterAt w.heap.size s (pos + k) = w2 at *
      have hm2 : w2.iterPos w.heap.size = pos + k := by simp [World.iterPos, hit2]
      have HM : Hid _ := hme
      have HM2 : Hid _ := hm2
      clear hme hm2
      by_cases hbl : NameMath.blank r = true
      · cases inside with
        | true =>
          have HC0 : Hid (cur = (s.data.toList.drop start).take (pos - start) ∧ start < pos) := HC.out rfl
          clear HC HN
          go_wp2_with (first | (go_at_call 24; refine (blank_any r hr _).mono ?_; rintro e w' ⟨rfl, hw'⟩; rw [hw']; clear hw' w') | (at_builtin; go_must (refine wpList_append_own _ rfl _ _ 26 rfl (w.heap.size + 1) 9 i0 (.string ⟨#[]⟩) 1 16 Tryd.underlying26 hi hz0 hz1 hz2 rfl (by decide) _ _ _ rfl (hown2.alloc _) ⟨w2.heap.size, 0, none⟩ 1 1 [.string (s.extract start pos)] rfl rfl ?c1 ?c2 ?c3 ?c4 ?c5 ?_)))
          case c1 => exact one_new _ _ _
          case c2 => intro u hu; simp at hu; subst hu; rfl
          case c3 => unfold maxLen; omega
          case c4 => omega
          case c5 => simp; omega
          intro v' w' hown' hgrow hnn
          have hstep := after_append hb2 hz hit2 hown2 hgrow
          have hcur := HC0.out
          have hcne : cur ≠ [] := by rw [hcur.1]; exact piece_ne _ _ _ hcur.2 (by rw [Array.length_toList]; exact hpos)
          have HE : Hid (NameMath.words s.data.toList = (acc ++ [cur]) ++ NameMath.wd (NameMath.cut (s.data.toList.drop (pos + k))) []) := by
            show _ = _; rw [HI.out, wd_blank_in _ _ _ _ hbl hcne]; simp
          have hown3 : w'.ownsRow (w.heap.size + 1) 9 1 v' (acc ++ [cur]).length ((acc ++ [cur]).map strV) := by
            rw [List.map_append, List.length_append]
            have e : [cur].map strV = [Value.string (s.extract start pos)] := by rw [strV_extract, ← hcur.1]; rfl
            rw [e]; exact hown'
          have hm3 : w'.iterPos w.heap.size = pos + k := by simp [World.iterPos, hstep.1]
          have HO3 : Hid _ := hown3
          have HS : Hid _ := hstep
          have HM3 : Hid _ := hm3
          clear hown' hgrow hnn hstep hcur hcne hown3 hm3 HI HC0 hown hown2 hnx hit
          go_wp2
          exact ⟨⟨pos + k, start, false, acc ++ [cur], [], HS.out.1, hk2, rfl, rfl, by omega, by simp; omega, HO3.out, HS.out.2, (fun h => by cases h), (fun _ => rfl), HE⟩, by rw [HM3.out, HM.out]; omega⟩
        | false =>
          have HE : Hid (NameMath.words s.data.toList = acc ++ NameMath.wd (NameMath.cut (s.data.toList.drop (pos + k))) []) := by
            show _ = _; rw [HI.out, HN.out rfl, wd_blank_out _ _ _ hbl]
          clear HI
          go_wp2_with (go_at_call 24; refine (blank_any r hr _).mono ?_; rintro e w' ⟨rfl, hw'⟩; rw [hw']; clear hw' w')
          exact ⟨⟨pos + k, start, false, acc, [], hit2, hk2, rfl, rfl, by omega, by omega, hown2, hb2, (fun h => by cases h), (fun _ => rfl), HE⟩, by rw [HM2.out, HM.out]; omega⟩
      · have hbl' : NameMath.blank r = false := by simpa using hbl
        cases inside with
        | true =>
          have HE : Hid (NameMath.words s.data.toList = acc ++ NameMath.wd (NameMath.cut (s.data.toList.drop (pos + k))) (cur ++ (s.data.toList.drop pos).take k)) := by
            show _ = _; rw [HI.out, wd_letter _ _ _ _ hbl']
          have HC2 : Hid (cur ++ (s.data.toList.drop pos).take k = (s.data.toList.drop start).take (pos + k - start) ∧ start < pos + k) := by
            have hcur := HC.out rfl
            exact ⟨by rw [hcur.1]; exact piece_more _ _ _ _ hst, by omega⟩
          clear HI hbl
          go_wp2_with (go_at_call 24; refine (blank_any r hr _).mono ?_; rintro e w' ⟨rfl, hw'⟩; rw [hw']; clear hw' w')
          exact ⟨⟨pos + k, start, true, acc, _, hit2, hk2, rfl, rfl, by omega, by omega, hown2, hb2, (fun _ => HC2.out), (fun h => by cases h), HE⟩, by rw [HM2.out, HM.out]; omega⟩
        | false =>
          have HE : Hid (NameMath.words s.data.toList = acc ++ NameMath.wd (NameMath.cut (s.data.toList.drop (pos + k))) ((s.data.toList.drop pos).take k)) := by
            show _ = _; rw [HI.out, wd_letter _ _ _ _ hbl', HN.out rfl]; rfl
          clear HI hbl
          go_wp2_with (go_at_call 24; refine (blank_any r hr _).mono ?_; rintro e w' ⟨rfl, hw'⟩; rw [hw']; clear hw' w')
          exact ⟨⟨pos + k, pos, true, acc, _, hit2, hk2, rfl, rfl, by omega, by omega, hown2, hb2, (fun _ => ⟨by rw [Nat.add_sub_cancel_left], by omega⟩), (fun h => by cases h), HE⟩, by rw [HM2.out, HM.out]; omega⟩
    · have hnx := fun ty => Lib.run_next_end_at (P := Tryd.prog) wr w.heap.size s pos ty hit hlt
      rw [drop_end s pos hlt] at HI
      have hz : w.heap.size < wr.heap.size := (Array.getElem?_eq_some_iff.1 hit).1
      cases inside with
      | true =>
        have HC0 : Hid (cur = (s.data.toList.drop start).take (pos - start) ∧ start < pos) := HC.out rfl
        clear HC HN
        go_wp2_with (at_builtin; refine wpList_append_own _ rfl _ _ 26 rfl (w.heap.size + 1) 9 i0 (.string ⟨#[]⟩) 1 16 Tryd.underlying26 hi hz0 hz1 hz2 rfl (by decide) _ _ _ rfl (hown.alloc _) ⟨wr.heap.size, 0, none⟩ 1 1 [.string (s.extract start s.size)] rfl rfl (one_new _ _ _) (one_cell _) (by unfold maxLen; omega) (by omega) (by simp; omega) ?_)
        intro v' w' hown' hgrow hnn
        have hstep := after_append hbw hz hit hown hgrow
        have hcur := HC0.out
        have hps : pos = s.size := by omega
        have hcne : cur ≠ [] := by rw [hcur.1]; exact piece_ne _ _ _ hcur.2 (by rw [Array.length_toList]; exact hpos)
        have HE : Hid (NameMath.words s.data.toList = acc ++ [cur]) := by
          show _ = _; rw [HI.out]; simp [NameMath.cut_nil, NameMath.wd, hcne]
        have hown3 : w'.ownsRow (w.heap.size + 1) 9 1 v' (acc ++ [cur]).length ((acc ++ [cur]).map strV) := by
          rw [List.map_append, List.length_append]
          have e : [cur].map strV = [Value.string (s.extract start s.size)] := by rw [strV_extract, ← hps, ← hcur.1]; rfl
          rw [e]; exact hown'
        have HO3 : Hid _ := hown3
        have HS : Hid _ := hstep
        clear hown' hgrow hnn hstep hcur hcne hown3 HI HC0 hown hnx hit hps
        go_wp2
        go_ret
        exact ⟨v', rfl, by rw [HE.out]; exact HO3.out, HS.out.2⟩
      | false =>
        have HE : Hid (NameMath.words s.data.toList = acc) := by
          show _ = _; rw [HI.out, HN.out rfl]; simp [NameMath.cut_nil, NameMath.wd]
        clear HI
        go_wp2
        go_ret
        exact ⟨_, rfl, by rw [HE.out]; exact hown, hbw⟩
end Go.Proofs.YtaidoipjbgkgaabDoor
