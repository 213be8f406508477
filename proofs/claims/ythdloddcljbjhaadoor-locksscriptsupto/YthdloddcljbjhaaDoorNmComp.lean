/- The walk of Compare, in package name. -/
import Derived.Test.YthdloddcljbjhaaDoorNmWalks
import Derived.Test.YthdloddcljbjhaaDoorShelf
import Derived.Lib.OthersKept
set_option linter.unusedVariables false
set_option maxRecDepth 100000
namespace Go.Proofs.YthdloddcljbjhaaDoor.Nm
open Go.RowKit

/-- The library's two tables lie in the world. -/
abbrev Tabs (w : World) : Prop := Lib.Utf8Tabs 0 1 w

theorem toList_data (s : ByteArray) : s.toList = s.data.toList := Lib.toList_data s
theorem data_nil (c : ByteArray) (h : c.size = 0) : c.data.toList = [] := List.eq_nil_of_length_eq_zero ((Array.length_toList (xs := c.data)).trans h)
theorem empty_yes (c : ByteArray) (h : c.size = 0) : c.toList.isEmpty = true := by rw [toList_data, data_nil c h]; rfl
theorem empty_no (c : ByteArray) (h : c.size ≠ 0) : c.toList.isEmpty = false := by
  rw [toList_data]
  cases e : c.data.toList with
  | nil =>
    have : c.data.toList.length = c.size := Array.length_toList
    rw [e] at this
    exact absurd this.symm h
  | cons x l => rfl
theorem cmp_nil_cons (y : Nat) (b : List Nat) : NameMath.cmp [] (y :: b) = -1 := rfl

/-- What DecodeRuneInString answers at a text that is not empty. -/
theorem decode_at0 (s : ByteArray) (h : 0 < s.size) : ∃ r k : Nat, r ≤ 1114111 ∧ 1 ≤ k ∧ k ≤ s.size ∧ (Lib.decodeGo s).1 = r ∧ (Lib.decodeGo s).2 = k ∧
    NameMath.runes s.data.toList = r :: NameMath.runes (s.extract k s.size).data.toList := by
  obtain ⟨r, k, hr, hk1, hk2, hdec, hne, hrun, hcut, hd1, hd2⟩ := next_at s 0 h
  refine ⟨r, k, hr, hk1, by omega, ?_, ?_, ?_⟩
  · unfold Lib.decodeGo; rw [if_neg (by omega)]; exact hd1
  · unfold Lib.decodeGo; rw [if_neg (by omega)]; exact hd2
  · rw [List.drop_zero, Nat.zero_add] at hrun
    rw [hrun]
    congr 2
    have hl : s.data.toList.length = s.size := Array.length_toList
    simp [ByteArray.data_extract, Array.toList_extract, List.extract]
    rw [List.take_of_length_le (by simp)]

set_option maxHeartbeats 1000000 in
theorem compare_any (a b : ByteArray) (hb : b.size ≤ 140737488355328) (w : World) (hT : Tabs w) :
    Calls Tryd.prog 31 #[.string a, .string b] w fun e w' => e = .returned (.int .i64 (NameMath.cmp (NameMath.runes a.data.toList) (NameMath.runes b.data.toList))) ∧ Below w.heap.size w w' := by
  go_enter Tryd.func31, Tryd.ntmps31
  go_wp2
  go_loopw [5] (fun t wr => ∃ (pos : Nat) (c : ByteArray), wr.heap[w.heap.size]? = some (.stringIter a pos) ∧ pos ≤ a.size ∧ t = .string c ∧ c.size ≤ 140737488355328 ∧ Below w.heap.size w wr ∧
      Hid (NameMath.cmp (NameMath.runes a.data.toList) (NameMath.runes b.data.toList) = NameMath.cmp (NameMath.runes (a.data.toList.drop pos)) (NameMath.runes c.data.toList))) (fun _ wr => a.size - wr.iterPos w.heap.size)
  case atStart => exact ⟨0, b, World.iter_heap w a 0, Nat.zero_le _, rfl, hb, below_iter _ _ _, rfl⟩
  case round =>
    obtain ⟨pos, c, hit, hpos, rfl, hc, hbw, HI⟩ := hrel
    have hme : wr.iterPos w.heap.size = pos := by simp [World.iterPos, hit]
    by_cases hlt : pos < a.size
    · obtain ⟨r, k, hr, hk1, hk2, hdec, hne, hrun, hcut, hd1, hd2⟩ := next_at a pos hlt
      have hnx := fun ty => Lib.run_next_any_at (P := Tryd.prog) wr w.heap.size a pos ty hit hlt
      rw [hd1, hd2] at hnx
      rw [hrun] at HI
      have hit2 := Lib.iterAt_heap wr w.heap.size a pos (pos + k) hit
      have hb2 := Lib.below_iterAt hbw (Nat.le_refl _) a (pos + k)
      clear hrun hcut hdec hd1 hd2 hne
      have hz : w.heap.size < (wr.iterAt w.heap.size a (pos + k)).heap.size := (Array.getElem?_eq_some_iff.1 hit2).1
      generalize wr.iterAt w.heap.size a (pos + k) = w2 at *
      have hT2 : Tabs w2 := Utf8Tabs_below hT hb2
      by_cases h0 : c.size = 0
      · have hempty : c.toList.isEmpty = true := empty_yes c h0
        have hnil : c.data.toList = [] := data_nil c h0
        have HE : Hid (NameMath.cmp (NameMath.runes a.data.toList) (NameMath.runes b.data.toList) = 1) := by show _ = _; rw [HI.out, hnil]; rfl
        clear HI hnil hme
        go_wp2_with fail
        go_ret
        exact ⟨ret_int HE.out.symm, hb2⟩
      · have hempty : c.toList.isEmpty = false := empty_no c h0
        obtain ⟨r2, k2, hr2, hj1, hj2, he1, he2, hrun2⟩ := decode_at0 c (by omega)
        have hcall := Tryd.utf8_DecodeRuneInString c w2 hT2
        rw [he1, he2] at hcall
        rw [hrun2] at HI
        clear hrun2 he1 he2
        have HCL : Hid (Calls Tryd.prog 39 #[.string c] w2 fun e w' => e = .returned (.tuple #[.int .i32 (r2 : Int), .int .i64 (k2 : Int)]) ∧ Below w2.heap.size w2 w') := hcall
        clear hcall
        by_cases h1 : r < r2
        · have HE : Hid (NameMath.cmp (NameMath.runes a.data.toList) (NameMath.runes b.data.toList) = -1) := by show _ = _; rw [HI.out, NameMath.cmp, if_pos h1]
          clear HI
          go_wp2_with fail
          refine HCL.out.mono ?_
          rintro e w3 ⟨rfl, hb3⟩
          go_wp2_with fail
          go_ret
          exact ⟨ret_int HE.out.symm, hb2.trans (hb3.mono hb2.size)⟩
        · by_cases h2 : r2 < r
          · have HE : Hid (NameMath.cmp (NameMath.runes a.data.toList) (NameMath.runes b.data.toList) = 1) := by show _ = _; rw [HI.out, NameMath.cmp, if_neg h1, if_pos h2]
            clear HI
            go_wp2_with fail
            refine HCL.out.mono ?_
            rintro e w3 ⟨rfl, hb3⟩
            go_wp2_with fail
            go_ret
            exact ⟨ret_int HE.out.symm, hb2.trans (hb3.mono hb2.size)⟩
          · have HE : Hid (NameMath.cmp (NameMath.runes a.data.toList) (NameMath.runes b.data.toList) = NameMath.cmp (NameMath.runes (a.data.toList.drop (pos + k))) (NameMath.runes (c.extract k2 c.size).data.toList)) := by show _ = _; rw [HI.out, NameMath.cmp, if_neg h1, if_neg h2]
            clear HI
            go_wp2_with fail
            refine HCL.out.mono ?_
            rintro e w3 ⟨rfl, hb3⟩
            go_wp2_with fail
            have hit3 : w3.heap[w.heap.size]? = some (.stringIter a (pos + k)) := (hb3.block _ hz).trans hit2
            have hm3 : w3.iterPos w.heap.size = pos + k := by simp [World.iterPos, hit3]
            exact ⟨⟨pos + k, _, hit3, hk2, rfl, by simp; omega, hb2.trans (hb3.mono hb2.size), HE⟩, by rw [hm3, hme]; omega⟩
    · have hnx := fun ty => Lib.run_next_end_at (P := Tryd.prog) wr w.heap.size a pos ty hit hlt
      rw [drop_end a pos hlt] at HI
      by_cases h0 : c.size = 0
      · have hempty : c.toList.isEmpty = true := empty_yes c h0
        have hnil : c.data.toList = [] := data_nil c h0
        have HE : Hid (NameMath.cmp (NameMath.runes a.data.toList) (NameMath.runes b.data.toList) = 0) := by show _ = _; rw [HI.out, hnil]; rfl
        clear HI hnil hme
        go_wp2_with fail
        go_ret
        exact ⟨ret_int HE.out.symm, hbw⟩
      · have hempty : c.toList.isEmpty = false := empty_no c h0
        obtain ⟨r2, k2, hr2, hj1, hj2, he1, he2, hrun2⟩ := decode_at0 c (by omega)
        have HE : Hid (NameMath.cmp (NameMath.runes a.data.toList) (NameMath.runes b.data.toList) = -1) := by show _ = _; rw [HI.out, hrun2]; rfl
        clear HI hrun2 he1 he2
        go_wp2_with fail
        go_ret
        exact ⟨ret_int HE.out.symm, hbw⟩
end Go.Proofs.YthdloddcljbjhaaDoor.Nm