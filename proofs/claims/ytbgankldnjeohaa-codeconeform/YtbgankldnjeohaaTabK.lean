/- Compare of two names, at tables of any content: the walk. -/
import Derived.Test.YtbgankldnjeohaaTabC
import Derived.LoopTactic
import Derived.Laws.RangeAny
set_option linter.unusedVariables false
set_option linter.unusedSimpArgs false
set_option maxRecDepth 100000
namespace Go.Proofs.Ytbgankldnjeohaa
open Go.RowKit

set_option maxHeartbeats 1000000 in
theorem compareX (t : Tb) (a b : ByteArray) (hb : b.size ≤ 140737488355328) (hga : Hid (Good a.data.toList)) (hgb : Hid (Good b.data.toList)) (w : World) (hT : Hid (TabX t w)) (hlow : 0 < w.heap.size ∧ 1 < w.heap.size) :
    Calls Try.prog 73 #[.string a, .string b] w fun e w' => e = .returned (.int .i64 (cmpX t (NameMath.runes a.data.toList) b)) ∧ Below w.heap.size w w' := by
  have hlow' : Hid (0 < w.heap.size ∧ 1 < w.heap.size) := hlow
  clear hlow
  go_enter Try.func73, Try.ntmps73
  go_wp2
  go_loopw [5] (fun x wr => ∃ (pos : Nat) (c : ByteArray), wr.heap[w.heap.size]? = some (.stringIter a pos) ∧ pos ≤ a.size ∧ x = .string c ∧ c.size ≤ 140737488355328 ∧ Below w.heap.size w wr ∧ Hid (Good c.data.toList) ∧
      Hid (cmpX t (NameMath.runes a.data.toList) b = cmpX t (NameMath.runes (a.data.toList.drop pos)) c) ∧ Hid (∀ r ∈ NameMath.runes (a.data.toList.drop pos), nR r)) (fun _ wr => a.size - wr.iterPos w.heap.size)
  case atStart => exact ⟨0, b, World.iter_heap w a 0, Nat.zero_le _, rfl, hb, Nm.below_iter _ _ _, hgb, rfl, hga⟩
  case round =>
    obtain ⟨pos, c, hit, hpos, rfl, hc, hbw, HG, HI, HR⟩ := hrel
    have hme : wr.iterPos w.heap.size = pos := by simp [World.iterPos, hit]
    by_cases hlt : pos < a.size
    · obtain ⟨r, k, hr, hk1, hk2, hdec, hne, hrun, hcut, hd1, hd2⟩ := Nm.next_at a pos hlt
      have hnx := fun ty => Lib.run_next_any_at (P := Try.prog) wr w.heap.size a pos ty hit hlt
      rw [hd1, hd2] at hnx
      rw [hrun] at HI HR
      have hit2 := Lib.iterAt_heap wr w.heap.size a pos (pos + k) hit
      have hb2 := Lib.below_iterAt hbw (Nat.le_refl _) a (pos + k)
      clear hrun hcut hdec hd1 hd2 hne
      have hz : w.heap.size < (wr.iterAt w.heap.size a (pos + k)).heap.size := (Array.getElem?_eq_some_iff.1 hit2).1
      generalize wr.iterAt w.heap.size a (pos + k) = w2 at *
      have hT2 : Hid (TabX t w2) := hT.out.below hb2 hlow'.out
      have HQ : Hid (nR r) := HR.out r (by simp)
      have HR2 : Hid (∀ r ∈ NameMath.runes (a.data.toList.drop (pos + k)), nR r) := fun q hq => HR.out q (by simp [hq])
      clear HR
      by_cases h0 : c.size = 0
      · have hempty : c.toList.isEmpty = true := emp_yes c h0
        have HE : Hid (cmpX t (NameMath.runes a.data.toList) b = 1) := by show _ = _; rw [HI.out, cmpX_c0 t _ _ _ h0]
        clear HI hme HG HQ HR2
        go_wp2_with fail
        go_ret
        exact ⟨Nm.ret_int HE.out.symm, hb2⟩
      · have hempty : c.toList.isEmpty = false := emp_no c h0
        obtain ⟨r2, k2, hj1, hj2, hN2, hrun2, h2b, hor⟩ := decX_name t c h0 HG.out
        have HCL : Hid (Calls Try.prog 78 #[.string c] w2 fun e w' => e = .returned (.tuple #[.int .i32 (decX t c).1, .int .i64 (decX t c).2]) ∧ Below w2.heap.size w2 w') := decX_any t c w2 hT2.out h0 h2b
        clear h2b
        by_cases h1 : (r : Int) < (decX t c).1
        · have HE : Hid (cmpX t (NameMath.runes a.data.toList) b = -1) := by show _ = _; rw [HI.out, cmpX_lt t _ _ _ h0 h1]
          clear HI HG HQ HR2 hor hrun2
          generalize decX t c = p at *
          go_wp2_with fail
          refine HCL.out.mono ?_
          rintro e w3 ⟨rfl, hb3⟩
          go_wp2_with fail
          go_ret
          exact ⟨Nm.ret_int HE.out.symm, hb2.trans (hb3.mono hb2.size)⟩
        · by_cases h2 : (decX t c).1 < (r : Int)
          · have HE : Hid (cmpX t (NameMath.runes a.data.toList) b = 1) := by show _ = _; rw [HI.out, cmpX_gt t _ _ _ h0 h1 h2]
            clear HI HG HQ HR2 hor hrun2
            generalize decX t c = p at *
            go_wp2_with fail
            refine HCL.out.mono ?_
            rintro e w3 ⟨rfl, hb3⟩
            go_wp2_with fail
            go_ret
            exact ⟨Nm.ret_int HE.out.symm, hb2.trans (hb3.mono hb2.size)⟩
          · have hd : decX t c = ((r2 : Int), k2) := by
              rcases hor with h | h
              · exact h
              · exact absurd (by omega) (h r HQ.out)
            have HE : Hid (cmpX t (NameMath.runes a.data.toList) b = cmpX t (NameMath.runes (a.data.toList.drop (pos + k))) (c.extract k2 c.size)) := by
              show _ = _
              rw [HI.out, cmpX_eq t _ _ _ h0 h1 h2, hd]
            have HG2 : Hid (Good (c.extract k2 c.size).data.toList) := fun q hq => HG.out q (by rw [hrun2]; exact List.mem_cons_of_mem _ hq)
            rw [hd] at HCL h1 h2
            have h1' : ¬ (r : Int) < (r2 : Int) := h1
            have h2' : ¬ (r2 : Int) < (r : Int) := h2
            clear HI HG HQ hor hrun2 hd h1 h2
            go_wp2_with fail
            refine HCL.out.mono ?_
            rintro e w3 ⟨rfl, hb3⟩
            go_wp2_with fail
            have hit3 : w3.heap[w.heap.size]? = some (.stringIter a (pos + k)) := (hb3.block _ hz).trans hit2
            have hm3 : w3.iterPos w.heap.size = pos + k := by simp [World.iterPos, hit3]
            exact ⟨⟨pos + k, _, hit3, hk2, rfl, by simp; omega, hb2.trans (hb3.mono hb2.size), HG2, HE, HR2⟩, by rw [hm3, hme]; omega⟩
    · have hnx := fun ty => Lib.run_next_end_at (P := Try.prog) wr w.heap.size a pos ty hit hlt
      rw [Nm.drop_end a pos hlt] at HI
      by_cases h0 : c.size = 0
      · have hempty : c.toList.isEmpty = true := emp_yes c h0
        have HE : Hid (cmpX t (NameMath.runes a.data.toList) b = 0) := by show _ = _; rw [HI.out]; exact cmpX_nil0 t c h0
        clear HI hme
        go_wp2_with fail
        go_ret
        exact ⟨Nm.ret_int HE.out.symm, hbw⟩
      · have hempty : c.toList.isEmpty = false := emp_no c h0
        have HE : Hid (cmpX t (NameMath.runes a.data.toList) b = -1) := by show _ = _; rw [HI.out]; exact cmpX_nil1 t c h0
        clear HI
        go_wp2_with fail
        go_ret
        exact ⟨Nm.ret_int HE.out.symm, hbw⟩
end Go.Proofs.Ytbgankldnjeohaa
