/- The walk of Fold, in package name. -/
import Derived.Test.YtaidoipjbgkgaabDoorWordsW
import Derived.Lib.AppendStr
import Derived.Laws.BytesArg
import Derived.Lib.RuneBytes
set_option linter.unusedVariables false
namespace Go.Proofs.YtaidoipjbgkgaabDoor
open Go.RowKit

theorem infoB : (Tryd.prog.info? 5).map (fun i => (i.zero, i.size, i.bytes)) = some (some (.int .u8 0), 1, 1) := by kernel_rfl

/-- Bytes as cells. -/
def cells8 (l : List UInt8) : List Value := l.map fun b => Value.int .u8 (b.toNat : Int)
theorem cells8_append (a b : List UInt8) : cells8 (a ++ b) = cells8 a ++ cells8 b := by simp [cells8]
theorem strCells_eq (s : ByteArray) : Lib.strCells s = cells8 s.data.toList := rfl
theorem strCells_extract (s : ByteArray) (a b : Nat) : Lib.strCells (s.extract a b) = cells8 ((s.data.toList.drop a).take (b - a)) := by rw [strCells_eq, extract_data]

theorem dec_small (l : List UInt8) (r k : Nat) (h : NameMath.dec l = (r, k)) (hg : NameMath.great r = true) : (r < 128 ∧ k = 1) ∨ (128 ≤ r ∧ r < 2048 ∧ k = 2) := by
  have hr : (65 ≤ r ∧ r ≤ 90) ∨ r = 196 ∨ r = 214 ∨ r = 220 ∨ (913 ≤ r ∧ r ≤ 937 ∧ r ≠ 930) := by simpa [NameMath.great] using hg
  unfold NameMath.dec NameMath.d4 at h
  have h0 := NameMath.byt_lt l 0
  repeat' split at h
  all_goals simp only [Prod.mk.injEq] at h
  all_goals omega
theorem great_low (r : Nat) (hg : NameMath.great r = true) : NameMath.low r = r + 32 ∧ r < 2048 ∧ (r < 128 ↔ r + 32 < 128) ∧ r + 32 < 2048 := by
  have hr : (65 ≤ r ∧ r ≤ 90) ∨ r = 196 ∨ r = 214 ∨ r = 220 ∨ (913 ≤ r ∧ r ≤ 937 ∧ r ≠ 930) := by simpa [NameMath.great] using hg
  exact ⟨by simp [NameMath.low, hg], by omega, by omega, by omega⟩
theorem runeCells_enc (x : Nat) (h : x < 2048) : Lib.runeCells (x : Int) = cells8 (NameMath.enc x) := by
  unfold Lib.runeCells NameMath.enc cells8
  by_cases hx : x < 128
  · rw [Lib.encodeRuneZ_one (by omega) (by omega), if_pos hx]
    simp
    omega
  · rw [Lib.encodeRuneZ_two (by omega) (by omega), if_neg hx]
    simp
    omega
theorem enc_length (x : Nat) : (NameMath.enc x).length = if x < 128 then 1 else 2 := by
  unfold NameMath.enc; split <;> rfl
theorem runeLen_great (r k : Nat) (h : (r < 128 ∧ k = 1) ∨ (128 ≤ r ∧ r < 2048 ∧ k = 2)) : Lib.runeLen (r : Int) = (k : Int) := by
  unfold Lib.runeLen
  rcases h with ⟨h1, rfl⟩ | ⟨h1, h2, rfl⟩
  · rw [if_neg (by omega), if_pos (by omega)]; rfl
  · rw [if_neg (by omega), if_neg (by omega), if_pos (by omega)]; rfl

theorem own_iter {w : World} {B e size n : Nat} {v : Value} {xs : List Value} {k : Nat} {s : ByteArray} {pos : Nat} (h : w.ownsRow B e size v n xs) (hk : w.heap[k]? = some (.stringIter s pos)) (pos' : Nat) : (w.iterAt k s pos').ownsRow B e size v n xs := by
  refine ⟨h.1, ?_⟩
  rcases h.2 with h0 | ⟨g, cap, cur, hv, hb, hg, rest⟩
  · exact .inl h0
  · refine .inr ⟨g, cap, cur, hv, hb, ?_, rest⟩
    rw [Lib.iterAt_other _ _ _ _ _ (fun e => by subst e; rw [hk] at hg; cases hg)]
    exact hg
theorem own_not_iter {w : World} {B e size n : Nat} {v : Value} {xs : List Value} {k : Nat} {s : ByteArray} {pos : Nat} (h : w.ownsRow B e size v n xs) (hk : w.heap[k]? = some (.stringIter s pos)) : some k ≠ v.ownBlock := by
  rcases h.2 with ⟨rfl, _⟩ | ⟨g, cap, cur, rfl, hb, hg, rest⟩
  · simp [Value.ownBlock]
  · intro e
    simp only [Value.ownBlock, Option.some.injEq] at e
    subst e
    rw [hk] at hg
    cases hg
theorem own_cast {w : World} {B e size n n' : Nat} {v : Value} {xs xs' : List Value} (h1 : n = n') (h2 : xs = xs') (h : w.ownsRow B e size v n xs) : w.ownsRow B e size v n' xs' := by
  subst h1; subst h2; exact h
/-- Behind what grew a row of the call's own. -/
theorem after_grown {w w2 w' : World} {I : Nat} {s : ByteArray} {p : Nat} {e : TypeId} {sz n : Nat} {v : Value} {xs : List Value} (hb2 : Below w.heap.size w w2) (hI : w.heap.size ≤ I) (hit2 : w2.heap[I]? = some (.stringIter s p))
    (hown2 : w2.ownsRow w.heap.size e sz v n xs) (hg : w2.grownBy w' v.ownBlock) : w'.heap[I]? = some (.stringIter s p) ∧ Below w.heap.size w w' := by
  have hlt : I < w2.heap.size := (Array.getElem?_eq_some_iff.1 hit2).1
  exact ⟨(hg.block I hlt (own_not_iter hown2 hit2)).trans hit2, hb2.grown hg hb2.size (fun k h => (hown2.lt k h).1)⟩
theorem after_grown_alloc {w w2 w' : World} {o : Obj} {I : Nat} {s : ByteArray} {p : Nat} {e : TypeId} {sz n : Nat} {v : Value} {xs : List Value} (hb2 : Below w.heap.size w w2) (hI : w.heap.size ≤ I) (hit2 : w2.heap[I]? = some (.stringIter s p))
    (hown2 : w2.ownsRow w.heap.size e sz v n xs) (hg : (w2.alloc o).grownBy w' v.ownBlock) : w'.heap[I]? = some (.stringIter s p) ∧ Below w.heap.size w w' := by
  have hlt : I < w2.heap.size := (Array.getElem?_eq_some_iff.1 hit2).1
  exact after_grown (hb2.alloc hb2.size o) hI ((heap_alloc_old w2 o hlt).trans hit2) (hown2.alloc o) hg
/-- A row of bytes, made a text. -/
theorem own_string {P : Program} {w : World} {base e n : Nat} {v : Value} {l : List UInt8} (h : w.ownsRow base e 1 v n (cells8 l)) {src dst : TypeId} (hs : P.underlying src = some (.slice e)) (he : P.underlying e = some (.int .u8)) (hd : P.underlying dst = some .string) :
    (convert src dst v).run P w = .ok (strV l) w := by
  have hl : l.length = n := by have := h.1; simpa [cells8] using this
  rcases h.2 with ⟨rfl, hx⟩ | ⟨g, cap, cur, rfl, hb, hg, hnc, hcm, hcs, htake⟩
  · have : l = [] := by
      exact List.eq_nil_of_length_eq_zero (by omega)
    subst this
    exact run_convert_bytes_nil w src e hs he 0 0 dst hd
  · have hcell := h.cellAt
    have hr := run_convert_bytes_arg (P := P) w src e hs he g 0 n cap (l.map fun b => (b.toNat : Int)) (by simpa using hl) (fun i hi => by
      have h1 := hcell i (by omega)
      have : i < l.length := by rw [hl]; exact hi
      simpa [cells8, List.getD, this] using h1) dst hd
    rw [hr]
    unfold strOfNums strV
    simp [Function.comp_def]

set_option maxHeartbeats 1600000 in
theorem fold_any (s : ByteArray) (hs : s.size ≤ 140737488351232) (w : World) :
    Calls Tryd.prog 14 #[.string s] w fun e w' => e = .returned (strV (NameMath.fold s.data.toList)) ∧ Below w.heap.size w w' := by
  obtain ⟨i0, hi, hz0, hz1, hz2⟩ := info_parts infoB
  obtain ⟨w1, hmk, hown1, hgr1⟩ := run_make_own (P := Tryd.prog) w w.heap.size 39 5 i0 (.int .u8 0) 1 Tryd.underlying39 hi hz0 hz1 .i64 .i64 s.size (by rw [hz2]; omega) (by unfold maxLen; omega) (Nat.le_refl _)
  have hb1 : Below w.heap.size w w1 := (Below.refl _ w).grown hgr1 (Nat.le_refl _) (fun k h => by cases h)
  have hown1' : (w1.iter s 0).ownsRow w.heap.size 5 1 (.slice (some ⟨w.heap.size, 0, none⟩) 0 s.size) 0 [] := hown1.alloc _
  have hb1' : Below w.heap.size w (w1.iter s 0) := hb1.alloc hb1.size _
  have HO1 : Hid ((w1.iter s 0).ownsRow w.heap.size 5 1 (.slice (some ⟨w.heap.size, 0, none⟩) 0 s.size) 0 []) := hown1'
  have HB1 : Hid _ := hb1'
  have hws : w.heap.size ≤ w1.heap.size := hb1.size
  clear hown1 hgr1 hb1 hown1' hb1'
  go_enter Tryd.func14, Tryd.ntmps14
  go_wp2
  go_loopw [3, 4] (fun v fr wr => ∃ (pos from_ : Nat) (acc : List UInt8), wr.heap[w1.heap.size]? = some (.stringIter s pos) ∧ pos ≤ s.size ∧ fr = .int .i64 from_ ∧ from_ ≤ pos ∧ acc.length = from_ ∧
      wr.ownsRow w.heap.size 5 1 v acc.length (cells8 acc) ∧ Below w.heap.size w wr ∧
      Hid (NameMath.fold s.data.toList = acc ++ (s.data.toList.drop from_).take (pos - from_) ++ NameMath.fold (s.data.toList.drop pos))) (fun _ _ wr => s.size - wr.iterPos w1.heap.size)
  case atStart => exact ⟨0, 0, [], World.iter_heap w1 s 0, Nat.zero_le _, rfl, Nat.le_refl _, rfl, HO1.out, HB1.out, by show _ = _; simp⟩
  case round =>
    obtain ⟨pos, from_, acc, hit, hpos, rfl, hfr, hacc, hown, hbw, HI⟩ := hrel
    have hme : wr.iterPos w1.heap.size = pos := by simp [World.iterPos, hit]
    by_cases hlt : pos < s.size
    · obtain ⟨r, k, hr, hk1, hk2, hdec, hne, hrun, hcut, hd1, hd2⟩ := next_at s pos hlt
      have hnx := fun ty => Lib.run_next_any_at (P := Tryd.prog) wr w1.heap.size s pos ty hit hlt
      rw [hd1, hd2] at hnx
      have hfc := NameMath.fold_cons _ hne
      rw [hdec, List.drop_drop] at hfc
      rw [hfc] at HI
      have hit2 := Lib.iterAt_heap wr w1.heap.size s pos (pos + k) hit
      have hb2 := Lib.below_iterAt hbw hws s (pos + k)
      have hown2 := own_iter hown hit (pos + k)
      clear hrun hcut hd1 hd2 hne hfc
      generalize wr.iterAt w1.heap.size s (pos + k) = w2 at *
      have hm2 : w2.iterPos w1.heap.size = pos + k := by simp [World.iterPos, hit2]
      have HM : Hid _ := hme
      have HM2 : Hid _ := hm2
      clear hme hm2
      by_cases hg : NameMath.great r = true
      · obtain ⟨hl1, hl2, hl3, hl4⟩ := great_low r hg
        have hsm := dec_small _ _ _ hdec hg
        have HL : Hid (NameMath.low r = r + 32) := hl1
        have hne2 : (((NameMath.low r : Nat) : Int) == (r : Int)) = false := beq_eq_false_iff_ne.2 (by omega)
        have HK : Hid (Lib.runeLen (r : Int) = (k : Int)) := runeLen_great r k hsm
        have HC : Hid (Lib.runeCells ((NameMath.low r : Nat) : Int) = cells8 (NameMath.enc (NameMath.low r))) := runeCells_enc _ (by omega)
        have HN : Hid ((NameMath.enc (NameMath.low r)).length = k) := by
          show _ = _
          rw [enc_length, hl1]
          rcases hsm with ⟨h1, rfl⟩ | ⟨h1, h2, rfl⟩
          · rw [if_pos (by omega)]
          · rw [if_neg (by omega)]
        have HE : Hid (NameMath.fold s.data.toList = (acc ++ (s.data.toList.drop from_).take (pos - from_) ++ NameMath.enc (NameMath.low r)) ++ NameMath.fold (s.data.toList.drop (pos + k))) := by
          show _ = _
          rw [HI.out, NameMath.fold1, if_neg (by show ¬ NameMath.low r = r; omega)]
          simp
        have hlow2 : NameMath.low r < 2048 := by omega
        clear HI hdec hg hsm hl1 hl2 hl3 hl4
        have hso : ∀ w, Calls Tryd.prog 25 #[.int .i32 (r : Int)] w fun e w' => e = .returned (.int .i32 ((NameMath.low r : Nat) : Int)) ∧ w' = w := fun w => smallOf_any r hr w
        have HSO : Hid (∀ w, Calls Tryd.prog 25 #[.int .i32 (r : Int)] w fun e w' => e = .returned (.int .i32 ((NameMath.low r : Nat) : Int)) ∧ w' = w) := hso
        clear hso
        generalize NameMath.low r = lo at *
        have hsx : (s.extract from_ pos).size = pos - from_ := by simp [ByteArray.size_extract]; omega
        have HSX : Hid _ := hsx
        clear hsx
        have HPL : Hid (((s.data.toList.drop from_).take (pos - from_)).length = pos - from_) := by
          show _ = _
          have : s.data.toList.length = s.size := Array.length_toList
          rw [List.length_take, List.length_drop]; omega
        go_wp2_with (first | (go_at_call 25; refine (HSO.out _).mono ?_; rintro e w' ⟨rfl, hw'⟩; rw [hw']; clear hw' w') | (at_builtin; refine Lib.wpList_append_own_string _ rfl _ _ 39 9 rfl w.heap.size 5 i0 Tryd.underlying39 Tryd.underlying9 hi hz0 hz1 hz2 _ _ _ rfl hown2 (s.extract from_ pos) rfl (by rw [HSX.out]; unfold maxLen; omega) (by rw [HSX.out]; omega) hb2.size ?_))
        intro v3 w3 hown3 hg3 hnn3
        obtain ⟨hit3, hb3⟩ := after_grown hb2 hws hit2 hown2 hg3
        have hown3' : w3.ownsRow w.heap.size 5 1 v3 (acc ++ (s.data.toList.drop from_).take (pos - from_)).length (cells8 (acc ++ (s.data.toList.drop from_).take (pos - from_))) := by
          exact own_cast (by rw [List.length_append, HPL.out]; omega) (by rw [cells8_append, strCells_extract]) hown3
        have hlen3 : (acc ++ (s.data.toList.drop from_).take (pos - from_)).length = pos := by rw [List.length_append, HPL.out]; omega
        have HLN : Hid _ := hlen3
        clear hown3 hg3 hnn3 hnx hit hown hown2 hlen3
        go_wp2_with (go_at_call 26; fail)
        refine (Tryd.utf8_AppendRune_plain w.heap.size v3 _ _ (lo : Int) (by omega) (by omega) w3 hown3' (by rw [HLN.out]; omega) hb3.size).mono ?_
        rintro e w4 ⟨v4, rfl, hown4, o, hg4⟩
        obtain ⟨hit4, hb4⟩ := after_grown_alloc hb3 hws hit3 hown3' hg4
        have hown4' : w4.ownsRow w.heap.size 5 1 v4 (acc ++ (s.data.toList.drop from_).take (pos - from_) ++ NameMath.enc lo).length (cells8 (acc ++ (s.data.toList.drop from_).take (pos - from_) ++ NameMath.enc lo)) := by
          rw [HC.out] at hown4
          rw [cells8_append, List.length_append]
          simpa [cells8] using hown4
        have HO4 : Hid _ := hown4'
        clear hown4 hown4' hg4 hown3'
        have hm4 : w4.iterPos w1.heap.size = pos + k := by simp [World.iterPos, hit4]
        have HM4 : Hid _ := hm4
        clear hm4
        have hrl := Tryd.utf8_RuneLen (r : Int) w4
        rw [HK.out] at hrl
        have HRL : Hid (Calls Tryd.prog 27 #[.int .i32 (r : Int)] w4 fun e w' => e = .returned (.int .i64 (k : Int)) ∧ w' = w4) := hrl
        clear hrl
        go_wp2_with (go_at_call 27; refine HRL.out.mono ?_; rintro e w' ⟨rfl, hw'⟩; rw [hw']; clear hw' w')
        exact ⟨⟨pos + k, pos + k, _, hit4, hk2, by go_num, Nat.le_refl _, by rw [List.length_append, HLN.out, HN.out], HO4.out, hb4, by show _ = _; rw [HE.out, Nat.sub_self]; simp⟩, by rw [HM4.out, HM.out]; omega⟩
      · have hlow : NameMath.low r = r := by simp [NameMath.low, hg]
        have HE : Hid (NameMath.fold s.data.toList = acc ++ (s.data.toList.drop from_).take (pos + k - from_) ++ NameMath.fold (s.data.toList.drop (pos + k))) := by
          show _ = _
          rw [HI.out, NameMath.fold1, if_pos hlow, ← piece_more _ _ _ _ hfr]
          simp
        clear HI hdec
        have hq : (((NameMath.low r : Nat) : Int) == (r : Int)) = true := by rw [hlow]; simp
        have HL : Hid _ := hlow
        clear hlow hg
        go_wp2_with (go_at_call 25; refine (smallOf_any r hr _).mono ?_; rintro e w' ⟨rfl, hw'⟩; rw [hw']; clear hw' w')
        exact ⟨⟨pos + k, from_, acc, hit2, hk2, rfl, by omega, hacc, hown2, hb2, HE⟩, by rw [HM2.out, HM.out]; omega⟩
    · have hnx := fun ty => Lib.run_next_end_at (P := Tryd.prog) wr w1.heap.size s pos ty hit hlt
      rw [drop_end s pos hlt] at HI
      have hps : pos = s.size := by omega
      have hsx : (s.extract from_ s.size).size = pos - from_ := by simp [ByteArray.size_extract]; omega
      have HSX : Hid _ := hsx
      clear hsx
      have HPL : Hid (((s.data.toList.drop from_).take (pos - from_)).length = pos - from_) := by
        show _ = _
        have : s.data.toList.length = s.size := Array.length_toList
        rw [List.length_take, List.length_drop]; omega
      have HE : Hid (NameMath.fold s.data.toList = acc ++ (s.data.toList.drop from_).take (pos - from_)) := by
        show _ = _; rw [HI.out]; simp [NameMath.fold_nil]
      have HPS : Hid _ := hps
      clear HI hps
      go_wp2_with (at_builtin; refine Lib.wpList_append_own_string _ rfl _ _ 39 9 rfl w.heap.size 5 i0 Tryd.underlying39 Tryd.underlying9 hi hz0 hz1 hz2 _ _ _ rfl hown (s.extract from_ s.size) rfl (by rw [HSX.out]; unfold maxLen; omega) (by rw [HSX.out]; omega) hbw.size ?_)
      intro v3 w3 hown3 hg3 hnn3
      obtain ⟨hit3, hb3⟩ := after_grown hbw hws hit hown hg3
      have hown3' : w3.ownsRow w.heap.size 5 1 v3 (acc ++ (s.data.toList.drop from_).take (pos - from_)).length (cells8 (acc ++ (s.data.toList.drop from_).take (pos - from_))) := by
        exact own_cast (by rw [List.length_append, HPL.out, HPS.out]; omega) (by rw [cells8_append, strCells_extract, HPS.out]) hown3
      have hcv := own_string hown3' Tryd.underlying39 Tryd.underlying5 Tryd.underlying9
      rw [← HE.out] at hcv
      clear hown3 hown3' hg3 hnn3 hnx hit hown
      unfold strV at *
      go_wp2
      go_ret
      exact ⟨rfl, hb3⟩
end Go.Proofs.YtaidoipjbgkgaabDoor
