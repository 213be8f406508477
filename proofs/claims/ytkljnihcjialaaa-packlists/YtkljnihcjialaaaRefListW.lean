/- Bytes that were made out of a text, and put behind; the walk of the document's List. -/
import Derived.Test.YtkljnihcjialaaaListW
import Derived.Test.YtkljnihcjialaaaRefTextW
import Derived.Lib.AppendStr
import Derived.Lib.FrozenHead
set_option linter.unusedVariables false
namespace Go.Proofs.Ytkljnihcjialaaa
open Go.RowKit

/-- A row of bytes of the call's own, whose cells may all be written (a mark may stand behind them). -/
def MRow (w : World) (B e : Nat) (v : Value) (l : List UInt8) : Prop :=
  ∃ g cap cur fz, v = .slice (some ⟨g, 0, none⟩) l.length cap ∧ B ≤ g ∧ w.heap[g]? = some (.cells cur e fz) ∧ (fz.2 = 0 ∨ cur.size ≤ fz.1) ∧ l.length ≤ cap ∧ cap ≤ maxLen ∧ cur.size = cap ∧ cur.toList.take l.length = cells8 l
theorem mrow_below {w w' : World} {B e : Nat} {v : Value} {l : List UInt8} (h : MRow w B e v l) (hb : Below w.heap.size w w') : MRow w' B e v l := by
  obtain ⟨g, cap, cur, fz, h1, h2, h3, rest⟩ := h
  exact ⟨g, cap, cur, fz, h1, h2, by rw [hb.block g (Array.getElem?_eq_some_iff.1 h3).1]; exact h3, rest⟩
theorem mrow_cell {w : World} {g n cap e : Nat} {cur : Array Value} {fz : Nat × Nat} {l : List UInt8} (hg : w.heap[g]? = some (.cells cur e fz)) (ht : cur.toList.take l.length = cells8 l) (j : Nat) (hj : j < l.length) : w.cell? ⟨g, j, none⟩ = (cells8 l)[j]? := by
  rw [cell_of_row w g j cur e fz hg, ← ht, List.getElem?_take, if_pos hj]
  simp
/-- .. turned into a text. -/
theorem mrow_string {P : Program} {w : World} {B e : Nat} {v : Value} {l : List UInt8} (h : MRow w B e v l) {src dst : TypeId} (hs : P.underlying src = some (.slice e)) (he : P.underlying e = some (.int .u8)) (hd : P.underlying dst = some .string) :
    (convert src dst v).run P w = .ok (strV l) w := by
  obtain ⟨g, cap, cur, fz, rfl, hb, hg, hfz, hn, hcm, hcs, ht⟩ := h
  have hr := run_convert_bytes_arg (P := P) w src e hs he g 0 l.length cap (l.map fun b => (b.toNat : Int)) (by simp) (fun i hi => by
    have h1 := mrow_cell (n := 0) (cap := 0) hg ht i hi
    rw [Nat.zero_add, h1]
    simp [cells8, List.getD, hi]) dst hd
  rw [hr]
  unfold strOfNums strV
  simp [Function.comp_def]
/-- A text, made a row of bytes. -/
theorem mrow_bytes (w : World) (e : TypeId) (s : ByteArray) (hs : s.size ≤ maxLen) : MRow (Lib.bytesWorld w e s) w.heap.size e (.slice (some ⟨w.heap.size, 0, none⟩) s.size (grownCap w s.size 0 e)) s.data.toList := by
  have hge := grownCap_ge w s.size 0 e
  refine ⟨w.heap.size, grownCap w s.size 0 e, _, _, by rw [size_data], Nat.le_refl _, Lib.bytesWorld_at_new w e s, Or.inr (Nat.le_refl _), by rw [size_data]; exact hge, grownCap_le_maxLen w s.size 0 e hs, ?_, ?_⟩
  · unfold Lib.bytesCells
    rw [Array.size_append, Array.size_map, Array.size_replicate]
    show s.size + _ = _
    omega
  · unfold Lib.bytesCells
    rw [Array.toList_append, Array.toList_map, List.take_append_of_le_length (by simp), List.take_of_length_le (by simp)]
    rfl
theorem storeCells_mark (P : Program) (g o : Nat) (t : TypeId) (fz : Nat × Nat) : ∀ (vs : List Value) (i : Nat) (cur : Array Value) (w : World), w.heap[g]? = some (.cells cur t fz) → (fz.2 = 0 ∨ cur.size ≤ fz.1) → o + i + vs.length ≤ cur.size → (∀ u ∈ vs, u.oneCell' = true) →
    (storeCells ⟨g, o, none⟩ vs i).run P w = .ok () (w.setRow g (cur.toList.take (o + i) ++ vs ++ cur.toList.drop (o + i + vs.length)).toArray)
  | [], i, cur, w, hg, _, _, _ => by
    simp only [storeCells, List.append_nil, List.length_nil, Nat.add_zero, List.take_append_drop, Array.toArray_toList]
    rw [setRow_self w g cur t fz hg]
    rfl
  | v :: rest, i, cur, w, hg, hfz, hl, h1 => by
    have hi : o + i < cur.size := by simp at hl; omega
    have hadd : (⟨g, o, none⟩ : Addr).add i = ⟨g, o + i, none⟩ := by unfold Addr.add; split <;> simp_all
    have hcell : w.cell? ⟨g, o + i, none⟩ = some cur[o + i] := by simp [World.cell?, hg, hi]
    have hfro : w.frozen? ⟨g, o + i, none⟩ = false := by
      obtain ⟨lo, hi'⟩ := fz
      simp only [World.frozen?, hg, Bool.and_eq_false_iff, decide_eq_false_iff_not]
      simp only at hfz
      omega
    have hst : (store ((⟨g, o, none⟩ : Addr).add i) v).run P w = .ok () (w.setRow g (cur.setIfInBounds (o + i) v)) := by
      rw [hadd, run_store P w _ v _ (h1 v (by simp)), hcell]
      simp [hfro, setCell_eq_setRow w g (o + i) cur t fz v hg]
    have ih := storeCells_mark P g o t fz rest (i + 1) (cur.setIfInBounds (o + i) v) (w.setRow g (cur.setIfInBounds (o + i) v)) (setRow_heap w g cur _ t _ hg) (by simpa using hfz) (by simp at hl ⊢; omega) (fun x hx => h1 x (by simp [hx]))
    simp only [storeCells, Sem.run_bind, hst, Result.andThen_ok, ih, setRow_setRow]
    congr 3
    have e := list_seg_step cur.toList (o + i) v rest (by simp at hl ⊢; omega)
    simpa [Array.toList_setIfInBounds, Nat.add_assoc] using e
/-- A text put behind such a row. -/
theorem run_append_mark {P : Program} (w : World) (B : Nat) (t u ty e : TypeId) (i : TypeInfo) (ht : P.underlying t = some (.slice e)) (hu : P.underlying u = some .string) (hi : P.info? e = some i) (hz : i.zero = some (.int .u8 0))
    (hsize : i.size = 1) (hby : i.bytes = 1) (v : Value) (l : List UInt8) (hown : MRow w B e v l) (s : ByteArray) (hbytes : l.length + s.size ≤ 140737488355328) (hB : B ≤ w.heap.size) :
    ∃ v' w', (Builtin.append_ #[t, u] ty #[v, .string s]).run P w = .ok v' w' ∧ MRow w' B e v' (l ++ s.data.toList) ∧ Below B w w' := by
  obtain ⟨g, cap, cur, fz, rfl, hbg, hg, hfz, hnc, hcm, hcs, htake⟩ := hown
  have h63 : l.length + s.size ≤ maxLen := by unfold maxLen; omega
  have hsc : Lib.strCells s = cells8 s.data.toList := by simp [Lib.strCells, cells8]
  have hxl : (cells8 l).length = l.length := by simp [cells8]
  have hsl : (cells8 s.data.toList).length = s.size := by rw [← hsc, Lib.strCells_length]
  have hlen : (l ++ s.data.toList).length = l.length + s.size := by rw [List.length_append, size_data]
  have hcat : cells8 (l ++ s.data.toList) = cells8 l ++ cells8 s.data.toList := by simp [cells8]
  by_cases hroom : l.length + s.size ≤ cap
  · have hf := Lib.run_firstCells_string (P := P) w 1 s
    have hst := storeCells_mark P g l.length e fz (Lib.strCells s) 0 cur w hg hfz (by rw [Lib.strCells_length]; omega) (Lib.strCells_oneCell s)
    simp only [Nat.add_zero, Lib.strCells_length] at hst
    have hr : (Builtin.append_ #[t, u] ty #[.slice (some ⟨g, 0, none⟩) l.length cap, .string s]).run P w =
        .ok (.slice (some ⟨g, 0, none⟩) (l.length + s.size) cap) (w.setRow g (cur.toList.take l.length ++ Lib.strCells s ++ cur.toList.drop (l.length + s.size)).toArray) := by
      simp [Builtin.append_, run_underlying ht, run_underlying hu, sizeOf, typeInfo, hi, hsize, Builtin.lenOf, hroom, hf, Addr.add_lit, hst]
    refine ⟨_, _, hr, ⟨g, cap, _, fz, by rw [hlen], hbg, setRow_heap w g cur _ e _ hg, ?_, by omega, hcm, ?_, ?_⟩, ⟨rfl, rfl, rfl, by simp, fun k hk => setRow_other w g k _ (by omega)⟩⟩
    · rcases hfz with h | h
      · exact Or.inl h
      · right
        simp only [List.size_toArray, List.length_append, List.length_take, List.length_drop, Array.length_toList, Lib.strCells_length]
        omega
    · simp only [List.size_toArray, List.length_append, List.length_take, List.length_drop, Array.length_toList, Lib.strCells_length]
      omega
    · rw [htake, hsc, hcat, hlen]
      show List.take _ (cells8 l ++ cells8 s.data.toList ++ _) = _
      rw [← hxl, ← hsl, ← List.length_append]
      exact List.take_left
  · have holds : ∀ j x, (cells8 l)[j]? = some x → w.cell? ((⟨g, 0, none⟩ : Addr).add j) = some x := by
      intro j x hx
      have hjl : j < l.length := by
        have := (List.getElem?_eq_some_iff.1 hx).1
        rwa [hxl] at this
      have hadd : (⟨g, 0, none⟩ : Addr).add j = ⟨g, j, none⟩ := by unfold Addr.add; split <;> simp_all
      rw [hadd, mrow_cell (n := 0) (cap := 0) hg htake j hjl, hx]
    have hr := Lib.run_append_grow_string (P := P) w t u ty e i (.int .u8 0) ht hu hi hz ⟨g, 0, none⟩ l.length cap (cells8 l) (by rw [hsize, hxl]; omega) holds s (by omega) (by omega) (by rw [hby]; exact growslice_fits (by omega) (by omega))
    have hge := grownCap_ge w (l.length + s.size) cap e
    have hcm2 : grownCap w (l.length + s.size) cap e ≤ maxLen := grownCap_le_maxLen w (l.length + s.size) cap e h63
    refine ⟨_, _, hr, ⟨w.heap.size, _, _, (0, 0), by rw [hlen], hB, heap_alloc_new w.drew _, Or.inl rfl, by omega, hcm2, ?_, ?_⟩, ⟨rfl, rfl, rfl, by simp, fun k hk => heap_alloc_old w.drew _ (by show k < w.heap.size; omega)⟩⟩
    · have hz1 : (Value.int IntKind.u8 0).cells.size = 1 := rfl
      simp only [Array.size_append, List.size_toArray, size_zeroCells, hz1, hxl, Lib.strCells_length]
      omega
    · simp only [Array.toList_append, List.append_assoc]
      rw [hsc, hcat, hlen, ← List.append_assoc]
      rw [← hxl, ← hsl, ← List.length_append]
      exact List.take_left
theorem wpList_append_mark {P : Program} (w : World) {ops : Array Oper} {rest : List Oper} {o : Oper} {a : Act} {Q : Exit → Act → World → Prop} (hgd : o.guard = none) (sl x : Operand) (t u : TypeId)
    (ho : o.op = .call { callee := .builtin .append, args := #[sl, x], argTypes := #[t, u] })
    (B : Nat) (e : TypeId) (i : TypeInfo) (ht : P.underlying t = some (.slice e)) (hu : P.underlying u = some .string) (hi : P.info? e = some i) (hz : i.zero = some (.int .u8 0))
    (hsize : i.size = 1) (hby : i.bytes = 1) (v : Value) (l : List UInt8) (hs : a.eval sl = v) (hown : MRow w B e v l) (s : ByteArray) (hx : a.eval x = .string s) (hbytes : l.length + s.size ≤ 140737488355328) (hB : B ≤ w.heap.size)
    (h : ∀ v' w', MRow w' B e v' (l ++ s.data.toList) → Below B w w' → wpList P ops Q rest (a.put o.dst v') w') : wpList P ops Q (o :: rest) a w := by
  refine wpList_plain hgd fun K hK => ?_
  obtain ⟨v', w', hr, h2, h3⟩ := run_append_mark (P := P) w B t u o.type e i ht hu hi hz hsize hby v l hown s hbytes hB
  unfold Oper.wp execOp
  simp only [ho, resolve, invoke, builtin, Sem.run_bind, Sem.run_pure, Result.andThen_ok, List.map_toArray, List.map_cons, List.map_nil, hs, hx, hr]
  exact hK _ _ (h v' w' h2 h3)

theorem txts_snoc (xs : List (List UInt8)) (k : Nat) (h : k < xs.length) : PackMath.txts (xs.take (k + 1)) = PackMath.txts (xs.take k) ++ PackMath.txt xs[k] := by
  unfold PackMath.txts
  rw [List.take_succ_eq_append_getElem h, List.flatMap_append]
  simp

set_option maxHeartbeats 2000000 in
theorem refList_any (v : Value) (xs : List (List UInt8)) (hx : xs.length ≤ 140737488355328) (hxs : ∀ s ∈ xs, s.length ≤ 140737488351232) (w : World) (hS : SRow w v xs) :
    Calls Try.prog 16 #[v] w fun e w' => e = .returned (lsV xs) ∧ Below w.heap.size w w' := by
  obtain ⟨i0, hi, hz0, hz1, hz2⟩ := info_parts infoB
  obtain ⟨ao, cap, rfl, hcap, hrow⟩ := hS
  by_cases h4 : 4000 < xs.length
  · rw [lsV_many xs h4]
    have q : (4000 : Int) < (xs.length : Int) := by omega
    clear hrow h4 hxs
    go_enter Try.func16, Try.ntmps16
    go_wp2
    go_ret2
    exact ⟨rfl, Below.refl _ _⟩
  · have q : ¬ (4000 : Int) < (xs.length : Int) := by omega
    have HR : Hid (∀ j, (h : j < xs.length) → ∃ g o, ao = some ⟨g, o, none⟩ ∧ w.cell? ⟨g, o + j, none⟩ = some (strV xs[j])) := hrow
    have HXS : Hid (∀ s ∈ xs, s.length ≤ 140737488351232) := hxs
    have hnl := PackMath.num_len8 xs.length (by omega)
    have hnz := strV_size (PackMath.num xs.length)
    have C1 : Hid (∀ w, Calls Try.prog 10 #[.int .i64 (xs.length : Int)] w fun e w' => e = .returned (.tuple #[.string ⟨(PackMath.num xs.length).toArray⟩, .int .i64 0]) ∧ Below w.heap.size w w') := fun w => refNum_any xs.length (by omega) w
    clear hrow hxs
    go_enter Try.func16, Try.ntmps16
    go_wp2_with fail
    refine (C1.out _).mono ?_
    rintro e w2 ⟨rfl, hb2⟩
    have hcv := Lib.run_convert_string_bytes (P := Try.prog) w2 9 43 5 ⟨(PackMath.num xs.length).toArray⟩ Try.underlying9 Try.underlying43 Try.underlying5
    have hm := mrow_bytes w2 5 ⟨(PackMath.num xs.length).toArray⟩ (by rw [hnz]; unfold maxLen; omega)
    have hbb : Below w2.heap.size w2 (Lib.bytesWorld w2 5 ⟨(PackMath.num xs.length).toArray⟩) := ⟨rfl, rfl, rfl, by rw [Lib.bytesWorld_size]; omega, fun k hk => Lib.bytesWorld_at_old w2 5 _ k hk⟩
    have hb3 : Below w.heap.size w (Lib.bytesWorld w2 5 ⟨(PackMath.num xs.length).toArray⟩) := hb2.trans (hbb.mono hb2.size)
    rw [mk_data] at hm
    have hm0 : MRow (Lib.bytesWorld w2 5 ⟨(PackMath.num xs.length).toArray⟩) w.heap.size 5 (.slice (some ⟨w2.heap.size, 0, none⟩) (ByteArray.mk (PackMath.num xs.length).toArray).size (grownCap w2 (ByteArray.mk (PackMath.num xs.length).toArray).size 0 5)) (PackMath.num xs.length ++ PackMath.txts (xs.take 0)) := by
      obtain ⟨g, cap, cur, fz, m1, m2, rest⟩ := hm
      rw [show PackMath.txts (xs.take 0) = [] from by simp [PackMath.txts], List.append_nil]
      exact ⟨g, cap, cur, fz, m1, Nat.le_trans hb2.size m2, rest⟩
    generalize Lib.bytesWorld w2 5 ⟨(PackMath.num xs.length).toArray⟩ = w3 at *
    generalize grownCap w2 (ByteArray.mk (PackMath.num xs.length).toArray).size 0 5 = c3 at *
    generalize (ByteArray.mk (PackMath.num xs.length).toArray).size = n3 at *
    have HM0 : Hid (MRow w3 w.heap.size 5 (.slice (some ⟨w2.heap.size, 0, none⟩) n3 c3) (PackMath.num xs.length ++ PackMath.txts (xs.take 0))) := hm0
    clear hm hm0 hbb hb2 hnz
    go_wp2_with fail
    go_loopw [6, 7] (fun v i wr => ∃ k : Nat, k ≤ xs.length ∧ i = .int .i64 k ∧ Hid (MRow wr w.heap.size 5 v (PackMath.num xs.length ++ PackMath.txts (xs.take k))) ∧ Below w.heap.size w wr ∧ Hid (∀ s ∈ xs.take k, s.length ≤ 2000)) (fun _ i _ => xs.length - (intOf i).toNat)
    case atStart => exact ⟨0, Nat.zero_le _, rfl, HM0, hb3, by intro s hs; simp at hs⟩
    case round =>
      obtain ⟨k, hk, rfl, hown, hbw, HI⟩ := hrel
      by_cases hlt : k < xs.length
      · obtain ⟨g, o, rfl, hc⟩ := HR.out k hlt
        have hcw : wr.cell? ⟨g, o + k, none⟩ = some (strV xs[k]) := (hbw.cell (p := ⟨g, o + k, none⟩) (block_lt_of_cell hc)).trans hc
        have hmem := List.getElem_mem hlt
        have hl := HXS.out _ hmem
        have i1 : (k : Int) < (xs.length : Int) := by omega
        have hz := strV_size xs[k]
        unfold strV at hcw
        have CT : Hid (∀ w, Calls Try.prog 13 #[.string ⟨(xs[k]).toArray⟩] w fun e w' => e = .returned (txV xs[k]) ∧ Below w.heap.size w w') := fun w => by
          have := refText_any ⟨(xs[k]).toArray⟩ (by rw [hz]; omega) w
          rw [mk_data] at this
          exact this
        by_cases h2 : 2000 < xs[k].length
        · have HE : Hid (lsV xs = .tuple #[.string ⟨#[]⟩, .int .i64 2]) := lsV_long xs _ hmem h2
          have CT2 : Hid (∀ w, Calls Try.prog 13 #[.string ⟨(xs[k]).toArray⟩] w fun e w' => e = .returned (.tuple #[.string ⟨#[]⟩, .int .i64 2]) ∧ Below w.heap.size w w') := fun w => by
            have := CT.out w
            unfold txV at this
            rw [if_pos h2] at this
            exact this
          rw [← hz] at hl h2
          generalize ByteArray.mk (xs[k]).toArray = y at *
          clear hc hown HI HM0 hz hmem CT
          go_wp2_with fail
          refine (CT2.out _).mono ?_
          rintro e w5 ⟨rfl, hb5⟩
          go_wp2
          go_ret2
          rw [HE.out]
          exact ⟨rfl, hbw.trans (hb5.mono hbw.size)⟩
        · have CT2 : Hid (∀ w, Calls Try.prog 13 #[.string ⟨(xs[k]).toArray⟩] w fun e w' => e = .returned (.tuple #[.string ⟨(PackMath.txt xs[k]).toArray⟩, .int .i64 0]) ∧ Below w.heap.size w w') := fun w => by
            have := CT.out w
            unfold txV at this
            rw [if_neg h2] at this
            exact this
          have HI2 : Hid (∀ s ∈ xs.take (k + 1), s.length ≤ 2000) := by
            intro s hs
            rw [List.take_succ_eq_append_getElem hlt] at hs
            rcases List.mem_append.1 hs with hs | hs
            · exact HI.out s hs
            · simp at hs; subst hs; omega
          have htl := txts_len _ HI.out
          rw [List.length_take, Nat.min_eq_left hk] at htl
          have hzt := strV_size (PackMath.txt xs[k])
          have hzl : (PackMath.txt xs[k]).length ≤ 2008 := by
            have := PackMath.num_len8 xs[k].length (by omega)
            unfold PackMath.txt; rw [List.length_append]; omega
          have HS : Hid (PackMath.num xs.length ++ PackMath.txts (xs.take (k + 1)) = PackMath.num xs.length ++ (PackMath.txts (xs.take k) ++ (ByteArray.mk (PackMath.txt xs[k]).toArray).data.toList)) := by
            show _ = _
            rw [txts_snoc xs k hlt, mk_data]
          have hlen : (PackMath.num xs.length ++ PackMath.txts (xs.take k)).length + (ByteArray.mk (PackMath.txt xs[k]).toArray).size ≤ 140737488355328 := by
            rw [List.length_append, hzt]; omega
          generalize ByteArray.mk (PackMath.txt xs[k]).toArray = z at *
          generalize ByteArray.mk (xs[k]).toArray = y at *
          clear hc HI HM0 hz hmem CT htl hzt hzl hl h2
          go_wp2_with fail
          refine (CT2.out _).mono ?_
          rintro e w5 ⟨rfl, hb5⟩
          have hown5 := mrow_below hown.out hb5
          have hb05 : Below w.heap.size w w5 := hbw.trans (hb5.mono hbw.size)
          clear hb5 hcw hown hbw
          go_wp2_with (at_builtin; refine wpList_append_mark _ rfl _ _ 43 9 rfl w.heap.size 5 i0 Try.underlying43 Try.underlying9 hi hz0 hz1 hz2 _ _ rfl hown5 z rfl hlen hb05.size ?_)
          intro v6 w6 hown6 hb6
          have hb06 := hb05.trans hb6
          rw [← HS.out] at hown6
          have HO6 : Hid (MRow w6 w.heap.size 5 v6 (PackMath.num xs.length ++ PackMath.txts (xs.take (k + 1)))) := hown6
          clear hown6 hb6 hown5 hb05 hlen HS
          go_wp2
          exact ⟨⟨k + 1, by omega, by go_num, HO6, hb06, HI2⟩, by simp [intOf]; omega⟩
      · obtain rfl : k = xs.length := by omega
        rw [List.take_length] at hown HI
        have HE : Hid (lsV xs = .tuple #[strV (PackMath.lst xs), .int .i64 0]) := lsV_ok xs (by omega) HI.out
        have hcv2 := mrow_string (P := Try.prog) hown.out (src := 43) (dst := 9) Try.underlying43 Try.underlying5 Try.underlying9
        rw [show PackMath.num xs.length ++ PackMath.txts xs = PackMath.lst xs from rfl] at hcv2
        clear hown HI HM0 HR HXS C1
        go_wp2
        go_ret2
        rw [HE.out]
        exact ⟨rfl, hbw⟩
end Go.Proofs.Ytkljnihcjialaaa
