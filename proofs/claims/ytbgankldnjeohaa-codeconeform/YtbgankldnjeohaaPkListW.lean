/- The walk of List, in package pack. -/
import Derived.Test.YtbgankldnjeohaaPkTextW
import Derived.Test.YtbgankldnjeohaaPkSameW
set_option linter.unusedVariables false
set_option maxRecDepth 100000
namespace Go.Proofs.Ytbgankldnjeohaa.Pk
open Go.RowKit

/-- What List answers. -/
def lsV (xs : List (List UInt8)) : Value := if 4000 < xs.length ∨ ∃ s ∈ xs, 2000 < s.length then .tuple #[.string ⟨#[]⟩, .int .i64 2] else .tuple #[strV (PackMath.lst xs), .int .i64 0]
theorem lsV_many (xs : List (List UInt8)) (h : 4000 < xs.length) : lsV xs = .tuple #[.string ⟨#[]⟩, .int .i64 2] := by unfold lsV; rw [if_pos (Or.inl h)]
theorem lsV_long (xs : List (List UInt8)) (s : List UInt8) (h : s ∈ xs) (h2 : 2000 < s.length) : lsV xs = .tuple #[.string ⟨#[]⟩, .int .i64 2] := by unfold lsV; rw [if_pos (Or.inr ⟨s, h, h2⟩)]
theorem lsV_ok (xs : List (List UInt8)) (h : xs.length ≤ 4000) (h2 : ∀ s ∈ xs, s.length ≤ 2000) : lsV xs = .tuple #[strV (PackMath.lst xs), .int .i64 0] := by
  unfold lsV
  rw [if_neg]
  rintro (h3 | ⟨s, h3, h4⟩)
  · omega
  · have := h2 s h3; omega

/-- The pieces: the count, then for each text its length and itself. -/
def pcs (n : Nat) (xs : List (List UInt8)) : List (List UInt8) := PackMath.num n :: xs.flatMap fun s => [PackMath.num s.length, s]
theorem pcs_length (n : Nat) (xs : List (List UInt8)) : (pcs n xs).length = 1 + 2 * xs.length := by
  unfold pcs
  rw [List.length_cons]
  have : (xs.flatMap fun s => [PackMath.num s.length, s]).length = 2 * xs.length := by
    induction xs with
    | nil => rfl
    | cons x r ih => rw [List.flatMap_cons, List.length_append, ih]; simp; omega
  omega
theorem pcs_flat (n : Nat) (xs : List (List UInt8)) : (pcs n xs).flatten = PackMath.num n ++ PackMath.txts xs := by
  unfold pcs
  rw [List.flatten_cons]
  congr 1
  unfold PackMath.txts
  induction xs with
  | nil => rfl
  | cons x r ih => rw [List.flatMap_cons, List.flatten_append, ih, List.flatMap_cons]; simp [PackMath.txt]
theorem pcs_snoc (n k : Nat) (xs : List (List UInt8)) (h : k < xs.length) : pcs n (xs.take (k + 1)) = pcs n (xs.take k) ++ [PackMath.num xs[k].length, xs[k]] := by
  unfold pcs
  rw [List.take_succ_eq_append_getElem h, List.flatMap_append]
  simp
theorem txts_len (xs : List (List UInt8)) (h2 : ∀ s ∈ xs, s.length ≤ 2000) : (PackMath.txts xs).length ≤ 2008 * xs.length := by
  unfold PackMath.txts
  induction xs with
  | nil => simp
  | cons x r ih =>
    have h1 := h2 x (List.mem_cons_self ..)
    have h3 := PackMath.num_len8 x.length (by omega)
    have h4 := ih (fun s hs => h2 s (List.mem_cons_of_mem _ hs))
    have h5 : (PackMath.txt x).length = (PackMath.num x.length).length + x.length := by unfold PackMath.txt; rw [List.length_append]
    rw [List.flatMap_cons, List.length_append, List.length_cons]
    omega
theorem two_new (w : World) (u v : Value) (t : TypeId) : ∀ (j : Nat) (x : Value), [u, v][j]? = some x → (w.alloc (.cells #[u, v] t)).cell? ((⟨w.heap.size, 0, none⟩ : Addr).add j) = some x := by
  intro j x hj
  match j, hj with
  | 0, hj => simp at hj; subst hj; simp [Addr.add]
  | 1, hj => simp at hj; subst hj; simp [Addr.add]
theorem two_cell (s t : ByteArray) : ∀ u ∈ [Value.string s, Value.string t], u.oneCell' = true := by intro u hu; simp at hu; rcases hu with rfl | rfl <;> rfl

set_option maxHeartbeats 2000000 in
theorem list_any (v : Value) (xs : List (List UInt8)) (hx : xs.length ≤ 140737488355328) (hxs : ∀ s ∈ xs, s.length ≤ 140737488351232) (w : World) (hS : SRow w v xs) :
    Calls Try.prog 71 #[v] w fun e w' => e = .returned (lsV xs) ∧ Below w.heap.size w w' := by
  obtain ⟨i0, hi, hz0, hz1, hz2⟩ := info_parts infoS
  obtain ⟨ao, cap, rfl, hcap, hrow⟩ := hS
  by_cases h4 : 4000 < xs.length
  · rw [lsV_many xs h4]
    have q : (4000 : Int) < (xs.length : Int) := by omega
    clear hrow h4 hxs
    go_enter Try.func71, Try.ntmps71
    go_wp2
    go_ret2
    exact ⟨rfl, Below.refl _ _⟩
  · have q : ¬ (4000 : Int) < (xs.length : Int) := by omega
    have HR : Hid (∀ j, (h : j < xs.length) → ∃ g o, ao = some ⟨g, o, none⟩ ∧ w.cell? ⟨g, o + j, none⟩ = some (strV xs[j])) := hrow
    have HXS : Hid (∀ s ∈ xs, s.length ≤ 140737488351232) := hxs
    obtain ⟨w1, hmk, hown1, hgr1⟩ := run_make_own (P := Try.prog) w w.heap.size 22 9 i0 (.string ⟨#[]⟩) 1 Try.underlying22 hi hz0 hz1 .i64 .i64 (1 + 2 * xs.length) (by rw [hz2]; omega) (by unfold maxLen; omega) (Nat.le_refl _)
    rw [show ((1 + 2 * xs.length : Nat) : Int) = 1 + 2 * (xs.length : Int) by omega] at hmk
    have hb1 : Below w.heap.size w w1 := (Below.refl _ w).grown hgr1 (Nat.le_refl _) (fun k h => by cases h)
    have C1 : Hid (∀ n : Nat, n ≤ 4000 → ∀ w, Calls Try.prog 74 #[.int .i64 (n : Int)] w fun e w' => e = .returned (.string ⟨(PackMath.num n).toArray⟩) ∧ Below w.heap.size w w') := fun n h w => numBytes_any n (by omega) w
    clear hgr1 hrow hxs
    go_enter Try.func71, Try.ntmps71
    go_wp2_with fail
    refine (C1.out xs.length (by omega) _).mono ?_
    rintro e w2 ⟨rfl, hb2⟩
    have hown2 := own_below hown1 hb2
    have hb02 : Below w.heap.size w w2 := hb1.trans (hb2.mono hb1.size)
    clear hown1 hb2 hb1 hmk
    have HV : Hid (Value.slice (some ⟨w.heap.size, 0, none⟩) 0 (1 + 2 * xs.length) = Value.slice (some ⟨w.heap.size, 0, none⟩) 0 (1 + 2 * xs.length)) := rfl
    go_wp2_with (at_builtin; refine wpList_append_own _ rfl _ _ 22 rfl w.heap.size 9 i0 (.string ⟨#[]⟩) 1 16 Try.underlying22 hi hz0 hz1 hz2 rfl (by decide) _ _ _ rfl (hown2.alloc _) ⟨_, 0, none⟩ 1 1 [.string _] rfl rfl (one_new _ _ _) (one_cell _) (by unfold maxLen; omega) (by omega) (by simp; have := hb02.size; omega) ?_)
    intro v3 w3 hown3 hg3 hnn
    have hb3 := below_append hb02 hown2 hg3
    have HO3 : Hid (w3.ownsRow w.heap.size 9 1 v3 (pcs xs.length (xs.take 0)).length ((pcs xs.length (xs.take 0)).map strV)) := own_cast (by rw [pcs_length]; simp) (by simp [pcs, strV]) hown3
    clear hown3 hg3 hnn hown2 hb02
    go_wp2_with fail
    go_loopw [4, 23] (fun v i wr => ∃ k : Nat, k ≤ xs.length ∧ i = .int .i64 k ∧ wr.ownsRow w.heap.size 9 1 v (pcs xs.length (xs.take k)).length ((pcs xs.length (xs.take k)).map strV) ∧ Below w.heap.size w wr ∧ Hid (∀ s ∈ xs.take k, s.length ≤ 2000)) (fun _ i _ => xs.length - (intOf i).toNat)
    case atStart => exact ⟨0, Nat.zero_le _, rfl, HO3.out, hb3, by intro s hs; simp at hs⟩
    case round =>
      obtain ⟨k, hk, rfl, hown, hbw, HI⟩ := hrel
      by_cases hlt : k < xs.length
      · obtain ⟨g, o, rfl, hc⟩ := HR.out k hlt
        have hcw : wr.cell? ⟨g, o + k, none⟩ = some (strV xs[k]) := (hbw.cell (p := ⟨g, o + k, none⟩) (block_lt_of_cell hc)).trans hc
        have hmem := List.getElem_mem hlt
        have hl := HXS.out _ hmem
        have hz := strV_size xs[k]
        have i1 : (k : Int) < (xs.length : Int) := by omega
        unfold strV at hcw
        rw [pcs_length, List.length_take, Nat.min_eq_left hk] at hown
        by_cases h2 : 2000 < xs[k].length
        · have HE : Hid (lsV xs = .tuple #[.string ⟨#[]⟩, .int .i64 2]) := lsV_long xs _ hmem h2
          rw [← hz] at hl h2
          generalize ByteArray.mk (xs[k]).toArray = y at *
          have q2 : (2000 : Int) < (y.size : Int) := by omega
          clear hc hown HI HO3 hz hmem
          go_wp2
          go_ret2
          rw [HE.out]
          exact ⟨rfl, hbw⟩
        · have HS := pcs_snoc xs.length k xs hlt
          have HS' : Hid (pcs xs.length (xs.take (k + 1)) = pcs xs.length (xs.take k) ++ [PackMath.num xs[k].length, xs[k]]) := HS
          have HI2 : Hid (∀ s ∈ xs.take (k + 1), s.length ≤ 2000) := by
            intro s hs
            rw [List.take_succ_eq_append_getElem hlt] at hs
            rcases List.mem_append.1 hs with hs | hs
            · exact HI.out s hs
            · simp at hs; subst hs; omega
          have C2 : Hid (∀ w, Calls Try.prog 74 #[.int .i64 ((ByteArray.mk (xs[k]).toArray).size : Int)] w fun e w' => e = .returned (.string ⟨(PackMath.num xs[k].length).toArray⟩) ∧ Below w.heap.size w w') := by
            rw [hz]; exact fun w => C1.out _ (by omega) w
          rw [← hz] at hl h2
          generalize hy : ByteArray.mk (xs[k]).toArray = y at *
          have HY : Hid (strV xs[k] = .string y) := by show _ = _; unfold strV; rw [hy]
          have q2 : ¬ (2000 : Int) < (y.size : Int) := by omega
          clear hc HI HO3 hz hmem hy HS
          have HOW : Hid (wr.ownsRow w.heap.size 9 1 u4 (1 + 2 * k) ((pcs xs.length (xs.take k)).map strV)) := hown
          clear hown
          go_wp2_with fail
          refine (C2.out _).mono ?_
          rintro e w5 ⟨rfl, hb5⟩
          have hown5 := own_below HOW.out hb5
          have hb05 : Below w.heap.size w w5 := hbw.trans (hb5.mono hbw.size)
          clear hb5 hcw HOW hbw
          go_wp2_with (at_builtin; refine wpList_append_own _ rfl _ _ 22 rfl w.heap.size 9 i0 (.string ⟨#[]⟩) 1 16 Try.underlying22 hi hz0 hz1 hz2 rfl (by decide) _ _ _ rfl (hown5.alloc _) ⟨_, 0, none⟩ 2 2 [.string _, .string _] rfl rfl (two_new _ _ _ _) (two_cell _ _) (by unfold maxLen; omega) (by omega) (by simp; have := hb05.size; omega) ?_)
          intro v6 w6 hown6 hg6 hnn
          have hb6 := below_append hb05 hown5 hg6
          have HO6 : Hid (w6.ownsRow w.heap.size 9 1 v6 (pcs xs.length (xs.take (k + 1))).length ((pcs xs.length (xs.take (k + 1))).map strV)) :=
            own_cast (by rw [pcs_length, List.length_take, Nat.min_eq_left (by omega)]; omega) (by rw [HS'.out, List.map_append, List.map_cons, List.map_cons, List.map_nil, HY.out]; rfl) hown6
          clear hown6 hg6 hnn hown5 hb05
          go_wp2
          exact ⟨⟨k + 1, by omega, by go_num, HO6.out, hb6, HI2⟩, by simp [intOf]; omega⟩
      · obtain rfl : k = xs.length := by omega
        rw [List.take_length] at hown HI
        have HE : Hid (lsV xs = .tuple #[strV (PackMath.lst xs), .int .i64 0]) := lsV_ok xs (by omega) HI.out
        have htl := txts_len xs HI.out
        have hnl := PackMath.num_len8 xs.length (by omega)
        rw [pcs_length] at hown
        obtain ⟨g, cap4, rfl, hg1, hg2, hg3, hg4, hcell, _⟩ := own_shape hown (by omega)
        have HJ : Hid (Calls Try.prog 75 #[.slice (some ⟨g, 0, none⟩) (1 + 2 * xs.length) cap4] wr fun e w' => e = .returned (strV (PackMath.lst xs)) ∧ Below wr.heap.size wr w') := by
          have := join_any g 0 cap4 ((pcs xs.length xs).map fun l => ByteArray.mk l.toArray) wr (fun j x hj => by
            rw [List.getElem?_map] at hj
            have hjl : j < (pcs xs.length xs).length := by
              rcases Nat.lt_or_ge j (pcs xs.length xs).length with h | h
              · exact h
              · simp [List.getElem?_eq_none h] at hj
            rw [List.getElem?_eq_getElem hjl] at hj
            simp at hj
            rw [Nat.zero_add, hcell j (by rw [← pcs_length]; exact hjl), List.getElem?_map, List.getElem?_eq_getElem hjl]
            simp [strV, hj]) hg2 (by rw [List.length_map, pcs_length]; omega) (by rw [List.length_map, pcs_length]; exact hg3) (by
              rw [List.map_map, show ((fun x : ByteArray => x.data.toList) ∘ fun l : List UInt8 => ByteArray.mk l.toArray) = id from by funext l; simp, List.map_id, pcs_flat, List.length_append]; omega)
          rw [List.map_map, show ((fun x : ByteArray => x.data.toList) ∘ fun l : List UInt8 => ByteArray.mk l.toArray) = id from by funext l; simp, List.map_id, pcs_flat, List.length_map, pcs_length] at this
          exact this
        clear hown HI htl hnl hcell HO3 HR HXS C1
        go_wp2_with fail
        refine HJ.out.mono ?_
        rintro e w8 ⟨rfl, hb8⟩
        go_wp2
        go_ret2
        rw [HE.out]
        exact ⟨rfl, hbw.trans (hb8.mono hbw.size)⟩
end Go.Proofs.Ytbgankldnjeohaa.Pk