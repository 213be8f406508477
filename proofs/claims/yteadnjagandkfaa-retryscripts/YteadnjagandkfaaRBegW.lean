/- The walks of Begin, Moved, Stop, rising. -/
import Derived.Test.YteadnjagandkfaaRActW
set_option linter.unusedVariables false
set_option maxRecDepth 100000
namespace Go.Proofs.Yteadnjagandkfaa
open Go.RowKit
open WheelMath RetryMath
open Go.Maps (Keyed)

section
variable {B : Nat} {w wr : World} {p : Pl} {n : Nat} {tab : List Int} {dl : Int} {f : Tb} {ra rl : List T} {rs : List Res}
theorem begin_no (h : Has B w (Rt p n tab dl f ra rl rs) wr) (id now : Int) (hid : I64 id) (hno : id < 1 ∨ 60 < id ∨ ¬ Tick now ∨ (f id).isSome = true) :
    Calls Try.prog 16 #[.pointer (some ⟨p.q, 0, none⟩), .int .i64 id, .int .i64 now] wr fun e w' => e = .returned (.int .i64 1) ∧ w' = wr := by
  have C1 : Hid (Calls Try.prog 33 #[.int .i64 now] wr fun e w' => e = .returned (.bool (decide (Tick now))) ∧ w' = wr) := isTick_any now wr
  have C2 : Hid (Calls Try.prog 34 #[.pointer (some ⟨p.q, 0, none⟩), .int .i64 id] wr fun e w' => e = .returned (.bool (f id).isSome) ∧ w' = wr) := waits_any h id hid
  clear h hid
  by_cases h1 : id < 1
  · have d1 : decide (id < 1) = true := by simpa using h1
    clear hno C1 C2
    go_enter Try.func16, Try.ntmps16
    go_wp2
    go_ret
    exact ⟨rfl, rfl⟩
  · have d1 : decide (id < 1) = false := by simpa using h1
    by_cases h2 : 60 < id
    · have d2 : decide (60 < id) = true := by simpa using h2
      clear hno C1 C2
      go_enter Try.func16, Try.ntmps16
      go_wp2
      go_ret
      exact ⟨rfl, rfl⟩
    · have d2 : decide (60 < id) = false := by simpa using h2
      by_cases h3 : Tick now
      · have hs : (f id).isSome = true := by
          rcases hno with x | x | x | x
          · exact absurd x h1
          · exact absurd x h2
          · exact absurd h3 x
          · exact x
        rw [decide_eq_true h3] at C1
        rw [hs] at C2
        clear hno hs h3
        go_enter Try.func16, Try.ntmps16
        go_wp2_with fail
        refine C1.out.mono ?_
        rintro e w1 ⟨rfl, hw⟩
        rw [hw]
        clear hw w1
        go_wp2_with fail
        refine C2.out.mono ?_
        rintro e w1 ⟨rfl, hw⟩
        rw [hw]
        clear hw w1
        go_wp2
        go_ret
        exact ⟨rfl, rfl⟩
      · rw [decide_eq_false h3] at C1
        clear hno h3 C2
        go_enter Try.func16, Try.ntmps16
        go_wp2_with fail
        refine C1.out.mono ?_
        rintro e w1 ⟨rfl, hw⟩
        rw [hw]
        clear hw w1
        go_wp2
        go_ret
        exact ⟨rfl, rfl⟩
set_option maxHeartbeats 4000000 in
theorem begin_yes (h : Has B w (Rt p n tab dl f ra rl rs) wr) (ht : may tab = true) (hd : 1 ≤ dl) (hd2 : dl ≤ 1073741824) (id now : Int) (h1 : 1 ≤ id) (h2 : id ≤ 60) (hn : Tick now) (hf : (f id).isSome = false) (hcap : n ≤ 1152921504606846976) (hg : WheelMath.Good ra) (hgl : WheelMath.Good rl) :
    Calls Try.prog 16 #[.pointer (some ⟨p.q, 0, none⟩), .int .i64 id, .int .i64 now] wr fun e w' => e = .returned (.int .i64 0) ∧ Has B w (Rt p (n + 1) tab dl (updT f id (some 0)) (aSet ra id (later now (dly tab 0))).1 (aSet rl id (later now dl)).1 rs) w' := by
  have C1 : Hid (Calls Try.prog 33 #[.int .i64 now] wr fun e w' => e = .returned (.bool true) ∧ w' = wr) := by
    have x := isTick_any now wr
    rw [decide_eq_true hn] at x
    exact x
  have C2 : Hid (Calls Try.prog 34 #[.pointer (some ⟨p.q, 0, none⟩), .int .i64 id] wr fun e w' => e = .returned (.bool false) ∧ w' = wr) := by
    have x := waits_any h id (by unfold I64; omega)
    rw [hf] at x
    exact x
  have C3 : Hid (Calls Try.prog 35 #[.pointer (some ⟨p.q, 0, none⟩), .int .i64 id, .int .i64 0, .int .i64 now] wr fun e w' => e = .returned (.tuple #[]) ∧ Has B w (Rt p (n + 1) tab dl (updT f id (some 0)) (aSet ra id (later now (dly tab 0))).1 rl rs) w') := waitOn_any h ht id 0 now h1 h2 (by omega) (by omega) hn hcap hg
  have C4 : Hid (∀ wq ra' f', Has B w (Rt p (n + 1) tab dl f' ra' rl rs) wq → Calls Try.prog 30 #[.int .i64 now, .int .i64 dl] wq fun e w' => e = .returned (.int .i64 (later now dl)) ∧ w'.cell? ⟨p.q, 1, none⟩ = some (.func (.func 30) #[] #[]) ∧ w'.cell? ⟨p.q, 2, none⟩ = some (.int .i64 dl) ∧ w'.cell? ⟨p.q, 5, none⟩ = some (.pointer (some ⟨p.bb, 0, none⟩)) ∧ Has B w (Rt p (n + 1) tab dl f' ra' rl rs) w') := fun wq ra' f' hq =>
    (addTicks_any now dl hn (by omega) hd2 wq).mono (fun e w' ⟨he, hw⟩ => by rw [hw]; exact ⟨he, hq.rcell.2.1, hq.rcell.2.2.1, hq.rcell.2.2.2.2.2, hq⟩)
  have C5 : Hid (∀ wq ra' f', Has B w (Rt p (n + 1) tab dl f' ra' rl rs) wq → Calls Try.prog 36 #[.pointer (some ⟨p.bb, 0, none⟩), .int .i64 id, .int .i64 (later now dl)] wq fun e w' => e = .returned (.int .i64 (aSet rl id (later now dl)).2) ∧ w'.cell? ⟨p.q, 1, none⟩ = some (.func (.func 30) #[] #[]) ∧ w'.cell? ⟨p.q, 2, none⟩ = some (.int .i64 dl) ∧ w'.cell? ⟨p.q, 5, none⟩ = some (.pointer (some ⟨p.bb, 0, none⟩)) ∧ Has B w (Rt p (n + 1) tab dl f' ra' (aSet rl id (later now dl)).1 rs) w') := fun wq ra' f' hq =>
    (wset_any (hq.perm rt_late) hgl id _).mono (fun e w' ⟨he, hh⟩ => by
      have hx : Has B w (Rt p (n + 1) tab dl f' ra' (aSet rl id (later now dl)).1 rs) w' := hh.perm rt_late.symm
      exact ⟨he, hx.rcell.2.1, hx.rcell.2.2.1, hx.rcell.2.2.2.2.2, hx⟩)
  generalize later now dl = t at *
  generalize (aSet ra id (later now (dly tab 0))).1 = ra' at *
  generalize updT f id (some 0) = f' at *
  have d1 : decide (id < 1) = false := by simp; omega
  have d2 : decide (60 < id) = false := by simp; omega
  clear h hf ht hd hd2 hn hg hgl h1 h2
  go_enter Try.func16, Try.ntmps16
  go_wp2_with fail
  refine C1.out.mono ?_
  rintro e w1 ⟨rfl, hw⟩
  rw [hw]
  clear hw w1
  go_wp2_with fail
  refine C2.out.mono ?_
  rintro e w1 ⟨rfl, hw⟩
  rw [hw]
  clear hw w1
  go_wp2_with fail
  refine C3.out.mono ?_
  rintro e w5 ⟨rfl, HS⟩
  obtain ⟨_, k1, k2, _, _, k5⟩ := HS.rcell
  have HT : Has B w (Rt p (n + 1) tab dl f' ra' rl rs) w5.drew := HS.below (Below.refl _ _).drew
  clear C1 C2 C3 HS
  go_wp2_with fail
  go_region_held3 (fun w' => w'.cell? ⟨p.q, 1, none⟩ = some (.func (.func 30) #[] #[]) ∧ w'.cell? ⟨p.q, 2, none⟩ = some (.int .i64 dl) ∧ w'.cell? ⟨p.q, 5, none⟩ = some (.pointer (some ⟨p.bb, 0, none⟩))) (go_keep) (first | (go_at_call 30; refine (C4.out _ _ _ HT).mono ?_; rintro e w7 ⟨rfl, n0, n1, n4, HT3⟩) | (go_at_call 36; refine (C5.out _ _ _ HT3).mono ?_; rintro e w8 ⟨rfl, q0, q1, q4, HT4⟩))
  all_goals go_wp2
  all_goals go_ret
  all_goals exact ⟨rfl, HT4⟩
theorem moved_no (h : Has B w (Rt p n tab dl f ra rl rs) wr) (id now : Int) (hid : I64 id) (hno : (f id).isSome = false ∨ ¬ Tick now) :
    Calls Try.prog 18 #[.pointer (some ⟨p.q, 0, none⟩), .int .i64 id, .int .i64 now] wr fun e w' => e = .returned (.int .i64 1) ∧ w' = wr := by
  have C1 : Hid (Calls Try.prog 33 #[.int .i64 now] wr fun e w' => e = .returned (.bool (decide (Tick now))) ∧ w' = wr) := isTick_any now wr
  have C2 : Hid (Calls Try.prog 34 #[.pointer (some ⟨p.q, 0, none⟩), .int .i64 id] wr fun e w' => e = .returned (.bool (f id).isSome) ∧ w' = wr) := waits_any h id hid
  clear h hid
  generalize (f id).isSome = b at *
  cases b with
  | false =>
    clear hno C1
    go_enter Try.func18, Try.ntmps18
    go_wp2_with fail
    refine C2.out.mono ?_
    rintro e w1 ⟨rfl, hw⟩
    rw [hw]
    clear hw w1
    go_wp2
    go_ret
    exact ⟨rfl, rfl⟩
  | true =>
    have h3 : ¬ Tick now := hno.resolve_left (by decide)
    rw [decide_eq_false h3] at C1
    clear hno h3
    go_enter Try.func18, Try.ntmps18
    go_wp2_with fail
    refine C2.out.mono ?_
    rintro e w1 ⟨rfl, hw⟩
    rw [hw]
    clear hw w1
    go_wp2_with fail
    refine C1.out.mono ?_
    rintro e w1 ⟨rfl, hw⟩
    rw [hw]
    clear hw w1
    go_wp2
    go_ret
    exact ⟨rfl, rfl⟩
theorem moved_yes (h : Has B w (Rt p n tab dl f ra rl rs) wr) (ht : may tab = true) (id now : Int) (h1 : 1 ≤ id) (h2 : id ≤ 60) (hn : Tick now) (hf : (f id).isSome = true) (hcap : n ≤ 1152921504606846976) (hg : WheelMath.Good ra) :
    Calls Try.prog 18 #[.pointer (some ⟨p.q, 0, none⟩), .int .i64 id, .int .i64 now] wr fun e w' => e = .returned (.int .i64 0) ∧ Has B w (Rt p (n + 1) tab dl (updT f id (some 0)) (aSet ra id (later now (dly tab 0))).1 rl rs) w' := by
  have C1 : Hid (Calls Try.prog 33 #[.int .i64 now] wr fun e w' => e = .returned (.bool true) ∧ w' = wr) := by
    have x := isTick_any now wr
    rw [decide_eq_true hn] at x
    exact x
  have C2 : Hid (Calls Try.prog 34 #[.pointer (some ⟨p.q, 0, none⟩), .int .i64 id] wr fun e w' => e = .returned (.bool true) ∧ w' = wr) := by
    have x := waits_any h id (by unfold I64; omega)
    rw [hf] at x
    exact x
  have C3 : Hid (Calls Try.prog 35 #[.pointer (some ⟨p.q, 0, none⟩), .int .i64 id, .int .i64 0, .int .i64 now] wr fun e w' => e = .returned (.tuple #[]) ∧ Has B w (Rt p (n + 1) tab dl (updT f id (some 0)) (aSet ra id (later now (dly tab 0))).1 rl rs) w') := waitOn_any h ht id 0 now h1 h2 (by omega) (by omega) hn hcap hg
  generalize (aSet ra id (later now (dly tab 0))).1 = ra' at *
  generalize updT f id (some 0) = f' at *
  clear h hf ht hn hg h1 h2
  go_enter Try.func18, Try.ntmps18
  go_wp2_with fail
  refine C2.out.mono ?_
  rintro e w1 ⟨rfl, hw⟩
  rw [hw]
  clear hw w1
  go_wp2_with fail
  refine C1.out.mono ?_
  rintro e w1 ⟨rfl, hw⟩
  rw [hw]
  clear hw w1
  go_wp2_with fail
  refine C3.out.mono ?_
  rintro e w5 ⟨rfl, HS⟩
  go_wp2
  go_ret
  exact ⟨rfl, HS⟩
theorem stop_no (h : Has B w (Rt p n tab dl f ra rl rs) wr) (id : Int) (hid : I64 id) (hno : (f id).isSome = false) :
    Calls Try.prog 20 #[.pointer (some ⟨p.q, 0, none⟩), .int .i64 id] wr fun e w' => e = .returned (.int .i64 1) ∧ w' = wr := by
  have C2 : Hid (Calls Try.prog 34 #[.pointer (some ⟨p.q, 0, none⟩), .int .i64 id] wr fun e w' => e = .returned (.bool false) ∧ w' = wr) := by
    have x := waits_any h id hid
    rw [hno] at x
    exact x
  clear h hid hno
  go_enter Try.func20, Try.ntmps20
  go_wp2_with fail
  refine C2.out.mono ?_
  rintro e w1 ⟨rfl, hw⟩
  rw [hw]
  clear hw w1
  go_wp2
  go_ret
  exact ⟨rfl, rfl⟩
set_option maxHeartbeats 4000000 in
theorem stop_yes (h : Has B w (Rt p n tab dl f ra rl rs) wr) (id : Int) (hid : I64 id) (hf : (f id).isSome = true) (hg : WheelMath.Good ra) (hgl : WheelMath.Good rl) :
    Calls Try.prog 20 #[.pointer (some ⟨p.q, 0, none⟩), .int .i64 id] wr fun e w' => e = .returned (.int .i64 0) ∧ Has B w (Rt p n tab dl (updT f id none) (rem ra id) (rem rl id) rs) w' := by
  have C2 : Hid (Calls Try.prog 34 #[.pointer (some ⟨p.q, 0, none⟩), .int .i64 id] wr fun e w' => e = .returned (.bool true) ∧ w' = wr) := by
    have x := waits_any h id hid
    rw [hf] at x
    exact x
  obtain ⟨_, _, _, c3, _, _⟩ := h.rcell
  obtain ⟨D, hD, hA⟩ := has_map h (bm := p.bm) (n := n) (f := f) (by simp)
  have HN : Hid (∀ w5, w5.ownsMap Try.prog 3 (plainElem Try.prog 3) p.bm n (D.del (kI id)) → wr.grownBy w5 (some p.bm) → Has B w (Rt p n tab dl (updT f id none) ra rl rs) w5) := fun w5 ho hgr =>
    ((h.perm rt_map).mapTo ho (hA.del id) (chg_map hgr)).perm rt_map.symm
  have C3 : Hid (∀ wq, Has B w (Rt p n tab dl (updT f id none) ra rl rs) wq → Calls Try.prog 39 #[.pointer (some ⟨p.ba, 0, none⟩), .int .i64 id] wq fun e w' => (∃ x : Bool, e = .returned (.bool x)) ∧ Has B w (Rt p n tab dl (updT f id none) (rem ra id) rl rs) w') := fun wq hq =>
    (wstop_any (hq.perm rt_again) hg id).mono (fun e w' ⟨he, hh⟩ => ⟨he, hh.perm rt_again.symm⟩)
  have C4 : Hid (∀ wq, Has B w (Rt p n tab dl (updT f id none) (rem ra id) rl rs) wq → Calls Try.prog 39 #[.pointer (some ⟨p.bb, 0, none⟩), .int .i64 id] wq fun e w' => (∃ x : Bool, e = .returned (.bool x)) ∧ Has B w (Rt p n tab dl (updT f id none) (rem ra id) (rem rl id) rs) w') := fun wq hq =>
    (wstop_any (hq.perm rt_late) hgl id).mono (fun e w' ⟨he, hh⟩ => ⟨he, hh.perm rt_late.symm⟩)
  have hkey : keyOf Try.prog 3 (.int .i64 id) = some (kI id) := keyI hid
  clear h hA hf hg hgl hid
  go_enter Try.func20, Try.ntmps20
  go_wp2_with fail
  refine C2.out.mono ?_
  rintro e w1 ⟨rfl, hw⟩
  rw [hw]
  clear hw w1 C2
  go_wp2_with (at_delete; refine wpList_delete_own _ rfl _ _ 52 3 rfl 3 lawI Try.underlying52 _ p.bm n D rfl hD _ _ rfl hkey ?_)
  intro w5 ho hgr
  have HS := HN.out w5 ho hgr.grown
  obtain ⟨_, _, _, _, k4, _⟩ := HS.rcell
  clear ho hgr HN hD c3 hkey
  go_wp2_with fail
  refine (C3.out _ HS).mono ?_
  rintro e w6 ⟨⟨x, rfl⟩, HS2⟩
  obtain ⟨_, _, _, _, _, k5⟩ := HS2.rcell
  clear C3 HS k4
  go_wp2_with fail
  refine (C4.out _ HS2).mono ?_
  rintro e w7 ⟨⟨y, rfl⟩, HS3⟩
  clear C4 HS2 k5
  go_wp2
  go_ret
  exact ⟨rfl, HS3⟩
end
section
variable {B : Nat} {w wr : World} {rs : List Res}
theorem own_ints {w : World} {B e : Nat} {v : Value} {l : List Int} (h : w.ownsRow B e 1 v l.length (l.map fun n => .int .i64 n)) : (v = .slice none 0 0 ∧ l = []) ∨ ∃ g cap cur, v = .slice (some ⟨g, 0, none⟩) l.length cap ∧ B ≤ g ∧ w.heap[g]? = some (.cells cur e (0, 0)) ∧ l.length ≤ cap ∧ cap ≤ maxLen ∧ cur.size = cap * 1 ∧ cur.toList.take l.length = l.map (Value.int .i64) := by
  rcases h.2 with ⟨hv, h0⟩ | ⟨g, cap, cur, hv, hb, hg, hnc, hcm, hcs, htake⟩
  · exact Or.inl ⟨hv, List.eq_nil_of_length_eq_zero h0⟩
  · exact Or.inr ⟨g, cap, cur, hv, hb, hg, hnc, hcm, hcs, by rw [← htake, Nat.mul_one]⟩
theorem sort_has {v : Value} {l : List Int} (h : Has B w (IRowR v l :: rs) wr) (hl : l.length ≤ 1801) :
    Calls Try.prog 44 #[v] wr fun e w' => e = .returned (.tuple #[]) ∧ Has B w (IRowR v (srt l) :: rs) w' := by
  have hown := h.own (t := 3) (size := 1) (v := v) (n := l.length) (xs := l.map fun n => .int .i64 n) List.mem_cons_self
  have hsl : (srt l).length = l.length := List.length_mergeSort l
  rcases own_ints hown with ⟨rfl, rfl⟩ | ⟨g, cap, cur, rfl, hb, hg, h1, h2, h3, h4⟩
  · exact (Try.slices_Sort_int_none none 0 wr).mono fun e w' ⟨k1, k2⟩ => ⟨k1, by rw [k2]; simpa [srt] using h⟩
  · refine (Try.slices_Sort_int g 0 cap l wr (holds_of_blockI hg h4) (Array.getElem?_eq_some_iff.1 hg).1 (by omega)).mono ?_
    rintro e w' ⟨k1, n, os, rfl⟩
    refine ⟨k1, ?_⟩
    have h' := h.turn (new := [IRowR (.slice (some ⟨g, 0, none⟩) l.length cap) (srt l)]) (w' := Sort.grow (Sort.putRow (Value.int .i64) (Sort.ahead wr n) g 0 (srt l).toArray) os) (fun F hF => by
      obtain ⟨_, rfl⟩ := hF
      refine ⟨_, Hold.one ⟨?_, rfl⟩, chg_grown (grownBy_sortedI _), fun k hk => Or.inl hk⟩
      have := ownsRow_sortedI (base := 0) (n := n) (os := os) hsl (Nat.zero_le _) hg h1 h2 h3
      rw [hsl]
      exact this)
    exact h'
theorem rising_any {v : Value} {l : List Int} (h : Has B w (IRowR v l :: rs) wr) (hl : l.length ≤ 1801) :
    Calls Try.prog 40 #[v] wr fun e w' => e = .returned v ∧ Has B w (IRowR v (srt l) :: rs) w' := by
  have C := sort_has h hl
  have HC : Hid (Calls Try.prog 44 #[v] wr fun e w' => e = .returned (.tuple #[]) ∧ Has B w (IRowR v (srt l) :: rs) w') := C
  obtain ⟨ao, cap, rfl, _⟩ := own_form (h.own (t := 3) (size := 1) (v := v) (n := l.length) (xs := l.map fun n => .int .i64 n) List.mem_cons_self)
  clear h C
  go_enter Try.func40, Try.ntmps40
  go_wp2_with fail
  refine HC.out.mono ?_
  rintro e w1 ⟨rfl, h1⟩
  go_wp2
  go_ret
  exact ⟨rfl, h1⟩
end
end Go.Proofs.Yteadnjagandkfaa
