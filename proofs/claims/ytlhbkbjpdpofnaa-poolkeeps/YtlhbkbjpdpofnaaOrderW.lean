/- The walks of the laws PoolMakes and PoolOrder. -/
import Derived.Test.YtlhbkbjpdpofnaaActW
set_option linter.unusedVariables false
set_option maxRecDepth 100000
namespace Go.Proofs.Ytlhbkbjpdpofnaa
open Go.RowKit

theorem poolMakes_walk (room : Int) (w : World) : Calls Try.prog 3 #[.int .i64 room] w fun e w' => e = .returned (.bool true) ∧ Below w.heap.size w w' := by
  have CL : Hid (∀ w1, Below w.heap.size w w1 → Calls Try.prog 11 #[] w1 fun e w' => e = .returned (.bool true) ∧ Hid (Below w.heap.size w w')) := fun w1 hb => (live_any w1).mono fun e w' ⟨h1, h2⟩ => ⟨h1, hb.trans (h2.mono hb.size)⟩
  by_cases hr : room < 1 ∨ 200 < room
  · have C1 : Hid (Calls Try.prog 7 #[.int .i64 room] w fun e w' => e = .returned (.tuple #[.pointer none, .int .i64 1]) ∧ w' = w) := new_no w room hr
    have C2 : Hid (Calls Try.prog 8 #[.int .i64 room] w fun e w' => e = .returned (.tuple #[.pointer none, .int .i64 1]) ∧ w' = w) := refNew_no w room hr
    clear hr
    go_enter Try.func3, Try.ntmps3
    go_wp2_with fail
    refine C1.out.mono ?_
    rintro e w1 ⟨rfl, hw⟩
    rw [hw]; clear hw w1
    go_wp2_with fail
    refine C2.out.mono ?_
    rintro e w1 ⟨rfl, hw⟩
    rw [hw]; clear hw w1
    go_wp2_with fail
    refine (CL.out w (Below.refl _ _)).mono ?_
    rintro e w1 ⟨rfl, hb⟩
    go_wp2
    go_ret
    exact ⟨rfl, hb.out⟩
  · have h1 : 1 ≤ room := by omega
    have h2 : room ≤ 200 := by omega
    have C1 : Hid (Calls Try.prog 7 #[.int .i64 room] w fun e w' => ∃ b, e = .returned (.tuple #[.pointer (some ⟨b, 0, none⟩), .int .i64 0]) ∧ Hid (Has w.heap.size w [PoolR b room []] w')) := (Has.start w).new h1 h2
    have C2 : Hid (∀ b w1, Hid (Has w.heap.size w [PoolR b room []] w1) → Calls Try.prog 8 #[.int .i64 room] w1 fun e w' => ∃ q, e = .returned (.tuple #[.pointer (some ⟨q, 0, none⟩), .int .i64 0]) ∧ Hid (Has w.heap.size w [PoolR b room []] w')) := fun b w1 h => (h.out.refNew h1 h2).mono fun e w' ⟨q, k1, k2⟩ => ⟨q, k1, k2.drop⟩
    have C3 : Hid (∀ b w1, Hid (Has w.heap.size w [PoolR b room []] w1) → Calls Try.prog 9 #[.pointer (some ⟨b, 0, none⟩)] w1 fun e w' => e = .returned (.int .i64 0) ∧ w' = w1) := fun b w1 h => h.out.len (room := room) (l := []) (by simp)
    have C4 : Hid (∀ b w1, Hid (Has w.heap.size w [PoolR b room []] w1) → Calls Try.prog 10 #[.pointer (some ⟨b, 0, none⟩)] w1 fun e w' => ∃ ao cap, e = .returned (.slice ao 0 cap) ∧ Below w.heap.size w w') := fun b w1 h => (h.out.all (by decide)).mono fun e w' ⟨v, k1, k2⟩ => by
      obtain ⟨F, ⟨ho, _⟩, _⟩ := k2.get (r := RowR v []) (by simp)
      obtain ⟨ao, cap, rfl, _⟩ := own_form ho
      exact ⟨ao, cap, k1, k2.bel⟩
    clear hr
    go_enter Try.func3, Try.ntmps3
    go_wp2_with fail
    refine C1.out.mono ?_
    rintro e w1 ⟨b, rfl, d1⟩
    go_wp2_with fail
    refine (C2.out _ _ d1).mono ?_
    rintro e w2 ⟨q, rfl, d2⟩
    clear d1
    go_wp2_with fail
    refine (C3.out _ _ d2).mono ?_
    rintro e w3 ⟨rfl, hw⟩
    rw [hw]; clear hw w3
    go_wp2_with fail
    refine (C4.out _ _ d2).mono ?_
    rintro e w3 ⟨ao, cap, rfl, hb⟩
    go_wp2_with fail
    refine (CL.out w3 hb).mono ?_
    rintro e w4 ⟨rfl, hb⟩
    go_wp2
    go_ret
    exact ⟨rfl, hb.out⟩

/-- A text behind a row of one's own. -/
theorem Has.push {B : Nat} {w wr w2 : World} {v : Value} {l : List Txt} {s : Txt} {rs : List Res} {o : Obj} {g' cap' : Nat} (h : Has B w (RowR v l :: rs) wr)
    (ho : w2.ownsRow 0 9 1 (.slice (some ⟨g', 0, none⟩) (l.length + 1) cap') (l.length + 1) (sv l ++ [.string s])) (hw : v.ownBlock = some g' ∨ wr.heap.size + 1 ≤ g') (hc : Chg (fun k => v.ownBlock = some k) (wr.alloc o) w2) :
    Has B w (RowR (.slice (some ⟨g', 0, none⟩) (l.length + 1) cap') (l ++ [s]) :: rs) w2 := by
  refine (h.below ((Below.refl _ _).alloc (Nat.le_refl _) o)).turn (new := [RowR (.slice (some ⟨g', 0, none⟩) (l.length + 1) cap') (l ++ [s])]) ?_
  rintro F ⟨_, rfl⟩
  refine ⟨_, Hold.one ⟨?_, rfl⟩, hc, fun k hk => ?_⟩
  · rw [sv_append, List.length_append]; exact ho
  · obtain rfl : g' = k := by simpa [Value.ownBlock] using hk
    rcases hw with e | e
    · exact Or.inl e
    · right; simp; omega
theorem Has.row {B : Nat} {w wr : World} {v : Value} {l : List Txt} {rs : List Res} (h : Has B w rs wr) (hm : RowR v l ∈ rs) : wr.ownsRow 0 9 1 v l.length (sv l) := by
  obtain ⟨F, ⟨ho, _⟩, _⟩ := h.get hm
  exact ho

set_option maxHeartbeats 2000000 in
theorem poolOrder_walk (room : Int) (hrm : -9223372036854775808 ≤ room ∧ room ≤ 9223372036854775807) (v : Value) (xs : List Txt) (hx : xs.length ≤ 140737488355328) (w : World) (hO : SRow w v xs) :
    Calls Try.prog 6 #[.int .i64 room, v] w fun e w' => e = .returned (.bool true) ∧ Below w.heap.size w w' := by
  obtain ⟨i0, hi, hz0, hz1, hz2⟩ := info_parts infoS
  have CP : Hid (Calls Try.prog 12 #[.int .i64 room, .int .i64 200] w fun e w' => e = .returned (.int .i64 (pick room 200 : Int)) ∧ w' = w) := pick_any room 200 (by decide) (by decide) hrm w
  have hpl := pick_lt room 200 (by decide)
  generalize pick room 200 = R at *
  have C1 : Hid (Calls Try.prog 7 #[.int .i64 (1 + (R : Int))] w fun e w' => ∃ b, e = .returned (.tuple #[.pointer (some ⟨b, 0, none⟩), .int .i64 0]) ∧ Hid (Has w.heap.size w [PoolR b (1 + (R : Int)) []] w')) := (Has.start w).new (by omega) (by omega)
  have CL : Hid (∀ b w1, Hid (Has w.heap.size w [PoolR b (1 + (R : Int)) []] w1) → Calls Try.prog 11 #[] w1 fun e w' => e = .returned (.bool true) ∧ Hid (Has w.heap.size w [PoolR b (1 + (R : Int)) []] w')) := fun b w1 h => (live_any w1).mono fun e w' ⟨h1, h2⟩ => ⟨h1, h.out.below h2⟩
  have HO : Hid (SRow w v xs) := hO
  obtain ⟨ao, cap, rfl, _⟩ := hO
  go_enter Try.func6, Try.ntmps6
  go_wp2_with fail
  refine CP.out.mono ?_
  rintro e w1 ⟨rfl, hw⟩
  rw [hw]; clear hw w1 CP
  go_wp2_with fail
  refine C1.out.mono ?_
  rintro e w1 ⟨b, rfl, d1⟩
  clear C1
  go_wp2_with fail
  refine (CL.out _ _ d1).mono ?_
  rintro e w2 ⟨rfl, d2⟩
  have HS0 : Hid (Has w.heap.size w [PoolR b (1 + (R : Int)) [], RowR (.slice none 0 0) []] w2) :=
    ((d2.out.add (new := [RowR (.slice none 0 0) []]) (Below.refl _ _) (Hold.one ⟨World.ownsRow_nil _ _ _ _, rfl⟩) (fun k hk => by cases hk)).perm (List.Perm.swap _ _ _))
  clear d1 d2 CL
  go_wp2_with fail
  go_loopw [7, 8] (fun vi i wr => ∃ (k : Nat) (ia : Option Addr) (ic : Nat) (ys : List Txt), k ≤ xs.length ∧ i = .int .i64 (k : Int) ∧ vi = .slice ia ys.length ic ∧ ys.length ≤ 1 + R ∧ Hid (Has w.heap.size w [PoolR b (1 + (R : Int)) ys, RowR (.slice ia ys.length ic) ys] wr)) (fun _ i _ => xs.length - (intOf i).toNat)
  case atStart => exact ⟨0, none, 0, [], Nat.zero_le _, rfl, rfl, Nat.zero_le _, HS0⟩
  case round =>
    obtain ⟨k, ia, ic, ys, hk, rfl, rfl, hys, HS⟩ := hrel
    clear HS0
    by_cases hlt : k < xs.length
    · obtain ⟨_, _, he, _, _, hrow⟩ := HO.out
      cases he
      obtain ⟨g, o, rfl, hgl, c0⟩ := hrow k hlt
      have HC : Hid (∀ w2 rs, Has w.heap.size w rs w2 → w2.cell? ⟨g, o + k, none⟩ = some (.string xs[k])) := fun w2 rs h => (h.bel.cell (p := ⟨g, o + k, none⟩) hgl).trans c0
      have e0 := HC.out _ _ HS.out
      generalize xs[k] = s at *
      have i1 : (k : Int) < (xs.length : Int) := by omega
      clear c0 hrow
      have C : Hid (Calls Try.prog 17 #[.pointer (some ⟨b, 0, none⟩), .string s] wr fun e w' => e = .returned (.int .i64 (aSend (1 + (R : Int)) ys s).2) ∧ Has w.heap.size w [PoolR b (1 + (R : Int)) (aSend (1 + (R : Int)) ys s).1, RowR (.slice ia ys.length ic) ys] w') := HS.out.send (by omega) (by omega) s
      unfold aSend aAdd at C
      by_cases h1 : 2000 < s.size
      · rw [if_pos h1] at C
        have d1 : decide ((s.size : Int) ≤ 2000) = false := by simp; omega
        have d1' : ¬ s.size ≤ 2000 := by omega
        clear HS
        go_wp2_with fail
        refine C.out.mono ?_
        rintro e w3 ⟨rfl, hs3⟩
        have e3 := HC.out _ _ hs3
        have HS3 : Hid (Has w.heap.size w [PoolR b (1 + (R : Int)) ys, RowR (.slice ia ys.length ic) ys] w3) := hs3
        clear hs3 C e0
        go_wp2
        exact ⟨⟨k + 1, ia, ic, ys, by omega, by go_num, rfl, hys, HS3⟩, by simp [intOf]; omega⟩
      · rw [if_neg h1] at C
        have d1 : decide ((s.size : Int) ≤ 2000) = true := by simp; omega
        have d1' : s.size ≤ 2000 := by omega
        by_cases h2 : 1 + (R : Int) ≤ (ys.length : Int)
        · rw [if_pos h2] at C
          have d2 : decide ((ys.length : Int) < 1 + (R : Int)) = false := by simp; omega
          have d2' : ¬ (ys.length : Int) < 1 + (R : Int) := by omega
          clear HS
          go_wp2_with fail
          refine C.out.mono ?_
          rintro e w3 ⟨rfl, hs3⟩
          have e3 := HC.out _ _ hs3
          have HS3 : Hid (Has w.heap.size w [PoolR b (1 + (R : Int)) ys, RowR (.slice ia ys.length ic) ys] w3) := hs3
          clear hs3 C e0
          go_wp2
          exact ⟨⟨k + 1, ia, ic, ys, by omega, by go_num, rfl, hys, HS3⟩, by simp [intOf]; omega⟩
        · rw [if_neg h2] at C
          have d2 : decide ((ys.length : Int) < 1 + (R : Int)) = true := by simp; omega
          have d2' : (ys.length : Int) < 1 + (R : Int) := by omega
          clear HS
          go_wp2_with fail
          refine C.out.mono ?_
          rintro e w3 ⟨rfl, hs3⟩
          have e3 := HC.out _ _ hs3
          have HS3 : Hid (Has w.heap.size w [RowR (.slice ia ys.length ic) ys, PoolR b (1 + (R : Int)) (ys ++ [s])] w3) := hs3.perm (List.Perm.swap _ _ _)
          have hown : Hid (w3.ownsRow 0 9 1 (.slice ia ys.length ic) ys.length (sv ys)) := hs3.row (by simp)
          clear hs3 C e0
          go_wp2_with (at_builtin; refine wpList_append_more _ rfl _ _ 30 rfl 0 9 i0 (.string ⟨#[]⟩) 1 16 Try.underlying30 hi hz0 hz1 hz2 rfl (by decide) _ ys.length (sv ys) rfl (hown.out.alloc _) ⟨_, 0, none⟩ 1 1 [.string s] rfl rfl (one_new _ _ _) (one_str _) (by decide) (by unfold maxLen; omega) (by omega) ?_)
          intro g' cap' w4 hown2 hwh hch
          have HS4 : Hid (Has w.heap.size w [PoolR b (1 + (R : Int)) (ys ++ [s]), RowR (.slice (some ⟨g', 0, none⟩) (ys.length + 1) cap') (ys ++ [s])] w4) := (HS3.out.push hown2 hwh hch).perm (List.Perm.swap _ _ _)
          clear hown hown2 hwh hch HS3
          go_wp2
          exact ⟨⟨k + 1, some ⟨g', 0, none⟩, cap', ys ++ [s], by omega, by go_num, by simp, by simp; omega, by rw [List.length_append]; exact HS4⟩, by simp [intOf]; omega⟩
    · obtain rfl : k = xs.length := by omega
      clear HO
      go_wp2_with fail
      rename_i wA
      go_loopw [10] (fun i wr => ∃ (k : Nat), k ≤ ys.length ∧ i = .int .i64 (k : Int) ∧ Hid (Has w.heap.size w [PoolR b (1 + (R : Int)) (ys.drop k), RowR (.slice ia ys.length ic) ys] wr)) (fun i _ => ys.length - (intOf i).toNat)
      case atStart => exact ⟨0, Nat.zero_le _, rfl, HS⟩
      case round =>
        obtain ⟨k, hk2, rfl, HT⟩ := hrel
        by_cases hlt2 : k < ys.length
        · have hd : aTake (ys.drop k) 0 = (ys.drop (k + 1), ys[k], 0) := by
            unfold aTake
            rw [if_neg (by rw [List.length_drop]; omega), List.drop_eq_getElem_cons hlt2]
            rfl
          have C : Hid (Calls Try.prog 18 #[.pointer (some ⟨b, 0, none⟩), .int .i64 0] wr fun e w' => e = .returned (.tuple #[.string ys[k], .int .i64 0]) ∧ Has w.heap.size w [PoolR b (1 + (R : Int)) (ys.drop (k + 1)), RowR (.slice ia ys.length ic) ys] w') := by
            have := HT.out.take (by rw [List.length_drop]; omega) 0
            rw [hd] at this
            exact this
          have HCK : Hid (∀ w3 rs, Has w.heap.size w (PoolR b (1 + (R : Int)) (ys.drop (k + 1)) :: RowR (.slice ia ys.length ic) ys :: rs) w3 → ∃ g o, ia = some ⟨g, o, none⟩ ∧ w3.cell? ⟨g, o + k, none⟩ = some (.string ys[k])) := fun w3 rs h => by
            obtain ⟨_, _, he, _, _, hr⟩ := srow_own (h.row (v := .slice ia ys.length ic) (l := ys) (by simp))
            cases he
            obtain ⟨g, o, h1, _, h3⟩ := hr k hlt2
            exact ⟨g, o, h1, h3⟩
          generalize ys[k] = s at *
          have i1 : (k : Int) < (ys.length : Int) := by omega
          clear HT HS hd
          go_wp2_with fail
          refine C.out.mono ?_
          rintro e w3 ⟨rfl, hs3⟩
          obtain ⟨g, o, rfl, c3⟩ := HCK.out _ _ hs3
          have HS3 : Hid (Has w.heap.size w [PoolR b (1 + (R : Int)) (ys.drop (k + 1)), RowR (.slice (some ⟨g, o, none⟩) ys.length ic) ys] w3) := hs3
          clear hs3 C HCK
          go_wp2
          exact ⟨⟨k + 1, by omega, by go_num, HS3⟩, by simp [intOf]; omega⟩
        · obtain rfl : k = ys.length := by omega
          have C : Hid (Calls Try.prog 18 #[.pointer (some ⟨b, 0, none⟩), .int .i64 0] wr fun e w' => e = .returned (.tuple #[.string ⟨#[]⟩, .int .i64 91]) ∧ Has w.heap.size w [PoolR b (1 + (R : Int)) [], RowR (.slice ia ys.length ic) ys] w') := by
            have := HT.out.take (by rw [List.length_drop]; omega) 0
            rw [List.drop_length] at this
            exact this
          have C2 : Hid (∀ w1, Hid (Has w.heap.size w [PoolR b (1 + (R : Int)) [], RowR (.slice ia ys.length ic) ys] w1) → Calls Try.prog 9 #[.pointer (some ⟨b, 0, none⟩)] w1 fun e w' => e = .returned (.int .i64 0) ∧ w' = w1) := fun w1 h => h.out.len (room := 1 + (R : Int)) (l := []) (by simp)
          clear HT HS
          go_wp2_with fail
          refine C.out.mono ?_
          rintro e w3 ⟨rfl, hs3⟩
          have HS3 : Hid (Has w.heap.size w [PoolR b (1 + (R : Int)) [], RowR (.slice ia ys.length ic) ys] w3) := hs3
          clear hs3 C
          go_wp2_with fail
          refine (C2.out _ HS3).mono ?_
          rintro e w4 ⟨rfl, hw⟩
          rw [hw]; clear hw w4
          go_wp2
          go_ret
          exact ⟨rfl, HS3.out.bel⟩
end Go.Proofs.Ytlhbkbjpdpofnaa
