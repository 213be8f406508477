/- The walks of TakeList, in package pack and in the document. -/
import Derived.Test.YtbgankldnjeohaaPkTakeTextW
set_option linter.unusedVariables false
set_option maxRecDepth 100000
namespace Go.Proofs.Ytbgankldnjeohaa.Pk
open Go.RowKit
open PackMath (tn tt tl tls)

/-- What TakeList answers at a place within the text: a list of its own. -/
def TLPost (l : List UInt8) (a : Nat) (w : World) (en : Ending) (w' : World) : Prop :=
  ∃ (v : Value) (xs : List (List UInt8)) (c e : Nat), tl l = (xs, c, e) ∧ en = .returned (.tuple #[v, .int .i64 (if e = 0 then ((a + c : Nat) : Int) else 0), .int .i64 (e : Int)]) ∧ xs.length ≤ 4000 ∧
    w'.ownsRow w.heap.size 9 1 v xs.length (xs.map strV) ∧ Below w.heap.size w w'
theorem tlPost_of {l : List UInt8} {a c e : Nat} {w w' : World} {v : Value} {xs : List (List UInt8)} (h : tl l = (xs, c, e)) (hx : xs.length ≤ 4000) (ho : w'.ownsRow w.heap.size 9 1 v xs.length (xs.map strV)) (hb : Below w.heap.size w w') :
    TLPost l a w (.returned (.tuple #[v, .int .i64 (if e = 0 then ((a + c : Nat) : Int) else 0), .int .i64 (e : Int)])) w' := ⟨v, xs, c, e, h, rfl, hx, ho, hb⟩

theorem takeList_out (s : ByteArray) (at_ : Int) (hs : s.size ≤ 4611686018427387904) (hat : -9223372036854775808 ≤ at_ ∧ at_ ≤ 9223372036854775807) (h : at_ < 0 ∨ (s.size : Int) < at_) (w : World) :
    Calls Try.prog 44 #[.string s, .int .i64 at_] w fun e w' => e = .returned (.tuple #[.slice none 0 0, .int .i64 0, .int .i64 1]) ∧ w' = w := by
  have c1 := fun w => takeNum_out s at_ hs h w
  have C1 : Hid (∀ w, Calls Try.prog 42 #[.string s, .int .i64 at_] w fun e w' => e = .returned (.tuple #[.int .i64 0, .int .i64 0, .int .i64 1]) ∧ w' = w) := c1
  clear c1 h
  go_enter Try.func44, Try.ntmps44
  go_wp2_with fail
  refine (C1.out _).mono ?_
  rintro e w1 ⟨rfl, hw1⟩
  subst hw1
  go_wp2
  go_ret3
  exact ⟨rfl, rfl⟩
set_option maxHeartbeats 2000000 in
theorem takeList_any (s : ByteArray) (a : Nat) (hs : s.size ≤ 4611686018427387904) (ha : a ≤ s.size) (w : World) :
    Calls Try.prog 44 #[.string s, .int .i64 (a : Int)] w fun e w' => TLPost (s.data.toList.drop a) a w e w' := by
  obtain ⟨i0, hi, hz0, hz1, hz2⟩ := info_parts infoS
  have c1 := fun w => takeNum_any s a hs ha w
  obtain ⟨n, c, e, htn⟩ : ∃ n c e, tn (s.data.toList.drop a) = (n, c, e) := ⟨_, _, _, rfl⟩
  rw [tnV_of htn] at c1
  have hl : (s.data.toList.drop a).length = s.size - a := by rw [List.length_drop, size_data]
  have htl : tl (s.data.toList.drop a) = if e ≠ 0 then ([], 0, e) else if 4000 < n then ([], 0, 32) else tls n (s.data.toList.drop a) [] c := by
    unfold tl; rw [htn]
  by_cases he : e = 0
  · subst he
    obtain ⟨k1, k2, k3, k4, k5, k6, k7⟩ := PackMath.tn_ok htn
    rw [hl] at k4
    clear k2 k3 k7
    have C1 : Hid (∀ w, Calls Try.prog 42 #[.string s, .int .i64 (a : Int)] w fun e w' => e = .returned (.tuple #[.int .i64 (n : Int), .int .i64 ((a + c : Nat) : Int), .int .i64 0]) ∧ w' = w) := c1
    clear c1 htn
    rw [if_neg (by simp)] at htl
    by_cases h1 : 4000 < n
    · rw [if_pos h1] at htl
      have HT : Hid (∀ (w' : World), Below w.heap.size w w' → TLPost (s.data.toList.drop a) a w (.returned (.tuple #[.slice none 0 0, .int .i64 0, .int .i64 32])) w') := fun w' hb => tlPost_of htl (by decide) (World.ownsRow_nil _ _ _ _) hb
      have q1 : (4000 : Int) < (n : Int) := by omega
      clear htl h1 hl
      generalize a + c = p at *
      go_enter Try.func44, Try.ntmps44
      go_wp2_with fail
      refine (C1.out _).mono ?_
      rintro e w1 ⟨rfl, hw1⟩
      subst hw1
      go_wp2
      go_ret3
      exact HT.out _ (Below.refl _ _)
    · rw [if_neg h1] at htl
      have q1 : ¬ (4000 : Int) < (n : Int) := by omega
      have HTL : Hid (tl (s.data.toList.drop a) = tls (n - 0) (s.data.toList.drop a) [] c) := htl
      clear htl
      have CT : Hid (∀ (p : Nat), p ≤ s.size → ∀ w, Calls Try.prog 45 #[.string s, .int .i64 (p : Int)] w fun e w' => e = .returned (ttV (s.data.toList.drop p) p) ∧ w' = w) := fun p hp w => takeText_any s p hs hp w
      go_enter Try.func44, Try.ntmps44
      go_wp2_with fail
      refine (C1.out _).mono ?_
      rintro e w1 ⟨rfl, hw1⟩
      subst hw1
      have HCA : Hid (((a + c : Nat) : Int) = ((a + c : Nat) : Int)) := rfl
      go_wp2
      go_loopw [8, 10, 27] (fun nx v i wr => ∃ (k q : Nat) (acc : List (List UInt8)), i = .int .i64 (k : Int) ∧ k ≤ n ∧ q ≤ s.size - a ∧ nx = .int .i64 ((a : Int) + (q : Int)) ∧ acc.length = k ∧
          wr.ownsRow w1.heap.size 9 1 v acc.length (acc.map strV) ∧ Below w1.heap.size w1 wr ∧ Hid (tl (s.data.toList.drop a) = tls (n - k) (s.data.toList.drop a) acc q)) (fun _ _ i _ => n - (intOf i).toNat)
      case atStart => exact ⟨0, c, [], rfl, Nat.zero_le _, k4, by simp, rfl, World.ownsRow_nil _ _ _ _, Below.refl _ _, HTL⟩
      case round =>
        obtain ⟨k, q, acc, rfl, hk, hq, rfl, hacc, hown, hbw, HI⟩ := hrel
        by_cases hlt : k < n
        · rw [show n - k = (n - (k + 1)) + 1 by omega, tls, List.drop_drop] at HI
          have ct := CT.out (a + q) (by omega)
          obtain ⟨t, d, e, htt⟩ : ∃ t d e, tt (s.data.toList.drop (a + q)) = (t, d, e) := ⟨_, _, _, rfl⟩
          rw [ttV_of htt] at ct
          rw [htt] at HI
          have i1 : (k : Int) < (n : Int) := by omega
          have ecast : ((a + q : Nat) : Int) = (a : Int) + (q : Int) := by omega
          rw [ecast] at ct
          by_cases he : e = 0
          · subst he
            obtain ⟨m1, m2, m3, m4, m5⟩ := PackMath.tt_ok htt
            rw [List.length_drop, size_data] at m4
            have HE : Hid (tl (s.data.toList.drop a) = tls (n - (k + 1)) (s.data.toList.drop a) (acc ++ [t]) (q + d)) := by
              show _ = _; rw [HI.out, if_neg (by simp)]
            have C3 : Hid (∀ w, Calls Try.prog 45 #[.string s, .int .i64 ((a : Int) + (q : Int))] w fun e w' => e = .returned (.tuple #[strV t, .int .i64 ((a : Int) + (q : Int) + (d : Int)), .int .i64 0]) ∧ w' = w) := by
              intro w
              have := ct w
              rw [if_pos rfl, show ((a + q + d : Nat) : Int) = (a : Int) + (q : Int) + (d : Int) by omega] at this
              exact this
            clear ct HI htt m2 m3 m5 ecast
            go_wp2_with fail
            refine (C3.out _).mono ?_
            rintro e w2 ⟨rfl, hw2⟩
            subst hw2
            have hsv : strV t = .string ⟨t.toArray⟩ := rfl
            rw [hsv]
            clear hsv
            go_wp2_with (at_builtin; refine wpList_append_own _ rfl _ _ 22 rfl w1.heap.size 9 i0 (.string ⟨#[]⟩) 1 16 Try.underlying22 hi hz0 hz1 hz2 rfl (by decide) _ _ _ rfl (hown.alloc _) ⟨_, 0, none⟩ 1 1 [.string ⟨t.toArray⟩] rfl rfl (one_new _ _ _) (one_cell _) (by unfold maxLen; omega) (by omega) (by simp; have := hbw.size; omega) ?_)
            intro v' w' hown' hgrow hnn
            have hb' := below_append hbw hown hgrow
            have HO3 : Hid (w'.ownsRow w1.heap.size 9 1 v' (acc ++ [t]).length ((acc ++ [t]).map strV)) := own_cast (by simp [hacc]) (by simp [strV]) hown'
            clear hown' hgrow hnn hown
            go_wp2
            exact ⟨⟨k + 1, q + d, acc ++ [t], by go_num, by omega, by omega, by rw [Int.natCast_add, Int.add_assoc], by simp; omega, HO3.out, hb', HE⟩, by simp [intOf]; omega⟩
          · rw [if_pos (by simpa using he)] at HI
            have HT : Hid (∀ (w' : World), Below w1.heap.size w1 w' → TLPost (s.data.toList.drop a) a w1 (.returned (.tuple #[.slice none 0 0, .int .i64 0, .int .i64 (e : Int)])) w') := fun w' hb => by
              have := tlPost_of (a := a) (w := w1) (v := .slice none 0 0) HI.out (by simp) (World.ownsRow_nil _ _ _ _) hb
              rw [if_neg he] at this
              exact this
            have C3 : Hid (∀ w, Calls Try.prog 45 #[.string s, .int .i64 ((a : Int) + (q : Int))] w fun e' w' => e' = .returned (.tuple #[strV t, .int .i64 0, .int .i64 (e : Int)]) ∧ w' = w) := by
              intro w
              have := ct w
              rw [if_neg he] at this
              exact this
            have q9 : ((e : Int) == 0) = false := by simp; omega
            have HNE : Hid (¬ e = 0) := he
            clear ct HI htt ecast he
            go_wp2_with fail
            refine (C3.out _).mono ?_
            rintro e w2 ⟨rfl, hw2⟩
            subst hw2
            go_wp2
            go_ret3
            exact HT.out _ hbw
        · obtain rfl : k = n := by omega
          rw [Nat.sub_self, tls] at HI
          have HT : Hid (TLPost (s.data.toList.drop a) a w1 (.returned (.tuple #[u10, .int .i64 ((a : Int) + (q : Int)), .int .i64 0])) wr) := by
            have := tlPost_of (a := a) (w := w1) HI.out (by omega) hown hbw
            rw [if_pos rfl, show ((a + q : Nat) : Int) = (a : Int) + (q : Int) by omega] at this
            exact this
          clear HI hown hbw
          go_wp2
          go_ret3
          exact HT.out
  · rw [if_pos he] at htl
    rw [if_neg he] at c1
    have HT : Hid (∀ (w' : World), Below w.heap.size w w' → TLPost (s.data.toList.drop a) a w (.returned (.tuple #[.slice none 0 0, .int .i64 0, .int .i64 (e : Int)])) w') := fun w' hb => by
      have hx : e ≤ 32 := by
        rcases PackMath.go_errs 8 0 0 (s.data.toList.drop a) with h | h | h <;> (rw [show PackMath.go 8 0 0 (s.data.toList.drop a) = (n, c, e) from htn] at h; simp at h; omega)
      have := tlPost_of (a := a) (w := w) (v := .slice none 0 0) htl (by simp) (World.ownsRow_nil _ _ _ _) hb
      rw [if_neg he] at this
      exact this
    have C1 : Hid (∀ w, Calls Try.prog 42 #[.string s, .int .i64 (a : Int)] w fun e' w' => e' = .returned (.tuple #[.int .i64 (n : Int), .int .i64 0, .int .i64 (e : Int)]) ∧ w' = w) := c1
    have q1 : ((e : Int) == 0) = false := by simp; omega
    clear c1 htn hl htl
    have HE : Hid (¬ e = 0) := he
    clear he
    go_enter Try.func44, Try.ntmps44
    go_wp2_with fail
    refine (C1.out _).mono ?_
    rintro e w1 ⟨rfl, hw1⟩
    subst hw1
    go_wp2
    go_ret3
    exact HT.out _ (Below.refl _ _)

end Go.Proofs.Ytbgankldnjeohaa.Pk