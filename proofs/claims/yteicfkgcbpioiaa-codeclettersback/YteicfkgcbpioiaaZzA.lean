/- The texts PkRefTakeW, PkTakeTextW, PkTakeListW, RdKeys, one behind the other. -/
import Derived.Test.YteicfkgcbpioiaaPkTakeW
import Derived.Test.YteicfkgcbpioiaaLiveA
import Derived.Test.YteicfkgcbpioiaaBothW
import Derived.Deep.RegionHeld3
/- The walks of the document's TakeNum. -/
set_option linter.unusedVariables false
set_option maxRecDepth 100000
namespace Go.Proofs.Yteicfkgcbpioiaa.Pk
open Go.RowKit
open PackMath (tn go)

end Go.Proofs.Yteicfkgcbpioiaa.Pk
/- The walks of TakeText, in package pack and in the document. -/
set_option linter.unusedVariables false
set_option maxRecDepth 100000
namespace Go.Proofs.Yteicfkgcbpioiaa.Pk
open Go.RowKit
open PackMath (tn tt)

/-- What TakeText answers at a place within the text. -/
def ttV (l : List UInt8) (a : Nat) : Value := .tuple #[strV (tt l).1, .int .i64 (if (tt l).2.2 = 0 then ((a + (tt l).2.1 : Nat) : Int) else 0), .int .i64 ((tt l).2.2 : Int)]
theorem ttV_of {l t : List UInt8} {a c e : Nat} (h : tt l = (t, c, e)) : ttV l a = .tuple #[strV t, .int .i64 (if e = 0 then ((a + c : Nat) : Int) else 0), .int .i64 (e : Int)] := by unfold ttV; rw [h]

theorem takeText_out (s : ByteArray) (at_ : Int) (hs : s.size ≤ 4611686018427387904) (hat : -9223372036854775808 ≤ at_ ∧ at_ ≤ 9223372036854775807) (h : at_ < 0 ∨ (s.size : Int) < at_) (w : World) :
    Calls Try.prog 44 #[.string s, .int .i64 at_] w fun e w' => e = .returned (.tuple #[.string ⟨#[]⟩, .int .i64 0, .int .i64 1]) ∧ w' = w := by
  have c1 := fun w => takeNum_out s at_ hs h w
  have C1 : Hid (∀ w, Calls Try.prog 41 #[.string s, .int .i64 at_] w fun e w' => e = .returned (.tuple #[.int .i64 0, .int .i64 0, .int .i64 1]) ∧ w' = w) := c1
  clear c1 h
  go_enter Try.func44, Try.ntmps44
  go_wp2_with fail
  refine (C1.out _).mono ?_
  rintro e w1 ⟨rfl, hw1⟩
  subst hw1
  go_wp2
  go_ret3
  exact ⟨rfl, rfl⟩
set_option maxHeartbeats 1000000 in
theorem takeText_any (s : ByteArray) (a : Nat) (hs : s.size ≤ 4611686018427387904) (ha : a ≤ s.size) (w : World) :
    Calls Try.prog 44 #[.string s, .int .i64 (a : Int)] w fun e w' => e = .returned (ttV (s.data.toList.drop a) a) ∧ w' = w := by
  have c1 := fun w => takeNum_any s a hs ha w
  obtain ⟨n, c, e, htn⟩ : ∃ n c e, tn (s.data.toList.drop a) = (n, c, e) := ⟨_, _, _, rfl⟩
  rw [tnV_of htn] at c1
  have hl : (s.data.toList.drop a).length = s.size - a := by rw [List.length_drop, size_data]
  have hdd : (s.data.toList.drop a).drop c = s.data.toList.drop (a + c) := by rw [List.drop_drop]
  have htt : tt (s.data.toList.drop a) = if e ≠ 0 then ([], 0, e) else if 2000 < n then ([], 0, 32) else if s.size - a < c + n then ([], 0, 31) else ((s.data.toList.drop (a + c)).take n, c + n, 0) := by
    unfold tt; rw [htn, hl, hdd]
  by_cases he : e = 0
  · subst he
    obtain ⟨k1, k2, k3, k4, k5, k6, k7⟩ := PackMath.tn_ok htn
    rw [hl] at k4
    clear k2 k3 k7
    have C1 : Hid (∀ w, Calls Try.prog 41 #[.string s, .int .i64 (a : Int)] w fun e w' => e = .returned (.tuple #[.int .i64 (n : Int), .int .i64 ((a + c : Nat) : Int), .int .i64 0]) ∧ w' = w) := c1
    clear c1 htn hl hdd
    rw [if_neg (by simp)] at htt
    generalize hgp : a + c = p at *
    by_cases h1 : 2000 < n
    · rw [if_pos h1] at htt
      have HT : Hid (ttV (s.data.toList.drop a) a = .tuple #[.string ⟨#[]⟩, .int .i64 0, .int .i64 32]) := ttV_of htt
      have q1 : (2000 : Int) < (n : Int) := by omega
      clear htt h1
      go_enter Try.func44, Try.ntmps44
      go_wp2_with fail
      refine (C1.out _).mono ?_
      rintro e w1 ⟨rfl, hw1⟩
      subst hw1
      go_wp2
      go_ret3
      rw [HT.out]
      exact ⟨rfl, rfl⟩
    · rw [if_neg h1] at htt
      have q1 : ¬ (2000 : Int) < (n : Int) := by omega
      by_cases h2 : s.size - a < c + n
      · rw [if_pos h2] at htt
        have HT : Hid (ttV (s.data.toList.drop a) a = .tuple #[.string ⟨#[]⟩, .int .i64 0, .int .i64 31]) := ttV_of htt
        have q2 : (s.size : Int) - (p : Int) < (n : Int) := by omega
        have q3 : p ≤ s.size := by omega
        clear htt h1 h2 k4 hgp ha
        go_enter Try.func44, Try.ntmps44
        go_wp2_with fail
        refine (C1.out _).mono ?_
        rintro e w1 ⟨rfl, hw1⟩
        subst hw1
        go_wp2
        go_ret3
        rw [HT.out]
        exact ⟨rfl, rfl⟩
      · rw [if_neg h2] at htt
        have HT : Hid (ttV (s.data.toList.drop a) a = .tuple #[.string (s.extract p (p + n)), .int .i64 ((p : Int) + (n : Int)), .int .i64 0]) := by
          show _ = _
          rw [ttV_of htt, if_pos rfl, strV_extract, Nat.add_sub_cancel_left, show ((a + (c + n) : Nat) : Int) = (p : Int) + (n : Int) by omega]
          rfl
        have q2 : ¬ ((s.size : Int) - (p : Int) < (n : Int)) := by omega
        have q3 : p + n ≤ s.size := by omega
        clear htt h1 h2 k4 hgp ha
        go_enter Try.func44, Try.ntmps44
        go_wp2_with fail
        refine (C1.out _).mono ?_
        rintro e w1 ⟨rfl, hw1⟩
        subst hw1
        go_wp2
        go_ret3
        rw [HT.out]
        exact ⟨rfl, rfl⟩
  · rw [if_pos he] at htt
    rw [if_neg he] at c1
    have HT : Hid (ttV (s.data.toList.drop a) a = .tuple #[.string ⟨#[]⟩, .int .i64 0, .int .i64 (e : Int)]) := by show _ = _; rw [ttV_of htt, if_neg he]; rfl
    have C1 : Hid (∀ w, Calls Try.prog 41 #[.string s, .int .i64 (a : Int)] w fun e' w' => e' = .returned (.tuple #[.int .i64 (n : Int), .int .i64 0, .int .i64 (e : Int)]) ∧ w' = w) := c1
    have q1 : ((e : Int) == 0) = false := by simp; omega
    clear c1 htn hl hdd htt
    have HE : Hid (¬ e = 0) := he
    clear he
    go_enter Try.func44, Try.ntmps44
    go_wp2_with fail
    refine (C1.out _).mono ?_
    rintro e w1 ⟨rfl, hw1⟩
    subst hw1
    go_wp2
    go_ret3
    rw [HT.out]
    exact ⟨rfl, rfl⟩

end Go.Proofs.Yteicfkgcbpioiaa.Pk
/- The walks of TakeList, in package pack and in the document. -/
set_option linter.unusedVariables false
set_option maxRecDepth 100000
namespace Go.Proofs.Yteicfkgcbpioiaa.Pk
open Go.RowKit
open PackMath (tn tt tl tls)

/-- What TakeList answers at a place within the text: a list of its own. -/
def TLPost (l : List UInt8) (a : Nat) (w : World) (en : Ending) (w' : World) : Prop :=
  ∃ (v : Value) (xs : List (List UInt8)) (c e : Nat), tl l = (xs, c, e) ∧ en = .returned (.tuple #[v, .int .i64 (if e = 0 then ((a + c : Nat) : Int) else 0), .int .i64 (e : Int)]) ∧ xs.length ≤ 4000 ∧
    w'.ownsRow w.heap.size 9 1 v xs.length (xs.map strV) ∧ Below w.heap.size w w'
theorem tlPost_of {l : List UInt8} {a c e : Nat} {w w' : World} {v : Value} {xs : List (List UInt8)} (h : tl l = (xs, c, e)) (hx : xs.length ≤ 4000) (ho : w'.ownsRow w.heap.size 9 1 v xs.length (xs.map strV)) (hb : Below w.heap.size w w') :
    TLPost l a w (.returned (.tuple #[v, .int .i64 (if e = 0 then ((a + c : Nat) : Int) else 0), .int .i64 (e : Int)])) w' := ⟨v, xs, c, e, h, rfl, hx, ho, hb⟩

theorem takeList_out (s : ByteArray) (at_ : Int) (hs : s.size ≤ 4611686018427387904) (hat : -9223372036854775808 ≤ at_ ∧ at_ ≤ 9223372036854775807) (h : at_ < 0 ∨ (s.size : Int) < at_) (w : World) :
    Calls Try.prog 43 #[.string s, .int .i64 at_] w fun e w' => e = .returned (.tuple #[.slice none 0 0, .int .i64 0, .int .i64 1]) ∧ w' = w := by
  have c1 := fun w => takeNum_out s at_ hs h w
  have C1 : Hid (∀ w, Calls Try.prog 41 #[.string s, .int .i64 at_] w fun e w' => e = .returned (.tuple #[.int .i64 0, .int .i64 0, .int .i64 1]) ∧ w' = w) := c1
  clear c1 h
  go_enter Try.func43, Try.ntmps43
  go_wp2_with fail
  refine (C1.out _).mono ?_
  rintro e w1 ⟨rfl, hw1⟩
  subst hw1
  go_wp2
  go_ret3
  exact ⟨rfl, rfl⟩
set_option maxHeartbeats 2000000 in
theorem takeList_any (s : ByteArray) (a : Nat) (hs : s.size ≤ 4611686018427387904) (ha : a ≤ s.size) (w : World) :
    Calls Try.prog 43 #[.string s, .int .i64 (a : Int)] w fun e w' => TLPost (s.data.toList.drop a) a w e w' := by
  obtain ⟨i0, hi, hz0, hz1, hz2⟩ := info_parts infoS
  have c1 := fun w => takeNum_any s a hs ha w
  obtain ⟨n, c, e, htn⟩ : ∃ n c e, tn (s.data.toList.drop a) = (n, c, e) := ⟨_, _, _, rfl⟩
  rw [tnV_of htn] at c1
  have hl : (s.data.toList.drop a).length = s.size - a := by rw [List.length_drop, size_data]
  have htl : tl (s.data.toList.drop a) = if e ≠ 0 then ([], 0, e) else if 4000 < n then ([], 0, 32) else tls n (s.data.toList.drop a) [] c := by
    unfold tl; rw [htn]
  by_cases he : e = 0
  · subst he
    obtain ⟨k1, k2, k3, k4, k5, k6, k7⟩ := PackMath.tn_ok htn
    rw [hl] at k4
    clear k2 k3 k7
    have C1 : Hid (∀ w, Calls Try.prog 41 #[.string s, .int .i64 (a : Int)] w fun e w' => e = .returned (.tuple #[.int .i64 (n : Int), .int .i64 ((a + c : Nat) : Int), .int .i64 0]) ∧ w' = w) := c1
    clear c1 htn
    rw [if_neg (by simp)] at htl
    by_cases h1 : 4000 < n
    · rw [if_pos h1] at htl
      have HT : Hid (∀ (w' : World), Below w.heap.size w w' → TLPost (s.data.toList.drop a) a w (.returned (.tuple #[.slice none 0 0, .int .i64 0, .int .i64 32])) w') := fun w' hb => tlPost_of htl (by decide) (World.ownsRow_nil _ _ _ _) hb
      have q1 : (4000 : Int) < (n : Int) := by omega
      clear htl h1 hl
      generalize a + c = p at *
      go_enter Try.func43, Try.ntmps43
      go_wp2_with fail
      refine (C1.out _).mono ?_
      rintro e w1 ⟨rfl, hw1⟩
      subst hw1
      go_wp2
      go_ret3
      exact HT.out _ (Below.refl _ _)
    · rw [if_neg h1] at htl
      have q1 : ¬ (4000 : Int) < (n : Int) := by omega
      have HTL : Hid (tl (s.data.toList.drop a) = tls (n - 0) (s.data.toList.drop a) [] c) := htl
      clear htl
      have CT : Hid (∀ (p : Nat), p ≤ s.size → ∀ w, Calls Try.prog 44 #[.string s, .int .i64 (p : Int)] w fun e w' => e = .returned (ttV (s.data.toList.drop p) p) ∧ w' = w) := fun p hp w => takeText_any s p hs hp w
      go_enter Try.func43, Try.ntmps43
      go_wp2_with fail
      refine (C1.out _).mono ?_
      rintro e w1 ⟨rfl, hw1⟩
      subst hw1
      have HCA : Hid (((a + c : Nat) : Int) = ((a + c : Nat) : Int)) := rfl
      go_wp2
      go_loopw [8, 10, 27] (fun nx v i wr => ∃ (k q : Nat) (acc : List (List UInt8)), i = .int .i64 (k : Int) ∧ k ≤ n ∧ q ≤ s.size - a ∧ nx = .int .i64 ((a : Int) + (q : Int)) ∧ acc.length = k ∧
          wr.ownsRow w1.heap.size 9 1 v acc.length (acc.map strV) ∧ Below w1.heap.size w1 wr ∧ Hid (tl (s.data.toList.drop a) = tls (n - k) (s.data.toList.drop a) acc q)) (fun _ _ i _ => n - (intOf i).toNat)
      case atStart => exact ⟨0, c, [], rfl, Nat.zero_le _, k4, by simp, rfl, World.ownsRow_nil _ _ _ _, Below.refl _ _, HTL⟩
      case round =>
        obtain ⟨k, q, acc, rfl, hk, hq, rfl, hacc, hown, hbw, HI⟩ := hrel
        by_cases hlt : k < n
        · rw [show n - k = (n - (k + 1)) + 1 by omega, tls, List.drop_drop] at HI
          have ct := CT.out (a + q) (by omega)
          obtain ⟨t, d, e, htt⟩ : ∃ t d e, tt (s.data.toList.drop (a + q)) = (t, d, e) := ⟨_, _, _, rfl⟩
          rw [ttV_of htt] at ct
          rw [htt] at HI
          have i1 : (k : Int) < (n : Int) := by omega
          have ecast : ((a + q : Nat) : Int) = (a : Int) + (q : Int) := by omega
          rw [ecast] at ct
          by_cases he : e = 0
          · subst he
            obtain ⟨m1, m2, m3, m4, m5⟩ := PackMath.tt_ok htt
            rw [List.length_drop, size_data] at m4
            have HE : Hid (tl (s.data.toList.drop a) = tls (n - (k + 1)) (s.data.toList.drop a) (acc ++ [t]) (q + d)) := by
              show _ = _; rw [HI.out, if_neg (by simp)]
            have C3 : Hid (∀ w, Calls Try.prog 44 #[.string s, .int .i64 ((a : Int) + (q : Int))] w fun e w' => e = .returned (.tuple #[strV t, .int .i64 ((a : Int) + (q : Int) + (d : Int)), .int .i64 0]) ∧ w' = w) := by
              intro w
              have := ct w
              rw [if_pos rfl, show ((a + q + d : Nat) : Int) = (a : Int) + (q : Int) + (d : Int) by omega] at this
              exact this
            clear ct HI htt m2 m3 m5 ecast
            go_wp2_with fail
            refine (C3.out _).mono ?_
            rintro e w2 ⟨rfl, hw2⟩
            subst hw2
            have hsv : strV t = .string ⟨t.toArray⟩ := rfl
            rw [hsv]
            clear hsv
            go_wp2_with (at_builtin; refine wpList_append_own _ rfl _ _ 29 rfl w1.heap.size 9 i0 (.string ⟨#[]⟩) 1 16 Try.underlying29 hi hz0 hz1 hz2 rfl (by decide) _ _ _ rfl (hown.alloc _) ⟨_, 0, none⟩ 1 1 [.string ⟨t.toArray⟩] rfl rfl (one_new _ _ _) (one_cell _) (by unfold maxLen; omega) (by omega) (by simp; have := hbw.size; omega) ?_)
            intro v' w' hown' hgrow hnn
            have hb' := below_append hbw hown hgrow
            have HO3 : Hid (w'.ownsRow w1.heap.size 9 1 v' (acc ++ [t]).length ((acc ++ [t]).map strV)) := own_cast (by simp [hacc]) (by simp [strV]) hown'
            clear hown' hgrow hnn hown
            go_wp2
            exact ⟨⟨k + 1, q + d, acc ++ [t], by go_num, by omega, by omega, by rw [Int.natCast_add, Int.add_assoc], by simp; omega, HO3.out, hb', HE⟩, by simp [intOf]; omega⟩
          · rw [if_pos (by simpa using he)] at HI
            have HT : Hid (∀ (w' : World), Below w1.heap.size w1 w' → TLPost (s.data.toList.drop a) a w1 (.returned (.tuple #[.slice none 0 0, .int .i64 0, .int .i64 (e : Int)])) w') := fun w' hb => by
              have := tlPost_of (a := a) (w := w1) (v := .slice none 0 0) HI.out (by simp) (World.ownsRow_nil _ _ _ _) hb
              rw [if_neg he] at this
              exact this
            have C3 : Hid (∀ w, Calls Try.prog 44 #[.string s, .int .i64 ((a : Int) + (q : Int))] w fun e' w' => e' = .returned (.tuple #[strV t, .int .i64 0, .int .i64 (e : Int)]) ∧ w' = w) := by
              intro w
              have := ct w
              rw [if_neg he] at this
              exact this
            have q9 : ((e : Int) == 0) = false := by simp; omega
            have HNE : Hid (¬ e = 0) := he
            clear ct HI htt ecast he
            go_wp2_with fail
            refine (C3.out _).mono ?_
            rintro e w2 ⟨rfl, hw2⟩
            subst hw2
            go_wp2
            go_ret3
            exact HT.out _ hbw
        · obtain rfl : k = n := by omega
          rw [Nat.sub_self, tls] at HI
          have HT : Hid (TLPost (s.data.toList.drop a) a w1 (.returned (.tuple #[u10, .int .i64 ((a : Int) + (q : Int)), .int .i64 0])) wr) := by
            have := tlPost_of (a := a) (w := w1) HI.out (by omega) hown hbw
            rw [if_pos rfl, show ((a + q : Nat) : Int) = (a : Int) + (q : Int) by omega] at this
            exact this
          clear HI hown hbw
          go_wp2
          go_ret3
          exact HT.out
  · rw [if_pos he] at htl
    rw [if_neg he] at c1
    have HT : Hid (∀ (w' : World), Below w.heap.size w w' → TLPost (s.data.toList.drop a) a w (.returned (.tuple #[.slice none 0 0, .int .i64 0, .int .i64 (e : Int)])) w') := fun w' hb => by
      have hx : e ≤ 32 := by
        rcases PackMath.go_errs 8 0 0 (s.data.toList.drop a) with h | h | h <;> (rw [show PackMath.go 8 0 0 (s.data.toList.drop a) = (n, c, e) from htn] at h; simp at h; omega)
      have := tlPost_of (a := a) (w := w) (v := .slice none 0 0) htl (by simp) (World.ownsRow_nil _ _ _ _) hb
      rw [if_neg he] at this
      exact this
    have C1 : Hid (∀ w, Calls Try.prog 41 #[.string s, .int .i64 (a : Int)] w fun e' w' => e' = .returned (.tuple #[.int .i64 (n : Int), .int .i64 0, .int .i64 (e : Int)]) ∧ w' = w) := c1
    have q1 : ((e : Int) == 0) = false := by simp; omega
    clear c1 htn hl htl
    have HE : Hid (¬ e = 0) := he
    clear he
    go_enter Try.func43, Try.ntmps43
    go_wp2_with fail
    refine (C1.out _).mono ?_
    rintro e w1 ⟨rfl, hw1⟩
    subst hw1
    go_wp2
    go_ret3
    exact HT.out _ (Below.refl _ _)

end Go.Proofs.Yteicfkgcbpioiaa.Pk
/- Reading a list of texts, and a text. -/
set_option linter.unusedVariables false
set_option maxRecDepth 100000
namespace Go.Proofs.Yteicfkgcbpioiaa.Pl
open Go.RowKit Go.Proofs.Yteicfkgcbpioiaa

/-- A row of texts of one's own. -/
def TR (v : Value) (xs : List (List UInt8)) : Res where
  inv w F := w.ownsRow 0 9 1 v xs.length (xs.map strV) ∧ F = fun k => v.ownBlock = some k
  lt := by rintro w F ⟨h, rfl⟩ k hk; exact (h.lt k hk).2
  chg := by rintro w w' F S ⟨h, rfl⟩ hc hS; exact ⟨own_chg h hc (fun g hg => hS g hg), rfl⟩
section
variable {B : Nat} {w wr : World} {rs : List Res}
theorem Has.srowT {v : Value} {xs : List (List UInt8)} (h : Has B w rs wr) (hm : TR v xs ∈ rs) : SRow wr v xs := by
  obtain ⟨F, ⟨ho, _⟩, _⟩ := h.get hm
  exact srow_own ho
set_option maxHeartbeats 2000000 in
theorem keysR_ok {q a c : Nat} {S : ByteArray} {xs : List (List UInt8)} (hS : S.size ≤ 4611686018427387904) (ha : a ≤ S.size) (h : Has B w (RdR q S a :: rs) wr) (ht : PackMath.tl (S.data.toList.drop a) = (xs, c, 0)) :
    Calls Try.prog 39 #[.pointer (some ⟨q, 0, none⟩)] wr fun e w' => ∃ v, e = .returned v ∧ (∃ ao cap, v = .slice ao xs.length cap) ∧ Hid (Has B w (RdR q S (a + c) :: TR v xs :: rs) w') := by
  have HT : Hid (∀ wq, Hid (Has B w (RdR q S a :: rs) wq) → Calls Try.prog 43 #[.string S, .int .i64 (a : Int)] wq fun e w' => ∃ ao cap, e = .returned (.tuple #[.slice ao xs.length cap, .int .i64 ((a + c : Nat) : Int), .int .i64 0]) ∧
      w'.cell? ⟨q, 0, none⟩ = some (.string S) ∧ w'.cell? ⟨q, 1, none⟩ = some (.int .i64 (a : Int)) ∧ Hid (Has B w (RdR q S a :: TR (.slice ao xs.length cap) xs :: rs) w')) := fun wq hq => by
    refine (Pk.takeList_any S a hS ha wq).mono ?_
    rintro e w' ⟨v, xs', c', e', h1, h2, h3, h4, h5⟩
    rw [ht] at h1
    obtain ⟨rfl, rfl, rfl⟩ : xs = xs' ∧ c = c' ∧ 0 = e' := by simpa using h1
    obtain ⟨ao, cap, rfl, _⟩ := own_form h4
    have x : Has B w ([TR (.slice ao xs.length cap) xs] ++ (RdR q S a :: rs)) w' := Has.add (new := [TR (.slice ao xs.length cap) xs]) hq.out h5 (Hold.one ⟨own_base h4 (Nat.zero_le _), rfl⟩) (fun k hk => (h4.lt k hk).1)
    have y := x.perm (List.Perm.swap _ _ _)
    exact ⟨ao, cap, h2, (y.bcell (q := q) (vs := [.string S, .int .i64 (a : Int)]) List.mem_cons_self 0 _ rfl).1, (y.bcell (q := q) (vs := [.string S, .int .i64 (a : Int)]) List.mem_cons_self 1 _ rfl).1, y⟩
  have CP : Hid (∀ (v : Value) wq, Hid (Has B w (RdR q S a :: TR v xs :: rs) wq) → Calls Try.prog 42 #[.pointer (some ⟨q, 0, none⟩), .int .i64 ((a + c : Nat) : Int), .int .i64 0] wq fun e w' => e = .returned (.tuple #[]) ∧ Hid (Has B w (RdR q S (a + c) :: TR v xs :: rs) w')) := fun v wq hq => pass_ok hq.out
  have HD : Hid (∀ m, Hid (Has B w (RdR q S a :: rs) (wr.drewN m))) := fun m => h.below (below_drewN (Below.refl _ _) m)
  have H1 : Hid (Has B w (RdR q S a :: rs) wr.drew) := h.below (by go_grown)
  have H0 : Hid (Has B w (RdR q S a :: rs) wr) := h
  obtain ⟨c0, f0⟩ := h.bcell (q := q) (vs := [.string S, .int .i64 (a : Int)]) List.mem_cons_self 0 _ rfl
  obtain ⟨c1, f1⟩ := h.bcell (q := q) (vs := [.string S, .int .i64 (a : Int)]) List.mem_cons_self 1 _ rfl
  generalize a + c = b at *
  clear h ht hS ha
  go_enter Try.func39, Try.ntmps39
  go_wp2_with fail
  go_region_held3 (fun w' => w'.cell? ⟨q, 0, none⟩ = some (.string S) ∧ w'.cell? ⟨q, 1, none⟩ = some (.int .i64 (a : Int))) (go_keep) (first | (go_at_call 43; refine (HT.out _ (by first | exact H1 | exact H0 | exact HD.out _)).mono ?_; rintro e w2 ⟨ao, cap, rfl, m0, m1, H2⟩))
  all_goals go_wp2_with fail
  all_goals refine (CP.out _ _ (by first | exact H2 | exact H2.out.below (by go_grown))).mono ?_
  all_goals rintro e w3 ⟨rfl, H3⟩
  all_goals go_wp2_with fail
  all_goals go_ret
  all_goals exact ⟨_, rfl, ⟨_, _, rfl⟩, H3⟩
set_option maxHeartbeats 1000000 in
theorem wordR_ok {q a c : Nat} {S : ByteArray} {l : List UInt8} (hS : S.size ≤ 4611686018427387904) (ha : a ≤ S.size) (h : Has B w (RdR q S a :: rs) wr) (ht : PackMath.tt (S.data.toList.drop a) = (l, c, 0)) :
    Calls Try.prog 40 #[.pointer (some ⟨q, 0, none⟩)] wr fun e w' => e = .returned (strV l) ∧ Has B w (RdR q S (a + c) :: rs) w' := by
  have HD : Hid (∀ m, Has B w (RdR q S a :: rs) (wr.drewN m)) := fun m => h.below (below_drewN (Below.refl _ _) m)
  have HT : Hid (∀ w, Calls Try.prog 44 #[.string S, .int .i64 (a : Int)] w fun e w' => e = .returned (.tuple #[.string ⟨l.toArray⟩, .int .i64 ((a + c : Nat) : Int), .int .i64 0]) ∧ w' = w) := fun w => by
    have x := Pk.takeText_any S a hS ha w
    rw [Pk.ttV_of ht] at x
    exact x
  have CP : Hid (∀ wq, Has B w (RdR q S a :: rs) wq → Calls Try.prog 42 #[.pointer (some ⟨q, 0, none⟩), .int .i64 ((a + c : Nat) : Int), .int .i64 0] wq fun e w' => e = .returned (.tuple #[]) ∧ Has B w (RdR q S (a + c) :: rs) w') := fun wq hq => pass_ok hq
  obtain ⟨c0, f0⟩ := h.bcell (q := q) (vs := [.string S, .int .i64 (a : Int)]) List.mem_cons_self 0 _ rfl
  obtain ⟨c1, f1⟩ := h.bcell (q := q) (vs := [.string S, .int .i64 (a : Int)]) List.mem_cons_self 1 _ rfl
  generalize a + c = b at *
  clear h ht hS ha
  unfold strV
  go_enter Try.func40, Try.ntmps40
  go_wp2_with fail
  go_quiet ((go_at_call 44; exact Calls.quiet_of_same (HT.out _)))
  go_wp2_with fail
  refine (CP.out _ (HD.out _)).mono ?_
  rintro e w2 ⟨rfl, h2⟩
  have H2 : Hid _ := h2
  clear CP HD HT h2
  go_wp2_with fail
  go_ret
  exact ⟨rfl, H2.out⟩
end
end Go.Proofs.Yteicfkgcbpioiaa.Pl
