/- The walks of TakeText, in package pack and in the document. -/
import Derived.Test.YtbgankldnjeohaaPkRefTakeW
set_option linter.unusedVariables false
set_option maxRecDepth 100000
namespace Go.Proofs.Ytbgankldnjeohaa.Pk
open Go.RowKit
open PackMath (tn tt)

/-- What TakeText answers at a place within the text. -/
def ttV (l : List UInt8) (a : Nat) : Value := .tuple #[strV (tt l).1, .int .i64 (if (tt l).2.2 = 0 then ((a + (tt l).2.1 : Nat) : Int) else 0), .int .i64 ((tt l).2.2 : Int)]
theorem ttV_of {l t : List UInt8} {a c e : Nat} (h : tt l = (t, c, e)) : ttV l a = .tuple #[strV t, .int .i64 (if e = 0 then ((a + c : Nat) : Int) else 0), .int .i64 (e : Int)] := by unfold ttV; rw [h]

theorem takeText_out (s : ByteArray) (at_ : Int) (hs : s.size ≤ 4611686018427387904) (hat : -9223372036854775808 ≤ at_ ∧ at_ ≤ 9223372036854775807) (h : at_ < 0 ∨ (s.size : Int) < at_) (w : World) :
    Calls Try.prog 45 #[.string s, .int .i64 at_] w fun e w' => e = .returned (.tuple #[.string ⟨#[]⟩, .int .i64 0, .int .i64 1]) ∧ w' = w := by
  have c1 := fun w => takeNum_out s at_ hs h w
  have C1 : Hid (∀ w, Calls Try.prog 42 #[.string s, .int .i64 at_] w fun e w' => e = .returned (.tuple #[.int .i64 0, .int .i64 0, .int .i64 1]) ∧ w' = w) := c1
  clear c1 h
  go_enter Try.func45, Try.ntmps45
  go_wp2_with fail
  refine (C1.out _).mono ?_
  rintro e w1 ⟨rfl, hw1⟩
  subst hw1
  go_wp2
  go_ret3
  exact ⟨rfl, rfl⟩
set_option maxHeartbeats 1000000 in
theorem takeText_any (s : ByteArray) (a : Nat) (hs : s.size ≤ 4611686018427387904) (ha : a ≤ s.size) (w : World) :
    Calls Try.prog 45 #[.string s, .int .i64 (a : Int)] w fun e w' => e = .returned (ttV (s.data.toList.drop a) a) ∧ w' = w := by
  have c1 := fun w => takeNum_any s a hs ha w
  obtain ⟨n, c, e, htn⟩ : ∃ n c e, tn (s.data.toList.drop a) = (n, c, e) := ⟨_, _, _, rfl⟩
  rw [tnV_of htn] at c1
  have hl : (s.data.toList.drop a).length = s.size - a := by rw [List.length_drop, size_data]
  have hdd : (s.data.toList.drop a).drop c = s.data.toList.drop (a + c) := by rw [List.drop_drop]
  have htt : tt (s.data.toList.drop a) = if e ≠ 0 then ([], 0, e) else if 2000 < n then ([], 0, 32) else if s.size - a < c + n then ([], 0, 31) else ((s.data.toList.drop (a + c)).take n, c + n, 0) := by
    unfold tt; rw [htn, hl, hdd]
  by_cases he : e = 0
  · subst he
    obtain ⟨k1, k2, k3, k4, k5, k6, k7⟩ := PackMath.tn_ok htn
    rw [hl] at k4
    clear k2 k3 k7
    have C1 : Hid (∀ w, Calls Try.prog 42 #[.string s, .int .i64 (a : Int)] w fun e w' => e = .returned (.tuple #[.int .i64 (n : Int), .int .i64 ((a + c : Nat) : Int), .int .i64 0]) ∧ w' = w) := c1
    clear c1 htn hl hdd
    rw [if_neg (by simp)] at htt
    generalize hgp : a + c = p at *
    by_cases h1 : 2000 < n
    · rw [if_pos h1] at htt
      have HT : Hid (ttV (s.data.toList.drop a) a = .tuple #[.string ⟨#[]⟩, .int .i64 0, .int .i64 32]) := ttV_of htt
      have q1 : (2000 : Int) < (n : Int) := by omega
      clear htt h1
      go_enter Try.func45, Try.ntmps45
      go_wp2_with fail
      refine (C1.out _).mono ?_
      rintro e w1 ⟨rfl, hw1⟩
      subst hw1
      go_wp2
      go_ret3
      rw [HT.out]
      exact ⟨rfl, rfl⟩
    · rw [if_neg h1] at htt
      have q1 : ¬ (2000 : Int) < (n : Int) := by omega
      by_cases h2 : s.size - a < c + n
      · rw [if_pos h2] at htt
        have HT : Hid (ttV (s.data.toList.drop a) a = .tuple #[.string ⟨#[]⟩, .int .i64 0, .int .i64 31]) := ttV_of htt
        have q2 : (s.size : Int) - (p : Int) < (n : Int) := by omega
        have q3 : p ≤ s.size := by omega
        clear htt h1 h2 k4 hgp ha
        go_enter Try.func45, Try.ntmps45
        go_wp2_with fail
        refine (C1.out _).mono ?_
        rintro e w1 ⟨rfl, hw1⟩
        subst hw1
        go_wp2
        go_ret3
        rw [HT.out]
        exact ⟨rfl, rfl⟩
      · rw [if_neg h2] at htt
        have HT : Hid (ttV (s.data.toList.drop a) a = .tuple #[.string (s.extract p (p + n)), .int .i64 ((p : Int) + (n : Int)), .int .i64 0]) := by
          show _ = _
          rw [ttV_of htt, if_pos rfl, strV_extract, Nat.add_sub_cancel_left, show ((a + (c + n) : Nat) : Int) = (p : Int) + (n : Int) by omega]
          rfl
        have q2 : ¬ ((s.size : Int) - (p : Int) < (n : Int)) := by omega
        have q3 : p + n ≤ s.size := by omega
        clear htt h1 h2 k4 hgp ha
        go_enter Try.func45, Try.ntmps45
        go_wp2_with fail
        refine (C1.out _).mono ?_
        rintro e w1 ⟨rfl, hw1⟩
        subst hw1
        go_wp2
        go_ret3
        rw [HT.out]
        exact ⟨rfl, rfl⟩
  · rw [if_pos he] at htt
    rw [if_neg he] at c1
    have HT : Hid (ttV (s.data.toList.drop a) a = .tuple #[.string ⟨#[]⟩, .int .i64 0, .int .i64 (e : Int)]) := by show _ = _; rw [ttV_of htt, if_neg he]; rfl
    have C1 : Hid (∀ w, Calls Try.prog 42 #[.string s, .int .i64 (a : Int)] w fun e' w' => e' = .returned (.tuple #[.int .i64 (n : Int), .int .i64 0, .int .i64 (e : Int)]) ∧ w' = w) := c1
    have q1 : ((e : Int) == 0) = false := by simp; omega
    clear c1 htn hl hdd htt
    have HE : Hid (¬ e = 0) := he
    clear he
    go_enter Try.func45, Try.ntmps45
    go_wp2_with fail
    refine (C1.out _).mono ?_
    rintro e w1 ⟨rfl, hw1⟩
    subst hw1
    go_wp2
    go_ret3
    rw [HT.out]
    exact ⟨rfl, rfl⟩

end Go.Proofs.Ytbgankldnjeohaa.Pk