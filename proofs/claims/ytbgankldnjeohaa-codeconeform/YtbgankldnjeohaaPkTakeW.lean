/- The walks of TakeNum, in package pack. -/
import Derived.Test.YtbgankldnjeohaaPkNumW
import Derived.Laws.Bits128
set_option linter.unusedVariables false
set_option maxRecDepth 100000
namespace Go.Proofs.Ytbgankldnjeohaa.Pk
open Go.RowKit
open PackMath (tn go)

/-- What TakeNum answers at a place within the text. -/
def tnV (l : List UInt8) (a : Nat) : Value := .tuple #[.int .i64 ((tn l).1 : Int), .int .i64 (if (tn l).2.2 = 0 then ((a + (tn l).2.1 : Nat) : Int) else 0), .int .i64 ((tn l).2.2 : Int)]
theorem tnV_of {l : List UInt8} {a n c e : Nat} (h : tn l = (n, c, e)) : tnV l a = .tuple #[.int .i64 (n : Int), .int .i64 (if e = 0 then ((a + c : Nat) : Int) else 0), .int .i64 (e : Int)] := by unfold tnV; rw [h]
theorem drop_at (s : ByteArray) (j : Nat) (h : j < s.size) : s.data.toList.drop j = s[j] :: s.data.toList.drop (j + 1) := by
  rw [List.drop_eq_getElem_cons (by simpa using h)]; rfl
theorem go_nil_at (s : ByteArray) (a k acc f : Nat) (h : a + k = s.size) : go (f + 1) k acc ((s.data.toList.drop a).drop k) = (0, 0, 31) := by
  rw [List.drop_drop, List.drop_of_length_le (by rw [size_data]; omega), go]

theorem takeNum_out (s : ByteArray) (at_ : Int) (hs : s.size ≤ 4611686018427387904) (h : at_ < 0 ∨ (s.size : Int) < at_) (w : World) :
    Calls Try.prog 42 #[.string s, .int .i64 at_] w fun e w' => e = .returned (.tuple #[.int .i64 0, .int .i64 0, .int .i64 1]) ∧ w' = w := by
  by_cases h1 : at_ < 0
  · clear h
    go_enter Try.func42, Try.ntmps42
    go_wp2
    go_ret3
    exact ⟨rfl, rfl⟩
  · have h2 : (s.size : Int) < at_ := by omega
    clear h
    go_enter Try.func42, Try.ntmps42
    go_wp2
    go_ret3
    exact ⟨rfl, rfl⟩

theorem i64_or_nat (a b : Nat) (ha : a < 9223372036854775808) (hb : b < 9223372036854775808) : bits .or .i64 (a : Int) (b : Int) = ((a ||| b : Nat) : Int) := by
  have hx : a ||| b < 2 ^ 63 := Nat.or_lt_two_pow (by omega) (by omega)
  have h64 : ∀ c : Nat, c < 9223372036854775808 → (BitVec.ofInt 64 (c : Int)).toNat = c := fun c hc => by
    rw [BitVec.ofInt_natCast, BitVec.toNat_ofNat]; exact Nat.mod_eq_of_lt (by omega)
  show IntKind.i64.wrap ((BitVec.ofInt 64 (a : Int) ||| BitVec.ofInt 64 (b : Int)).toNat : Int) = _
  rw [BitVec.toNat_or, h64 a ha, h64 b hb, IntKind.wrap_i64]
  omega
/-- What a byte more makes of the number, in the machine's words. -/
theorem step_facts (acc b k : Nat) (hk : k < 8) (ha : acc < 128 ^ k) (hb : b < 256) : ∃ n1 : Nat, wrap64 (b : Int) = (b : Int) ∧
    bits .or .i64 (acc : Int) (wrap64 (bits .and .i64 (b : Int) 127 * 2 ^ (7 * k))) = (n1 : Int) ∧ wrap64 ((acc : Int) + wrap64 ((b : Int) % 128 * 2 ^ (7 * k))) = (n1 : Int) ∧ n1 = acc + b % 128 * 128 ^ k ∧ n1 < 128 ^ (k + 1) := by
  have hp : (128 : Nat) ^ k = 2 ^ (7 * k) := by rw [show (128 : Nat) = 2 ^ 7 from rfl, ← Nat.pow_mul]
  have hq : (128 : Nat) ^ k ≤ 128 ^ 7 := Nat.pow_le_pow_right (by decide) (by omega)
  have hd : b % 128 ≤ 127 := by omega
  have hx : b % 128 * 128 ^ k ≤ 127 * 128 ^ 7 := Nat.mul_le_mul hd hq
  have hx2 : b % 128 * 128 ^ k ≤ 127 * 128 ^ k := Nat.mul_le_mul_right _ hd
  have e1 : bits .and .i64 (b : Int) 127 * 2 ^ (7 * k) = ((b % 128 * 128 ^ k : Nat) : Int) := by
    rw [i64_and127, hp]; simp
  have e2 : (b : Int) % 128 * 2 ^ (7 * k) = ((b % 128 * 128 ^ k : Nat) : Int) := by rw [hp]; simp
  have e3 : ∀ x : Nat, x ≤ 127 * 128 ^ 7 + 128 ^ 7 → wrap64 (x : Int) = (x : Int) := fun x h => by unfold wrap64; omega
  have e4 : acc ||| (b % 128 * 128 ^ k) = acc + b % 128 * 128 ^ k := by
    rw [hp, Nat.mul_comm, Nat.or_comm, Nat.add_comm]
    exact (Nat.two_pow_add_eq_or_of_lt (hp ▸ ha) _).symm
  refine ⟨acc + b % 128 * 128 ^ k, e3 b (by omega), ?_, ?_, rfl, by rw [Nat.pow_succ]; omega⟩
  · rw [e1, e3 _ (by omega), i64_or_nat _ _ (by omega) (by omega), e4]
  · rw [e2, e3 _ (by omega), ← Int.natCast_add, e3 _ (by omega)]

set_option maxRecDepth 100000 in
set_option maxHeartbeats 2000000 in
theorem takeNum_any (s : ByteArray) (a : Nat) (hs : s.size ≤ 4611686018427387904) (ha : a ≤ s.size) (w : World) :
    Calls Try.prog 42 #[.string s, .int .i64 (a : Int)] w fun e w' => e = .returned (tnV (s.data.toList.drop a) a) ∧ w' = w := by
  have h0 : ¬ ((s.size : Int) < (a : Int)) := by omega
  go_enter Try.func42, Try.ntmps42
  go_wp2
  go_loop [7, 18] (fun n i => ∃ k acc : Nat, n = .int .i64 (acc : Int) ∧ i = .int .i64 (k : Int) ∧ k ≤ 8 ∧ a + k ≤ s.size ∧ acc < 128 ^ k ∧ Hid (tn (s.data.toList.drop a) = go (8 - k) k acc ((s.data.toList.drop a).drop k))) (fun _ i => 8 - (intOf i).toNat)
  case atStart => exact ⟨0, 0, rfl, rfl, by decide, ha, by decide, rfl⟩
  case round =>
    obtain ⟨k, acc, rfl, rfl, hk, hak, hacc, HI⟩ := hrel
    by_cases h8 : k < 8
    · rw [show 8 - k = (7 - k) + 1 by omega] at HI
      have i8 : (k : Int) < 8 := by omega
      by_cases he : a + k = s.size
      · have HE := tnV_of (a := a) (HI.out.trans (go_nil_at s a k acc (7 - k) he))
        have HE' : Hid (tnV (s.data.toList.drop a) a = .tuple #[.int .i64 0, .int .i64 0, .int .i64 31]) := HE
        have hq : ((a : Int) + (k : Int) == (s.size : Int)) = true := by simp; omega
        clear HE HI hacc
        have HE1 : Hid (a + k = s.size) := he
        clear he
        go_wp2
        go_ret3
        rw [HE'.out]
        exact ⟨rfl, rfl⟩
      · have hlt : a + k < s.size := by omega
        have hq : ((a : Int) + (k : Int) == (s.size : Int)) = false := by simp; omega
        rw [List.drop_drop, drop_at s (a + k) hlt] at HI
        have hb := s[a + k].toNat_lt
        have hg : s[a + k].toNat = s[a + k].toNat := rfl
        have hst := step_facts acc s[a + k].toNat k h8 hacc hb
        have HB : Hid (∀ n c e, go (7 - k + 1) k acc (s[a + k] :: s.data.toList.drop (a + k + 1)) = (n, c, e) → tnV (s.data.toList.drop a) a = .tuple #[.int .i64 (n : Int), .int .i64 (if e = 0 then ((a + c : Nat) : Int) else 0), .int .i64 (e : Int)]) := fun n c e h => tnV_of (HI.out.trans h)
        have HL := PackMath.go_last (7 - k) k acc s[a + k] (s.data.toList.drop (a + k + 1))
        have HM := PackMath.go_more (7 - k) k acc s[a + k] (s.data.toList.drop (a + k + 1))
        generalize hgb : s[a + k].toNat = b at *
        obtain ⟨n1, f1, f2, f3, f4, f5⟩ := hst
        rw [← f4] at HL HM
        have F4 : Hid (n1 = acc + b % 128 * 128 ^ k) := f4
        have HGB : s[a + k].toNat = b := hgb
        clear f4 hgb hg he
        by_cases hb1 : b < 128
        · have q1 : ((128 : Int) ≤ (b : Int)) = False := by simp; omega
          have q1' : ((b : Int) < 128) = True := by simp; omega
          have hl := HL hb1
          clear HL HM
          by_cases hz : b = 0 ∧ 0 < k
          · rw [if_pos (Or.inl hz)] at hl
            have HT : Hid (tnV (s.data.toList.drop a) a = .tuple #[.int .i64 0, .int .i64 0, .int .i64 32]) := HB.out _ _ _ hl
            have q2 : ((b : Int) == 0) = true := by simp; omega
            have q3 : (0 : Int) < (k : Int) := by omega
            clear hl HB HI hacc hz f5 F4
            go_wp2
            go_ret3
            rw [HT.out]
            exact ⟨rfl, rfl⟩
          · by_cases b0 : b = 0
            · have k0 : k = 0 := by omega
              subst b0
              subst k0
              have a0 : acc = 0 := by simpa using hacc
              subst a0
              have n0 : n1 = 0 := by simpa using F4.out
              subst n0
              rw [if_neg (fun h => h.elim hz (by omega))] at hl
              have HT : Hid (tnV (s.data.toList.drop a) a = .tuple #[.int .i64 0, .int .i64 ((a : Int) + 1), .int .i64 0]) := HB.out _ _ _ hl
              have hlt0 : a < s.size := hlt
              have hg0 : s[a].toNat = 0 := HGB
              have z1 : bits BinOp.and IntKind.i64 0 127 = 0 := by decide +kernel
              have z2 : wrap64 0 = 0 := by decide +kernel
              have z3 : bits BinOp.or IntKind.i64 0 0 = 0 := by decide +kernel
              clear hl HB HI hacc hz f5 F4 f1 f2 f3 HGB hlt q1 q1' hb1 hb
              go_wp2
              go_ret3
              rw [HT.out]
              exact ⟨rfl, rfl⟩
            · have q2 : ((b : Int) == 0) = false := by simp; omega
              by_cases hg : 1125899906842624 < n1
              · rw [if_pos (Or.inr hg)] at hl
                have HT : Hid (tnV (s.data.toList.drop a) a = .tuple #[.int .i64 0, .int .i64 0, .int .i64 32]) := HB.out _ _ _ hl
                have q4 : (1125899906842624 : Int) < (n1 : Int) := by omega
                clear hl HB HI hacc hz f5 F4
                go_wp2
                go_ret3
                rw [HT.out]
                exact ⟨rfl, rfl⟩
              · rw [if_neg (fun h => h.elim hz hg)] at hl
                have HT : Hid (tnV (s.data.toList.drop a) a = .tuple #[.int .i64 (n1 : Int), .int .i64 ((a : Int) + (k : Int) + 1), .int .i64 0]) := by
                  show _ = _
                  rw [HB.out _ _ _ hl, if_pos rfl, show ((a + (k + 1) : Nat) : Int) = (a : Int) + (k : Int) + 1 by omega]
                  rfl
                have q4 : ((1125899906842624 : Int) < (n1 : Int)) = False := by simp; omega
                clear hl HB HI hacc hz f5 F4
                go_wp2
                go_ret3
                rw [HT.out]
                exact ⟨rfl, rfl⟩
        · have q1 : (128 : Int) ≤ (b : Int) := by omega
          have hm := HM hb1
          have HN : Hid (tn (s.data.toList.drop a) = go (8 - (k + 1)) (k + 1) n1 ((s.data.toList.drop a).drop (k + 1))) := by
            show _ = _
            rw [HI.out, hm, List.drop_drop, show 8 - (k + 1) = 7 - k by omega, Nat.add_assoc]
          have F5 : Hid (n1 < 128 ^ (k + 1)) := f5
          clear hm HB HI hacc HL HM f5 F4
          go_wp2
          exact ⟨⟨k + 1, n1, rfl, by go_num, by omega, by omega, F5.out, HN⟩, by simp [intOf]; omega⟩
    · obtain rfl : k = 8 := by omega
      have HE := tnV_of (a := a) (n := 0) (c := 0) (e := 32) HI.out
      have HE' : Hid (tnV (s.data.toList.drop a) a = .tuple #[.int .i64 0, .int .i64 0, .int .i64 32]) := HE
      clear HE HI hacc
      go_wp2
      go_ret3
      rw [HE'.out]
      exact ⟨rfl, rfl⟩

end Go.Proofs.Ytbgankldnjeohaa.Pk