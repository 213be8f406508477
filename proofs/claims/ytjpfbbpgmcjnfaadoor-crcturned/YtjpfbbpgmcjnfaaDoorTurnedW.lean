/- The walk of the law CrcTurned. -/
import Derived.Test.YtjpfbbpgmcjnfaaDoorPlainW
import Derived.Lib.ConvBytes
namespace Go.Proofs.YtjpfbbpgmcjnfaaDoor
open Go.RowKit

theorem low_next (r k : Nat) (h : r / 2 ^ k % 2 = 1) : r % 2 ^ (k + 1) = 2 ^ k + r % 2 ^ k := by
  rw [Nat.pow_succ, Nat.mod_mul, h, Nat.mul_one, Nat.add_comm]
theorem low_same (r k : Nat) (h : r / 2 ^ k % 2 = 0) : r % 2 ^ (k + 1) = r % 2 ^ k := by
  rw [Nat.pow_succ, Nat.mod_mul, h, Nat.mul_zero, Nat.add_zero]
theorem low_xor (r k f v : Nat) (h : r / 2 ^ k % 2 = 1) : v ^^^ 2 ^ f * (r % 2 ^ k) ^^^ 2 ^ (f + k) = v ^^^ 2 ^ f * (r % 2 ^ (k + 1)) := by
  rw [low_next r k h, show 2 ^ k + r % 2 ^ k = r % 2 ^ k + 2 ^ k * 1 by rw [Nat.mul_one, Nat.add_comm], CrcMath.add_is_xor _ 1 k (Nat.mod_lt _ (Nat.two_pow_pos k)), Nat.mul_one, Nat.xor_assoc]
  congr 1
  apply Nat.eq_of_testBit_eq
  intro i
  rw [show 2 ^ (f + k) = 2 ^ f * 2 ^ k from Nat.pow_add 2 f k]
  simp only [Nat.testBit_xor, Nat.testBit_two_pow_mul]
  cases decide (f ≤ i) <;> simp
/-- One bit of a text turned. -/
def bitAt (l : List UInt8) (m j : Nat) : List UInt8 := l.set m (l[m]?.getD 0 ^^^ UInt8.ofNat (2 ^ j))
theorem bitAt_val (l : List UInt8) (p : Nat) (h : p / 8 < l.length) : CrcMath.val (bitAt l (p / 8) (p % 8)) = CrcMath.val l ^^^ 2 ^ p := by
  unfold bitAt
  have e : l[p / 8]?.getD 0 = l[p / 8] := by simp [h]
  rw [e, CrcMath.val_set l (p / 8) h]
  congr 1
  have hj : p % 8 < 8 := Nat.mod_lt _ (by decide)
  have h2 : (UInt8.ofNat (2 ^ (p % 8))).toNat = 2 ^ (p % 8) := by
    have : ∀ j, j < 8 → (UInt8.ofNat (2 ^ j)).toNat = 2 ^ j := by decide
    exact this _ hj
  rw [h2, ← Nat.pow_add]
  congr 1
  omega
theorem bit_byte (x : UInt8) (j : Nat) (hj : j < 8) : bits .xor .u8 (x.toNat : Int) (2 ^ j % 256) = (((x ^^^ UInt8.ofNat (2 ^ j)).toNat : Nat) : Int) := by
  have h2 : (UInt8.ofNat (2 ^ j)).toNat = 2 ^ j := by
    have : ∀ j, j < 8 → (UInt8.ofNat (2 ^ j)).toNat = 2 ^ j := by decide
    exact this _ hj
  have hlt : 2 ^ j < 256 := by
    have : ∀ j, j < 8 → 2 ^ j < 256 := by decide
    exact this _ hj
  rw [UInt8.toNat_xor, h2, show ((2 : Int) ^ j % 256) = ((2 ^ j : Nat) : Int) by
    rw [show ((2 : Int) ^ j) = ((2 ^ j : Nat) : Int) by simp]; omega, u8_xor_nat _ _ x.toNat_lt hlt]

theorem rowIs_bytes (w : World) (e : TypeId) (s : ByteArray) : RowIs (Lib.bytesWorld w e s) w.heap.size s.size s.data.toList := by
  refine ⟨Array.length_toList, fun j hj => ⟨Lib.bytesWorld_cell w e s j hj, ?_⟩⟩
  simp only [World.frozen?, Lib.bytesWorld_at_new]
  have : s.size ≤ (Lib.bytesCells w e s).size := by
    show s.data.size ≤ _
    simp [Lib.bytesCells]
  simp
  omega
theorem below_bytes (w : World) (e : TypeId) (s : ByteArray) : Below w.heap.size w (Lib.bytesWorld w e s) := by
  refine ⟨rfl, rfl, rfl, ?_, fun k hk => Lib.bytesWorld_at_old w e s k hk⟩
  rw [Lib.bytesWorld_size]; omega

theorem from_neg (a : Int) (n : Nat) (h : a < 0) (hn : 0 < n) : ∃ f : Nat, -(a + 1).tmod (8 * (n : Int)) = (f : Int) ∧ f < 8 * n := by
  have hm : (0 : Int) < 8 * (n : Int) := by omega
  have e : -(a + 1).tmod (8 * (n : Int)) = (-(a + 1)) % (8 * (n : Int)) := by
    rw [← Int.neg_tmod, Int.tmod_eq_emod_of_nonneg (by omega)]
  have h1 := Int.emod_nonneg (-(a + 1)) (by omega : 8 * (n : Int) ≠ 0)
  have h2 := Int.emod_lt_of_pos (-(a + 1)) hm
  exact ⟨((-(a + 1)) % (8 * (n : Int))).toNat, by rw [e]; omega, by omega⟩
theorem from_pos (a : Int) (n : Nat) (hn : 0 < n) : ∃ f : Nat, a % (8 * (n : Int)) = (f : Int) ∧ f < 8 * n := by
  have hm : (0 : Int) < 8 * (n : Int) := by omega
  have h1 := Int.emod_nonneg a (by omega : 8 * (n : Int) ≠ 0)
  have h2 := Int.emod_lt_of_pos a hm
  exact ⟨(a % (8 * (n : Int))).toNat, by omega, by omega⟩

theorem bit_cast (r k : Nat) : ((r : Int) / 2 ^ k).tmod 2 = ((r / 2 ^ k % 2 : Nat) : Int) := by
  rw [show ((2 : Int) ^ k) = ((2 ^ k : Nat) : Int) by simp, ← Int.natCast_ediv]
  rfl
theorem bit_one (r k : Nat) (h : r / 2 ^ k % 2 = 1) : (((r : Int) / 2 ^ k).tmod 2 == 1) = true := by
  rw [bit_cast, h]; rfl
theorem bit_zero (r k : Nat) (h : r / 2 ^ k % 2 = 0) : (((r : Int) / 2 ^ k).tmod 2 == 1) = false := by
  rw [bit_cast, h]; rfl

set_option maxHeartbeats 1000000 in
theorem turned_walk (s : ByteArray) (at_ : Int) (r : Nat) (hs : s.size ≤ 140737488355328) (ha1 : -9223372036854775808 ≤ at_) (ha2 : at_ ≤ 9223372036854775807) (hr : r < 4294967296) (w : World) (hT : Tab w) :
    Calls Tryd.prog 6 #[.string s, .int .i64 at_, .int .u32 (r : Int)] w fun e w' => e = .returned (.bool true) ∧ Below w.heap.size w w' := by
  obtain ⟨w1, hw1⟩ : ∃ w1, Lib.bytesWorld w 5 s = w1 := ⟨_, rfl⟩
  have hcv := Lib.run_convert_string_bytes (P := Tryd.prog) w 9 29 5 s Tryd.underlying9 Tryd.underlying29 Tryd.underlying5
  have hrow := rowIs_bytes w 5 s
  have hb1 := below_bytes w 5 s
  rw [hw1] at hcv hrow hb1
  generalize grownCap w s.size 0 5 = cap at *
  have HO : Hid _ := hrow
  clear hrow hw1
  have hT1 := tab_below hT hb1
  by_cases h0 : s.size = 0
  · have h0' : ((s.size : Int) == 0) = true := beq_iff_eq.2 (by omega)
    go_enter Tryd.func6, Tryd.ntmps6
    go_wp2_with fail
    refine (live_any _ hT1).mono ?_
    rintro e w2 ⟨rfl, rfl⟩
    go_wp2_with fail
    go_ret
    exact ⟨rfl, hb1⟩
  · have h0' : ((s.size : Int) == 0) = false := beq_eq_false_iff_ne.2 (by omega)
    have hpos : (0 : Int) < (s.size : Int) := by omega
    by_cases hneg : at_ < 0
    case' pos =>
      obtain ⟨f, hfe, hf⟩ := from_neg at_ s.size hneg (by omega)
      have HF : Hid _ := hfe
      clear hfe
      go_enter Tryd.func6, Tryd.ntmps6
      go_wp2_with fail
      rw [HF.out]
    case' neg =>
      obtain ⟨f, hfe, hf⟩ := from_pos at_ s.size (by omega)
      have HF : Hid _ := hfe
      clear hfe
      go_enter Tryd.func6, Tryd.ntmps6
      go_wp2_with fail
      rw [HF.out]
    all_goals
      clear HF hcv
      go_loopw [9, 10] (fun t i wr => ∃ (k : Nat) (l : List UInt8), k ≤ 32 ∧ f + k ≤ 8 * s.size ∧ i = .int .i64 k ∧ t = .bool (decide (r % 2 ^ k ≠ 0)) ∧ RowIs wr w.heap.size s.size l ∧
          Hid (CrcMath.val l = CrcMath.val s.data.toList ^^^ 2 ^ f * (r % 2 ^ k)) ∧ Below w.heap.size w wr) (fun _ i _ => 32 - (intOf i).toNat)
      case atStart => exact ⟨0, s.data.toList, by omega, by omega, rfl, by simp [Nat.mod_one], HO.out, by show _ = _; simp [Nat.mod_one], hb1⟩
      case round =>
        obtain ⟨k, l, hk, hfk, rfl, rfl, hr', HL, hbw⟩ := hrel
        by_cases hlt : k < 32 ∧ f + k < 8 * s.size
        · obtain ⟨hk32, hfk'⟩ := hlt
          have hm : (f + k) / 8 < s.size := by omega
          have hj : (f + k) % 8 < 8 := Nat.mod_lt _ (by decide)
          have hcell := (hr'.2 _ hm).1
          have hfro := (hr'.2 _ hm).2
          have HR : Hid _ := hr'
          clear hr'
          by_cases hbit : r / 2 ^ k % 2 = 1
          · have hbit' := bit_one r k hbit
            go_wp2_with fail
            have hset := rowIs_set HR.out _ hm (l[(f + k) / 8]?.getD 0 ^^^ UInt8.ofNat (2 ^ ((f + k) % 8)))
            rw [bit_byte _ _ hj]
            refine ⟨⟨k + 1, bitAt l ((f + k) / 8) ((f + k) % 8), by omega, by omega, by go_num, ?_, hset, ?_, hbw.setCell (Nat.le_refl _) _⟩, by simp [intOf]; omega⟩
            · have := Nat.two_pow_pos k
              rw [low_next r k hbit]
              simp
            · show CrcMath.val _ = _
              rw [bitAt_val l (f + k) (by rw [HR.out.1]; exact hm), HL.out]
              exact low_xor r k f _ hbit
          · have hbit0 : r / 2 ^ k % 2 = 0 := by omega
            have hbit' := bit_zero r k hbit0
            go_wp2_with fail
            have hs1 := low_same r k hbit0
            exact ⟨⟨k + 1, l, by omega, by omega, by go_num, by rw [hs1]; simp, HR.out, by rw [hs1]; exact HL, hbw⟩, by simp [intOf]; omega⟩
        · have hTr := tab_below hT hbw
          have hconv := row_string (c := cap) hr' (Tryd.underlying29) (Tryd.underlying5) (Tryd.underlying9) 0
          have hwin := CrcMath.ext_window 0 s.data.toList l f (r % 2 ^ k) (by rw [hr'.1]; exact Array.length_toList.symm) (Nat.lt_of_le_of_lt (Nat.mod_le _ _) hr) (by have : s.data.toList.length = s.size := Array.length_toList; omega) HL.out
          have HQ : Hid ((((CrcMath.ext 0 l : Nat) : Int) != ((CrcMath.ext 0 s.data.toList : Nat) : Int)) = decide (r % 2 ^ k ≠ 0)) := by
            show _ = _
            rw [Bool.eq_iff_iff]
            simp only [bne_iff_ne, ne_eq, decide_eq_true_eq]
            constructor
            · intro h e; exact h (by rw [hwin.2 e])
            · intro h e; exact h (hwin.1 (by omega))
          have hsl : (ByteArray.mk l.toArray).size ≤ maxLen := by
            have : (ByteArray.mk l.toArray).size = l.length := by show l.toArray.size = _; simp
            rw [this, hr'.1]; unfold maxLen; omega
          have hss : s.size ≤ maxLen := by unfold maxLen; omega
          clear hwin hr' HO HL
          have hconv' : (convert 29 9 (.slice (some ⟨w.heap.size, 0, none⟩) s.size cap)).run Tryd.prog wr = .ok (.string ⟨l.toArray⟩) wr := hconv
          clear hconv
          by_cases hk32 : k < 32
          all_goals
            go_wp2_with fail
            refine (live_any _ hTr).mono ?_
            rintro e w2 ⟨rfl, rfl⟩
            go_wp2_with fail
            refine (sum_any _ hsl _ hTr).mono ?_
            rintro e w2 ⟨rfl, rfl⟩
            go_wp2_with fail
            refine (sum_any s hss _ hTr).mono ?_
            rintro e w2 ⟨rfl, rfl⟩
            go_wp2_with fail
            rw [HQ.out]
            go_ret
            exact ⟨by simp, hbw⟩
end Go.Proofs.YtjpfbbpgmcjnfaaDoor
