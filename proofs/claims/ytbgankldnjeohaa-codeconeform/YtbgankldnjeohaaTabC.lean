/- DecodeRuneInString, and Compare of two names, at tables of any content. -/
import Derived.Test.YtbgankldnjeohaaTabW
import Derived.Test.YtbgankldnjeohaaMayW
import Derived.Lib.OthersKept
set_option linter.unusedVariables false
set_option linter.unusedSimpArgs false
set_option maxRecDepth 100000
namespace Go.Proofs.Ytbgankldnjeohaa
open Go.RowKit Go.Lib

theorem emp_list (s : ByteArray) (h : s.size = 0) : s.data.toList = [] := List.eq_nil_of_length_eq_zero ((Array.length_toList (xs := s.data)).trans h)
theorem emp_yes (c : ByteArray) (h : c.size = 0) : c.toList.isEmpty = true := by rw [Lib.toList_data, emp_list c h]; rfl
theorem emp_no (c : ByteArray) (h : c.size ≠ 0) : c.toList.isEmpty = false := by
  rw [Lib.toList_data]
  cases e : c.data.toList with
  | nil =>
    have : c.data.toList.length = c.size := Array.length_toList
    rw [e] at this
    exact absurd this.symm h
  | cons x l => rfl
/-- What DecodeRuneInString answers. -/
def decX (t : Tb) (s : ByteArray) : Int × Nat := if (s.get! 0).toNat < 128 then ((((s.get! 0).toNat : Nat) : Int), 1) else slowX t s
theorem slow_any (t : Tb) (s : ByteArray) (w : World) (hT : TabX t w) (h2 : 2 ≤ s.size) :
    Calls Try.prog 80 #[.string s] w fun e w' => e = .returned (.tuple #[.int .i32 (slowX t s).1, .int .i64 (slowX t s).2]) ∧ Below w.heap.size w w' := by
  by_cases h : 240 ≤ t.F (s.get! 0).toNat
  · exact slow_hi t s w hT h2 h
  · exact slow_lo t s w hT h2 h
theorem decX_any (t : Tb) (s : ByteArray) (w : World) (hT : TabX t w) (h0 : s.size ≠ 0) (h2 : ¬ (s.get! 0).toNat < 128 → 2 ≤ s.size) :
    Calls Try.prog 78 #[.string s] w fun e w' => e = .returned (.tuple #[.int .i32 (decX t s).1, .int .i64 (decX t s).2]) ∧ Below w.heap.size w w' := by
  have hempty := emp_no s h0
  have hz0 : (0 : Int) < (s.size : Int) := by omega
  by_cases hb : (s.get! 0).toNat < 128
  · have e : decX t s = ((((s.get! 0).toNat : Nat) : Int), 1) := by unfold decX; rw [if_pos hb]
    rw [e]
    obtain ⟨x0, hx0⟩ : ∃ x0, s.get! 0 = x0 := ⟨_, rfl⟩
    have hs0 : s[0]'(by omega) = x0 := by rw [← hx0]; exact (Utf8W.get!_of_lt s 0 (by omega)).symm
    rw [hx0] at hb ⊢
    have hbz : (x0.toNat : Int) < 128 := by omega
    clear hT h2 e hb hx0
    go_enter Try.func78, Try.ntmps78
    go_wp2
    go_ret2
    exact ⟨rfl, Below.refl _ _⟩
  · have e : decX t s = slowX t s := by unfold decX; rw [if_neg hb]
    rw [e]
    have C := slow_any t s w hT (h2 hb)
    obtain ⟨x0, hx0⟩ : ∃ x0, s.get! 0 = x0 := ⟨_, rfl⟩
    have hs0 : s[0]'(by omega) = x0 := by rw [← hx0]; exact (Utf8W.get!_of_lt s 0 (by omega)).symm
    rw [hx0] at hb
    have hbz : ¬ (x0.toNat : Int) < 128 := by omega
    clear hT h2 e hb hx0
    generalize slowX t s = p at *
    go_enter Try.func78, Try.ntmps78
    go_wp2_with fail
    refine C.mono ?_
    rintro e w2 ⟨rfl, hb2⟩
    go_wp2_with fail
    go_ret2
    exact ⟨rfl, hb2⟩

/-- A rune that a name may have. -/
def nR (r : Nat) : Prop := (97 ≤ r ∧ r ≤ 122) ∨ r = 228 ∨ r = 246 ∨ r = 252 ∨ r = 223 ∨ (945 ≤ r ∧ r ≤ 969) ∨ (48 ≤ r ∧ r ≤ 57) ∨ r = 45
theorem isGo_nR : ∀ (l : List Nat) (n : Nat), NameMath.isGo l n = true → ∀ r ∈ l, nR r
  | [], _, _, r, hr => by cases hr
  | x :: l, n, h, r, hr => by
    unfold NameMath.isGo at h
    split at h
    · cases h
    · rename_i h1
      split at h
      · cases h
      · rcases List.mem_cons.1 hr with rfl | hr
        · by_cases hs : NameMath.small r = true
          · simp [NameMath.small] at hs; unfold nR; omega
          · have hd : NameMath.dig r = true := by
              cases e : NameMath.dig r with
              | true => rfl
              | false => exact absurd ⟨by simpa using hs, Or.inr e⟩ h1
            simp [NameMath.dig] at hd; unfold nR; omega
        · exact isGo_nR l (n + 1) h r hr
theorem nR_bytes (n b0 b1 b2 b3 : Nat) (hn : 1 ≤ n) (h0 : b0 < 256) (h1 : b1 < 256) (hr : nR (decodeN n b0 b1 b2 b3).1) :
    (b0 < 128 ∧ (decodeN n b0 b1 b2 b3).2 = 1 ∧ (decodeN n b0 b1 b2 b3).1 = b0) ∨
    (128 ≤ b0 ∧ 2 ≤ n ∧ (decodeN n b0 b1 b2 b3).2 = 2 ∧ (decodeN n b0 b1 b2 b3).1 = b0 % 32 * 64 + b1 % 64 ∧ (b0 = 195 ∨ b0 = 206 ∨ b0 = 207)) := by
  unfold nR decodeN at *
  repeat' split
  all_goals simp_all
  all_goals omega
theorem slowX_name (t : Tb) (s : ByteArray) (hb : (s.get! 0).toNat = 195 ∨ (s.get! 0).toNat = 206 ∨ (s.get! 0).toNat = 207) :
    slowX t s = ((((s.get! 0).toNat % 32 * 64 + (s.get! 1).toNat % 64 : Nat) : Int), 2) ∨ ∀ q, nR q → (slowX t s).1 ≠ (q : Int) := by
  unfold slowX
  generalize (s.get! 0).toNat = b0 at *
  generalize (s.get! 1).toNat = b1 at *
  generalize (s.get! 2).toNat = b2 at *
  generalize (s.get! 3).toNat = b3 at *
  generalize t.F b0 = x at *
  split
  · refine Or.inr fun q hq => ?_
    unfold nR at hq
    split
    · show (b0 : Int) ≠ q
      omega
    · show (65533 : Int) ≠ q
      omega
  · unfold slowN
    split
    · exact Or.inr fun q hq => by unfold nR at hq; show ((65533 : Nat) : Int) ≠ q; omega
    split
    · exact Or.inr fun q hq => by unfold nR at hq; show ((65533 : Nat) : Int) ≠ q; omega
    split
    · exact Or.inl rfl
    split
    · exact Or.inr fun q hq => by unfold nR at hq; show ((65533 : Nat) : Int) ≠ q; omega
    split
    · exact Or.inr fun q hq => by unfold nR at hq; show ((b0 % 16 * 4096 + b1 % 64 * 64 + b2 % 64 : Nat) : Int) ≠ q; omega
    split
    · exact Or.inr fun q hq => by unfold nR at hq; show ((65533 : Nat) : Int) ≠ q; omega
    · exact Or.inr fun q hq => by unfold nR at hq; show ((b0 % 8 * 262144 + b1 % 64 * 4096 + b2 % 64 * 64 + b3 % 64 : Nat) : Int) ≠ q; omega

/-- All of the text's runes are a name's. -/
def Good (l : List UInt8) : Prop := ∀ r ∈ NameMath.runes l, nR r
theorem good_of {s : ByteArray} (h : isNm s = true) : Good s.data.toList := isGo_nR _ 0 h
theorem decX_name (t : Tb) (c : ByteArray) (h : c.size ≠ 0) (hg : Good c.data.toList) : ∃ r k : Nat, 1 ≤ k ∧ k ≤ c.size ∧ nR r ∧
    NameMath.runes c.data.toList = r :: NameMath.runes (c.extract k c.size).data.toList ∧ (¬ (c.get! 0).toNat < 128 → 2 ≤ c.size) ∧
    (decX t c = ((r : Int), k) ∨ ∀ q, nR q → (decX t c).1 ≠ (q : Int)) := by
  obtain ⟨r, k, hr, hk1, hk2, hdec, hne, hrun, hcut, hd1, hd2⟩ := Nm.next_at c 0 (by omega)
  rw [List.drop_zero, Nat.zero_add] at hrun
  have hN : nR r := hg r (by rw [hrun]; simp)
  rw [Lib.decode_at, Nat.sub_zero] at hd1 hd2
  have l0 := (c.get! 0).toNat_lt
  have l1 := (c.get! (0 + 1)).toNat_lt
  have hB := nR_bytes c.size (c.get! 0).toNat (c.get! (0 + 1)).toNat (c.get! (0 + 2)).toNat (c.get! (0 + 3)).toNat (by omega) (by omega) (by omega) (by rw [hd1]; exact hN)
  rw [hd1, hd2] at hB
  refine ⟨r, k, hk1, by omega, hN, ?_, ?_, ?_⟩
  · rw [hrun]
    congr 2
    have hl : c.data.toList.length = c.size := Array.length_toList
    simp [ByteArray.data_extract, Array.toList_extract, List.extract]
    rw [List.take_of_length_le (by simp)]
  · intro h8
    rcases hB with ⟨h1, _⟩ | ⟨_, h2, _⟩
    · exact absurd h1 h8
    · exact h2
  · rcases hB with ⟨h1, h2, h3⟩ | ⟨h1, h2, h3, h4, h5⟩
    · left
      unfold decX
      rw [if_pos h1, h2, h3]
    · unfold decX
      rw [if_neg (by omega), h3, h4]
      exact slowX_name t c h5
/-- Compare, at these tables. -/
def cmpX (t : Tb) : List Nat → ByteArray → Int
  | [], c => if c.size = 0 then 0 else -1
  | r :: l, c => if c.size = 0 then 1 else if (r : Int) < (decX t c).1 then -1 else if (decX t c).1 < (r : Int) then 1 else cmpX t l (c.extract (decX t c).2 c.size)
theorem cmpX_nil0 (t : Tb) (c : ByteArray) (h : c.size = 0) : cmpX t [] c = 0 := by unfold cmpX; rw [if_pos h]
theorem cmpX_nil1 (t : Tb) (c : ByteArray) (h : c.size ≠ 0) : cmpX t [] c = -1 := by unfold cmpX; rw [if_neg h]
theorem cmpX_c0 (t : Tb) (r : Nat) (l : List Nat) (c : ByteArray) (h : c.size = 0) : cmpX t (r :: l) c = 1 := by unfold cmpX; rw [if_pos h]
theorem cmpX_lt (t : Tb) (r : Nat) (l : List Nat) (c : ByteArray) (h : c.size ≠ 0) (h1 : (r : Int) < (decX t c).1) : cmpX t (r :: l) c = -1 := by unfold cmpX; rw [if_neg h, if_pos h1]
theorem cmpX_gt (t : Tb) (r : Nat) (l : List Nat) (c : ByteArray) (h : c.size ≠ 0) (h1 : ¬ (r : Int) < (decX t c).1) (h2 : (decX t c).1 < (r : Int)) : cmpX t (r :: l) c = 1 := by unfold cmpX; rw [if_neg h, if_neg h1, if_pos h2]
theorem cmpX_eq (t : Tb) (r : Nat) (l : List Nat) (c : ByteArray) (h : c.size ≠ 0) (h1 : ¬ (r : Int) < (decX t c).1) (h2 : ¬ (decX t c).1 < (r : Int)) : cmpX t (r :: l) c = cmpX t l (c.extract (decX t c).2 c.size) := by
  show (if c.size = 0 then 1 else _) = _
  rw [if_neg h, if_neg h1, if_neg h2]
end Go.Proofs.Ytbgankldnjeohaa
