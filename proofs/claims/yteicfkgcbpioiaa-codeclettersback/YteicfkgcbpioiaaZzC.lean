/- The texts TabW, TabC, TabK, PkSameW, PkListW, TabA, EvMay, EvForm, EvCall, EvVal, one behind the other. -/
import Derived.Test.YteicfkgcbpioiaaZzB
import Derived.Test.YteicfkgcbpioiaaShelf
import Derived.Test.YteicfkgcbpioiaaNmWalks
import Derived.Lib.DecodeN
import Derived.Test.YteicfkgcbpioiaaMayW
import Derived.Lib.OthersKept
import Derived.LoopTactic
import Derived.Laws.RangeAny
import Derived.Test.YteicfkgcbpioiaaBase
import Derived.Test.YteicfkgcbpioiaaPkTextW
import Derived.Test.YteicfkgcbpioiaaBothW
import Derived.Test.YteicfkgcbpioiaaWriteW
/- unicode/utf8's decoder at tables of any content: the slow way, at a text of two bytes and more. -/
set_option linter.unusedVariables false
set_option maxRecDepth 100000
namespace Go.Proofs.Yteicfkgcbpioiaa
open Go.RowKit Go.Lib

/-- What the two tables hold. -/
structure Tb where
  F : Nat → Nat
  lo : Nat → Nat
  hi : Nat → Nat
/-- They lie in the world. -/
def TabX (t : Tb) (w : World) : Prop :=
  (∀ c, c < 256 → w.cell? ⟨1, c, none⟩ = some (.int .u8 (t.F c : Nat)) ∧ t.F c < 256) ∧
  (∀ i, i < 16 → w.cell? ⟨2, 2 * i, none⟩ = some (.int .u8 (t.lo i : Nat)) ∧ w.cell? ⟨2, 2 * i + 1, none⟩ = some (.int .u8 (t.hi i : Nat)))
theorem TabX.below {t : Tb} {B : Nat} {w w' : World} (h : TabX t w) (hb : Below B w w') (hB : 1 < B ∧ 2 < B) : TabX t w' :=
  ⟨fun c hc => ⟨(hb.cell (p := ⟨1, c, none⟩) hB.1).trans (h.1 c hc).1, (h.1 c hc).2⟩, fun i hi => ⟨(hb.cell (p := ⟨2, 2 * i, none⟩) hB.2).trans (h.2 i hi).1, (hb.cell (p := ⟨2, 2 * i + 1, none⟩) hB.2).trans (h.2 i hi).2⟩⟩
/-- What the slow way answers. -/
def slowX (t : Tb) (s : ByteArray) : Int × Nat :=
  if 240 ≤ t.F (s.get! 0).toNat then (if t.F (s.get! 0).toNat % 2 = 0 then (((s.get! 0).toNat : Nat) : Int) else 65533, 1)
  else ((((slowN s.size (s.get! 0).toNat (s.get! 1).toNat (s.get! 2).toNat (s.get! 3).toNat (t.F (s.get! 0).toNat % 8) (t.lo (t.F (s.get! 0).toNat / 16)) (t.hi (t.F (s.get! 0).toNat / 16))).1 : Nat) : Int), (slowN s.size (s.get! 0).toNat (s.get! 1).toNat (s.get! 2).toNat (s.get! 3).toNat (t.F (s.get! 0).toNat % 8) (t.lo (t.F (s.get! 0).toNat / 16)) (t.hi (t.F (s.get! 0).toNat / 16))).2)
theorem slowX_hi (t : Tb) (s : ByteArray) (x0 x1 x2 x3 : UInt8) (hx0 : s.get! 0 = x0) (x : Nat) (hF : t.F x0.toNat = x) (h : 240 ≤ x) : slowX t s = (if x % 2 = 0 then ((x0.toNat : Nat) : Int) else 65533, 1) := by
  unfold slowX; rw [hx0, hF, if_pos h]
theorem slowX_lo (t : Tb) (s : ByteArray) (x0 x1 x2 x3 : UInt8) (hx0 : s.get! 0 = x0) (hx1 : s.get! 1 = x1) (hx2 : s.get! 2 = x2) (hx3 : s.get! 3 = x3) (x : Nat) (hF : t.F x0.toNat = x) (h : ¬ 240 ≤ x) (L H : Nat) (hL : t.lo (x / 16) = L) (hH : t.hi (x / 16) = H) :
    slowX t s = ((((slowN s.size x0.toNat x1.toNat x2.toNat x3.toNat (x % 8) L H).1 : Nat) : Int), (slowN s.size x0.toNat x1.toNat x2.toNat x3.toNat (x % 8) L H).2) := by
  unfold slowX; rw [hx0, hx1, hx2, hx3, hF, hL, hH, if_neg h]
macro "utf8_leaf" : tactic => `(tactic|
  (unfold slowN
   repeat' split
   all_goals first
     | (exfalso; omega)
     | rfl
     | (simp only [Int.natCast_add, Int.natCast_mul, Int.natCast_emod, Int.natCast_ofNat]; rfl)))

set_option maxHeartbeats 4000000 in
theorem slow_hi (t : Tb) (s : ByteArray) (w : World) (hT : TabX t w) (h2 : 2 ≤ s.size) (hh : 240 ≤ t.F (s.get! 0).toNat) :
    Calls Try.prog 91 #[.string s] w fun e w' => e = .returned (.tuple #[.int .i32 (slowX t s).1, .int .i64 (slowX t s).2]) ∧ Below w.heap.size w w' := by
  have hz0 : (0 : Int) < (s.size : Int) := by omega
  have hz0' : ¬ ((s.size : Int) < 1) := by omega
  obtain ⟨x0, hx0⟩ : ∃ x0, s.get! 0 = x0 := ⟨_, rfl⟩
  obtain ⟨x1, hx1⟩ : ∃ x1, s.get! 1 = x1 := ⟨_, rfl⟩
  obtain ⟨x2, hx2⟩ : ∃ x2, s.get! 2 = x2 := ⟨_, rfl⟩
  obtain ⟨x3, hx3⟩ : ∃ x3, s.get! 3 = x3 := ⟨_, rfl⟩
  have hs0 : s[0]'(by omega) = x0 := by rw [← hx0]; exact (Utf8W.get!_of_lt s 0 (by omega)).symm
  have l0 := x0.toNat_lt
  rw [hx0] at hh
  obtain ⟨hc0, hc1⟩ := hT.1 x0.toNat (by omega)
  obtain ⟨x, hFx⟩ : ∃ x, t.F x0.toNat = x := ⟨_, rfl⟩
  rw [hFx] at hc0 hc1 hh
  have hx : x = 240 ∨ x = 241 ∨ x = 242 ∨ x = 243 ∨ x = 244 ∨ x = 245 ∨ x = 246 ∨ x = 247 ∨ x = 248 ∨ x = 249 ∨ x = 250 ∨ x = 251 ∨ x = 252 ∨ x = 253 ∨ x = 254 ∨ x = 255 := by omega
  clear hh hc1
  rcases hx with rfl | rfl | rfl | rfl | rfl | rfl | rfl | rfl | rfl | rfl | rfl | rfl | rfl | rfl | rfl | rfl
  · have hm : wrap32 515396075520 / 2147483648 = 0 := by unfold wrap32; omega
    rw [slowX_hi t s x0 x1 x2 x3 hx0 240 hFx (by decide)]
    clear hT hFx
    go_enter Try.func91, Try.ntmps91
    go_wp2
    rw [Utf8W.keep_byte ⟨x0.toNat, l0⟩]
    go_ret2
    exact ⟨rfl, Below.refl _ _⟩
  · have hm : wrap32 517543559168 / 2147483648 = (-1) := by unfold wrap32; omega
    rw [slowX_hi t s x0 x1 x2 x3 hx0 241 hFx (by decide)]
    clear hT hFx
    go_enter Try.func91, Try.ntmps91
    go_wp2
    rw [Utf8W.drop_byte ⟨x0.toNat, l0⟩]
    go_ret2
    exact ⟨rfl, Below.refl _ _⟩
  · have hm : wrap32 519691042816 / 2147483648 = 0 := by unfold wrap32; omega
    rw [slowX_hi t s x0 x1 x2 x3 hx0 242 hFx (by decide)]
    clear hT hFx
    go_enter Try.func91, Try.ntmps91
    go_wp2
    rw [Utf8W.keep_byte ⟨x0.toNat, l0⟩]
    go_ret2
    exact ⟨rfl, Below.refl _ _⟩
  · have hm : wrap32 521838526464 / 2147483648 = (-1) := by unfold wrap32; omega
    rw [slowX_hi t s x0 x1 x2 x3 hx0 243 hFx (by decide)]
    clear hT hFx
    go_enter Try.func91, Try.ntmps91
    go_wp2
    rw [Utf8W.drop_byte ⟨x0.toNat, l0⟩]
    go_ret2
    exact ⟨rfl, Below.refl _ _⟩
  · have hm : wrap32 523986010112 / 2147483648 = 0 := by unfold wrap32; omega
    rw [slowX_hi t s x0 x1 x2 x3 hx0 244 hFx (by decide)]
    clear hT hFx
    go_enter Try.func91, Try.ntmps91
    go_wp2
    rw [Utf8W.keep_byte ⟨x0.toNat, l0⟩]
    go_ret2
    exact ⟨rfl, Below.refl _ _⟩
  · have hm : wrap32 526133493760 / 2147483648 = (-1) := by unfold wrap32; omega
    rw [slowX_hi t s x0 x1 x2 x3 hx0 245 hFx (by decide)]
    clear hT hFx
    go_enter Try.func91, Try.ntmps91
    go_wp2
    rw [Utf8W.drop_byte ⟨x0.toNat, l0⟩]
    go_ret2
    exact ⟨rfl, Below.refl _ _⟩
  · have hm : wrap32 528280977408 / 2147483648 = 0 := by unfold wrap32; omega
    rw [slowX_hi t s x0 x1 x2 x3 hx0 246 hFx (by decide)]
    clear hT hFx
    go_enter Try.func91, Try.ntmps91
    go_wp2
    rw [Utf8W.keep_byte ⟨x0.toNat, l0⟩]
    go_ret2
    exact ⟨rfl, Below.refl _ _⟩
  · have hm : wrap32 530428461056 / 2147483648 = (-1) := by unfold wrap32; omega
    rw [slowX_hi t s x0 x1 x2 x3 hx0 247 hFx (by decide)]
    clear hT hFx
    go_enter Try.func91, Try.ntmps91
    go_wp2
    rw [Utf8W.drop_byte ⟨x0.toNat, l0⟩]
    go_ret2
    exact ⟨rfl, Below.refl _ _⟩
  · have hm : wrap32 532575944704 / 2147483648 = 0 := by unfold wrap32; omega
    rw [slowX_hi t s x0 x1 x2 x3 hx0 248 hFx (by decide)]
    clear hT hFx
    go_enter Try.func91, Try.ntmps91
    go_wp2
    rw [Utf8W.keep_byte ⟨x0.toNat, l0⟩]
    go_ret2
    exact ⟨rfl, Below.refl _ _⟩
  · have hm : wrap32 534723428352 / 2147483648 = (-1) := by unfold wrap32; omega
    rw [slowX_hi t s x0 x1 x2 x3 hx0 249 hFx (by decide)]
    clear hT hFx
    go_enter Try.func91, Try.ntmps91
    go_wp2
    rw [Utf8W.drop_byte ⟨x0.toNat, l0⟩]
    go_ret2
    exact ⟨rfl, Below.refl _ _⟩
  · have hm : wrap32 536870912000 / 2147483648 = 0 := by unfold wrap32; omega
    rw [slowX_hi t s x0 x1 x2 x3 hx0 250 hFx (by decide)]
    clear hT hFx
    go_enter Try.func91, Try.ntmps91
    go_wp2
    rw [Utf8W.keep_byte ⟨x0.toNat, l0⟩]
    go_ret2
    exact ⟨rfl, Below.refl _ _⟩
  · have hm : wrap32 539018395648 / 2147483648 = (-1) := by unfold wrap32; omega
    rw [slowX_hi t s x0 x1 x2 x3 hx0 251 hFx (by decide)]
    clear hT hFx
    go_enter Try.func91, Try.ntmps91
    go_wp2
    rw [Utf8W.drop_byte ⟨x0.toNat, l0⟩]
    go_ret2
    exact ⟨rfl, Below.refl _ _⟩
  · have hm : wrap32 541165879296 / 2147483648 = 0 := by unfold wrap32; omega
    rw [slowX_hi t s x0 x1 x2 x3 hx0 252 hFx (by decide)]
    clear hT hFx
    go_enter Try.func91, Try.ntmps91
    go_wp2
    rw [Utf8W.keep_byte ⟨x0.toNat, l0⟩]
    go_ret2
    exact ⟨rfl, Below.refl _ _⟩
  · have hm : wrap32 543313362944 / 2147483648 = (-1) := by unfold wrap32; omega
    rw [slowX_hi t s x0 x1 x2 x3 hx0 253 hFx (by decide)]
    clear hT hFx
    go_enter Try.func91, Try.ntmps91
    go_wp2
    rw [Utf8W.drop_byte ⟨x0.toNat, l0⟩]
    go_ret2
    exact ⟨rfl, Below.refl _ _⟩
  · have hm : wrap32 545460846592 / 2147483648 = 0 := by unfold wrap32; omega
    rw [slowX_hi t s x0 x1 x2 x3 hx0 254 hFx (by decide)]
    clear hT hFx
    go_enter Try.func91, Try.ntmps91
    go_wp2
    rw [Utf8W.keep_byte ⟨x0.toNat, l0⟩]
    go_ret2
    exact ⟨rfl, Below.refl _ _⟩
  · have hm : wrap32 547608330240 / 2147483648 = (-1) := by unfold wrap32; omega
    rw [slowX_hi t s x0 x1 x2 x3 hx0 255 hFx (by decide)]
    clear hT hFx
    go_enter Try.func91, Try.ntmps91
    go_wp2
    rw [Utf8W.drop_byte ⟨x0.toNat, l0⟩]
    go_ret2
    exact ⟨rfl, Below.refl _ _⟩

set_option maxHeartbeats 4000000 in
theorem slow_lo (t : Tb) (s : ByteArray) (w : World) (hT : TabX t w) (h2 : 2 ≤ s.size) (hh : ¬ 240 ≤ t.F (s.get! 0).toNat) :
    Calls Try.prog 91 #[.string s] w fun e w' => e = .returned (.tuple #[.int .i32 (slowX t s).1, .int .i64 (slowX t s).2]) ∧ Below w.heap.size w w' := by
  have hz0 : (0 : Int) < (s.size : Int) := by omega
  have hz0' : ¬ ((s.size : Int) < 1) := by omega
  have hz1 : (1 : Int) < (s.size : Int) := by omega
  obtain ⟨x0, hx0⟩ : ∃ x0, s.get! 0 = x0 := ⟨_, rfl⟩
  obtain ⟨x1, hx1⟩ : ∃ x1, s.get! 1 = x1 := ⟨_, rfl⟩
  obtain ⟨x2, hx2⟩ : ∃ x2, s.get! 2 = x2 := ⟨_, rfl⟩
  obtain ⟨x3, hx3⟩ : ∃ x3, s.get! 3 = x3 := ⟨_, rfl⟩
  have hs0 : s[0]'(by omega) = x0 := by rw [← hx0]; exact (Utf8W.get!_of_lt s 0 (by omega)).symm
  have hs1 : s[1]'(by omega) = x1 := by rw [← hx1]; exact (Utf8W.get!_of_lt s 1 (by omega)).symm
  have l0 := x0.toNat_lt; have l1 := x1.toNat_lt; have l2 := x2.toNat_lt; have l3 := x3.toNat_lt
  rw [hx0] at hh
  obtain ⟨hc0, hc1⟩ := hT.1 x0.toNat (by omega)
  obtain ⟨x, hFx⟩ : ∃ x, t.F x0.toNat = x := ⟨_, rfl⟩
  rw [hFx] at hc0 hc1 hh
  obtain ⟨ha0, ha1⟩ := hT.2 (x / 16) (by omega)
  obtain ⟨L, hL⟩ : ∃ L, t.lo (x / 16) = L := ⟨_, rfl⟩
  obtain ⟨H, hH⟩ : ∃ H, t.hi (x / 16) = H := ⟨_, rfl⟩
  rw [slowX_lo t s x0 x1 x2 x3 hx0 hx1 hx2 hx3 x hFx hh L H hL hH]
  rw [hL] at ha0
  rw [hH] at ha1
  clear hL hH hFx hT
  obtain ⟨i, hi⟩ : ∃ i, x / 16 = i := ⟨_, rfl⟩
  have hi16 : i < 16 := by omega
  rw [hi, Nat.mul_comm] at ha0 ha1
  have h8 : x % 8 < 8 := Nat.mod_lt _ (by decide)
  by_cases h3 : 2 < s.size
  · have hs2 : s[2]'h3 = x2 := by rw [← hx2]; exact (Utf8W.get!_of_lt s 2 (by omega)).symm
    by_cases h4 : 3 < s.size
    · have hs3 : s[3]'h4 = x3 := by rw [← hx3]; exact (Utf8W.get!_of_lt s 3 (by omega)).symm
      have hz2 : (2 : Int) < (s.size : Int) := by omega
      have hz3 : (3 : Int) < (s.size : Int) := by omega
      go_enter Try.func91, Try.ntmps91
      go_wp2
      all_goals (go_ret2; refine ⟨?_, (Below.refl _ _).alloc (Nat.le_refl _) _⟩; utf8_leaf)
    · have hz2 : (2 : Int) < (s.size : Int) := by omega
      have hz3 : (s.size : Int) = 3 := by omega
      go_enter Try.func91, Try.ntmps91
      go_wp2
      all_goals (go_ret2; refine ⟨?_, (Below.refl _ _).alloc (Nat.le_refl _) _⟩; utf8_leaf)
  · have hz2 : (s.size : Int) = 2 := by omega
    go_enter Try.func91, Try.ntmps91
    go_wp2
    all_goals (go_ret2; refine ⟨?_, (Below.refl _ _).alloc (Nat.le_refl _) _⟩; utf8_leaf)
end Go.Proofs.Yteicfkgcbpioiaa

/- DecodeRuneInString, and Compare of two names, at tables of any content. -/
set_option linter.unusedVariables false
set_option linter.unusedSimpArgs false
set_option maxRecDepth 100000
namespace Go.Proofs.Yteicfkgcbpioiaa
open Go.RowKit Go.Lib

theorem emp_list (s : ByteArray) (h : s.size = 0) : s.data.toList = [] := List.eq_nil_of_length_eq_zero ((Array.length_toList (xs := s.data)).trans h)
theorem emp_yes (c : ByteArray) (h : c.size = 0) : c.toList.isEmpty = true := by rw [Lib.toList_data, emp_list c h]; rfl
theorem emp_no (c : ByteArray) (h : c.size ≠ 0) : c.toList.isEmpty = false := by
  rw [Lib.toList_data]
  cases e : c.data.toList with
  | nil =>
    have : c.data.toList.length = c.size := Array.length_toList
    rw [e] at this
    exact absurd this.symm h
  | cons x l => rfl
/-- What DecodeRuneInString answers. -/
def decX (t : Tb) (s : ByteArray) : Int × Nat := if (s.get! 0).toNat < 128 then ((((s.get! 0).toNat : Nat) : Int), 1) else slowX t s
theorem slow_any (t : Tb) (s : ByteArray) (w : World) (hT : TabX t w) (h2 : 2 ≤ s.size) :
    Calls Try.prog 91 #[.string s] w fun e w' => e = .returned (.tuple #[.int .i32 (slowX t s).1, .int .i64 (slowX t s).2]) ∧ Below w.heap.size w w' := by
  by_cases h : 240 ≤ t.F (s.get! 0).toNat
  · exact slow_hi t s w hT h2 h
  · exact slow_lo t s w hT h2 h
theorem decX_any (t : Tb) (s : ByteArray) (w : World) (hT : TabX t w) (h0 : s.size ≠ 0) (h2 : ¬ (s.get! 0).toNat < 128 → 2 ≤ s.size) :
    Calls Try.prog 90 #[.string s] w fun e w' => e = .returned (.tuple #[.int .i32 (decX t s).1, .int .i64 (decX t s).2]) ∧ Below w.heap.size w w' := by
  have hempty := emp_no s h0
  have hz0 : (0 : Int) < (s.size : Int) := by omega
  by_cases hb : (s.get! 0).toNat < 128
  · have e : decX t s = ((((s.get! 0).toNat : Nat) : Int), 1) := by unfold decX; rw [if_pos hb]
    rw [e]
    obtain ⟨x0, hx0⟩ : ∃ x0, s.get! 0 = x0 := ⟨_, rfl⟩
    have hs0 : s[0]'(by omega) = x0 := by rw [← hx0]; exact (Utf8W.get!_of_lt s 0 (by omega)).symm
    rw [hx0] at hb ⊢
    have hbz : (x0.toNat : Int) < 128 := by omega
    clear hT h2 e hb hx0
    go_enter Try.func90, Try.ntmps90
    go_wp2
    go_ret2
    exact ⟨rfl, Below.refl _ _⟩
  · have e : decX t s = slowX t s := by unfold decX; rw [if_neg hb]
    rw [e]
    have C := slow_any t s w hT (h2 hb)
    obtain ⟨x0, hx0⟩ : ∃ x0, s.get! 0 = x0 := ⟨_, rfl⟩
    have hs0 : s[0]'(by omega) = x0 := by rw [← hx0]; exact (Utf8W.get!_of_lt s 0 (by omega)).symm
    rw [hx0] at hb
    have hbz : ¬ (x0.toNat : Int) < 128 := by omega
    clear hT h2 e hb hx0
    generalize slowX t s = p at *
    go_enter Try.func90, Try.ntmps90
    go_wp2_with fail
    refine C.mono ?_
    rintro e w2 ⟨rfl, hb2⟩
    go_wp2_with fail
    go_ret2
    exact ⟨rfl, hb2⟩

/-- A rune that a name may have. -/
def nR (r : Nat) : Prop := (97 ≤ r ∧ r ≤ 122) ∨ r = 228 ∨ r = 246 ∨ r = 252 ∨ r = 223 ∨ (945 ≤ r ∧ r ≤ 969) ∨ (48 ≤ r ∧ r ≤ 57) ∨ r = 45
theorem isGo_nR : ∀ (l : List Nat) (n : Nat), NameMath.isGo l n = true → ∀ r ∈ l, nR r
  | [], _, _, r, hr => by cases hr
  | x :: l, n, h, r, hr => by
    unfold NameMath.isGo at h
    split at h
    · cases h
    · rename_i h1
      split at h
      · cases h
      · rcases List.mem_cons.1 hr with rfl | hr
        · by_cases hs : NameMath.small r = true
          · simp [NameMath.small] at hs; unfold nR; omega
          · have hd : NameMath.dig r = true := by
              cases e : NameMath.dig r with
              | true => rfl
              | false => exact absurd ⟨by simpa using hs, Or.inr e⟩ h1
            simp [NameMath.dig] at hd; unfold nR; omega
        · exact isGo_nR l (n + 1) h r hr
theorem nR_bytes (n b0 b1 b2 b3 : Nat) (hn : 1 ≤ n) (h0 : b0 < 256) (h1 : b1 < 256) (hr : nR (decodeN n b0 b1 b2 b3).1) :
    (b0 < 128 ∧ (decodeN n b0 b1 b2 b3).2 = 1 ∧ (decodeN n b0 b1 b2 b3).1 = b0) ∨
    (128 ≤ b0 ∧ 2 ≤ n ∧ (decodeN n b0 b1 b2 b3).2 = 2 ∧ (decodeN n b0 b1 b2 b3).1 = b0 % 32 * 64 + b1 % 64 ∧ (b0 = 195 ∨ b0 = 206 ∨ b0 = 207)) := by
  unfold nR decodeN at *
  repeat' split
  all_goals simp_all
  all_goals omega
theorem slowX_name (t : Tb) (s : ByteArray) (hb : (s.get! 0).toNat = 195 ∨ (s.get! 0).toNat = 206 ∨ (s.get! 0).toNat = 207) :
    slowX t s = ((((s.get! 0).toNat % 32 * 64 + (s.get! 1).toNat % 64 : Nat) : Int), 2) ∨ ∀ q, nR q → (slowX t s).1 ≠ (q : Int) := by
  unfold slowX
  generalize (s.get! 0).toNat = b0 at *
  generalize (s.get! 1).toNat = b1 at *
  generalize (s.get! 2).toNat = b2 at *
  generalize (s.get! 3).toNat = b3 at *
  generalize t.F b0 = x at *
  split
  · refine Or.inr fun q hq => ?_
    unfold nR at hq
    split
    · show (b0 : Int) ≠ q
      omega
    · show (65533 : Int) ≠ q
      omega
  · unfold slowN
    split
    · exact Or.inr fun q hq => by unfold nR at hq; show ((65533 : Nat) : Int) ≠ q; omega
    split
    · exact Or.inr fun q hq => by unfold nR at hq; show ((65533 : Nat) : Int) ≠ q; omega
    split
    · exact Or.inl rfl
    split
    · exact Or.inr fun q hq => by unfold nR at hq; show ((65533 : Nat) : Int) ≠ q; omega
    split
    · exact Or.inr fun q hq => by unfold nR at hq; show ((b0 % 16 * 4096 + b1 % 64 * 64 + b2 % 64 : Nat) : Int) ≠ q; omega
    split
    · exact Or.inr fun q hq => by unfold nR at hq; show ((65533 : Nat) : Int) ≠ q; omega
    · exact Or.inr fun q hq => by unfold nR at hq; show ((b0 % 8 * 262144 + b1 % 64 * 4096 + b2 % 64 * 64 + b3 % 64 : Nat) : Int) ≠ q; omega

/-- All of the text's runes are a name's. -/
def Good (l : List UInt8) : Prop := ∀ r ∈ NameMath.runes l, nR r
theorem good_of {s : ByteArray} (h : isNm s = true) : Good s.data.toList := isGo_nR _ 0 h
theorem decX_name (t : Tb) (c : ByteArray) (h : c.size ≠ 0) (hg : Good c.data.toList) : ∃ r k : Nat, 1 ≤ k ∧ k ≤ c.size ∧ nR r ∧
    NameMath.runes c.data.toList = r :: NameMath.runes (c.extract k c.size).data.toList ∧ (¬ (c.get! 0).toNat < 128 → 2 ≤ c.size) ∧
    (decX t c = ((r : Int), k) ∨ ∀ q, nR q → (decX t c).1 ≠ (q : Int)) := by
  obtain ⟨r, k, hr, hk1, hk2, hdec, hne, hrun, hcut, hd1, hd2⟩ := Nm.next_at c 0 (by omega)
  rw [List.drop_zero, Nat.zero_add] at hrun
  have hN : nR r := hg r (by rw [hrun]; simp)
  rw [Lib.decode_at, Nat.sub_zero] at hd1 hd2
  have l0 := (c.get! 0).toNat_lt
  have l1 := (c.get! (0 + 1)).toNat_lt
  have hB := nR_bytes c.size (c.get! 0).toNat (c.get! (0 + 1)).toNat (c.get! (0 + 2)).toNat (c.get! (0 + 3)).toNat (by omega) (by omega) (by omega) (by rw [hd1]; exact hN)
  rw [hd1, hd2] at hB
  refine ⟨r, k, hk1, by omega, hN, ?_, ?_, ?_⟩
  · rw [hrun]
    congr 2
    have hl : c.data.toList.length = c.size := Array.length_toList
    simp [ByteArray.data_extract, Array.toList_extract, List.extract]
    rw [List.take_of_length_le (by simp)]
  · intro h8
    rcases hB with ⟨h1, _⟩ | ⟨_, h2, _⟩
    · exact absurd h1 h8
    · exact h2
  · rcases hB with ⟨h1, h2, h3⟩ | ⟨h1, h2, h3, h4, h5⟩
    · left
      unfold decX
      rw [if_pos h1, h2, h3]
    · unfold decX
      rw [if_neg (by omega), h3, h4]
      exact slowX_name t c h5
/-- Compare, at these tables. -/
def cmpX (t : Tb) : List Nat → ByteArray → Int
  | [], c => if c.size = 0 then 0 else -1
  | r :: l, c => if c.size = 0 then 1 else if (r : Int) < (decX t c).1 then -1 else if (decX t c).1 < (r : Int) then 1 else cmpX t l (c.extract (decX t c).2 c.size)
theorem cmpX_nil0 (t : Tb) (c : ByteArray) (h : c.size = 0) : cmpX t [] c = 0 := by unfold cmpX; rw [if_pos h]
theorem cmpX_nil1 (t : Tb) (c : ByteArray) (h : c.size ≠ 0) : cmpX t [] c = -1 := by unfold cmpX; rw [if_neg h]
theorem cmpX_c0 (t : Tb) (r : Nat) (l : List Nat) (c : ByteArray) (h : c.size = 0) : cmpX t (r :: l) c = 1 := by unfold cmpX; rw [if_pos h]
theorem cmpX_lt (t : Tb) (r : Nat) (l : List Nat) (c : ByteArray) (h : c.size ≠ 0) (h1 : (r : Int) < (decX t c).1) : cmpX t (r :: l) c = -1 := by unfold cmpX; rw [if_neg h, if_pos h1]
theorem cmpX_gt (t : Tb) (r : Nat) (l : List Nat) (c : ByteArray) (h : c.size ≠ 0) (h1 : ¬ (r : Int) < (decX t c).1) (h2 : (decX t c).1 < (r : Int)) : cmpX t (r :: l) c = 1 := by unfold cmpX; rw [if_neg h, if_neg h1, if_pos h2]
theorem cmpX_eq (t : Tb) (r : Nat) (l : List Nat) (c : ByteArray) (h : c.size ≠ 0) (h1 : ¬ (r : Int) < (decX t c).1) (h2 : ¬ (decX t c).1 < (r : Int)) : cmpX t (r :: l) c = cmpX t l (c.extract (decX t c).2 c.size) := by
  show (if c.size = 0 then 1 else _) = _
  rw [if_neg h, if_neg h1, if_neg h2]
end Go.Proofs.Yteicfkgcbpioiaa

/- Compare of two names, at tables of any content: the walk. -/
set_option linter.unusedVariables false
set_option linter.unusedSimpArgs false
set_option maxRecDepth 100000
namespace Go.Proofs.Yteicfkgcbpioiaa
open Go.RowKit

set_option maxHeartbeats 1000000 in
theorem compareX (t : Tb) (a b : ByteArray) (hb : b.size ≤ 140737488355328) (hga : Hid (Good a.data.toList)) (hgb : Hid (Good b.data.toList)) (w : World) (hT : Hid (TabX t w)) (hlow : 1 < w.heap.size ∧ 2 < w.heap.size) :
    Calls Try.prog 89 #[.string a, .string b] w fun e w' => e = .returned (.int .i64 (cmpX t (NameMath.runes a.data.toList) b)) ∧ Below w.heap.size w w' := by
  have hlow' : Hid (1 < w.heap.size ∧ 2 < w.heap.size) := hlow
  clear hlow
  go_enter Try.func89, Try.ntmps89
  go_wp2
  go_loopw [5] (fun x wr => ∃ (pos : Nat) (c : ByteArray), wr.heap[w.heap.size]? = some (.stringIter a pos) ∧ pos ≤ a.size ∧ x = .string c ∧ c.size ≤ 140737488355328 ∧ Below w.heap.size w wr ∧ Hid (Good c.data.toList) ∧
      Hid (cmpX t (NameMath.runes a.data.toList) b = cmpX t (NameMath.runes (a.data.toList.drop pos)) c) ∧ Hid (∀ r ∈ NameMath.runes (a.data.toList.drop pos), nR r)) (fun _ wr => a.size - wr.iterPos w.heap.size)
  case atStart => exact ⟨0, b, World.iter_heap w a 0, Nat.zero_le _, rfl, hb, Nm.below_iter _ _ _, hgb, rfl, hga⟩
  case round =>
    obtain ⟨pos, c, hit, hpos, rfl, hc, hbw, HG, HI, HR⟩ := hrel
    have hme : wr.iterPos w.heap.size = pos := by simp [World.iterPos, hit]
    by_cases hlt : pos < a.size
    · obtain ⟨r, k, hr, hk1, hk2, hdec, hne, hrun, hcut, hd1, hd2⟩ := Nm.next_at a pos hlt
      have hnx := fun ty => Lib.run_next_any_at (P := Try.prog) wr w.heap.size a pos ty hit hlt
      rw [hd1, hd2] at hnx
      rw [hrun] at HI HR
      have hit2 := Lib.iterAt_heap wr w.heap.size a pos (pos + k) hit
      have hb2 := Lib.below_iterAt hbw (Nat.le_refl _) a (pos + k)
      clear hrun hcut hdec hd1 hd2 hne
      have hz : w.heap.size < (wr.iterAt w.heap.size a (pos + k)).heap.size := (Array.getElem?_eq_some_iff.1 hit2).1
      generalize wr.iterAt w.heap.size a (pos + k) = w2 at *
      have hT2 : Hid (TabX t w2) := hT.out.below hb2 hlow'.out
      have HQ : Hid (nR r) := HR.out r (by simp)
      have HR2 : Hid (∀ r ∈ NameMath.runes (a.data.toList.drop (pos + k)), nR r) := fun q hq => HR.out q (by simp [hq])
      clear HR
      by_cases h0 : c.size = 0
      · have hempty : c.toList.isEmpty = true := emp_yes c h0
        have HE : Hid (cmpX t (NameMath.runes a.data.toList) b = 1) := by show _ = _; rw [HI.out, cmpX_c0 t _ _ _ h0]
        clear HI hme HG HQ HR2
        go_wp2_with fail
        go_ret
        exact ⟨Nm.ret_int HE.out.symm, hb2⟩
      · have hempty : c.toList.isEmpty = false := emp_no c h0
        obtain ⟨r2, k2, hj1, hj2, hN2, hrun2, h2b, hor⟩ := decX_name t c h0 HG.out
        have HCL : Hid (Calls Try.prog 90 #[.string c] w2 fun e w' => e = .returned (.tuple #[.int .i32 (decX t c).1, .int .i64 (decX t c).2]) ∧ Below w2.heap.size w2 w') := decX_any t c w2 hT2.out h0 h2b
        clear h2b
        by_cases h1 : (r : Int) < (decX t c).1
        · have HE : Hid (cmpX t (NameMath.runes a.data.toList) b = -1) := by show _ = _; rw [HI.out, cmpX_lt t _ _ _ h0 h1]
          clear HI HG HQ HR2 hor hrun2
          generalize decX t c = p at *
          go_wp2_with fail
          refine HCL.out.mono ?_
          rintro e w3 ⟨rfl, hb3⟩
          go_wp2_with fail
          go_ret
          exact ⟨Nm.ret_int HE.out.symm, hb2.trans (hb3.mono hb2.size)⟩
        · by_cases h2 : (decX t c).1 < (r : Int)
          · have HE : Hid (cmpX t (NameMath.runes a.data.toList) b = 1) := by show _ = _; rw [HI.out, cmpX_gt t _ _ _ h0 h1 h2]
            clear HI HG HQ HR2 hor hrun2
            generalize decX t c = p at *
            go_wp2_with fail
            refine HCL.out.mono ?_
            rintro e w3 ⟨rfl, hb3⟩
            go_wp2_with fail
            go_ret
            exact ⟨Nm.ret_int HE.out.symm, hb2.trans (hb3.mono hb2.size)⟩
          · have hd : decX t c = ((r2 : Int), k2) := by
              rcases hor with h | h
              · exact h
              · exact absurd (by omega) (h r HQ.out)
            have HE : Hid (cmpX t (NameMath.runes a.data.toList) b = cmpX t (NameMath.runes (a.data.toList.drop (pos + k))) (c.extract k2 c.size)) := by
              show _ = _
              rw [HI.out, cmpX_eq t _ _ _ h0 h1 h2, hd]
            have HG2 : Hid (Good (c.extract k2 c.size).data.toList) := fun q hq => HG.out q (by rw [hrun2]; exact List.mem_cons_of_mem _ hq)
            rw [hd] at HCL h1 h2
            have h1' : ¬ (r : Int) < (r2 : Int) := h1
            have h2' : ¬ (r2 : Int) < (r : Int) := h2
            clear HI HG HQ hor hrun2 hd h1 h2
            go_wp2_with fail
            refine HCL.out.mono ?_
            rintro e w3 ⟨rfl, hb3⟩
            go_wp2_with fail
            have hit3 : w3.heap[w.heap.size]? = some (.stringIter a (pos + k)) := (hb3.block _ hz).trans hit2
            have hm3 : w3.iterPos w.heap.size = pos + k := by simp [World.iterPos, hit3]
            exact ⟨⟨pos + k, _, hit3, hk2, rfl, by simp; omega, hb2.trans (hb3.mono hb2.size), HG2, HE, HR2⟩, by rw [hm3, hme]; omega⟩
    · have hnx := fun ty => Lib.run_next_end_at (P := Try.prog) wr w.heap.size a pos ty hit hlt
      rw [Nm.drop_end a pos hlt] at HI
      by_cases h0 : c.size = 0
      · have hempty : c.toList.isEmpty = true := emp_yes c h0
        have HE : Hid (cmpX t (NameMath.runes a.data.toList) b = 0) := by show _ = _; rw [HI.out]; exact cmpX_nil0 t c h0
        clear HI hme
        go_wp2_with fail
        go_ret
        exact ⟨Nm.ret_int HE.out.symm, hbw⟩
      · have hempty : c.toList.isEmpty = false := emp_no c h0
        have HE : Hid (cmpX t (NameMath.runes a.data.toList) b = -1) := by show _ = _; rw [HI.out]; exact cmpX_nil1 t c h0
        clear HI
        go_wp2_with fail
        go_ret
        exact ⟨Nm.ret_int HE.out.symm, hbw⟩
end Go.Proofs.Yteicfkgcbpioiaa

/- Lists of texts in memory, more; the walk of the laws' own 'same'. -/
set_option linter.unusedVariables false
set_option maxRecDepth 100000
namespace Go.Proofs.Yteicfkgcbpioiaa.Pk
open Go.RowKit

theorem srow_cell {w : World} {ao : Option Addr} {n cap : Nat} {xs : List (List UInt8)} (h : SRow w (.slice ao n cap) xs) (j : Nat) (hj : j < xs.length) : ∃ g o, ao = some ⟨g, o, none⟩ ∧ w.cell? ⟨g, o + j, none⟩ = some (strV xs[j]) := by
  obtain ⟨ao', cap', hv, _, hrow⟩ := h
  obtain ⟨rfl, _, _⟩ : ao = ao' ∧ n = xs.length ∧ cap = cap' := by simpa using hv
  exact hrow j hj
theorem srow_drewN {w : World} {v : Value} {xs : List (List UInt8)} (h : SRow w v xs) (n : Nat) : SRow (w.drewN n) v xs := by
  obtain ⟨ao, cap, rfl, hc, hrow⟩ := h
  refine ⟨ao, cap, rfl, hc, fun j hj => ?_⟩
  obtain ⟨g, o, h1, h2⟩ := hrow j hj
  exact ⟨g, o, h1, by rw [← h2]; simp [World.cell?]⟩
theorem srow_set {w : World} {v : Value} {xs : List (List UInt8)} (h : SRow w v xs) (p : Addr) (u : Value) (hne : ∀ g, v.ownBlock = some g → g ≠ p.block) : SRow (w.setCell p u) v xs := by
  obtain ⟨ao, cap, rfl, hc, hrow⟩ := h
  refine ⟨ao, cap, rfl, hc, fun j hj => ?_⟩
  obtain ⟨g, o, rfl, h2⟩ := hrow j hj
  refine ⟨g, o, rfl, ?_⟩
  rw [World.cell?_setCell_other w _ _ _ (fun e => hne g rfl (by rw [e]))]
  exact h2
/-- What an owned row that is not empty looks like. -/
theorem own_shape {w : World} {B e n : Nat} {v : Value} {xs : List Value} (h : w.ownsRow B e 1 v n xs) (hn : 0 < n) : ∃ g cap, v = .slice (some ⟨g, 0, none⟩) n cap ∧ B ≤ g ∧ g < w.heap.size ∧ n ≤ cap ∧ cap ≤ maxLen ∧
    (∀ j, j < n → w.cell? ⟨g, j, none⟩ = xs[j]?) ∧ ∀ j, w.frozen? ⟨g, j, none⟩ = false := by
  rcases h.2 with ⟨rfl, h0⟩ | ⟨g, cap, cur, rfl, hb, hg, hnc, hcm, hcs, htake⟩
  · omega
  · exact ⟨g, cap, rfl, hb, (Array.getElem?_eq_some_iff.1 hg).1, hnc, hcm, fun j hj => h.cellAt j (by omega), fun j => h.frozenAt j⟩

theorem below_drew_of {B : Nat} {w w1 w' : World} (h : Below B w w1) {q : Nat} (e : w' = w1.drewN q) : Below B w w' := by rw [e]; exact below_drewN h q
end Go.Proofs.Yteicfkgcbpioiaa.Pk
/- The walk of List, in package pack. -/
set_option linter.unusedVariables false
set_option maxRecDepth 100000
namespace Go.Proofs.Yteicfkgcbpioiaa.Pk
open Go.RowKit

/-- What List answers. -/
def lsV (xs : List (List UInt8)) : Value := if 4000 < xs.length ∨ ∃ s ∈ xs, 2000 < s.length then .tuple #[.string ⟨#[]⟩, .int .i64 2] else .tuple #[strV (PackMath.lst xs), .int .i64 0]
theorem lsV_many (xs : List (List UInt8)) (h : 4000 < xs.length) : lsV xs = .tuple #[.string ⟨#[]⟩, .int .i64 2] := by unfold lsV; rw [if_pos (Or.inl h)]
theorem lsV_long (xs : List (List UInt8)) (s : List UInt8) (h : s ∈ xs) (h2 : 2000 < s.length) : lsV xs = .tuple #[.string ⟨#[]⟩, .int .i64 2] := by unfold lsV; rw [if_pos (Or.inr ⟨s, h, h2⟩)]
theorem lsV_ok (xs : List (List UInt8)) (h : xs.length ≤ 4000) (h2 : ∀ s ∈ xs, s.length ≤ 2000) : lsV xs = .tuple #[strV (PackMath.lst xs), .int .i64 0] := by
  unfold lsV
  rw [if_neg]
  rintro (h3 | ⟨s, h3, h4⟩)
  · omega
  · have := h2 s h3; omega

/-- The pieces: the count, then for each text its length and itself. -/
def pcs (n : Nat) (xs : List (List UInt8)) : List (List UInt8) := PackMath.num n :: xs.flatMap fun s => [PackMath.num s.length, s]
theorem pcs_length (n : Nat) (xs : List (List UInt8)) : (pcs n xs).length = 1 + 2 * xs.length := by
  unfold pcs
  rw [List.length_cons]
  have : (xs.flatMap fun s => [PackMath.num s.length, s]).length = 2 * xs.length := by
    induction xs with
    | nil => rfl
    | cons x r ih => rw [List.flatMap_cons, List.length_append, ih]; simp; omega
  omega
theorem pcs_flat (n : Nat) (xs : List (List UInt8)) : (pcs n xs).flatten = PackMath.num n ++ PackMath.txts xs := by
  unfold pcs
  rw [List.flatten_cons]
  congr 1
  unfold PackMath.txts
  induction xs with
  | nil => rfl
  | cons x r ih => rw [List.flatMap_cons, List.flatten_append, ih, List.flatMap_cons]; simp [PackMath.txt]
theorem pcs_snoc (n k : Nat) (xs : List (List UInt8)) (h : k < xs.length) : pcs n (xs.take (k + 1)) = pcs n (xs.take k) ++ [PackMath.num xs[k].length, xs[k]] := by
  unfold pcs
  rw [List.take_succ_eq_append_getElem h, List.flatMap_append]
  simp
theorem txts_len (xs : List (List UInt8)) (h2 : ∀ s ∈ xs, s.length ≤ 2000) : (PackMath.txts xs).length ≤ 2008 * xs.length := by
  unfold PackMath.txts
  induction xs with
  | nil => simp
  | cons x r ih =>
    have h1 := h2 x (List.mem_cons_self ..)
    have h3 := PackMath.num_len8 x.length (by omega)
    have h4 := ih (fun s hs => h2 s (List.mem_cons_of_mem _ hs))
    have h5 : (PackMath.txt x).length = (PackMath.num x.length).length + x.length := by unfold PackMath.txt; rw [List.length_append]
    rw [List.flatMap_cons, List.length_append, List.length_cons]
    omega
theorem two_new (w : World) (u v : Value) (t : TypeId) : ∀ (j : Nat) (x : Value), [u, v][j]? = some x → (w.alloc (.cells #[u, v] t)).cell? ((⟨w.heap.size, 0, none⟩ : Addr).add j) = some x := by
  intro j x hj
  match j, hj with
  | 0, hj => simp at hj; subst hj; simp [Addr.add]
  | 1, hj => simp at hj; subst hj; simp [Addr.add]
theorem two_cell (s t : ByteArray) : ∀ u ∈ [Value.string s, Value.string t], u.oneCell' = true := by intro u hu; simp at hu; rcases hu with rfl | rfl <;> rfl

set_option maxHeartbeats 2000000 in
theorem list_any (v : Value) (xs : List (List UInt8)) (hx : xs.length ≤ 140737488355328) (hxs : ∀ s ∈ xs, s.length ≤ 140737488351232) (w : World) (hS : SRow w v xs) :
    Calls Try.prog 88 #[v] w fun e w' => e = .returned (lsV xs) ∧ Below w.heap.size w w' := by
  obtain ⟨i0, hi, hz0, hz1, hz2⟩ := info_parts infoS
  obtain ⟨ao, cap, rfl, hcap, hrow⟩ := hS
  by_cases h4 : 4000 < xs.length
  · rw [lsV_many xs h4]
    have q : (4000 : Int) < (xs.length : Int) := by omega
    clear hrow h4 hxs
    go_enter Try.func88, Try.ntmps88
    go_wp2
    go_ret2
    exact ⟨rfl, Below.refl _ _⟩
  · have q : ¬ (4000 : Int) < (xs.length : Int) := by omega
    have HR : Hid (∀ j, (h : j < xs.length) → ∃ g o, ao = some ⟨g, o, none⟩ ∧ w.cell? ⟨g, o + j, none⟩ = some (strV xs[j])) := hrow
    have HXS : Hid (∀ s ∈ xs, s.length ≤ 140737488351232) := hxs
    obtain ⟨w1, hmk, hown1, hgr1⟩ := run_make_own (P := Try.prog) w w.heap.size 29 9 i0 (.string ⟨#[]⟩) 1 Try.underlying29 hi hz0 hz1 .i64 .i64 (1 + 2 * xs.length) (by rw [hz2]; omega) (by unfold maxLen; omega) (Nat.le_refl _)
    rw [show ((1 + 2 * xs.length : Nat) : Int) = 1 + 2 * (xs.length : Int) by omega] at hmk
    have hb1 : Below w.heap.size w w1 := (Below.refl _ w).grown hgr1 (Nat.le_refl _) (fun k h => by cases h)
    have C1 : Hid (∀ n : Nat, n ≤ 4000 → ∀ w, Calls Try.prog 74 #[.int .i64 (n : Int)] w fun e w' => e = .returned (.string ⟨(PackMath.num n).toArray⟩) ∧ Below w.heap.size w w') := fun n h w => numBytes_any n (by omega) w
    clear hgr1 hrow hxs
    go_enter Try.func88, Try.ntmps88
    go_wp2_with fail
    refine (C1.out xs.length (by omega) _).mono ?_
    rintro e w2 ⟨rfl, hb2⟩
    have hown2 := own_below hown1 hb2
    have hb02 : Below w.heap.size w w2 := hb1.trans (hb2.mono hb1.size)
    clear hown1 hb2 hb1 hmk
    have HV : Hid (Value.slice (some ⟨w.heap.size, 0, none⟩) 0 (1 + 2 * xs.length) = Value.slice (some ⟨w.heap.size, 0, none⟩) 0 (1 + 2 * xs.length)) := rfl
    go_wp2_with (at_builtin; refine wpList_append_own _ rfl _ _ 29 rfl w.heap.size 9 i0 (.string ⟨#[]⟩) 1 16 Try.underlying29 hi hz0 hz1 hz2 rfl (by decide) _ _ _ rfl (hown2.alloc _) ⟨_, 0, none⟩ 1 1 [.string _] rfl rfl (one_new _ _ _) (one_cell _) (by unfold maxLen; omega) (by omega) (by simp; have := hb02.size; omega) ?_)
    intro v3 w3 hown3 hg3 hnn
    have hb3 := below_append hb02 hown2 hg3
    have HO3 : Hid (w3.ownsRow w.heap.size 9 1 v3 (pcs xs.length (xs.take 0)).length ((pcs xs.length (xs.take 0)).map strV)) := own_cast (by rw [pcs_length]; simp) (by simp [pcs, strV]) hown3
    clear hown3 hg3 hnn hown2 hb02
    go_wp2_with fail
    go_loopw [4, 23] (fun v i wr => ∃ k : Nat, k ≤ xs.length ∧ i = .int .i64 k ∧ wr.ownsRow w.heap.size 9 1 v (pcs xs.length (xs.take k)).length ((pcs xs.length (xs.take k)).map strV) ∧ Below w.heap.size w wr ∧ Hid (∀ s ∈ xs.take k, s.length ≤ 2000)) (fun _ i _ => xs.length - (intOf i).toNat)
    case atStart => exact ⟨0, Nat.zero_le _, rfl, HO3.out, hb3, by intro s hs; simp at hs⟩
    case round =>
      obtain ⟨k, hk, rfl, hown, hbw, HI⟩ := hrel
      by_cases hlt : k < xs.length
      · obtain ⟨g, o, rfl, hc⟩ := HR.out k hlt
        have hcw : wr.cell? ⟨g, o + k, none⟩ = some (strV xs[k]) := (hbw.cell (p := ⟨g, o + k, none⟩) (block_lt_of_cell hc)).trans hc
        have hmem := List.getElem_mem hlt
        have hl := HXS.out _ hmem
        have hz := strV_size xs[k]
        have i1 : (k : Int) < (xs.length : Int) := by omega
        unfold strV at hcw
        rw [pcs_length, List.length_take, Nat.min_eq_left hk] at hown
        by_cases h2 : 2000 < xs[k].length
        · have HE : Hid (lsV xs = .tuple #[.string ⟨#[]⟩, .int .i64 2]) := lsV_long xs _ hmem h2
          rw [← hz] at hl h2
          generalize ByteArray.mk (xs[k]).toArray = y at *
          have q2 : (2000 : Int) < (y.size : Int) := by omega
          clear hc hown HI HO3 hz hmem
          go_wp2
          go_ret2
          rw [HE.out]
          exact ⟨rfl, hbw⟩
        · have HS := pcs_snoc xs.length k xs hlt
          have HS' : Hid (pcs xs.length (xs.take (k + 1)) = pcs xs.length (xs.take k) ++ [PackMath.num xs[k].length, xs[k]]) := HS
          have HI2 : Hid (∀ s ∈ xs.take (k + 1), s.length ≤ 2000) := by
            intro s hs
            rw [List.take_succ_eq_append_getElem hlt] at hs
            rcases List.mem_append.1 hs with hs | hs
            · exact HI.out s hs
            · simp at hs; subst hs; omega
          have C2 : Hid (∀ w, Calls Try.prog 74 #[.int .i64 ((ByteArray.mk (xs[k]).toArray).size : Int)] w fun e w' => e = .returned (.string ⟨(PackMath.num xs[k].length).toArray⟩) ∧ Below w.heap.size w w') := by
            rw [hz]; exact fun w => C1.out _ (by omega) w
          rw [← hz] at hl h2
          generalize hy : ByteArray.mk (xs[k]).toArray = y at *
          have HY : Hid (strV xs[k] = .string y) := by show _ = _; unfold strV; rw [hy]
          have q2 : ¬ (2000 : Int) < (y.size : Int) := by omega
          clear hc HI HO3 hz hmem hy HS
          have HOW : Hid (wr.ownsRow w.heap.size 9 1 u4 (1 + 2 * k) ((pcs xs.length (xs.take k)).map strV)) := hown
          clear hown
          go_wp2_with fail
          refine (C2.out _).mono ?_
          rintro e w5 ⟨rfl, hb5⟩
          have hown5 := own_below HOW.out hb5
          have hb05 : Below w.heap.size w w5 := hbw.trans (hb5.mono hbw.size)
          clear hb5 hcw HOW hbw
          go_wp2_with (at_builtin; refine wpList_append_own _ rfl _ _ 29 rfl w.heap.size 9 i0 (.string ⟨#[]⟩) 1 16 Try.underlying29 hi hz0 hz1 hz2 rfl (by decide) _ _ _ rfl (hown5.alloc _) ⟨_, 0, none⟩ 2 2 [.string _, .string _] rfl rfl (two_new _ _ _ _) (two_cell _ _) (by unfold maxLen; omega) (by omega) (by simp; have := hb05.size; omega) ?_)
          intro v6 w6 hown6 hg6 hnn
          have hb6 := below_append hb05 hown5 hg6
          have HO6 : Hid (w6.ownsRow w.heap.size 9 1 v6 (pcs xs.length (xs.take (k + 1))).length ((pcs xs.length (xs.take (k + 1))).map strV)) :=
            own_cast (by rw [pcs_length, List.length_take, Nat.min_eq_left (by omega)]; omega) (by rw [HS'.out, List.map_append, List.map_cons, List.map_cons, List.map_nil, HY.out]; rfl) hown6
          clear hown6 hg6 hnn hown5 hb05
          go_wp2
          exact ⟨⟨k + 1, by omega, by go_num, HO6.out, hb6, HI2⟩, by simp [intOf]; omega⟩
      · obtain rfl : k = xs.length := by omega
        rw [List.take_length] at hown HI
        have HE : Hid (lsV xs = .tuple #[strV (PackMath.lst xs), .int .i64 0]) := lsV_ok xs (by omega) HI.out
        have htl := txts_len xs HI.out
        have hnl := PackMath.num_len8 xs.length (by omega)
        rw [pcs_length] at hown
        obtain ⟨g, cap4, rfl, hg1, hg2, hg3, hg4, hcell, _⟩ := own_shape hown (by omega)
        have HJ : Hid (Calls Try.prog 75 #[.slice (some ⟨g, 0, none⟩) (1 + 2 * xs.length) cap4] wr fun e w' => e = .returned (strV (PackMath.lst xs)) ∧ Below wr.heap.size wr w') := by
          have := join_any g 0 cap4 ((pcs xs.length xs).map fun l => ByteArray.mk l.toArray) wr (fun j x hj => by
            rw [List.getElem?_map] at hj
            have hjl : j < (pcs xs.length xs).length := by
              rcases Nat.lt_or_ge j (pcs xs.length xs).length with h | h
              · exact h
              · simp [List.getElem?_eq_none h] at hj
            rw [List.getElem?_eq_getElem hjl] at hj
            simp at hj
            rw [Nat.zero_add, hcell j (by rw [← pcs_length]; exact hjl), List.getElem?_map, List.getElem?_eq_getElem hjl]
            simp [strV, hj]) hg2 (by rw [List.length_map, pcs_length]; omega) (by rw [List.length_map, pcs_length]; exact hg3) (by
              rw [List.map_map, show ((fun x : ByteArray => x.data.toList) ∘ fun l : List UInt8 => ByteArray.mk l.toArray) = id from by funext l; simp, List.map_id, pcs_flat, List.length_append]; omega)
          rw [List.map_map, show ((fun x : ByteArray => x.data.toList) ∘ fun l : List UInt8 => ByteArray.mk l.toArray) = id from by funext l; simp, List.map_id, pcs_flat, List.length_map, pcs_length] at this
          exact this
        clear hown HI htl hnl hcell HO3 HR HXS C1
        go_wp2_with fail
        refine HJ.out.mono ?_
        rintro e w8 ⟨rfl, hb8⟩
        go_wp2
        go_ret2
        rw [HE.out]
        exact ⟨rfl, hbw.trans (hb8.mono hbw.size)⟩
end Go.Proofs.Yteicfkgcbpioiaa.Pk
/- areKeys, at tables of any content. -/
set_option linter.unusedVariables false
set_option linter.unusedSimpArgs false
set_option maxRecDepth 100000
namespace Go.Proofs.Yteicfkgcbpioiaa
open Go.RowKit

/-- The j-th text. -/
def tx (xs : List (List UInt8)) (j : Nat) : ByteArray := ⟨(xs.getD j []).toArray⟩
theorem tx_get {xs : List (List UInt8)} {j : Nat} (h : j < xs.length) : strV xs[j] = .string (tx xs j) := by
  unfold strV tx
  simp [h]
/-- Is the j-th key right behind the one ahead of it? -/
def okAt (t : Tb) (xs : List (List UInt8)) (j : Nat) : Bool := isNm (tx xs j) && (decide (j = 0) || decide (cmpX t (NameMath.runes (tx xs (j - 1)).data.toList) (tx xs j) < 0))
def keysX (t : Tb) (xs : List (List UInt8)) : Bool := decide (xs.length ≤ 2) && (List.range xs.length).all (okAt t xs)
theorem keysX_no {t : Tb} {xs : List (List UInt8)} {k : Nat} (hk : k < xs.length) (h : okAt t xs k = false) : keysX t xs = false := by
  unfold keysX
  have : (List.range xs.length).all (okAt t xs) = false := by
    rw [List.all_eq_false]
    exact ⟨k, List.mem_range.2 hk, by rw [h]; simp⟩
  rw [this, Bool.and_false]
theorem keysX_many {t : Tb} {xs : List (List UInt8)} (h : 2 < xs.length) : keysX t xs = false := by
  unfold keysX
  rw [decide_eq_false (by omega), Bool.false_and]
theorem keysX_yes {t : Tb} {xs : List (List UInt8)} (h : xs.length ≤ 2) (h2 : ∀ j, j < xs.length → okAt t xs j = true) : keysX t xs = true := by
  unfold keysX
  rw [decide_eq_true h, Bool.true_and, List.all_eq_true]
  exact fun j hj => h2 j (List.mem_range.1 hj)
theorem keysX_len {t : Tb} {xs : List (List UInt8)} (h : keysX t xs = true) : xs.length ≤ 2 := by
  unfold keysX at h
  simp at h
  exact h.1
theorem keysX_at {t : Tb} {xs : List (List UInt8)} (h : keysX t xs = true) {j : Nat} (hj : j < xs.length) : okAt t xs j = true := by
  unfold keysX at h
  rw [Bool.and_eq_true, List.all_eq_true] at h
  exact h.2 j (List.mem_range.2 hj)

set_option maxHeartbeats 1600000 in
theorem areKeys_any (t : Tb) (v : Value) (xs : List (List UInt8)) (hx : xs.length ≤ 140737488355328) (hxs : ∀ s ∈ xs, s.length ≤ 140737488351232) (w : World) (hT : Hid (TabX t w)) (hlow : Hid (1 < w.heap.size ∧ 2 < w.heap.size)) (hS : SRow w v xs) :
    Calls Try.prog 87 #[v] w fun e w' => e = .returned (.bool (keysX t xs)) ∧ Below w.heap.size w w' := by
  have HZ : Hid (∀ j, j < xs.length → (tx xs j).size ≤ 140737488355328) := fun j hj => by
    have := hxs xs[j] (List.getElem_mem hj)
    have e : (tx xs j).size = xs[j].length := by unfold tx; simp [ByteArray.size, hj]
    omega
  have HS : Hid (SRow w v xs) := hS
  obtain ⟨ao, cap, rfl, hca, hrow⟩ := hS
  by_cases h2 : 2 < xs.length
  · rw [keysX_many h2]
    have i2 : (2 : Int) < (xs.length : Int) := by omega
    clear HZ hrow HS hxs
    go_enter Try.func87, Try.ntmps87
    go_wp2
    go_ret
    exact ⟨rfl, Below.refl _ _⟩
  · have i2 : ¬ (2 : Int) < (xs.length : Int) := by omega
    clear hrow hxs
    go_enter Try.func87, Try.ntmps87
    go_wp2
    go_loopw [10] (fun x wr => ∃ k : Nat, k ≤ xs.length ∧ x = .int .i64 k ∧ Below w.heap.size w wr ∧ Hid (∀ j, j < k → okAt t xs j = true)) (fun x _ => xs.length - (intOf x).toNat)
    case atStart => exact ⟨0, Nat.zero_le _, rfl, Below.refl _ _, fun j hj => absurd hj (Nat.not_lt_zero _)⟩
    case round =>
      obtain ⟨k, hk, rfl, hbw, HI⟩ := hrel
      have HS2 : Hid (SRow wr (.slice ao xs.length cap) xs) := srow_below HS.out hbw
      have HT2 : Hid (TabX t wr) := hT.out.below hbw hlow.out
      have hl2 : Hid (1 < wr.heap.size ∧ 2 < wr.heap.size) := ⟨Nat.lt_of_lt_of_le hlow.out.1 hbw.size, Nat.lt_of_lt_of_le hlow.out.2 hbw.size⟩
      by_cases hlt : k < xs.length
      · obtain ⟨g, o, rfl, hc1⟩ := Pk.srow_cell HS2.out k hlt
        rw [tx_get hlt] at hc1
        have i1 : (k : Int) < (xs.length : Int) := by omega
        have C1 : Hid (Calls Try.prog 66 #[.string (tx xs k)] wr fun e w' => e = .returned (.bool (isNm (tx xs k))) ∧ Below wr.heap.size wr w') := Nm.is_any _ wr
        cases hn : isNm (tx xs k) with
        | false =>
          rw [hn] at C1
          have HE : Hid (keysX t xs = false) := keysX_no hlt (by unfold okAt; rw [hn, Bool.false_and])
          clear HS HS2 HI HZ hT HT2 hlow hl2 hn
          generalize tx xs k = y at *
          go_wp2_with fail
          refine C1.out.mono ?_
          rintro e w2 ⟨rfl, hb2⟩
          go_wp2_with fail
          go_ret
          exact ⟨retB HE.out.symm, hbw.trans (hb2.mono hbw.size)⟩
        | true =>
          rw [hn] at C1
          have hk2 : k = 0 ∨ k = 1 := by omega
          rcases hk2 with rfl | rfl
          · rw [Nat.add_zero] at hc1
            have HO : Hid (∀ j, j < 1 → okAt t xs j = true) := fun j hj => by
              obtain rfl : j = 0 := by omega
              unfold okAt; rw [hn]; rfl
            clear HS HS2 HI HZ hT HT2 hlow hl2 hn
            generalize tx xs 0 = y at *
            go_wp2_with fail
            refine C1.out.mono ?_
            rintro e w2 ⟨rfl, hb2⟩
            go_wp2_with fail
            exact ⟨⟨1, by omega, rfl, hbw.trans (hb2.mono hbw.size), HO⟩, by simp [intOf]; omega⟩
          · obtain ⟨g', o', hgo, hc0⟩ := Pk.srow_cell HS2.out 0 (by omega)
            obtain ⟨rfl, rfl⟩ : g = g' ∧ o = o' := by simpa using hgo
            rw [tx_get (by omega : 0 < xs.length), Nat.add_zero] at hc0
            have C2 : ∀ w2, Below wr.heap.size wr w2 → Calls Try.prog 89 #[.string (tx xs 0), .string (tx xs 1)] w2 fun e w' => e = .returned (.int .i64 (cmpX t (NameMath.runes (tx xs 0).data.toList) (tx xs 1))) ∧ Below w2.heap.size w2 w' := fun w2 hb2 => by
              have h0 := HI.out 0 (by omega)
              unfold okAt at h0
              rw [Bool.and_eq_true] at h0
              exact compareX t _ _ (HZ.out 1 hlt) (good_of h0.1) (good_of hn) w2 (HT2.out.below hb2 hl2.out) ⟨Nat.lt_of_lt_of_le hl2.out.1 hb2.size, Nat.lt_of_lt_of_le hl2.out.2 hb2.size⟩
            have C2H : Hid (∀ w2, Below wr.heap.size wr w2 → Calls Try.prog 89 #[.string (tx xs 0), .string (tx xs 1)] w2 fun e w' => e = .returned (.int .i64 (cmpX t (NameMath.runes (tx xs 0).data.toList) (tx xs 1))) ∧ Below w2.heap.size w2 w') := C2
            have hlb : g < wr.heap.size := block_lt_of_cell hc0
            by_cases hcm : cmpX t (NameMath.runes (tx xs 0).data.toList) (tx xs 1) < 0
            · have HO : Hid (∀ j, j < 2 → okAt t xs j = true) := fun j hj => by
                rcases (by omega : j = 0 ∨ j = 1) with rfl | rfl
                · exact HI.out 0 (by omega)
                · unfold okAt; rw [hn]; simp [hcm]
              clear HS HS2 HI HZ hT HT2 hlow hl2 hn C2 hgo
              generalize cmpX t (NameMath.runes (tx xs 0).data.toList) (tx xs 1) = q at *
              generalize tx xs 1 = y at *
              generalize tx xs 0 = z at *
              go_wp2_with fail
              refine C1.out.mono ?_
              rintro e w2 ⟨rfl, hb2⟩
              have hc0' : w2.cell? ⟨g, o, none⟩ = some (.string z) := (hb2.cell (p := ⟨g, o, none⟩) hlb).trans hc0
              go_wp2_with fail
              refine (C2H.out w2 hb2).mono ?_
              rintro e w3 ⟨rfl, hb3⟩
              go_wp2_with fail
              exact ⟨⟨2, by omega, rfl, hbw.trans ((hb2.trans (hb3.mono hb2.size)).mono hbw.size), HO⟩, by simp [intOf]; omega⟩
            · have HE : Hid (keysX t xs = false) := keysX_no hlt (by unfold okAt; rw [hn]; simp [hcm])
              clear HS HS2 HI HZ hT HT2 hlow hl2 hn C2 hgo
              generalize cmpX t (NameMath.runes (tx xs 0).data.toList) (tx xs 1) = q at *
              generalize tx xs 1 = y at *
              generalize tx xs 0 = z at *
              go_wp2_with fail
              refine C1.out.mono ?_
              rintro e w2 ⟨rfl, hb2⟩
              have hc0' : w2.cell? ⟨g, o, none⟩ = some (.string z) := (hb2.cell (p := ⟨g, o, none⟩) hlb).trans hc0
              go_wp2_with fail
              refine (C2H.out w2 hb2).mono ?_
              rintro e w3 ⟨rfl, hb3⟩
              go_wp2_with fail
              go_ret
              exact ⟨retB HE.out.symm, hbw.trans ((hb2.trans (hb3.mono hb2.size)).mono hbw.size)⟩
      · have HE : Hid (keysX t xs = true) := keysX_yes (by omega) (fun j hj => HI.out j (by omega))
        have i1 : ¬ (k : Int) < (xs.length : Int) := by omega
        clear HS HS2 HI HZ hT HT2 hlow hl2
        go_wp2
        go_ret
        exact ⟨retB HE.out.symm, hbw⟩
end Go.Proofs.Yteicfkgcbpioiaa

/- event.mayBe, at tables of any content. -/
set_option linter.unusedVariables false
set_option linter.unusedSimpArgs false
set_option maxRecDepth 100000
namespace Go.Proofs.Yteicfkgcbpioiaa
open Go.RowKit

/-- May the event be? -/
def evMay (t : Tb) (k i s : Int) (xs : List (List UInt8)) : Bool :=
  btw k 1 6 && btw i 1 60 && (if k = 1 then btw s 0 7 && keysX t xs else if k = 6 then decide (s = 0) && decide (xs.length = 0) else btw s 0 7 && decide (xs.length = 0))
theorem evMay_any (t : Tb) (k i s : Int) (v : Value) (xs : List (List UInt8)) (hx : xs.length ≤ 140737488355328) (hxs : ∀ s ∈ xs, s.length ≤ 140737488351232) (w : World) (hT : Hid (TabX t w)) (hlow : Hid (1 < w.heap.size ∧ 2 < w.heap.size)) (hS : SRow w v xs) :
    Calls Try.prog 93 #[.agg #[.int .i64 k, .int .i64 i, .int .i64 s, v]] w fun e w' => e = .returned (.bool (evMay t k i s xs)) ∧ Below w.heap.size w w' := by
  have CK : Hid (∀ w1, Below w.heap.size w w1 → Calls Try.prog 87 #[v] w1 fun e w' => e = .returned (.bool (keysX t xs)) ∧ Below w1.heap.size w1 w') := fun w1 hb =>
    areKeys_any t v xs hx hxs w1 (hT.out.below hb hlow.out) ⟨Nat.lt_of_lt_of_le hlow.out.1 hb.size, Nat.lt_of_lt_of_le hlow.out.2 hb.size⟩ (srow_below hS hb)
  obtain ⟨ao, cap, rfl, hca, hrow⟩ := hS
  clear hrow hxs hT hlow
  cases b0 : btw k 1 6 with
  | false =>
    have HE : Hid (evMay t k i s xs = false) := by show _ = _; unfold evMay; rw [b0]; rfl
    clear CK
    go_enter Try.func93, Try.ntmps93
    go_wp2_with (go_at_call 65; refine (between_any _ _ _ _).mono ?_; rintro e w' ⟨rfl, hw'⟩; rw [hw', b0]; clear hw' w')
    all_goals go_ret
    all_goals exact ⟨retB HE.out.symm, by go_grown⟩
  | true =>
  cases b1 : btw i 1 60 with
  | false =>
    have HE : Hid (evMay t k i s xs = false) := by show _ = _; unfold evMay; rw [b0, b1]; rfl
    clear CK
    go_enter Try.func93, Try.ntmps93
    go_wp2_with (first | (go_at_call 64; refine (isID_any _ _).mono ?_; rintro e w' ⟨rfl, hw'⟩; rw [hw', b1]; clear hw' w') | (go_at_call 65; refine (between_any _ _ _ _).mono ?_; rintro e w' ⟨rfl, hw'⟩; rw [hw', b0]; clear hw' w'))
    all_goals go_ret
    all_goals exact ⟨retB HE.out.symm, by go_grown⟩
  | true =>
  by_cases k1 : k = 1
  · subst k1
    cases b2 : btw s 0 7 with
    | false =>
      have HE : Hid (evMay t 1 i s xs = false) := by show _ = _; unfold evMay; rw [b0, b1, b2]; rfl
      clear CK
      go_enter Try.func93, Try.ntmps93
      go_wp2_with (first | (go_at_call 67; refine (isStep_any _ _).mono ?_; rintro e w' ⟨rfl, hw'⟩; rw [hw', b2]; clear hw' w') | (go_at_call 64; refine (isID_any _ _).mono ?_; rintro e w' ⟨rfl, hw'⟩; rw [hw', b1]; clear hw' w') | (go_at_call 65; refine (between_any _ _ _ _).mono ?_; rintro e w' ⟨rfl, hw'⟩; rw [hw', b0]; clear hw' w'))
      all_goals go_ret
      all_goals exact ⟨retB HE.out.symm, by go_grown⟩
    | true =>
      have HE : Hid (evMay t 1 i s xs = keysX t xs) := by show _ = _; unfold evMay; rw [b0, b1, b2]; rfl
      generalize keysX t xs = q at *
      go_enter Try.func93, Try.ntmps93
      go_wp2_with (first | (go_at_call 67; refine (isStep_any _ _).mono ?_; rintro e w' ⟨rfl, hw'⟩; rw [hw', b2]; clear hw' w') | (go_at_call 64; refine (isID_any _ _).mono ?_; rintro e w' ⟨rfl, hw'⟩; rw [hw', b1]; clear hw' w') | (go_at_call 65; refine (between_any _ _ _ _).mono ?_; rintro e w' ⟨rfl, hw'⟩; rw [hw', b0]; clear hw' w'))
      refine (CK.out _ (by go_grown)).mono ?_
      rintro e w2 ⟨rfl, hb2⟩
      have HB : Hid (Below w.heap.size w w2) := (show Below w.heap.size w _ by go_grown).trans (hb2.mono (by simp))
      clear hb2 CK
      go_wp2_with fail
      all_goals go_ret
      all_goals exact ⟨retB HE.out.symm, HB.out⟩
  · by_cases k6 : k = 6
    · subst k6
      have HE : Hid (evMay t 6 i s xs = (decide (s = 0) && decide (xs.length = 0))) := by show _ = _; unfold evMay; rw [b0, b1]; rfl
      clear CK
      by_cases s0 : s = 0
      · subst s0
        have HE2 : Hid (evMay t 6 i 0 xs = decide (xs.length = 0)) := by show _ = _; rw [HE.out]; simp
        clear HE
        by_cases n0 : xs.length = 0
        · rw [n0] at hca ⊢
          have HE3 : Hid (evMay t 6 i 0 xs = true) := by show _ = _; rw [HE2.out]; simp [n0]
          clear HE2
          go_enter Try.func93, Try.ntmps93
          go_wp2_with (first | (go_at_call 64; refine (isID_any _ _).mono ?_; rintro e w' ⟨rfl, hw'⟩; rw [hw', b1]; clear hw' w') | (go_at_call 65; refine (between_any _ _ _ _).mono ?_; rintro e w' ⟨rfl, hw'⟩; rw [hw', b0]; clear hw' w'))
          all_goals go_ret
          all_goals exact ⟨retB HE3.out.symm, by go_grown⟩
        · have n0' : ((xs.length : Int) == 0) = false := beq_eq_false_iff_ne.2 (by omega)
          have HE3 : Hid (evMay t 6 i 0 xs = false) := by show _ = _; rw [HE2.out]; simp [n0]
          clear HE2
          go_enter Try.func93, Try.ntmps93
          go_wp2_with (first | (go_at_call 64; refine (isID_any _ _).mono ?_; rintro e w' ⟨rfl, hw'⟩; rw [hw', b1]; clear hw' w') | (go_at_call 65; refine (between_any _ _ _ _).mono ?_; rintro e w' ⟨rfl, hw'⟩; rw [hw', b0]; clear hw' w'))
          all_goals go_ret
          all_goals exact ⟨retB HE3.out.symm, by go_grown⟩
      · have s0' : (s == 0) = false := beq_eq_false_iff_ne.2 s0
        have HE3 : Hid (evMay t 6 i s xs = false) := by show _ = _; rw [HE.out]; simp [s0]
        clear HE
        go_enter Try.func93, Try.ntmps93
        go_wp2_with (first | (go_at_call 64; refine (isID_any _ _).mono ?_; rintro e w' ⟨rfl, hw'⟩; rw [hw', b1]; clear hw' w') | (go_at_call 65; refine (between_any _ _ _ _).mono ?_; rintro e w' ⟨rfl, hw'⟩; rw [hw', b0]; clear hw' w'))
        all_goals go_ret
        all_goals exact ⟨retB HE3.out.symm, by go_grown⟩
    · have k1' : (k == 1) = false := beq_eq_false_iff_ne.2 k1
      have k6' : (k == 6) = false := beq_eq_false_iff_ne.2 k6
      have HE : Hid (evMay t k i s xs = (btw s 0 7 && decide (xs.length = 0))) := by show _ = _; unfold evMay; rw [b0, b1, if_neg k1, if_neg k6]; rfl
      clear CK
      cases b2 : btw s 0 7 with
      | false =>
        have HE3 : Hid (evMay t k i s xs = false) := by show _ = _; rw [HE.out, b2]; rfl
        clear HE
        go_enter Try.func93, Try.ntmps93
        go_wp2_with (first | (go_at_call 67; refine (isStep_any _ _).mono ?_; rintro e w' ⟨rfl, hw'⟩; rw [hw', b2]; clear hw' w') | (go_at_call 64; refine (isID_any _ _).mono ?_; rintro e w' ⟨rfl, hw'⟩; rw [hw', b1]; clear hw' w') | (go_at_call 65; refine (between_any _ _ _ _).mono ?_; rintro e w' ⟨rfl, hw'⟩; rw [hw', b0]; clear hw' w'))
        all_goals go_ret
        all_goals exact ⟨retB HE3.out.symm, by go_grown⟩
      | true =>
        by_cases n0 : xs.length = 0
        · rw [n0] at hca ⊢
          have HE3 : Hid (evMay t k i s xs = true) := by show _ = _; rw [HE.out, b2]; simp [n0]
          clear HE
          go_enter Try.func93, Try.ntmps93
          go_wp2_with (first | (go_at_call 67; refine (isStep_any _ _).mono ?_; rintro e w' ⟨rfl, hw'⟩; rw [hw', b2]; clear hw' w') | (go_at_call 64; refine (isID_any _ _).mono ?_; rintro e w' ⟨rfl, hw'⟩; rw [hw', b1]; clear hw' w') | (go_at_call 65; refine (between_any _ _ _ _).mono ?_; rintro e w' ⟨rfl, hw'⟩; rw [hw', b0]; clear hw' w'))
          all_goals go_ret
          all_goals exact ⟨retB HE3.out.symm, by go_grown⟩
        · have n0' : ((xs.length : Int) == 0) = false := beq_eq_false_iff_ne.2 (by omega)
          have HE3 : Hid (evMay t k i s xs = false) := by show _ = _; rw [HE.out, b2]; simp [n0]
          clear HE
          go_enter Try.func93, Try.ntmps93
          go_wp2_with (first | (go_at_call 67; refine (isStep_any _ _).mono ?_; rintro e w' ⟨rfl, hw'⟩; rw [hw', b2]; clear hw' w') | (go_at_call 64; refine (isID_any _ _).mono ?_; rintro e w' ⟨rfl, hw'⟩; rw [hw', b1]; clear hw' w') | (go_at_call 65; refine (between_any _ _ _ _).mono ?_; rintro e w' ⟨rfl, hw'⟩; rw [hw', b0]; clear hw' w'))
          all_goals go_ret
          all_goals exact ⟨retB HE3.out.symm, by go_grown⟩
end Go.Proofs.Yteicfkgcbpioiaa

/- The form of an event; codec.Event of any event, at tables of any content. -/
set_option linter.unusedVariables false
set_option linter.unusedSimpArgs false
set_option maxRecDepth 100000
namespace Go.Proofs.Yteicfkgcbpioiaa
open Go.RowKit Go.Lib Go.Shelf

theorem list_ok (v : Value) (xs : List (List UInt8)) (hx : xs.length ≤ 4000) (hxs : ∀ s ∈ xs, s.length ≤ 2000) (w : World) (hS : SRow w v xs) :
    Calls Try.prog 86 #[v] w fun e w' => e = .returned (.string (bA (PackMath.lst xs))) ∧ Below w.heap.size w w' := by
  have C : Hid (∀ w1, w1 = w → Calls Try.prog 88 #[v] w1 fun e w' => e = .returned (.tuple #[.string (bA (PackMath.lst xs)), .int .i64 0]) ∧ Below w1.heap.size w1 w') := fun w1 h1 => by
    subst h1
    have h := Pk.list_any v xs (by omega) (fun s hs => by have := hxs s hs; omega) w1 hS
    rw [Pk.lsV_ok xs hx hxs] at h
    exact h
  obtain ⟨ao, cap, rfl, _, _⟩ := hS
  go_enter Try.func86, Try.ntmps86
  go_wp2_with fail
  refine (C.out _ rfl).mono ?_
  rintro e w1 ⟨rfl, hb⟩
  go_wp2
  go_ret
  exact ⟨rfl, hb⟩
theorem bstr_69 (l : List UInt8) : Value.string (ByteArray.mk #[69] ++ bA l) = bstr (69 :: l) := by
  unfold bstr bA; congr 1
theorem mk69 : (⟨#[69]⟩ : ByteArray) = bA [69] := rfl
set_option maxHeartbeats 2000000 in
theorem evForm1 (i s : Int) (ao : Option Addr) (n cap : Nat) (w : World) (a b : ByteArray) (ha : a.size ≤ 64) (hb : b.size ≤ 4000)
    (C1 : Hid (∀ (w1 : World) (g : Nat), (∀ j x, (#[.int .i64 1, .int .i64 i, .int .i64 s] : Array Value)[j]? = some x → w1.cell? ⟨g, j, none⟩ = some x) → g < w1.heap.size → Hid (Left w [(0, .int .i64 1), (1, .int .i64 i), (2, .int .i64 s), (3, .slice ao n cap)] w1) → Calls Try.prog 62 #[.slice (some ⟨g, 0, none⟩) 3 3] w1 fun e w' => e = .returned (.string a) ∧ w'.cell? ⟨w.heap.size, 0, none⟩ = some (.int .i64 1) ∧ w'.cell? ⟨w.heap.size, 1, none⟩ = some (.int .i64 i) ∧ w'.cell? ⟨w.heap.size, 2, none⟩ = some (.int .i64 s) ∧ w'.cell? ⟨w.heap.size, 3, none⟩ = some (.slice ao n cap) ∧ Hid (Left w [(0, .int .i64 1), (1, .int .i64 i), (2, .int .i64 s), (3, .slice ao n cap)] w')))
    (C2 : Hid (∀ (w1 : World), Hid (Left w [(0, .int .i64 1), (1, .int .i64 i), (2, .int .i64 s), (3, .slice ao n cap)] w1) → Calls Try.prog 86 #[.slice ao n cap] w1 fun e w' => e = .returned (.string b) ∧ w'.cell? ⟨w.heap.size, 0, none⟩ = some (.int .i64 1) ∧ w'.cell? ⟨w.heap.size, 1, none⟩ = some (.int .i64 i) ∧ w'.cell? ⟨w.heap.size, 2, none⟩ = some (.int .i64 s) ∧ w'.cell? ⟨w.heap.size, 3, none⟩ = some (.slice ao n cap) ∧ Hid (Left w [(0, .int .i64 1), (1, .int .i64 i), (2, .int .i64 s), (3, .slice ao n cap)] w'))) :
    Calls Try.prog 92 #[.agg #[.int .i64 1, .int .i64 i, .int .i64 s, .slice ao n cap]] w fun e w' => e = .returned (.string (⟨#[69]⟩ ++ a ++ b)) ∧ Below w.heap.size w w' := by
  have p0 : ¬ 9223372036854775807 < (ByteArray.mk #[69]).size + a.size := by simp only [ByteArray.size_append, show (ByteArray.mk #[69]).size = 1 from rfl]; omega
  have r0 : ¬ 9223372036854775807 < 1 + a.size := by omega
  have p1 : ¬ 9223372036854775807 < ((ByteArray.mk #[69]) ++ a).size + b.size := by simp only [ByteArray.size_append, show (ByteArray.mk #[69]).size = 1 from rfl]; omega
  have r1 : ¬ 9223372036854775807 < 1 + a.size + b.size := by omega
  have HF : Hid (Left w [(0, .int .i64 1), (1, .int .i64 i), (2, .int .i64 s), (3, .slice ao n cap)] (w.alloc (.cells #[.int .i64 1, .int .i64 i, .int .i64 s, .slice ao n cap] 58))) := Left.first _ _ _ _ (by simp)
  go_enter Try.func92, Try.ntmps92
  go_wp2_with fail
  go_region_held3 (fun w' => w'.cell? ⟨w.heap.size, 0, none⟩ = some (.int .i64 1) ∧ w'.cell? ⟨w.heap.size, 1, none⟩ = some (.int .i64 i) ∧ w'.cell? ⟨w.heap.size, 2, none⟩ = some (.int .i64 s) ∧ w'.cell? ⟨w.heap.size, 3, none⟩ = some (.slice ao n cap)) (go_keep) (first | (go_at_call 62; refine (C1.out _ _ (new_cells (by simp)) (by simp) (HF.out.alloc _).draw).mono ?_; rintro e w1 ⟨rfl, m0, m1, m2, m3, HB1⟩) | (go_at_call 86; refine (C2.out _ HB1).mono ?_; rintro e w2 ⟨rfl, n0, n1, n2, n3, HB2⟩))
  all_goals go_wp2
  all_goals go_ret
  all_goals exact ⟨rfl, HB2.out.2.1⟩
set_option maxHeartbeats 1000000 in
theorem evForm6 (i s : Int) (ao : Option Addr) (n cap : Nat) (w : World) (b : ByteArray) (HL : b.size ≤ 64)
    (C : Hid (∀ (w1 : World) (g : Nat), g = w1.heap.size → Calls Try.prog 62 #[.slice (some ⟨g, 0, none⟩) 2 2] (w1.alloc (.cells #[.int .i64 6, .int .i64 i] 3)) fun e w' => e = .returned (.string b) ∧ Below w1.heap.size w1 w')) :
    Calls Try.prog 92 #[.agg #[.int .i64 6, .int .i64 i, .int .i64 s, .slice ao n cap]] w fun e w' => e = .returned (.string (⟨#[69]⟩ ++ b)) ∧ Below w.heap.size w w' := by
  go_enter Try.func92, Try.ntmps92
  go_wp2_with fail
  refine (C.out _ _ (by simp)).mono ?_
  rintro e w1 ⟨rfl, hb⟩
  go_wp2
  go_ret
  refine ⟨rfl, ?_⟩
  have h3 : Below w.heap.size w (w.alloc (.cells #[.int .i64 6, .int .i64 i, .int .i64 s, .slice ao n cap] 58)) := (Below.refl _ _).alloc (Nat.le_refl _) _
  exact h3.trans (hb.mono h3.size)
set_option maxHeartbeats 1000000 in
theorem evFormK (k i s : Int) (k1 : k ≠ 1) (k6 : k ≠ 6) (ao : Option Addr) (n cap : Nat) (w : World) (b : ByteArray) (HL : b.size ≤ 64)
    (C : Hid (∀ (w1 : World) (g : Nat), g = w1.heap.size → Calls Try.prog 62 #[.slice (some ⟨g, 0, none⟩) 3 3] (w1.alloc (.cells #[.int .i64 k, .int .i64 i, .int .i64 s] 3)) fun e w' => e = .returned (.string b) ∧ Below w1.heap.size w1 w')) :
    Calls Try.prog 92 #[.agg #[.int .i64 k, .int .i64 i, .int .i64 s, .slice ao n cap]] w fun e w' => e = .returned (.string (⟨#[69]⟩ ++ b)) ∧ Below w.heap.size w w' := by
  have k1' : (k == 1) = false := beq_eq_false_iff_ne.2 k1
  have k6' : (k == 6) = false := beq_eq_false_iff_ne.2 k6
  go_enter Try.func92, Try.ntmps92
  go_wp2_with fail
  refine (C.out _ _ (by simp)).mono ?_
  rintro e w1 ⟨rfl, hb⟩
  go_wp2
  go_ret
  refine ⟨rfl, ?_⟩
  have h3 : Below w.heap.size w (w.alloc (.cells #[.int .i64 k, .int .i64 i, .int .i64 s, .slice ao n cap] 58)) := (Below.refl _ _).alloc (Nat.le_refl _) _
  exact h3.trans (hb.mono h3.size)
/-- The form of an event. -/
def evL (k i s : Nat) (xs : List (List UInt8)) : List UInt8 := 69 :: (if k = 1 then numsL [1, i, s] ++ PackMath.lst xs else if k = 6 then numsL [6, i] else numsL [k, i, s])
theorem evForm_any (k i s : Nat) (hk : k ≤ 2000) (hi : i ≤ 2000) (hs : s ≤ 2000) (v : Value) (xs : List (List UInt8)) (hx : xs.length ≤ 2) (hxs : ∀ s ∈ xs, s.length ≤ 2000) (hl : (PackMath.lst xs).length ≤ 4000) (w : World) (hS : SRow w v xs) :
    Calls Try.prog 92 #[.agg #[.int .i64 (k : Int), .int .i64 (i : Int), .int .i64 (s : Int), v]] w fun e w' => e = .returned (bstr (evL k i s xs)) ∧ Below w.heap.size w w' := by
  obtain ⟨ao, cap, rfl, hca, hrow⟩ := id hS
  by_cases k1 : k = 1
  · subst k1
    have HS : Small [1, i, s] := small3 (by omega) hi hs
    have x := evForm1 (i : Int) (s : Int) ao xs.length cap w (bA (numsL [1, i, s])) (bA (PackMath.lst xs)) (bA_nums HS (by simp)) (by rw [bA_size]; exact hl)
      (fun w1 g hc hg hl => (nums_any w1 _ [1, i, s] (by simp) HS (nrow_of hg rfl rfl hc)).mono (fun e w' ⟨he, hb⟩ => ⟨he, (hl.out.call hb).2.2 (0, .int .i64 1) (by simp), (hl.out.call hb).2.2 (1, .int .i64 (i : Int)) (by simp), (hl.out.call hb).2.2 (2, .int .i64 (s : Int)) (by simp), (hl.out.call hb).2.2 (3, .slice ao xs.length cap) (by simp), hl.out.call hb⟩))
      (fun w1 hl => (list_ok _ xs (by omega) hxs w1 (srow_below hS hl.out.2.1)).mono (fun e w' ⟨he, hb⟩ => ⟨he, (hl.out.call hb).2.2 (0, .int .i64 1) (by simp), (hl.out.call hb).2.2 (1, .int .i64 (i : Int)) (by simp), (hl.out.call hb).2.2 (2, .int .i64 (s : Int)) (by simp), (hl.out.call hb).2.2 (3, .slice ao xs.length cap) (by simp), hl.out.call hb⟩))
    rw [mk69] at x
    simp only [bA_app, List.append_assoc] at x
    exact x
  · by_cases k6 : k = 6
    · subst k6
      have HS : Small [6, i] := small2 (by omega) hi
      have x := evForm6 (i : Int) (s : Int) ao xs.length cap w (bA (numsL [6, i])) (bA_nums HS (by simp)) (fun w1 g hg => by subst hg; exact nums_new [6, i] (by simp) HS w1 _ (by simp) _ (by simp) _)
      simp only [bstr_69] at x
      exact x
    · have HS : Small [k, i, s] := small3 hk hi hs
      have x := evFormK (k : Int) (i : Int) (s : Int) (by omega) (by omega) ao xs.length cap w (bA (numsL [k, i, s])) (bA_nums HS (by simp)) (fun w1 g hg => by subst hg; exact nums_new [k, i, s] (by simp) HS w1 _ (by simp) _ (by simp) _)
      simp only [bstr_69] at x
      have e : evL k i s xs = 69 :: numsL [k, i, s] := by unfold evL; rw [if_neg k1, if_neg k6]
      rw [e]
      exact x
theorem write_yesW (ty : TypeId) (x : Value) (fm ff : Nat) (s : ByteArray) (w : World) (hm : ∀ w, (method 229 ty x "odyssey/codec.mayBe").run Try.prog w = .ok (fm, x) w) (hf : ∀ w, (method 229 ty x "odyssey/codec.form").run Try.prog w = .ok (ff, x) w)
    (em : ∀ args w, (callFunc fm args).run Try.prog w = .ok (.enter fm args) w) (ef : ∀ args w, (callFunc ff args).run Try.prog w = .ok (.enter ff args) w)
    (C1 : Hid (Calls Try.prog fm #[x] w fun e w' => e = .returned (.bool true) ∧ Below w.heap.size w w')) (C2 : Hid (∀ w1, Below w.heap.size w w1 → Calls Try.prog ff #[x] w1 fun e w' => e = .returned (.string s) ∧ Below w1.heap.size w1 w')) :
    Calls Try.prog 17 #[.iface ty x] w fun e w' => e = .returned (.tuple #[.string s, .int .i64 0]) ∧ Below w.heap.size w w' := by
  go_enter Try.func17, Try.ntmps17
  go_wp2_with fail
  refine C1.out.mono ?_
  rintro e w1 ⟨rfl, hb1⟩
  have HB1 : Hid (Below w.heap.size w w1) := hb1
  clear C1 hb1
  go_wp2_with fail
  refine (C2.out _ HB1.out).mono ?_
  rintro e w2 ⟨rfl, hb2⟩
  have HB2 : Hid (Below w.heap.size w w2) := HB1.out.trans (hb2.mono HB1.out.size)
  clear C2 hb2 HB1
  go_wp2_with fail
  go_ret2
  exact ⟨rfl, HB2.out⟩
theorem write_noW (ty : TypeId) (x : Value) (fm : Nat) (w : World) (hm : ∀ w, (method 229 ty x "odyssey/codec.mayBe").run Try.prog w = .ok (fm, x) w) (em : ∀ args w, (callFunc fm args).run Try.prog w = .ok (.enter fm args) w)
    (C1 : Hid (Calls Try.prog fm #[x] w fun e w' => e = .returned (.bool false) ∧ Below w.heap.size w w')) :
    Calls Try.prog 17 #[.iface ty x] w fun e w' => e = .returned (.tuple #[.string ⟨#[]⟩, .int .i64 1]) ∧ Below w.heap.size w w' := by
  go_enter Try.func17, Try.ntmps17
  go_wp2_with fail
  refine C1.out.mono ?_
  rintro e w1 ⟨rfl, hb1⟩
  have HB1 : Hid (Below w.heap.size w w1) := hb1
  clear C1 hb1
  go_wp2_with fail
  go_ret2
  exact ⟨rfl, HB1.out⟩
theorem m_event_form (x : Array Value) (w : World) : (method 229 58 (.agg x) "odyssey/codec.form").run Try.prog w = .ok (92, .agg x) w := by kernel_rfl
theorem e_event_may : ∀ args w, (callFunc 93 args).run Try.prog w = .ok (.enter 93 args) w := enters_of Try.func93 (by kernel_rfl) rfl
theorem e_event_form : ∀ args w, (callFunc 92 args).run Try.prog w = .ok (.enter 92 args) w := enters_of Try.func92 (by kernel_rfl) rfl
end Go.Proofs.Yteicfkgcbpioiaa

/- codec.Event of any event, at tables of any content. -/
set_option linter.unusedVariables false
set_option linter.unusedSimpArgs false
set_option maxRecDepth 100000
namespace Go.Proofs.Yteicfkgcbpioiaa
open Go.RowKit Go.Lib Go.Shelf

theorem event_call {k i s j : Int} {v e1 : Value} {w : World} (hv : ∃ ao n cap, v = .slice ao n cap)
    (C : Hid (∀ w1, Below w.heap.size w w1 → Calls Try.prog 17 #[.iface 58 (.agg #[.int .i64 k, .int .i64 i, .int .i64 s, v])] w1 fun e w' => e = .returned (.tuple #[e1, .int .i64 j]) ∧ Below w1.heap.size w1 w')) :
    Calls Try.prog 13 #[.agg #[.int .i64 k, .int .i64 i, .int .i64 s, v]] w fun e w' => e = .returned (.tuple #[e1, .int .i64 j]) ∧ Below w.heap.size w w' := by
  obtain ⟨ao, n, cap, rfl⟩ := hv
  go_enter Try.func13, Try.ntmps13
  go_wp2_with fail
  refine (C.out _ (by go_grown)).mono ?_
  rintro e w1 ⟨rfl, hb1⟩
  have HB1 : Hid (Below w.heap.size w w1) := ((Below.refl _ _).alloc (Nat.le_refl _) _).trans (hb1.mono (by rw [World.size_alloc]; omega))
  clear C hb1
  go_wp2_with fail
  go_ret2
  exact ⟨rfl, HB1.out⟩
/-- What an event that may be is like. -/
theorem evMay_facts {t : Tb} {k i s : Int} {xs : List (List UInt8)} (h : evMay t k i s xs = true) : (1 ≤ k ∧ k ≤ 6) ∧ (1 ≤ i ∧ i ≤ 60) ∧ (0 ≤ s ∧ s ≤ 7) ∧ xs.length ≤ 2 ∧ (∀ x ∈ xs, x.length ≤ 32) ∧ (k ≠ 1 → xs = []) ∧ (k = 6 → s = 0) ∧ (k = 1 → keysX t xs = true) := by
  unfold evMay btw at h
  rw [Bool.and_eq_true, Bool.and_eq_true] at h
  obtain ⟨⟨h1, h2⟩, h3⟩ := h
  simp only [Bool.and_eq_true, decide_eq_true_eq] at h1 h2
  split at h3
  · rename_i k1
    rw [Bool.and_eq_true] at h3
    simp only [Bool.and_eq_true, decide_eq_true_eq] at h3
    refine ⟨h1, h2, h3.1, keysX_len h3.2, fun x hx => ?_, fun hn => absurd k1 hn, fun h6 => by omega, fun _ => h3.2⟩
    obtain ⟨j, hj, rfl⟩ := List.getElem_of_mem hx
    have ho := keysX_at h3.2 hj
    unfold okAt at ho
    rw [Bool.and_eq_true] at ho
    have hz := isNm_size ho.1
    have e : (tx xs j).size = xs[j].length := by unfold tx; simp [ByteArray.size, hj]
    omega
  · rename_i k1
    split at h3
    · simp only [Bool.and_eq_true, decide_eq_true_eq] at h3
      have hx : xs = [] := List.eq_nil_of_length_eq_zero h3.2
      subst hx
      exact ⟨h1, h2, by omega, by simp, by simp, fun _ => rfl, fun _ => h3.1, fun hn => absurd hn k1⟩
    · rename_i k6
      simp only [Bool.and_eq_true, decide_eq_true_eq] at h3
      have hx : xs = [] := List.eq_nil_of_length_eq_zero h3.2
      subst hx
      exact ⟨h1, h2, h3.1, by simp, by simp, fun _ => rfl, fun hn => absurd hn k6, fun hn => absurd hn k1⟩
theorem lst_small {xs : List (List UInt8)} (h : xs.length ≤ 2) (h2 : ∀ x ∈ xs, x.length ≤ 32) : (PackMath.lst xs).length ≤ 88 := by
  have hn : (PackMath.num xs.length).length ≤ 8 := PackMath.num_len8 _ (by omega)
  have ht : ∀ x ∈ xs, (PackMath.txt x).length ≤ 40 := fun x hx => by
    have h1 := h2 x hx
    have := PackMath.num_len8 x.length (by omega)
    unfold PackMath.txt
    rw [List.length_append]
    omega
  unfold PackMath.lst PackMath.txts
  rw [List.length_append]
  match xs, h, ht, hn with
  | [], _, _, hn =>
    have h0 : (PackMath.num 0).length ≤ 8 := PackMath.num_len8 0 (by omega)
    simp
    omega
  | [a], _, ht, hn =>
    have ha := ht a (by simp)
    simp only [List.flatMap_cons, List.flatMap_nil, List.length_append, List.length_nil]
    omega
  | [a, b], _, ht, hn =>
    have ha := ht a (by simp)
    have hb := ht b (by simp)
    simp only [List.flatMap_cons, List.flatMap_nil, List.length_append, List.length_nil]
    omega
  | _ :: _ :: _ :: _, h, _, _ => simp at h
theorem event_yes (t : Tb) (k i s : Nat) (v : Value) (xs : List (List UInt8)) (w : World) (hT : Hid (TabX t w)) (hlow : Hid (1 < w.heap.size ∧ 2 < w.heap.size)) (hS : SRow w v xs) (hm : evMay t k i s xs = true) :
    Calls Try.prog 13 #[.agg #[.int .i64 (k : Int), .int .i64 (i : Int), .int .i64 (s : Int), v]] w fun e w' => e = .returned (.tuple #[bstr (evL k i s xs), .int .i64 0]) ∧ Below w.heap.size w w' := by
  obtain ⟨f1, f2, f3, f4, f5, _⟩ := evMay_facts hm
  refine event_call (by obtain ⟨ao, cap, rfl, _⟩ := hS; exact ⟨_, _, _, rfl⟩) (fun w1 hb1 => write_yesW _ _ _ _ _ w1 (m_event_may _) (m_event_form _) e_event_may e_event_form ?_ (fun w2 hb2 => ?_))
  · have x := evMay_any t (k : Int) i s v xs (by omega) (fun x hx => by have := f5 x hx; omega) w1 (hT.out.below hb1 hlow.out) ⟨Nat.lt_of_lt_of_le hlow.out.1 hb1.size, Nat.lt_of_lt_of_le hlow.out.2 hb1.size⟩ (srow_below hS hb1)
    rw [hm] at x
    exact x
  · exact evForm_any k i s (by omega) (by omega) (by omega) v xs f4 (fun x hx => by have := f5 x hx; omega) (by have := lst_small f4 f5; omega) w2 (srow_below (srow_below hS hb1) hb2)
theorem event_no (t : Tb) (k i s : Int) (v : Value) (xs : List (List UInt8)) (hx : xs.length ≤ 140737488355328) (hxs : ∀ s ∈ xs, s.length ≤ 140737488351232) (w : World) (hT : Hid (TabX t w)) (hlow : Hid (1 < w.heap.size ∧ 2 < w.heap.size)) (hS : SRow w v xs) (hm : evMay t k i s xs = false) :
    Calls Try.prog 13 #[.agg #[.int .i64 k, .int .i64 i, .int .i64 s, v]] w fun e w' => e = .returned (.tuple #[.string ⟨#[]⟩, .int .i64 1]) ∧ Below w.heap.size w w' := by
  refine event_call (by obtain ⟨ao, cap, rfl, _⟩ := hS; exact ⟨_, _, _, rfl⟩) (fun w1 hb1 => write_noW _ _ _ w1 (m_event_may _) e_event_may ?_)
  have x := evMay_any t k i s v xs hx hxs w1 (hT.out.below hb1 hlow.out) ⟨Nat.lt_of_lt_of_le hlow.out.1 hb1.size, Nat.lt_of_lt_of_le hlow.out.2 hb1.size⟩ (srow_below hS hb1)
  rw [hm] at x
  exact x
end Go.Proofs.Yteicfkgcbpioiaa

/- Reading the form of an event, whatever stands behind it: event, value. -/
set_option linter.unusedVariables false
set_option linter.unusedSimpArgs false
set_option maxRecDepth 100000
namespace Go.Proofs.Yteicfkgcbpioiaa.Pl
open Go.RowKit Go.Proofs.Yteicfkgcbpioiaa

theorem tn_one {n : Nat} (h : n < 128) (l : List UInt8) : PackMath.tn (UInt8.ofNat n :: l) = (n, 1, 0) := by
  have x := PackMath.tn_num n (by omega) l
  rw [PackMath.num_lt n h] at x
  exact x
theorem nums_two {a b : Nat} (ha : a < 128) (hb : b < 128) : numsL [a, b] = [UInt8.ofNat a, UInt8.ofNat b] := by
  unfold numsL
  simp [PackMath.num_lt a ha, PackMath.num_lt b hb]
theorem nums_three {a b c : Nat} (ha : a < 128) (hb : b < 128) (hc : c < 128) : numsL [a, b, c] = [UInt8.ofNat a, UInt8.ofNat b, UInt8.ofNat c] := by
  unfold numsL
  simp [PackMath.num_lt a ha, PackMath.num_lt b hb, PackMath.num_lt c hc]
section
variable {B : Nat} {w wr : World} {rs : List Res}
theorem Has.nilT (h : Has B w rs wr) : Has B w (TR nilS [] :: rs) wr :=
  h.add (new := [TR nilS []]) (Below.refl _ _) (Hold.one ⟨World.ownsRow_nil _ _ _ _, rfl⟩) (fun k hk => by cases hk)
theorem eventR_any {q k i s : Nat} {S : ByteArray} {xs : List (List UInt8)} {r : List UInt8} (hS : S.size ≤ 4611686018427387904) (hk : 1 ≤ k ∧ k ≤ 6) (hi : i ≤ 60) (hs : s ≤ 7) (hx : xs.length ≤ 4000) (hxs : ∀ x ∈ xs, x.length ≤ 2000) (hn : k ≠ 1 → xs = []) (h6 : k = 6 → s = 0)
    (he : S.data.toList = evL k i s xs ++ r) (h : Has B w (RdR q S 1 :: rs) wr) :
    Calls Try.prog 34 #[.pointer (some ⟨q, 0, none⟩)] wr fun e w' => ∃ ao cap, e = .returned (.agg (vV k i s (.slice ao xs.length cap)).toArray) ∧ Hid (Has B w (RdR q S (evL k i s xs).length :: TR (.slice ao xs.length cap) xs :: rs) w') := by
  have hl : S.data.toList.length = S.size := Array.length_toList
  unfold evL at he ⊢
  by_cases k1 : k = 1
  · subst k1
    rw [if_pos rfl, nums_three (by omega) (by omega) (by omega)] at he ⊢
    have e1 : S.data.toList = 69 :: UInt8.ofNat 1 :: UInt8.ofNat i :: UInt8.ofNat s :: (PackMath.lst xs ++ r) := by rw [he]; simp
    have h4 : 4 ≤ S.size := by rw [← hl, e1]; simp
    refine (evR1 (c := (PackMath.lst xs).length) (xs := xs) hS h4 h (by rw [e1]; exact tn_one (by omega) _) (by rw [e1]; exact tn_one (by omega) _) (by rw [e1]; exact tn_one (by omega) _) (by rw [e1]; exact PackMath.tl_lst xs r hx hxs)).mono ?_
    rintro e w' ⟨ao, cap, rfl, H⟩
    refine ⟨ao, cap, rfl, ?_⟩
    have e2 : (69 :: ([UInt8.ofNat 1, UInt8.ofNat i, UInt8.ofNat s] ++ PackMath.lst xs)).length = 4 + (PackMath.lst xs).length := by simp; omega
    rw [e2]
    exact H
  · obtain rfl := hn k1
    by_cases k6 : k = 6
    · subst k6
      obtain rfl := h6 rfl
      rw [if_neg (by decide), if_pos rfl, nums_two (by omega) (by omega)] at he ⊢
      have e1 : S.data.toList = 69 :: UInt8.ofNat 6 :: UInt8.ofNat i :: r := by rw [he]; simp
      have h4 : 3 ≤ S.size := by rw [← hl, e1]; simp
      refine (evR6 hS h4 h (by rw [e1]; exact tn_one (by omega) _) (by rw [e1]; exact tn_one (by omega) _)).mono ?_
      rintro e w' ⟨rfl, H⟩
      exact ⟨none, 0, rfl, (H.nilT).perm (List.Perm.swap _ _ _)⟩
    · rw [if_neg k1, if_neg k6, nums_three (by omega) (by omega) (by omega)] at he ⊢
      have e1 : S.data.toList = 69 :: UInt8.ofNat k :: UInt8.ofNat i :: UInt8.ofNat s :: r := by rw [he]; simp
      have h4 : 4 ≤ S.size := by rw [← hl, e1]; simp
      refine (evRK hS h4 h (by rw [e1]; exact tn_one (by omega) _) (by rw [e1]; exact tn_one (by omega) _) (by rw [e1]; exact tn_one (by omega) _) k1 k6).mono ?_
      rintro e w' ⟨rfl, H⟩
      exact ⟨none, 0, rfl, (H.nilT).perm (List.Perm.swap _ _ _)⟩
theorem head_is {S : ByteArray} {b : UInt8} {l : List UInt8} (h : S.data.toList = b :: l) (c : UInt8) : ((S.extract 0 1).toList == [c]) = (b == c) := by
  have e : (S.extract 0 1).toList = [b] := by
    rw [Lib.toList_data]
    simp [ByteArray.data_extract, Array.toList_extract, List.extract, h]
  rw [e]
  simp
set_option maxHeartbeats 2000000 in
theorem valueE_any {q k i s : Nat} {S : ByteArray} {xs : List (List UInt8)} {r : List UInt8} (hS : S.size ≤ 4611686018427387904) (hk : 1 ≤ k ∧ k ≤ 6) (hi : i ≤ 60) (hs : s ≤ 7) (hx : xs.length ≤ 4000) (hxs : ∀ x ∈ xs, x.length ≤ 2000) (hn : k ≠ 1 → xs = []) (h6 : k = 6 → s = 0)
    (he : S.data.toList = evL k i s xs ++ r) (h : Has B w (RdR q S 0 :: rs) wr) :
    Calls Try.prog 29 #[.pointer (some ⟨q, 0, none⟩)] wr fun e w' => ∃ ao cap, e = .returned (.iface 58 (.agg (vV k i s (.slice ao xs.length cap)).toArray)) ∧ Hid (Has B w (RdR q S (evL k i s xs).length :: TR (.slice ao xs.length cap) xs :: rs) w') := by
  have hl : S.data.toList.length = S.size := Array.length_toList
  have hz : S.size ≠ 0 := by rw [← hl, he]; unfold evL; simp
  have hz1 : (1 : Int) ≤ (S.size : Int) := by omega
  have hem := emp_no S hz
  have hc : S.data.toList = 69 :: ((if k = 1 then numsL [1, i, s] ++ PackMath.lst xs else if k = 6 then numsL [6, i] else numsL [k, i, s]) ++ r) := he
  have k1 := head_is hc 76
  have k2 := head_is hc 69
  rw [show ((69 : UInt8) == 76) = false from by decide] at k1
  rw [show ((69 : UInt8) == 69) = true from by decide] at k2
  have H1 : Hid (Has B w (RdR q S 1 :: rs) (wr.setCell ⟨q, 1, none⟩ (.int .i64 1))) := h.put 1 (by simp) (.int .i64 1)
  have D1 : Hid (Calls Try.prog 34 #[.pointer (some ⟨q, 0, none⟩)] (wr.setCell ⟨q, 1, none⟩ (.int .i64 1)) fun e w' => ∃ ao cap, e = .returned (.agg (vV k i s (.slice ao xs.length cap)).toArray) ∧ Hid (Has B w (RdR q S (evL k i s xs).length :: TR (.slice ao xs.length cap) xs :: rs) w')) := eventR_any hS hk hi hs hx hxs hn h6 he H1.out
  obtain ⟨c0, _⟩ := h.bcell (q := q) (vs := [.string S, .int .i64 0]) List.mem_cons_self 0 _ rfl
  obtain ⟨c1, f1⟩ := h.bcell (q := q) (vs := [.string S, .int .i64 0]) List.mem_cons_self 1 _ rfl
  clear h H1 he hc hn h6 hxs hl
  go_enter Try.func29, Try.ntmps29
  go_wp2_with fail
  refine D1.out.mono ?_
  rintro e w2 ⟨ao, cap, rfl, H2⟩
  clear D1
  go_wp2_with fail
  go_ret
  exact ⟨_, _, rfl, H2⟩
end
end Go.Proofs.Yteicfkgcbpioiaa.Pl
