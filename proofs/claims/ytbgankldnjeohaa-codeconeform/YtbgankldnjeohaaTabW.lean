/- unicode/utf8's decoder at tables of any content: the slow way, at a text of two bytes and more. -/
import Derived.Test.YtbgankldnjeohaaShelf
import Derived.Test.YtbgankldnjeohaaNmWalks
import Derived.Lib.DecodeN
set_option linter.unusedVariables false
set_option maxRecDepth 100000
namespace Go.Proofs.Ytbgankldnjeohaa
open Go.RowKit Go.Lib

/-- What the two tables hold. -/
structure Tb where
  F : Nat → Nat
  lo : Nat → Nat
  hi : Nat → Nat
/-- They lie in the world. -/
def TabX (t : Tb) (w : World) : Prop :=
  (∀ c, c < 256 → w.cell? ⟨0, c, none⟩ = some (.int .u8 (t.F c : Nat)) ∧ t.F c < 256) ∧
  (∀ i, i < 16 → w.cell? ⟨1, 2 * i, none⟩ = some (.int .u8 (t.lo i : Nat)) ∧ w.cell? ⟨1, 2 * i + 1, none⟩ = some (.int .u8 (t.hi i : Nat)))
theorem TabX.below {t : Tb} {B : Nat} {w w' : World} (h : TabX t w) (hb : Below B w w') (hB : 0 < B ∧ 1 < B) : TabX t w' :=
  ⟨fun c hc => ⟨(hb.cell (p := ⟨0, c, none⟩) hB.1).trans (h.1 c hc).1, (h.1 c hc).2⟩, fun i hi => ⟨(hb.cell (p := ⟨1, 2 * i, none⟩) hB.2).trans (h.2 i hi).1, (hb.cell (p := ⟨1, 2 * i + 1, none⟩) hB.2).trans (h.2 i hi).2⟩⟩
/-- What the slow way answers. -/
def slowX (t : Tb) (s : ByteArray) : Int × Nat :=
  if 240 ≤ t.F (s.get! 0).toNat then (if t.F (s.get! 0).toNat % 2 = 0 then (((s.get! 0).toNat : Nat) : Int) else 65533, 1)
  else ((((slowN s.size (s.get! 0).toNat (s.get! 1).toNat (s.get! 2).toNat (s.get! 3).toNat (t.F (s.get! 0).toNat % 8) (t.lo (t.F (s.get! 0).toNat / 16)) (t.hi (t.F (s.get! 0).toNat / 16))).1 : Nat) : Int), (slowN s.size (s.get! 0).toNat (s.get! 1).toNat (s.get! 2).toNat (s.get! 3).toNat (t.F (s.get! 0).toNat % 8) (t.lo (t.F (s.get! 0).toNat / 16)) (t.hi (t.F (s.get! 0).toNat / 16))).2)
theorem slowX_hi (t : Tb) (s : ByteArray) (x0 x1 x2 x3 : UInt8) (hx0 : s.get! 0 = x0) (x : Nat) (hF : t.F x0.toNat = x) (h : 240 ≤ x) : slowX t s = (if x % 2 = 0 then ((x0.toNat : Nat) : Int) else 65533, 1) := by
  unfold slowX; rw [hx0, hF, if_pos h]
theorem slowX_lo (t : Tb) (s : ByteArray) (x0 x1 x2 x3 : UInt8) (hx0 : s.get! 0 = x0) (hx1 : s.get! 1 = x1) (hx2 : s.get! 2 = x2) (hx3 : s.get! 3 = x3) (x : Nat) (hF : t.F x0.toNat = x) (h : ¬ 240 ≤ x) (L H : Nat) (hL : t.lo (x / 16) = L) (hH : t.hi (x / 16) = H) :
    slowX t s = ((((slowN s.size x0.toNat x1.toNat x2.toNat x3.toNat (x % 8) L H).1 : Nat) : Int), (slowN s.size x0.toNat x1.toNat x2.toNat x3.toNat (x % 8) L H).2) := by
  unfold slowX; rw [hx0, hx1, hx2, hx3, hF, hL, hH, if_neg h]
macro "utf8_leaf" : tactic => `(tactic|
  (unfold slowN
   repeat' split
   all_goals first
     | (exfalso; omega)
     | rfl
     | (simp only [Int.natCast_add, Int.natCast_mul, Int.natCast_emod, Int.natCast_ofNat]; rfl)))

set_option maxHeartbeats 4000000 in
theorem slow_hi (t : Tb) (s : ByteArray) (w : World) (hT : TabX t w) (h2 : 2 ≤ s.size) (hh : 240 ≤ t.F (s.get! 0).toNat) :
    Calls Try.prog 80 #[.string s] w fun e w' => e = .returned (.tuple #[.int .i32 (slowX t s).1, .int .i64 (slowX t s).2]) ∧ Below w.heap.size w w' := by
  have hz0 : (0 : Int) < (s.size : Int) := by omega
  have hz0' : ¬ ((s.size : Int) < 1) := by omega
  obtain ⟨x0, hx0⟩ : ∃ x0, s.get! 0 = x0 := ⟨_, rfl⟩
  obtain ⟨x1, hx1⟩ : ∃ x1, s.get! 1 = x1 := ⟨_, rfl⟩
  obtain ⟨x2, hx2⟩ : ∃ x2, s.get! 2 = x2 := ⟨_, rfl⟩
  obtain ⟨x3, hx3⟩ : ∃ x3, s.get! 3 = x3 := ⟨_, rfl⟩
  have hs0 : s[0]'(by omega) = x0 := by rw [← hx0]; exact (Utf8W.get!_of_lt s 0 (by omega)).symm
  have l0 := x0.toNat_lt
  rw [hx0] at hh
  obtain ⟨hc0, hc1⟩ := hT.1 x0.toNat (by omega)
  obtain ⟨x, hFx⟩ : ∃ x, t.F x0.toNat = x := ⟨_, rfl⟩
  rw [hFx] at hc0 hc1 hh
  have hx : x = 240 ∨ x = 241 ∨ x = 242 ∨ x = 243 ∨ x = 244 ∨ x = 245 ∨ x = 246 ∨ x = 247 ∨ x = 248 ∨ x = 249 ∨ x = 250 ∨ x = 251 ∨ x = 252 ∨ x = 253 ∨ x = 254 ∨ x = 255 := by omega
  clear hh hc1
  rcases hx with rfl | rfl | rfl | rfl | rfl | rfl | rfl | rfl | rfl | rfl | rfl | rfl | rfl | rfl | rfl | rfl
  · have hm : wrap32 515396075520 / 2147483648 = 0 := by unfold wrap32; omega
    rw [slowX_hi t s x0 x1 x2 x3 hx0 240 hFx (by decide)]
    clear hT hFx
    go_enter Try.func80, Try.ntmps80
    go_wp2
    rw [Utf8W.keep_byte ⟨x0.toNat, l0⟩]
    go_ret2
    exact ⟨rfl, Below.refl _ _⟩
  · have hm : wrap32 517543559168 / 2147483648 = (-1) := by unfold wrap32; omega
    rw [slowX_hi t s x0 x1 x2 x3 hx0 241 hFx (by decide)]
    clear hT hFx
    go_enter Try.func80, Try.ntmps80
    go_wp2
    rw [Utf8W.drop_byte ⟨x0.toNat, l0⟩]
    go_ret2
    exact ⟨rfl, Below.refl _ _⟩
  · have hm : wrap32 519691042816 / 2147483648 = 0 := by unfold wrap32; omega
    rw [slowX_hi t s x0 x1 x2 x3 hx0 242 hFx (by decide)]
    clear hT hFx
    go_enter Try.func80, Try.ntmps80
    go_wp2
    rw [Utf8W.keep_byte ⟨x0.toNat, l0⟩]
    go_ret2
    exact ⟨rfl, Below.refl _ _⟩
  · have hm : wrap32 521838526464 / 2147483648 = (-1) := by unfold wrap32; omega
    rw [slowX_hi t s x0 x1 x2 x3 hx0 243 hFx (by decide)]
    clear hT hFx
    go_enter Try.func80, Try.ntmps80
    go_wp2
    rw [Utf8W.drop_byte ⟨x0.toNat, l0⟩]
    go_ret2
    exact ⟨rfl, Below.refl _ _⟩
  · have hm : wrap32 523986010112 / 2147483648 = 0 := by unfold wrap32; omega
    rw [slowX_hi t s x0 x1 x2 x3 hx0 244 hFx (by decide)]
    clear hT hFx
    go_enter Try.func80, Try.ntmps80
    go_wp2
    rw [Utf8W.keep_byte ⟨x0.toNat, l0⟩]
    go_ret2
    exact ⟨rfl, Below.refl _ _⟩
  · have hm : wrap32 526133493760 / 2147483648 = (-1) := by unfold wrap32; omega
    rw [slowX_hi t s x0 x1 x2 x3 hx0 245 hFx (by decide)]
    clear hT hFx
    go_enter Try.func80, Try.ntmps80
    go_wp2
    rw [Utf8W.drop_byte ⟨x0.toNat, l0⟩]
    go_ret2
    exact ⟨rfl, Below.refl _ _⟩
  · have hm : wrap32 528280977408 / 2147483648 = 0 := by unfold wrap32; omega
    rw [slowX_hi t s x0 x1 x2 x3 hx0 246 hFx (by decide)]
    clear hT hFx
    go_enter Try.func80, Try.ntmps80
    go_wp2
    rw [Utf8W.keep_byte ⟨x0.toNat, l0⟩]
    go_ret2
    exact ⟨rfl, Below.refl _ _⟩
  · have hm : wrap32 530428461056 / 2147483648 = (-1) := by unfold wrap32; omega
    rw [slowX_hi t s x0 x1 x2 x3 hx0 247 hFx (by decide)]
    clear hT hFx
    go_enter Try.func80, Try.ntmps80
    go_wp2
    rw [Utf8W.drop_byte ⟨x0.toNat, l0⟩]
    go_ret2
    exact ⟨rfl, Below.refl _ _⟩
  · have hm : wrap32 532575944704 / 2147483648 = 0 := by unfold wrap32; omega
    rw [slowX_hi t s x0 x1 x2 x3 hx0 248 hFx (by decide)]
    clear hT hFx
    go_enter Try.func80, Try.ntmps80
    go_wp2
    rw [Utf8W.keep_byte ⟨x0.toNat, l0⟩]
    go_ret2
    exact ⟨rfl, Below.refl _ _⟩
  · have hm : wrap32 534723428352 / 2147483648 = (-1) := by unfold wrap32; omega
    rw [slowX_hi t s x0 x1 x2 x3 hx0 249 hFx (by decide)]
    clear hT hFx
    go_enter Try.func80, Try.ntmps80
    go_wp2
    rw [Utf8W.drop_byte ⟨x0.toNat, l0⟩]
    go_ret2
    exact ⟨rfl, Below.refl _ _⟩
  · have hm : wrap32 536870912000 / 2147483648 = 0 := by unfold wrap32; omega
    rw [slowX_hi t s x0 x1 x2 x3 hx0 250 hFx (by decide)]
    clear hT hFx
    go_enter Try.func80, Try.ntmps80
    go_wp2
    rw [Utf8W.keep_byte ⟨x0.toNat, l0⟩]
    go_ret2
    exact ⟨rfl, Below.refl _ _⟩
  · have hm : wrap32 539018395648 / 2147483648 = (-1) := by unfold wrap32; omega
    rw [slowX_hi t s x0 x1 x2 x3 hx0 251 hFx (by decide)]
    clear hT hFx
    go_enter Try.func80, Try.ntmps80
    go_wp2
    rw [Utf8W.drop_byte ⟨x0.toNat, l0⟩]
    go_ret2
    exact ⟨rfl, Below.refl _ _⟩
  · have hm : wrap32 541165879296 / 2147483648 = 0 := by unfold wrap32; omega
    rw [slowX_hi t s x0 x1 x2 x3 hx0 252 hFx (by decide)]
    clear hT hFx
    go_enter Try.func80, Try.ntmps80
    go_wp2
    rw [Utf8W.keep_byte ⟨x0.toNat, l0⟩]
    go_ret2
    exact ⟨rfl, Below.refl _ _⟩
  · have hm : wrap32 543313362944 / 2147483648 = (-1) := by unfold wrap32; omega
    rw [slowX_hi t s x0 x1 x2 x3 hx0 253 hFx (by decide)]
    clear hT hFx
    go_enter Try.func80, Try.ntmps80
    go_wp2
    rw [Utf8W.drop_byte ⟨x0.toNat, l0⟩]
    go_ret2
    exact ⟨rfl, Below.refl _ _⟩
  · have hm : wrap32 545460846592 / 2147483648 = 0 := by unfold wrap32; omega
    rw [slowX_hi t s x0 x1 x2 x3 hx0 254 hFx (by decide)]
    clear hT hFx
    go_enter Try.func80, Try.ntmps80
    go_wp2
    rw [Utf8W.keep_byte ⟨x0.toNat, l0⟩]
    go_ret2
    exact ⟨rfl, Below.refl _ _⟩
  · have hm : wrap32 547608330240 / 2147483648 = (-1) := by unfold wrap32; omega
    rw [slowX_hi t s x0 x1 x2 x3 hx0 255 hFx (by decide)]
    clear hT hFx
    go_enter Try.func80, Try.ntmps80
    go_wp2
    rw [Utf8W.drop_byte ⟨x0.toNat, l0⟩]
    go_ret2
    exact ⟨rfl, Below.refl _ _⟩

set_option maxHeartbeats 4000000 in
theorem slow_lo (t : Tb) (s : ByteArray) (w : World) (hT : TabX t w) (h2 : 2 ≤ s.size) (hh : ¬ 240 ≤ t.F (s.get! 0).toNat) :
    Calls Try.prog 80 #[.string s] w fun e w' => e = .returned (.tuple #[.int .i32 (slowX t s).1, .int .i64 (slowX t s).2]) ∧ Below w.heap.size w w' := by
  have hz0 : (0 : Int) < (s.size : Int) := by omega
  have hz0' : ¬ ((s.size : Int) < 1) := by omega
  have hz1 : (1 : Int) < (s.size : Int) := by omega
  obtain ⟨x0, hx0⟩ : ∃ x0, s.get! 0 = x0 := ⟨_, rfl⟩
  obtain ⟨x1, hx1⟩ : ∃ x1, s.get! 1 = x1 := ⟨_, rfl⟩
  obtain ⟨x2, hx2⟩ : ∃ x2, s.get! 2 = x2 := ⟨_, rfl⟩
  obtain ⟨x3, hx3⟩ : ∃ x3, s.get! 3 = x3 := ⟨_, rfl⟩
  have hs0 : s[0]'(by omega) = x0 := by rw [← hx0]; exact (Utf8W.get!_of_lt s 0 (by omega)).symm
  have hs1 : s[1]'(by omega) = x1 := by rw [← hx1]; exact (Utf8W.get!_of_lt s 1 (by omega)).symm
  have l0 := x0.toNat_lt; have l1 := x1.toNat_lt; have l2 := x2.toNat_lt; have l3 := x3.toNat_lt
  rw [hx0] at hh
  obtain ⟨hc0, hc1⟩ := hT.1 x0.toNat (by omega)
  obtain ⟨x, hFx⟩ : ∃ x, t.F x0.toNat = x := ⟨_, rfl⟩
  rw [hFx] at hc0 hc1 hh
  obtain ⟨ha0, ha1⟩ := hT.2 (x / 16) (by omega)
  obtain ⟨L, hL⟩ : ∃ L, t.lo (x / 16) = L := ⟨_, rfl⟩
  obtain ⟨H, hH⟩ : ∃ H, t.hi (x / 16) = H := ⟨_, rfl⟩
  rw [slowX_lo t s x0 x1 x2 x3 hx0 hx1 hx2 hx3 x hFx hh L H hL hH]
  rw [hL] at ha0
  rw [hH] at ha1
  clear hL hH hFx hT
  obtain ⟨i, hi⟩ : ∃ i, x / 16 = i := ⟨_, rfl⟩
  have hi16 : i < 16 := by omega
  rw [hi, Nat.mul_comm] at ha0 ha1
  have h8 : x % 8 < 8 := Nat.mod_lt _ (by decide)
  by_cases h3 : 2 < s.size
  · have hs2 : s[2]'h3 = x2 := by rw [← hx2]; exact (Utf8W.get!_of_lt s 2 (by omega)).symm
    by_cases h4 : 3 < s.size
    · have hs3 : s[3]'h4 = x3 := by rw [← hx3]; exact (Utf8W.get!_of_lt s 3 (by omega)).symm
      have hz2 : (2 : Int) < (s.size : Int) := by omega
      have hz3 : (3 : Int) < (s.size : Int) := by omega
      go_enter Try.func80, Try.ntmps80
      go_wp2
      all_goals (go_ret2; refine ⟨?_, (Below.refl _ _).alloc (Nat.le_refl _) _⟩; utf8_leaf)
    · have hz2 : (2 : Int) < (s.size : Int) := by omega
      have hz3 : (s.size : Int) = 3 := by omega
      go_enter Try.func80, Try.ntmps80
      go_wp2
      all_goals (go_ret2; refine ⟨?_, (Below.refl _ _).alloc (Nat.le_refl _) _⟩; utf8_leaf)
  · have hz2 : (s.size : Int) = 2 := by omega
    go_enter Try.func80, Try.ntmps80
    go_wp2
    all_goals (go_ret2; refine ⟨?_, (Below.refl _ _).alloc (Nat.le_refl _) _⟩; utf8_leaf)
end Go.Proofs.Ytbgankldnjeohaa
