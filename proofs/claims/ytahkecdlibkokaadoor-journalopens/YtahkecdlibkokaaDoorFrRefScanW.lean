/- The walks of the document's answer for package frame: Size, Scan. -/
import Derived.Test.YtahkecdlibkokaaDoorFrRefWrapW
import Derived.Test.YtahkecdlibkokaaDoorFrFirstW
set_option linter.unusedVariables false
set_option maxRecDepth 100000
namespace Go.Proofs.YtahkecdlibkokaaDoor.Fr
open Go.RowKit
open FrameMath (le le_length sz rec_ first scan used)

theorem mark_at (s : ByteArray) (p : Nat) (h : p < s.size) : (s.data.toList.drop p).take 1 = [s[p]] := by
  rw [List.drop_eq_getElem_cons (by rw [size_data]; exact h)]
  rfl
theorem sz_at (s : ByteArray) (p : Nat) (h : p + 8 ≤ s.size) : sz (s.data.toList.drop p) = s[p + 1].toNat + 256 * (s[p + 2].toNat + 256 * s[p + 3].toNat) := by
  have e : ∀ i, (hi : i < s.size) → s.data.toList[i]? = some (s[i]) := fun i hi => by
    rw [List.getElem?_eq_getElem (by rw [size_data]; omega)]; rfl
  have : ((s.data.toList.drop p).drop 1).take 3 = [s[p + 1], s[p + 2], s[p + 3]] := by
    apply List.ext_getElem?
    intro i
    rw [List.getElem?_take]
    match i with
    | 0 => simpa [List.getElem?_drop] using e (p + 1) (by omega)
    | 1 => simpa [List.getElem?_drop] using e (p + 2) (by omega)
    | 2 => simpa [List.getElem?_drop] using e (p + 3) (by omega)
    | i + 3 => simp; omega
  unfold sz
  rw [this]
  simp [CrcMath.val]
theorem wr (n : Nat) (h : n < 4611686018427387904) : IntKind.i64.wrap (n : Int) = (n : Int) := by
  rw [IntKind.wrap_i64]; omega
def sizeV (l : List UInt8) : Nat := match first l with
  | none => 0
  | some r => r.length + 8
theorem sizeV_none {l : List UInt8} (h : first l = none) : sizeV l = 0 := by unfold sizeV; rw [h]
theorem sizeV_some {l r : List UInt8} (h : first l = some r) : sizeV l = r.length + 8 := by unfold sizeV; rw [h]

theorem refSize_short (s : ByteArray) (p : Nat) (hs : s.size ≤ 140737488351232) (hp : p ≤ s.size) (h8 : s.size - p < 8) (w : World) :
    Calls Tryd.prog 77 #[.string s, .int .i64 (p : Int)] w fun e w' => e = .returned (.int .i64 0) ∧ w' = w := by
  have i8 : (s.size : Int) - (p : Int) < 8 := by omega
  go_enter Tryd.func77, Tryd.ntmps77
  go_wp2
  go_ret
  exact ⟨rfl, rfl⟩
theorem refSize_mark (s : ByteArray) (p : Nat) (hs : s.size ≤ 140737488351232) (h8 : p + 8 ≤ s.size) (hq : ¬ s[p].toNat = 167) (w : World) :
    Calls Tryd.prog 77 #[.string s, .int .i64 (p : Int)] w fun e w' => e = .returned (.int .i64 0) ∧ w' = w := by
  have i8 : ¬ (s.size : Int) - (p : Int) < 8 := by omega
  have i0 : (p : Int) < (s.size : Int) := by omega
  have q1 : (((s[p].toNat : Int)) != 167) = true := by simp; omega
  have q2 : (((s[p].toNat : Int)) == 167) = false := by simp; omega
  go_enter Tryd.func77, Tryd.ntmps77
  go_wp2
  all_goals first | (go_ret; exact ⟨rfl, rfl⟩) | (exfalso; simp_all; done)

theorem three_sum (a b c : Nat) (ha : a < 256) (hb : b < 256) (hc : c < 256) : wrap64 (wrap64 (wrap64 (a : Int) + wrap64 (256 * wrap64 (b : Int))) + wrap64 (65536 * wrap64 (c : Int))) = ((a + 256 * (b + 256 * c) : Nat) : Int) := by
  unfold wrap64
  omega

/-- The places that Size looks at. -/
structure Places (s : ByteArray) (p p1 p2 p3 p4 p8 : Nat) : Prop where
  e1 : p1 = p + 1
  e2 : p2 = p + 2
  e3 : p3 = p + 3
  e4 : p4 = p + 4
  e8 : p8 = p + 8
  le : p + 8 ≤ s.size
set_option maxHeartbeats 2000000 in
theorem refSize_big (s : ByteArray) (p p1 p2 p3 p4 p8 : Nat) (hP : Places s p p1 p2 p3 p4 p8) (hs : s.size ≤ 140737488351232) (hps : p < s.size) (k1 : p1 < s.size) (k2 : p2 < s.size) (k3 : p3 < s.size) (hq : s[p].toNat = 167) (n : Nat) (hn : s[p1].toNat + 256 * (s[p2].toNat + 256 * s[p3].toNat) = n)
    (hb : 200000 < n ∨ (n ≤ 200000 ∧ s.size < p + n + 8)) (w : World) :
    Calls Tryd.prog 77 #[.string s, .int .i64 (p : Int)] w fun e w' => e = .returned (.int .i64 0) ∧ Below w.heap.size w w' := by
  obtain ⟨hp1, hp2, hp3, hp4, hp8, hle⟩ := hP
  have i8 : ¬ (s.size : Int) - (p : Int) < 8 := by omega
  have i0 : (p : Int) < (s.size : Int) := by omega
  have j1 : (p1 : Int) < (s.size : Int) := by omega
  have j2 : (p2 : Int) < (s.size : Int) := by omega
  have j3 : (p3 : Int) < (s.size : Int) := by omega
  have q1 : (((s[p].toNat : Int)) != 167) = false := by simp; omega
  have q2 : (((s[p].toNat : Int)) == 167) = true := by simp; omega
  have e1 : IntKind.i64.wrap ((p : Int) + 1) = (p1 : Int) := by rw [hp1]; exact wr (p + 1) (by omega)
  have e2 : IntKind.i64.wrap ((p : Int) + 2) = (p2 : Int) := by rw [hp2]; exact wr (p + 2) (by omega)
  have e3 : IntKind.i64.wrap ((p : Int) + 3) = (p3 : Int) := by rw [hp3]; exact wr (p + 3) (by omega)
  have h3 := three_sum s[p1].toNat s[p2].toNat s[p3].toNat (s[p1].toNat_lt) (s[p2].toNat_lt) (s[p3].toNat_lt)
  rw [hn] at h3
  have H3 : Hid (wrap64 (wrap64 (wrap64 (s[p1].toNat : Int) + wrap64 (256 * wrap64 (s[p2].toNat : Int))) + wrap64 (65536 * wrap64 (s[p3].toNat : Int))) = (n : Int)) := h3
  clear h3 hn hp1 hp2 hp3 hp4 hp8 hq
  go_enter Tryd.func77, Tryd.ntmps77
  go_wp2_with fail
  go_quiet (fail)
  rename_i nq
  rw [H3.out]
  clear H3 e1 e2 e3
  rcases hb with hb | ⟨hb, hb'⟩
  · have k1 : (200000 : Int) < (n : Int) := by omega
    go_wp2
    go_ret
    exact ⟨rfl, below_drewN (Below.refl _ _) nq⟩
  · have k1 : ¬ (200000 : Int) < (n : Int) := by omega
    have k2 : (s.size : Int) - (p : Int) - 8 < (n : Int) := by omega
    go_wp2
    go_ret
    exact ⟨rfl, below_drewN (Below.refl _ _) nq⟩

set_option maxHeartbeats 2000000 in
theorem refSize_sum (s : ByteArray) (p p1 p2 p3 p4 p8 pn : Nat) (hP : Places s p p1 p2 p3 p4 p8) (hs : s.size ≤ 140737488351232) (hps : p < s.size) (k1 : p1 < s.size) (k2 : p2 < s.size) (k3 : p3 < s.size) (hq : s[p].toNat = 167) (n : Nat) (hn : s[p1].toNat + 256 * (s[p2].toNat + 256 * s[p3].toNat) = n)
    (hpn : pn = p8 + n) (hb : n ≤ 200000) (hb' : pn ≤ s.size) (v : ByteArray) (hv : v.data.toList = le 4 (CrcMath.ext 0 (((s.data.toList.drop p).drop 1).take 3 ++ ((s.data.toList.drop p).drop 8).take n))) (b : Bool) (hvb : (v.toList == (s.extract p4 p8).toList) = b) (w : World) :
    Calls Tryd.prog 77 #[.string s, .int .i64 (p : Int)] w fun e w' => e = .returned (.int .i64 (if b then ((n + 8 : Nat) : Int) else 0)) ∧ Below w.heap.size w w' := by
  obtain ⟨hp1, hp2, hp3, hp4, hp8, hle⟩ := hP
  have i8 : ¬ (s.size : Int) - (p : Int) < 8 := by omega
  have i0 : (p : Int) < (s.size : Int) := by omega
  have j1 : (p1 : Int) < (s.size : Int) := by omega
  have j2 : (p2 : Int) < (s.size : Int) := by omega
  have j3 : (p3 : Int) < (s.size : Int) := by omega
  have q1 : (((s[p].toNat : Int)) != 167) = false := by simp; omega
  have q2 : (((s[p].toNat : Int)) == 167) = true := by simp; omega
  have e1 : IntKind.i64.wrap ((p : Int) + 1) = (p1 : Int) := by rw [hp1]; exact wr (p + 1) (by omega)
  have e2 : IntKind.i64.wrap ((p : Int) + 2) = (p2 : Int) := by rw [hp2]; exact wr (p + 2) (by omega)
  have e3 : IntKind.i64.wrap ((p : Int) + 3) = (p3 : Int) := by rw [hp3]; exact wr (p + 3) (by omega)
  have h3 := three_sum s[p1].toNat s[p2].toNat s[p3].toNat (s[p1].toNat_lt) (s[p2].toNat_lt) (s[p3].toNat_lt)
  rw [hn] at h3
  have H3 : Hid (wrap64 (wrap64 (wrap64 (s[p1].toNat : Int) + wrap64 (256 * wrap64 (s[p2].toNat : Int))) + wrap64 (65536 * wrap64 (s[p3].toNat : Int))) = (n : Int)) := h3
  clear h3 hn
  have e4 : IntKind.i64.wrap ((p : Int) + 4) = (p4 : Int) := by rw [hp4]; exact wr (p + 4) (by omega)
  have e8 : IntKind.i64.wrap ((p : Int) + 8) = (p8 : Int) := by rw [hp8]; exact wr (p + 8) (by omega)
  have en : IntKind.i64.wrap ((p8 : Int) + (n : Int)) = (pn : Int) := by rw [show (p8 : Int) + (n : Int) = (pn : Int) by omega]; exact wr pn (by omega)
  have m1 : (p1 : Int) ≤ (p4 : Int) := by omega
  have m4 : (p4 : Int) ≤ (s.size : Int) := by omega
  have m8 : (p8 : Int) ≤ (pn : Int) := by omega
  have mn : (pn : Int) ≤ (s.size : Int) := by omega
  have m48 : (p4 : Int) ≤ (p8 : Int) := by omega
  have m8s : (p8 : Int) ≤ (s.size : Int) := by omega
  have hdata : (s.extract p1 p4 ++ s.extract p8 pn).data.toList = ((s.data.toList.drop p).drop 1).take 3 ++ ((s.data.toList.drop p).drop 8).take n := by
    rw [ByteArray.data_append, Array.toList_append, extract_data, extract_data, List.drop_drop, List.drop_drop, hp1, hp4, hpn, hp8, show p + 4 - (p + 1) = 3 by omega, show p + 8 + n - (p + 8) = n by omega]
  have hlt : CrcMath.ext 0 (((s.data.toList.drop p).drop 1).take 3 ++ ((s.data.toList.drop p).drop 8).take n) < 4294967296 := CrcMath.ext_lt _ _ (by decide)
  have z1 : (s.extract p1 p4).size = 3 := by rw [ByteArray.size_extract]; omega
  have z2 : (s.extract p8 pn).size = n := by rw [ByteArray.size_extract]; omega
  have X1 : Hid (∀ w, Calls Tryd.prog 64 #[.string (s.extract p1 p4 ++ s.extract p8 pn)] w fun e w' => e = .returned (.int .u32 ((CrcMath.ext 0 (((s.data.toList.drop p).drop 1).take 3 ++ ((s.data.toList.drop p).drop 8).take n) : Nat) : Int)) ∧ w' = w) := by
    intro w
    have := refSum_any (s.extract p1 p4 ++ s.extract p8 pn) (by rw [ByteArray.size_append, z1, z2]; unfold maxLen; omega) w
    rw [hdata] at this
    exact this
  obtain ⟨I, instI, F, hF, hcov⟩ := fam w.heap.size w
  have HF : Hid (∀ i, Below w.heap.size w (F i)) := hF
  have X2 : Hid (∀ i, Calls Tryd.prog 65 #[.int .u32 ((CrcMath.ext 0 (((s.data.toList.drop p).drop 1).take 3 ++ ((s.data.toList.drop p).drop 8).take n) : Nat) : Int)] (F i) fun e w'' => e = .returned (.string v) ∧ ∃ j, w'' = F j) := fun i => by
    refine (refFour_any _ hlt (F i)).mono fun e w'' ⟨he, hb⟩ => ⟨?_, hcov _ ((hF i).trans (hb.mono (hF i).size))⟩
    rw [he, ← hv]
    unfold strV
    rw [data_mk]
  have H0 : Hid (∀ w', Below w.heap.size w w' → ∃ i, w'.drew = F i) := fun w' h => hcov _ h.drew
  have l1 : ¬ (200000 : Int) < (n : Int) := by omega
  have l2 : ¬ (s.size : Int) - (p : Int) - 8 < (n : Int) := by omega
  have E1 : Hid (IntKind.i64.wrap ((p : Int) + 1) = (p1 : Int)) := e1
  have E2 : Hid (IntKind.i64.wrap ((p : Int) + 2) = (p2 : Int)) := e2
  have E3 : Hid (IntKind.i64.wrap ((p : Int) + 3) = (p3 : Int)) := e3
  have E4 : Hid (IntKind.i64.wrap ((p : Int) + 4) = (p4 : Int)) := e4
  have E8 : Hid (IntKind.i64.wrap ((p : Int) + 8) = (p8 : Int)) := e8
  have EN : Hid (IntKind.i64.wrap ((p8 : Int) + (n : Int)) = (pn : Int)) := en
  clear e1 e2 e3 e4 e8 en
  generalize CrcMath.ext 0 (((s.data.toList.drop p).drop 1).take 3 ++ ((s.data.toList.drop p).drop 8).take n) = ex at *
  clear hF hcov hv hdata
  clear hp1 hp2 hp3 hp4 hp8 hq hpn
  go_enter Tryd.func77, Tryd.ntmps77
  go_wp2_with fail
  have e1 := E1.out
  have e2 := E2.out
  have e3 := E3.out
  go_quiet (fail)
  rename_i nq
  rw [H3.out]
  clear e1 e2 e3 E2 E3
  have HB5 : Hid (Below w.heap.size w (w.drewN nq)) := below_drewN (Below.refl _ _) nq
  generalize w.drewN nq = w5 at *
  go_wp2_with fail
  have e1 := E1.out
  have e4 := E4.out
  have e8 := E8.out
  have en := EN.out
  go_quiet ((go_at_call 64; exact Calls.quiet_of_same (X1.out _)))
  rename_i nq2
  clear e1 e4 e8 en E1 EN
  go_wp2_with fail
  have e4 := E4.out
  have e8 := E8.out
  refine wp_region_fam F (by kernel_rfl) (by kernel_rfl) (H0.out _ (below_drewN HB5.out _)) ?_
  repeat (go_big_quiet_step (exact X2.out _))
  refine wpQuiet_nil ?_
  rintro w' ⟨i, hw'⟩
  rw [hw']
  clear hw' e4 e8 E4 E8
  cases b
  · go_wp2
    go_ret
    exact ⟨rfl, HF.out i⟩
  · go_wp2
    go_ret
    exact ⟨by simp, HF.out i⟩
end Go.Proofs.YtahkecdlibkokaaDoor.Fr