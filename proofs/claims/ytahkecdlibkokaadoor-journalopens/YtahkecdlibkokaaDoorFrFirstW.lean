/- The walk of firstRecord, in package frame. -/
import Derived.Test.YtahkecdlibkokaaDoorFrLowW
set_option linter.unusedVariables false
set_option maxRecDepth 100000
namespace Go.Proofs.YtahkecdlibkokaaDoor.Fr
open Go.RowKit
open FrameMath (le le_length sz rec_ first)

theorem i64_or_nat (a b : Nat) (ha : a < 4294967296) (hb : b < 4294967296) : bits .or .i64 (a : Int) (b : Int) = ((a ||| b : Nat) : Int) := by
  have hx : a ||| b < 2 ^ 32 := Nat.or_lt_two_pow (by omega) (by omega)
  show IntKind.i64.wrap ((BitVec.ofInt 64 (a : Int) ||| BitVec.ofInt 64 (b : Int)).toNat : Int) = _
  rw [BitVec.toNat_or, ofInt_u64 a (by omega), ofInt_u64 b (by omega), IntKind.wrap_i64]
  omega
theorem or_three (a b c : Nat) (ha : a < 256) (hb : b < 256) (hc : c < 256) : bits .or .i64 (bits .or .i64 (a : Int) ((b : Int) * 256)) ((c : Int) * 65536) = ((a + 256 * (b + 256 * c) : Nat) : Int) := by
  have e1 : ((b : Int) * 256) = ((2 ^ 8 * b : Nat) : Int) := by omega
  have e2 : ((c : Int) * 65536) = ((2 ^ 16 * c : Nat) : Int) := by omega
  have h1 : a ||| 2 ^ 8 * b = 2 ^ 8 * b + a := by rw [Nat.or_comm]; exact (Nat.two_pow_add_eq_or_of_lt ha b).symm
  have h2 : (2 ^ 8 * b + a) ||| 2 ^ 16 * c = 2 ^ 16 * c + (2 ^ 8 * b + a) := by rw [Nat.or_comm]; exact (Nat.two_pow_add_eq_or_of_lt (by omega) c).symm
  rw [e1, e2, i64_or_nat _ _ (by omega) (by omega), h1, i64_or_nat _ _ (by omega) (by omega), h2]
  omega
theorem w64 (n : Nat) (h : n < 4294967296) : wrap64 (n : Int) = (n : Int) := by
  unfold wrap64
  omega
theorem or_three' (a b c : Nat) (ha : a < 256) (hb : b < 256) (hc : c < 256) : bits .or .i64 (bits .or .i64 (wrap64 (a : Int)) (wrap64 (wrap64 (b : Int) * 256))) (wrap64 (wrap64 (c : Int) * 65536)) = ((a + 256 * (b + 256 * c) : Nat) : Int) := by
  rw [w64 a (by omega), w64 b (by omega), w64 c (by omega), show (b : Int) * 256 = ((b * 256 : Nat) : Int) by omega, show (c : Int) * 65536 = ((c * 65536 : Nat) : Int) by omega, w64 _ (by omega), w64 _ (by omega), ← or_three a b c ha hb hc]
  congr 1
theorem sz_bytes (s : ByteArray) (h : 8 ≤ s.size) : sz s.data.toList = s[1].toNat + 256 * (s[2].toNat + 256 * s[3].toNat) := by
  have hl : s.data.toList.length = s.size := size_data s
  have e : ∀ i, (hi : i < s.size) → s.data.toList[i]? = some (s[i]) := fun i hi => by
    rw [List.getElem?_eq_getElem (by omega)]; rfl
  have : (s.data.toList.drop 1).take 3 = [s[1], s[2], s[3]] := by
    apply List.ext_getElem?
    intro i
    rw [List.getElem?_take]
    match i with
    | 0 => simpa [List.getElem?_drop] using e 1 (by omega)
    | 1 => simpa [List.getElem?_drop] using e 2 (by omega)
    | 2 => simpa [List.getElem?_drop] using e 3 (by omega)
    | i + 3 => simp; omega
  unfold sz
  rw [this]
  simp [CrcMath.val]

/-- What firstRecord answers. -/
def firstV (l : List UInt8) : Value := match first l with
  | none => .tuple #[.string ⟨#[]⟩, .bool false]
  | some r => .tuple #[strV r, .bool true]
theorem firstV_none {l : List UInt8} (h : first l = none) : firstV l = .tuple #[.string ⟨#[]⟩, .bool false] := by unfold firstV; rw [h]
theorem firstV_some {l r : List UInt8} (h : first l = some r) : firstV l = .tuple #[strV r, .bool true] := by unfold firstV; rw [h]

theorem first_short (s : ByteArray) (h8 : s.size < 8) (w : World) :
    Calls Tryd.prog 68 #[.string s] w fun e w' => e = .returned (.tuple #[.string ⟨#[]⟩, .bool false]) ∧ w' = w := by
  have i8 : (s.size : Int) < 8 := by omega
  go_enter Tryd.func68, Tryd.ntmps68
  go_wp2
  go_ret2
  exact ⟨rfl, rfl⟩
theorem first_mark (s : ByteArray) (hs : s.size ≤ 140737488351232) (h8 : 8 ≤ s.size) (hq : ((s.extract 0 1).toList == [167]) = false) (w : World) :
    Calls Tryd.prog 68 #[.string s] w fun e w' => e = .returned (.tuple #[.string ⟨#[]⟩, .bool false]) ∧ w' = w := by
  have i8 : ¬ (s.size : Int) < 8 := by omega
  have j8 : (8 : Int) ≤ (s.size : Int) := by omega
  go_enter Tryd.func68, Tryd.ntmps68
  go_wp2
  go_ret2
  exact ⟨rfl, rfl⟩

set_option maxHeartbeats 2000000 in
theorem first_big (s : ByteArray) (hs : s.size ≤ 140737488351232) (h8 : 8 ≤ s.size) (hq : ((s.extract 0 1).toList == [167]) = true) (n : Nat) (hn : sz s.data.toList = n)
    (hb : 200000 < n ∨ (n ≤ 200000 ∧ s.size < n + 8)) (w : World) :
    Calls Tryd.prog 68 #[.string s] w fun e w' => e = .returned (.tuple #[.string ⟨#[]⟩, .bool false]) ∧ Below w.heap.size w w' := by
  have i8 : ¬ (s.size : Int) < 8 := by omega
  have j8 : (8 : Int) ≤ (s.size : Int) := by omega
  have j1 : (1 : Int) < (s.size : Int) := by omega
  have j2 : (2 : Int) < (s.size : Int) := by omega
  have j3 : (3 : Int) < (s.size : Int) := by omega
  have hz := sz_bytes s h8
  rw [hn] at hz
  have HO := or_three' s[1].toNat s[2].toNat s[3].toNat (s[1].toNat_lt) (s[2].toNat_lt) (s[3].toNat_lt)
  rw [← hz] at HO
  have HO' : Hid (bits .or .i64 (bits .or .i64 (wrap64 (s[1].toNat : Int)) (wrap64 (wrap64 (s[2].toNat : Int) * 256))) (wrap64 (wrap64 (s[3].toNat : Int) * 65536)) = (n : Int)) := HO
  clear HO hz hn
  go_enter Tryd.func68, Tryd.ntmps68
  go_wp2_with fail
  go_quiet (fail)
  rw [HO'.out]
  rename_i nq
  rcases hb with hb | ⟨hb, hb'⟩
  · have k1 : (200000 : Int) < (n : Int) := by omega
    go_wp2
    go_ret2
    exact ⟨rfl, below_drewN (Below.refl _ _) nq⟩
  · have k1 : ¬ (200000 : Int) < (n : Int) := by omega
    have k2 : (s.size : Int) - 8 < (n : Int) := by omega
    go_wp2
    go_ret2
    exact ⟨rfl, below_drewN (Below.refl _ _) nq⟩

set_option maxHeartbeats 2000000 in
theorem first_sum (s : ByteArray) (hs : s.size ≤ 140737488351232) (h8 : 8 ≤ s.size) (hq : ((s.extract 0 1).toList == [167]) = true) (n : Nat) (hn : sz s.data.toList = n)
    (hb : n ≤ 200000) (hb' : n + 8 ≤ s.size) (v : ByteArray) (hv : v.data.toList = le 4 (CrcMath.ext 0 ((s.data.toList.drop 1).take 3 ++ (s.data.toList.drop 8).take n))) (b : Bool) (hvb : ((s.extract 4 8).toList == v.toList) = b) (w : World) (hT : Tab w) :
    Calls Tryd.prog 68 #[.string s] w fun e w' => e = .returned (.tuple #[if b then .string (s.extract 8 (8 + n)) else .string ⟨#[]⟩, .bool b]) ∧ Below w.heap.size w w' := by
  have i8 : ¬ (s.size : Int) < 8 := by omega
  have j8 : (8 : Int) ≤ (s.size : Int) := by omega
  have j1 : (1 : Int) < (s.size : Int) := by omega
  have j2 : (2 : Int) < (s.size : Int) := by omega
  have j3 : (3 : Int) < (s.size : Int) := by omega
  have hz := sz_bytes s h8
  rw [hn] at hz
  have HO := or_three' s[1].toNat s[2].toNat s[3].toNat (s[1].toNat_lt) (s[2].toNat_lt) (s[3].toNat_lt)
  rw [← hz] at HO
  have HO' : Hid (bits .or .i64 (bits .or .i64 (wrap64 (s[1].toNat : Int)) (wrap64 (wrap64 (s[2].toNat : Int) * 256))) (wrap64 (wrap64 (s[3].toNat : Int) * 65536)) = (n : Int)) := HO
  clear HO hz hn
  have k1 : ¬ (200000 : Int) < (n : Int) := by omega
  have k2 : ¬ (s.size : Int) - 8 < (n : Int) := by omega
  have k3 : (8 : Int) + (n : Int) ≤ (s.size : Int) := by omega
  obtain ⟨I, instI, F, hF, hcov⟩ := fam w.heap.size w
  have HF : Hid (∀ i, Below w.heap.size w (F i)) := hF
  have HS : Hid (∀ i, Calls Tryd.prog 74 #[.string (s.extract 1 4), .string (s.extract 8 (8 + n))] (F i) fun e w'' => e = .returned (.string v) ∧ ∃ j, w'' = F j) := fun i => by
    have z1 : (s.extract 1 4).size ≤ 140737488351232 := by rw [ByteArray.size_extract]; omega
    have z2 : (s.extract 8 (8 + n)).size ≤ 140737488351232 := by rw [ByteArray.size_extract]; omega
    refine (sumOf_any _ _ z1 z2 (F i) (tab_below hT (hF i))).mono fun e w'' ⟨he, hb⟩ => ⟨?_, hcov _ ((hF i).trans (hb.mono (hF i).size))⟩
    rw [he, extract_data, extract_data, show 4 - 1 = 3 from rfl, show 8 + n - 8 = n by omega, ← hv]
    unfold strV
    rw [data_mk]
  have H0 : Hid (∀ n, ∃ i, (w.drewN n).drew = F i) := fun n => hcov _ (below_drewN (Below.refl _ _) n).drew
  have H1 : Hid (∀ n, ∃ i, w.drewN n = F i) := fun n => hcov _ (below_drewN (Below.refl _ _) n)
  clear hF hcov hv
  go_enter Tryd.func68, Tryd.ntmps68
  go_wp2_with fail
  go_quiet (fail)
  rw [HO'.out]
  rename_i nq
  go_wp2_with fail
  refine wp_region_fam F (by kernel_rfl) (by kernel_rfl) (H0.out _) ?_
  repeat (go_big_quiet_step (exact HS.out _))
  refine wpQuiet_nil ?_
  rintro w' ⟨i, hw'⟩
  rw [hw']
  clear hw'
  cases b
  · go_wp2
    go_ret2
    exact ⟨rfl, HF.out i⟩
  · go_wp2
    go_ret2
    exact ⟨rfl, HF.out i⟩

theorem first_any (s : ByteArray) (hs : s.size ≤ 140737488351232) (w : World) (hT : Tab w) :
    Calls Tryd.prog 68 #[.string s] w fun e w' => e = .returned (firstV s.data.toList) ∧ Below w.heap.size w w' := by
  have hl := size_data s
  by_cases h8 : s.size < 8
  · rw [firstV_none (FrameMath.first_none_short _ (by omega))]
    exact (first_short s h8 w).mono fun e w' ⟨h1, h2⟩ => ⟨h1, h2 ▸ Below.refl _ _⟩
  · have hx : (s.extract 0 1).toList = s.data.toList.take 1 := by rw [Lib.toList_data, extract_data]; rfl
    by_cases hm : s.data.toList.take 1 = [167]
    · have hq : ((s.extract 0 1).toList == [167]) = true := by rw [hx, hm]; rfl
      by_cases hb : 200000 < sz s.data.toList ∨ (sz s.data.toList ≤ 200000 ∧ s.size < sz s.data.toList + 8)
      · have hf : first s.data.toList = none := by
          unfold first
          rw [if_neg]; omega
        rw [firstV_none hf]
        exact first_big s hs (by omega) hq _ rfl hb w
      · have hv := mk_data (le 4 (CrcMath.ext 0 ((s.data.toList.drop 1).take 3 ++ (s.data.toList.drop 8).take (sz s.data.toList))))
        have hc := first_sum s hs (by omega) hq _ rfl (by omega) (by omega) _ hv _ rfl w hT
        have hy : (s.extract 4 8).toList = (s.data.toList.drop 4).take 4 := by rw [Lib.toList_data, extract_data]
        rw [hy, Lib.toList_data, hv] at hc
        by_cases he : (s.data.toList.drop 4).take 4 = le 4 (CrcMath.ext 0 ((s.data.toList.drop 1).take 3 ++ rec_ s.data.toList))
        · have hf : first s.data.toList = some (rec_ s.data.toList) := by
            unfold first
            rw [if_pos]
            exact ⟨by omega, hm, by omega, by omega, he⟩
          rw [firstV_some hf]
          have he' : ((s.data.toList.drop 4).take 4 == le 4 (CrcMath.ext 0 ((s.data.toList.drop 1).take 3 ++ (s.data.toList.drop 8).take (sz s.data.toList)))) = true := beq_iff_eq.2 he
          rw [he', if_pos rfl, strV_extract, show 8 + sz s.data.toList - 8 = sz s.data.toList by omega] at hc
          exact hc
        · have hf : first s.data.toList = none := by
            unfold first
            rw [if_neg]
            rintro ⟨_, _, _, _, h⟩
            exact he h
          rw [firstV_none hf]
          have he' : ((s.data.toList.drop 4).take 4 == le 4 (CrcMath.ext 0 ((s.data.toList.drop 1).take 3 ++ (s.data.toList.drop 8).take (sz s.data.toList)))) = false := beq_eq_false_iff_ne.2 he
          rw [he', if_neg (by decide)] at hc
          exact hc
    · have hq : ((s.extract 0 1).toList == [167]) = false := by rw [hx]; exact beq_eq_false_iff_ne.2 hm
      have hf : first s.data.toList = none := by
        unfold first
        rw [if_neg]
        rintro ⟨_, h, _⟩
        exact hm h
      rw [firstV_none hf]
      exact (first_mark s hs (by omega) hq w).mono fun e w' ⟨h1, h2⟩ => ⟨h1, h2 ▸ Below.refl _ _⟩
end Go.Proofs.YtahkecdlibkokaaDoor.Fr