/- The walk of the law PackPrefix. -/
import Derived.Test.YtkljnihcjialaabLiveW
import Derived.Test.YtkljnihcjialaabFam
set_option linter.unusedVariables false
namespace Go.Proofs.Ytkljnihcjialaab
open Go.RowKit

theorem num_inj (a b : Nat) (ha : a ≤ 1125899906842624) (hb : b ≤ 1125899906842624) (m0 m1 : List UInt8) (h : PackMath.num a ++ m0 = PackMath.num b ++ m1) : a = b ∧ m0 = m1 := by
  have h1 := PackMath.tn_num a ha m0
  rw [h, PackMath.tn_num b hb m1] at h1
  obtain ⟨rfl, _⟩ : b = a ∧ _ := by simpa using h1
  exact ⟨rfl, List.append_cancel_left h⟩

theorem packPrefix_few (a b : Int) (v : Value) (xs : List (List UInt8)) (hx : xs.length ≤ 140737488355328) (ha : -9223372036854775808 ≤ a ∧ a ≤ 9223372036854775807) (hb : -9223372036854775808 ≤ b ∧ b ≤ 9223372036854775807) (w : World) (hS : SRow w v xs)
    (h : (a < 0 ∨ 1125899906842624 < a) ∨ (b < 0 ∨ 1125899906842624 < b) ∨ xs.length < 2) :
    Calls Try.prog 3 #[.int .i64 a, .int .i64 b, v] w fun e w' => e = .returned (.bool true) ∧ Below w.heap.size w w' := by
  obtain ⟨ao, cap, rfl, hcap, hrow⟩ := hS
  clear hrow
  obtain ⟨x, e1, hv1⟩ : ∃ (s : ByteArray) (k : Int), numV a = .tuple #[.string s, .int .i64 k] ∧ (k = 0 ↔ ¬ (a < 0 ∨ 1125899906842624 < a)) := by
    unfold numV strV
    split
    · exact ⟨_, _, rfl, by simp [*]⟩
    · exact ⟨_, _, rfl, by simp [*]⟩
  obtain ⟨y, e2, hv2⟩ : ∃ (s : ByteArray) (k : Int), numV b = .tuple #[.string s, .int .i64 k] ∧ (k = 0 ↔ ¬ (b < 0 ∨ 1125899906842624 < b)) := by
    unfold numV strV
    split
    · exact ⟨_, _, rfl, by simp [*]⟩
    · exact ⟨_, _, rfl, by simp [*]⟩
  have c1 := fun w => num_all a ha w
  have c2 := fun w => num_all b hb w
  rw [hv1.1] at c1
  rw [hv2.1] at c2
  have C1 : Hid (∀ w, Calls Try.prog 4 #[.int .i64 a] w fun e w' => e = .returned (.tuple #[.string x, .int .i64 e1]) ∧ Below w.heap.size w w') := c1
  have C2 : Hid (∀ w, Calls Try.prog 4 #[.int .i64 b] w fun e w' => e = .returned (.tuple #[.string y, .int .i64 e2]) ∧ Below w.heap.size w w') := c2
  have hq : ¬ e1 = 0 ∨ (e1 = 0 ∧ ¬ e2 = 0) ∨ (e1 = 0 ∧ e2 = 0 ∧ (xs.length : Int) < 2) := by
    by_cases z1 : e1 = 0
    · by_cases z2 : e2 = 0
      · right; right
        refine ⟨z1, z2, ?_⟩
        rcases h with h | h | h
        · exact absurd h (hv1.2.1 z1)
        · exact absurd h (hv2.2.1 z2)
        · omega
      · right; left; exact ⟨z1, z2⟩
    · left; exact z1
  clear c1 c2 hv1 hv2 h
  rcases hq with q1 | ⟨rfl, q2⟩ | ⟨rfl, rfl, q3⟩
  all_goals
    go_enter Try.func3, Try.ntmps3
    go_wp2_with fail
    refine (C1.out _).mono ?_
    rintro e w1 ⟨rfl, hb1⟩
    go_wp2_with fail
    refine (C2.out _).mono ?_
    rintro e w2 ⟨rfl, hb2⟩
    have hb02 : Below w.heap.size w w2 := hb1.trans (hb2.mono hb1.size)
    clear hb1 hb2
    go_wp2_with fail
    refine (live_any _).mono ?_
    rintro e w3 ⟨rfl, hb3⟩
    go_wp2
    go_ret
    exact ⟨rfl, hb02.trans (hb3.mono hb02.size)⟩

set_option maxHeartbeats 4000000 in
theorem packPrefix_main (a b : Nat) (v : Value) (xs : List (List UInt8)) (hx : xs.length ≤ 140737488355328) (hxs : ∀ s ∈ xs, s.length ≤ 140737488351232) (ha : a ≤ 1125899906842624) (hb : b ≤ 1125899906842624) (w : World) (hS : SRow w v xs) (h2 : 2 ≤ xs.length) :
    Calls Try.prog 3 #[.int .i64 (a : Int), .int .i64 (b : Int), v] w fun e w' => e = .returned (.bool true) ∧ Below w.heap.size w w' := by
  obtain ⟨ao, cap, rfl, hcap, hrow⟩ := hS
  obtain ⟨g, o, rfl, hc0⟩ := hrow 0 (by omega)
  obtain ⟨g', o', hgo, hc1⟩ := hrow 1 (by omega)
  obtain ⟨rfl, rfl⟩ : g = g' ∧ o = o' := by simpa using hgo
  have hl0 := hxs _ (List.getElem_mem (show 0 < xs.length by omega))
  have hl1 := hxs _ (List.getElem_mem (show 1 < xs.length by omega))
  have inj := num_inj a b ha hb xs[0] xs[1]
  have c1 := fun w => num_any a ha w
  have c2 := fun w => num_any b hb w
  have hn1 := PackMath.num_len8 a ha
  have hn2 := PackMath.num_len8 b hb
  have htn := PackMath.tn_num a ha xs[0]
  have c3 := fun w => takeNum_any (ByteArray.mk (PackMath.num a).toArray ++ ByteArray.mk (xs[0]).toArray) 0 (by rw [ByteArray.size_append, strV_size, strV_size]; omega) (Nat.zero_le _) w
  rw [List.drop_zero, show (ByteArray.mk (PackMath.num a).toArray ++ ByteArray.mk (xs[0]).toArray).data.toList = PackMath.num a ++ xs[0] by simp [ByteArray.data_append], tnV_of htn] at c3
  have z1 := strV_size (PackMath.num a)
  have z2 := strV_size (PackMath.num b)
  have z3 := strV_size xs[0]
  have z4 := strV_size xs[1]
  have hlt : g < w.heap.size := block_lt_of_cell hc0
  have INJ : Hid (ByteArray.mk (PackMath.num a).toArray ++ ByteArray.mk (xs[0]).toArray = ByteArray.mk (PackMath.num b).toArray ++ ByteArray.mk (xs[1]).toArray → a = b ∧ ByteArray.mk (xs[0]).toArray = ByteArray.mk (xs[1]).toArray) := by
    intro he
    have := congrArg (fun s : ByteArray => s.data.toList) he
    simp [ByteArray.data_append] at this
    obtain ⟨i1, i2⟩ := inj this
    exact ⟨i1, by rw [i2]⟩
  unfold strV at hc0 hc1
  have C1 : Hid (∀ w, Calls Try.prog 4 #[.int .i64 (a : Int)] w fun e w' => e = .returned (.tuple #[.string ⟨(PackMath.num a).toArray⟩, .int .i64 0]) ∧ Below w.heap.size w w') := c1
  have C2 : Hid (∀ w, Calls Try.prog 4 #[.int .i64 (b : Int)] w fun e w' => e = .returned (.tuple #[.string ⟨(PackMath.num b).toArray⟩, .int .i64 0]) ∧ Below w.heap.size w w') := c2
  have C3 : Hid (∀ w, Calls Try.prog 6 #[.string (ByteArray.mk (PackMath.num a).toArray ++ ByteArray.mk (xs[0]).toArray), .int .i64 0] w fun e w' => e = .returned (.tuple #[.int .i64 (a : Int), .int .i64 ((ByteArray.mk (PackMath.num a).toArray).size : Int), .int .i64 0]) ∧ w' = w) := by
    intro w
    have := c3 w
    rw [if_pos rfl, Nat.zero_add, ← z1] at this
    exact this
  clear c1 c2 c3 inj htn hgo hrow
  generalize ByteArray.mk (PackMath.num a).toArray = x at *
  generalize ByteArray.mk (PackMath.num b).toArray = y at *
  generalize ByteArray.mk (xs[0]).toArray = m0 at *
  generalize ByteArray.mk (xs[1]).toArray = m1 at *
  have k1 : x.size ≤ 8 := by omega
  have k2 : y.size ≤ 8 := by omega
  have k3 : m0.size ≤ 140737488351232 := by omega
  have k4 : m1.size ≤ 140737488351232 := by omega
  have i2 : (2 : Int) ≤ (xs.length : Int) := by omega
  have i2' : decide ((xs.length : Int) < 2) = false := by simp; omega
  have i0 : (0 : Int) < (xs.length : Int) := by omega
  have i1 : (1 : Int) < (xs.length : Int) := by omega
  clear z1 z2 z3 z4 hn1 hn2 hl0 hl1 hxs
  go_enter Try.func3, Try.ntmps3
  go_wp2_with fail
  refine (C1.out _).mono ?_
  rintro e w1 ⟨rfl, hb1⟩
  go_wp2_with fail
  refine (C2.out _).mono ?_
  rintro e w2 ⟨rfl, hb2⟩
  have hb02 : Below w.heap.size w w2 := hb1.trans (hb2.mono hb1.size)
  have d0 : w2.cell? ⟨g, o, none⟩ = some (.string m0) := (hb02.cell (p := ⟨g, o, none⟩) hlt).trans hc0
  have d1 : w2.cell? ⟨g, o + 1, none⟩ = some (.string m1) := (hb02.cell (p := ⟨g, o + 1, none⟩) hlt).trans hc1
  clear hb1 hb2 hc0 hc1
  go_wp2_with fail
  refine (C3.out _).mono ?_
  rintro e w3 ⟨rfl, hw3⟩
  subst hw3
  clear C1 C2 C3
  obtain ⟨I, instI, F, hF, hcov⟩ := fam w3.heap.size w3
  have hlt3 : g < w3.heap.size := Nat.lt_of_lt_of_le hlt hb02.size
  have f0 : ∀ i, (F i).cell? ⟨g, o, none⟩ = some (.string m0) := fun i => ((hF i).cell (p := ⟨g, o, none⟩) hlt3).trans d0
  have f1 : ∀ i, (F i).cell? ⟨g, o + 1, none⟩ = some (.string m1) := fun i => ((hF i).cell (p := ⟨g, o + 1, none⟩) hlt3).trans d1
  have HF : Hid (∀ i, Below w3.heap.size w3 (F i)) := hF
  have HCOV : Hid (∀ w', Below w3.heap.size w3 w' → ∃ i, w' = F i) := hcov
  have HLV : Hid (∀ i, Calls Try.prog 5 #[] (F i) fun e w'' => e = .returned (.bool true) ∧ ∃ j, w'' = F j) := fun i =>
    (live_any (F i)).mono fun e w'' ⟨he, hb⟩ => ⟨he, hcov _ ((hF i).trans (hb.mono (hF i).size))⟩
  have H0 : Hid (∃ i, w3.drew = F i) := hcov _ (Below.refl _ _).drew
  clear hF hcov
  go_wp2_with fail
  by_cases he : x ++ m0 = y ++ m1
  · obtain ⟨hab, hm⟩ := INJ.out he
    subst hab
    subst hm
    rw [he]
    clear INJ he
    generalize y ++ m0 = uv at *
    refine wp_region_fam F (by kernel_rfl) (by kernel_rfl) H0.out ?_
    repeat (go_big_quiet_step (exact HLV.out _))
    refine wpQuiet_nil ?_
    rintro w' ⟨i, hw'⟩
    rw [hw']
    clear hw'
    go_wp2
    go_ret
    exact ⟨rfl, hb02.trans ((HF.out i).mono hb02.size)⟩
  · have q1 := str_ne _ _ he
    generalize x ++ m0 = u at *
    generalize y ++ m1 = uv at *
    refine wp_region_fam F (by kernel_rfl) (by kernel_rfl) H0.out ?_
    repeat (go_big_quiet_step (exact HLV.out _))
    refine wpQuiet_nil ?_
    rintro w' ⟨i, hw'⟩
    rw [hw']
    clear hw'
    go_wp2
    go_ret
    exact ⟨rfl, hb02.trans ((HF.out i).mono hb02.size)⟩

theorem packPrefix_walk (a b : Int) (v : Value) (xs : List (List UInt8)) (hx : xs.length ≤ 140737488355328) (hxs : ∀ s ∈ xs, s.length ≤ 140737488351232) (ha : -9223372036854775808 ≤ a ∧ a ≤ 9223372036854775807) (hb : -9223372036854775808 ≤ b ∧ b ≤ 9223372036854775807) (w : World) (hS : SRow w v xs) :
    Calls Try.prog 3 #[.int .i64 a, .int .i64 b, v] w fun e w' => e = .returned (.bool true) ∧ Below w.heap.size w w' := by
  by_cases h : (a < 0 ∨ 1125899906842624 < a) ∨ (b < 0 ∨ 1125899906842624 < b) ∨ xs.length < 2
  · exact packPrefix_few a b v xs hx ha hb w hS h
  · obtain ⟨a', rfl⟩ := Int.eq_ofNat_of_zero_le (show 0 ≤ a by omega)
    obtain ⟨b', rfl⟩ := Int.eq_ofNat_of_zero_le (show 0 ≤ b by omega)
    exact packPrefix_main a' b' v xs hx hxs (by omega) (by omega) w hS (by omega)
end Go.Proofs.Ytkljnihcjialaab
