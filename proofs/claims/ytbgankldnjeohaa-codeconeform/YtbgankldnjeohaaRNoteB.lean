/- The document's Note where it may not be, and of the kinds 1 and 2. -/
import Derived.Test.YtbgankldnjeohaaFormB
import Derived.Test.YtbgankldnjeohaaRNoteW
set_option linter.unusedVariables false
set_option linter.unusedSimpArgs false
set_option maxRecDepth 100000
namespace Go.Proofs.Ytbgankldnjeohaa
open Go.RowKit

theorem rnoteNo (k i s t p c : Int) (K M : ByteArray) (v : Int) (X : ByteArray) (w : World)
    (C0 : Hid (∀ w1 : World, Calls Try.prog 21 #[.agg #[.int .i64 k, .int .i64 i, .int .i64 s, .int .i64 t, .int .i64 p, .int .i64 c, .string K, .string M, .int .i64 v, .string X]] w1 fun e w' => e = .returned (.bool false) ∧ Below w1.heap.size w1 w')) :
    Calls Try.prog 13 #[.agg #[.int .i64 k, .int .i64 i, .int .i64 s, .int .i64 t, .int .i64 p, .int .i64 c, .string K, .string M, .int .i64 v, .string X]] w fun e w' => e = .returned (.tuple #[.string ⟨#[]⟩, .int .i64 1]) ∧ Below w.heap.size w w' := by
  go_enter Try.func13, Try.ntmps13
  go_wp2_with fail
  refine (C0.out _).mono ?_
  rintro e w1 ⟨rfl, hb⟩
  have HB : Hid (Below w.heap.size w w1) := ((Below.refl _ _).alloc (Nat.le_refl _) _).trans (hb.mono (by rw [World.size_alloc]; omega))
  clear C0 hb
  go_wp2_with fail
  go_ret2
  exact ⟨rfl, HB.out⟩
set_option maxHeartbeats 2000000 in
theorem rnote1 (i s t p c : Int) (K M : ByteArray) (v : Int) (X : ByteArray) (w : World) (a b : ByteArray) (ha : a.size ≤ 64) (hb : b.size ≤ 4000)
    (C0 : Hid (∀ w1 : World, Hid (Left w [(0, .int .i64 1), (9, .string X)] w1) → Calls Try.prog 21 #[.agg #[.int .i64 1, .int .i64 i, .int .i64 s, .int .i64 t, .int .i64 p, .int .i64 c, .string K, .string M, .int .i64 v, .string X]] w1 fun e w' => e = .returned (.bool true) ∧ w'.cell? ⟨w.heap.size, 0, none⟩ = some (.int .i64 1) ∧ w'.cell? ⟨w.heap.size, 9, none⟩ = some (.string X) ∧ Hid (Left w [(0, .int .i64 1), (9, .string X)] w')))
    (C1 : Hid (∀ (w1 : World) (g : Nat), g = w1.heap.size → Hid (Left w [(0, .int .i64 1), (9, .string X)] w1) → Calls Try.prog 22 #[.slice (some ⟨g, 0, none⟩) 1 1] (w1.alloc (.cells #[.int .i64 1] 3)) fun e w' => e = .returned (.string a) ∧ w'.cell? ⟨w.heap.size, 0, none⟩ = some (.int .i64 1) ∧ w'.cell? ⟨w.heap.size, 9, none⟩ = some (.string X) ∧ Hid (Left w [(0, .int .i64 1), (9, .string X)] w')))
    (C2 : Hid (∀ (w1 : World), Hid (Left w [(0, .int .i64 1), (9, .string X)] w1) → Calls Try.prog 23 #[.string X] w1 fun e w' => e = .returned (.tuple #[.string b, .int .i64 0]) ∧ w'.cell? ⟨w.heap.size, 0, none⟩ = some (.int .i64 1) ∧ w'.cell? ⟨w.heap.size, 9, none⟩ = some (.string X) ∧ Hid (Left w [(0, .int .i64 1), (9, .string X)] w'))) :
    Calls Try.prog 13 #[.agg #[.int .i64 1, .int .i64 i, .int .i64 s, .int .i64 t, .int .i64 p, .int .i64 c, .string K, .string M, .int .i64 v, .string X]] w fun e w' => e = .returned (.tuple #[.string (⟨#[78]⟩ ++ a ++ b), .int .i64 0]) ∧ Below w.heap.size w w' := by
  have HF : Hid (Left w [(0, .int .i64 1), (9, .string X)] (w.alloc (.cells #[.int .i64 1, .int .i64 i, .int .i64 s, .int .i64 t, .int .i64 p, .int .i64 c, .string K, .string M, .int .i64 v, .string X] 35))) := Left.first _ _ _ _ (by simp)
  have p0 : ¬ 9223372036854775807 < ((ByteArray.mk #[78])).size + a.size := by simp only [ByteArray.size_append, show (ByteArray.mk #[78]).size = 1 from rfl]; omega
  have r0 : ¬ 9223372036854775807 < 1 + a.size := by omega
  have p1 : ¬ 9223372036854775807 < (((ByteArray.mk #[78]) ++ a)).size + b.size := by simp only [ByteArray.size_append, show (ByteArray.mk #[78]).size = 1 from rfl]; omega
  have r1 : ¬ 9223372036854775807 < 1 + a.size + b.size := by omega
  go_enter Try.func13, Try.ntmps13
  go_wp2_with fail
  refine (C0.out _ HF).mono ?_
  rintro e w1 ⟨rfl, m0_0, m0_1, HB1⟩
  clear C0 HF
  go_wp2_with fail
  refine (C1.out _ _ rfl HB1).mono ?_
  rintro e w2 ⟨rfl, m1_0, m1_1, HB2⟩
  clear C1 HB1 m0_0 m0_1
  go_wp2_with fail
  refine (C2.out _ HB2).mono ?_
  rintro e w3 ⟨rfl, m2_0, m2_1, HB3⟩
  clear C2 HB2 m1_0 m1_1
  go_wp2
  go_ret2
  exact ⟨rfl, HB3.out.2.1⟩
set_option maxHeartbeats 2000000 in
theorem rnote2 (i s t p c : Int) (K M : ByteArray) (v : Int) (X : ByteArray) (w : World) (a b d r f : ByteArray) (ha : a.size ≤ 64) (hb : b.size ≤ 64) (hd : d.size ≤ 4000) (hr : r.size ≤ 4000) (hf : f.size ≤ 64)
    (C0 : Hid (∀ w1 : World, Hid (Left w [(0, .int .i64 2), (1, .int .i64 i), (6, .string K), (7, .string M), (8, .int .i64 v)] w1) → Calls Try.prog 21 #[.agg #[.int .i64 2, .int .i64 i, .int .i64 s, .int .i64 t, .int .i64 p, .int .i64 c, .string K, .string M, .int .i64 v, .string X]] w1 fun e w' => e = .returned (.bool true) ∧ w'.cell? ⟨w.heap.size, 0, none⟩ = some (.int .i64 2) ∧ w'.cell? ⟨w.heap.size, 1, none⟩ = some (.int .i64 i) ∧ w'.cell? ⟨w.heap.size, 6, none⟩ = some (.string K) ∧ w'.cell? ⟨w.heap.size, 7, none⟩ = some (.string M) ∧ w'.cell? ⟨w.heap.size, 8, none⟩ = some (.int .i64 v) ∧ Hid (Left w [(0, .int .i64 2), (1, .int .i64 i), (6, .string K), (7, .string M), (8, .int .i64 v)] w')))
    (C1 : Hid (∀ (w1 : World) (g : Nat), g = w1.heap.size → Hid (Left w [(0, .int .i64 2), (1, .int .i64 i), (6, .string K), (7, .string M), (8, .int .i64 v)] w1) → Calls Try.prog 22 #[.slice (some ⟨g, 0, none⟩) 1 1] (w1.alloc (.cells #[.int .i64 2] 3)) fun e w' => e = .returned (.string a) ∧ w'.cell? ⟨w.heap.size, 0, none⟩ = some (.int .i64 2) ∧ w'.cell? ⟨w.heap.size, 1, none⟩ = some (.int .i64 i) ∧ w'.cell? ⟨w.heap.size, 6, none⟩ = some (.string K) ∧ w'.cell? ⟨w.heap.size, 7, none⟩ = some (.string M) ∧ w'.cell? ⟨w.heap.size, 8, none⟩ = some (.int .i64 v) ∧ Hid (Left w [(0, .int .i64 2), (1, .int .i64 i), (6, .string K), (7, .string M), (8, .int .i64 v)] w')))
    (C2 : Hid (∀ (w1 : World) (g : Nat), g = w1.heap.size → Hid (Left w [(0, .int .i64 2), (1, .int .i64 i), (6, .string K), (7, .string M), (8, .int .i64 v)] w1) → Calls Try.prog 22 #[.slice (some ⟨g, 0, none⟩) 1 1] (w1.alloc (.cells #[.int .i64 i] 3)) fun e w' => e = .returned (.string b) ∧ w'.cell? ⟨w.heap.size, 0, none⟩ = some (.int .i64 2) ∧ w'.cell? ⟨w.heap.size, 1, none⟩ = some (.int .i64 i) ∧ w'.cell? ⟨w.heap.size, 6, none⟩ = some (.string K) ∧ w'.cell? ⟨w.heap.size, 7, none⟩ = some (.string M) ∧ w'.cell? ⟨w.heap.size, 8, none⟩ = some (.int .i64 v) ∧ Hid (Left w [(0, .int .i64 2), (1, .int .i64 i), (6, .string K), (7, .string M), (8, .int .i64 v)] w')))
    (C3 : Hid (∀ (w1 : World), Hid (Left w [(0, .int .i64 2), (1, .int .i64 i), (6, .string K), (7, .string M), (8, .int .i64 v)] w1) → Calls Try.prog 23 #[.string K] w1 fun e w' => e = .returned (.tuple #[.string d, .int .i64 0]) ∧ w'.cell? ⟨w.heap.size, 0, none⟩ = some (.int .i64 2) ∧ w'.cell? ⟨w.heap.size, 1, none⟩ = some (.int .i64 i) ∧ w'.cell? ⟨w.heap.size, 6, none⟩ = some (.string K) ∧ w'.cell? ⟨w.heap.size, 7, none⟩ = some (.string M) ∧ w'.cell? ⟨w.heap.size, 8, none⟩ = some (.int .i64 v) ∧ Hid (Left w [(0, .int .i64 2), (1, .int .i64 i), (6, .string K), (7, .string M), (8, .int .i64 v)] w')))
    (C4 : Hid (∀ (w1 : World), Hid (Left w [(0, .int .i64 2), (1, .int .i64 i), (6, .string K), (7, .string M), (8, .int .i64 v)] w1) → Calls Try.prog 23 #[.string M] w1 fun e w' => e = .returned (.tuple #[.string r, .int .i64 0]) ∧ w'.cell? ⟨w.heap.size, 0, none⟩ = some (.int .i64 2) ∧ w'.cell? ⟨w.heap.size, 1, none⟩ = some (.int .i64 i) ∧ w'.cell? ⟨w.heap.size, 6, none⟩ = some (.string K) ∧ w'.cell? ⟨w.heap.size, 7, none⟩ = some (.string M) ∧ w'.cell? ⟨w.heap.size, 8, none⟩ = some (.int .i64 v) ∧ Hid (Left w [(0, .int .i64 2), (1, .int .i64 i), (6, .string K), (7, .string M), (8, .int .i64 v)] w')))
    (C5 : Hid (∀ (w1 : World) (g : Nat), g = w1.heap.size → Hid (Left w [(0, .int .i64 2), (1, .int .i64 i), (6, .string K), (7, .string M), (8, .int .i64 v)] w1) → Calls Try.prog 22 #[.slice (some ⟨g, 0, none⟩) 1 1] (w1.alloc (.cells #[.int .i64 v] 3)) fun e w' => e = .returned (.string f) ∧ w'.cell? ⟨w.heap.size, 0, none⟩ = some (.int .i64 2) ∧ w'.cell? ⟨w.heap.size, 1, none⟩ = some (.int .i64 i) ∧ w'.cell? ⟨w.heap.size, 6, none⟩ = some (.string K) ∧ w'.cell? ⟨w.heap.size, 7, none⟩ = some (.string M) ∧ w'.cell? ⟨w.heap.size, 8, none⟩ = some (.int .i64 v) ∧ Hid (Left w [(0, .int .i64 2), (1, .int .i64 i), (6, .string K), (7, .string M), (8, .int .i64 v)] w'))) :
    Calls Try.prog 13 #[.agg #[.int .i64 2, .int .i64 i, .int .i64 s, .int .i64 t, .int .i64 p, .int .i64 c, .string K, .string M, .int .i64 v, .string X]] w fun e w' => e = .returned (.tuple #[.string (⟨#[78]⟩ ++ a ++ b ++ d ++ r ++ f), .int .i64 0]) ∧ Below w.heap.size w w' := by
  have HF : Hid (Left w [(0, .int .i64 2), (1, .int .i64 i), (6, .string K), (7, .string M), (8, .int .i64 v)] (w.alloc (.cells #[.int .i64 2, .int .i64 i, .int .i64 s, .int .i64 t, .int .i64 p, .int .i64 c, .string K, .string M, .int .i64 v, .string X] 35))) := Left.first _ _ _ _ (by simp)
  have p0 : ¬ 9223372036854775807 < ((ByteArray.mk #[78])).size + a.size := by simp only [ByteArray.size_append, show (ByteArray.mk #[78]).size = 1 from rfl]; omega
  have r0 : ¬ 9223372036854775807 < 1 + a.size := by omega
  have p1 : ¬ 9223372036854775807 < (((ByteArray.mk #[78]) ++ a)).size + b.size := by simp only [ByteArray.size_append, show (ByteArray.mk #[78]).size = 1 from rfl]; omega
  have r1 : ¬ 9223372036854775807 < 1 + a.size + b.size := by omega
  have p2 : ¬ 9223372036854775807 < ((((ByteArray.mk #[78]) ++ a) ++ b)).size + d.size := by simp only [ByteArray.size_append, show (ByteArray.mk #[78]).size = 1 from rfl]; omega
  have r2 : ¬ 9223372036854775807 < 1 + a.size + b.size + d.size := by omega
  have p3 : ¬ 9223372036854775807 < (((((ByteArray.mk #[78]) ++ a) ++ b) ++ d)).size + r.size := by simp only [ByteArray.size_append, show (ByteArray.mk #[78]).size = 1 from rfl]; omega
  have r3 : ¬ 9223372036854775807 < 1 + a.size + b.size + d.size + r.size := by omega
  have p4 : ¬ 9223372036854775807 < ((((((ByteArray.mk #[78]) ++ a) ++ b) ++ d) ++ r)).size + f.size := by simp only [ByteArray.size_append, show (ByteArray.mk #[78]).size = 1 from rfl]; omega
  have r4 : ¬ 9223372036854775807 < 1 + a.size + b.size + d.size + r.size + f.size := by omega
  go_enter Try.func13, Try.ntmps13
  go_wp2_with fail
  refine (C0.out _ HF).mono ?_
  rintro e w1 ⟨rfl, m0_0, m0_1, m0_2, m0_3, m0_4, HB1⟩
  clear C0 HF
  go_wp2_with fail
  refine (C1.out _ _ rfl HB1).mono ?_
  rintro e w2 ⟨rfl, m1_0, m1_1, m1_2, m1_3, m1_4, HB2⟩
  clear C1 HB1 m0_0 m0_1 m0_2 m0_3 m0_4
  go_wp2_with fail
  refine (C2.out _ _ rfl HB2).mono ?_
  rintro e w3 ⟨rfl, m2_0, m2_1, m2_2, m2_3, m2_4, HB3⟩
  clear C2 HB2 m1_0 m1_1 m1_2 m1_3 m1_4
  go_wp2_with fail
  refine (C3.out _ HB3).mono ?_
  rintro e w4 ⟨rfl, m3_0, m3_1, m3_2, m3_3, m3_4, HB4⟩
  clear C3 HB3 m2_0 m2_1 m2_2 m2_3 m2_4
  go_wp2_with fail
  refine (C4.out _ HB4).mono ?_
  rintro e w5 ⟨rfl, m4_0, m4_1, m4_2, m4_3, m4_4, HB5⟩
  clear C4 HB4 m3_0 m3_1 m3_2 m3_3 m3_4
  go_wp2_with fail
  refine (C5.out _ _ rfl HB5).mono ?_
  rintro e w6 ⟨rfl, m5_0, m5_1, m5_2, m5_3, m5_4, HB6⟩
  clear C5 HB5 m4_0 m4_1 m4_2 m4_3 m4_4
  go_wp2
  go_ret2
  exact ⟨rfl, HB6.out.2.1⟩
end Go.Proofs.Ytbgankldnjeohaa
