/- The document's Note, the plain kinds. -/
import Derived.Test.YtbgankldnjeohaaFormA
set_option linter.unusedVariables false
set_option linter.unusedSimpArgs false
set_option maxRecDepth 100000
namespace Go.Proofs.Ytbgankldnjeohaa
open Go.RowKit

set_option maxHeartbeats 1000000 in
theorem rnote3 (i s t p c : Int) (K M : ByteArray) (v : Int) (X : ByteArray) (w : World) (a b d : ByteArray) (ha : a.size ≤ 64) (hb : b.size ≤ 64) (hd : d.size ≤ 64)
    (C0 : Hid (∀ w1 : World, Hid (Left w [(0, .int .i64 3), (1, .int .i64 i)] w1) → Calls Try.prog 21 #[.agg #[.int .i64 3, .int .i64 i, .int .i64 s, .int .i64 t, .int .i64 p, .int .i64 c, .string K, .string M, .int .i64 v, .string X]] w1 fun e w' => e = .returned (.bool true) ∧ w'.cell? ⟨w.heap.size, 0, none⟩ = some (.int .i64 3) ∧ w'.cell? ⟨w.heap.size, 1, none⟩ = some (.int .i64 i) ∧ Hid (Left w [(0, .int .i64 3), (1, .int .i64 i)] w')))
    (C1 : Hid (∀ (w1 : World) (g : Nat), g = w1.heap.size → Hid (Left w [(0, .int .i64 3), (1, .int .i64 i)] w1) → Calls Try.prog 22 #[.slice (some ⟨g, 0, none⟩) 1 1] (w1.alloc (.cells #[.int .i64 3] 3)) fun e w' => e = .returned (.string a) ∧ w'.cell? ⟨w.heap.size, 0, none⟩ = some (.int .i64 3) ∧ w'.cell? ⟨w.heap.size, 1, none⟩ = some (.int .i64 i) ∧ Hid (Left w [(0, .int .i64 3), (1, .int .i64 i)] w')))
    (C2 : Hid (∀ (w1 : World) (g : Nat), g = w1.heap.size → Hid (Left w [(0, .int .i64 3), (1, .int .i64 i)] w1) → Calls Try.prog 22 #[.slice (some ⟨g, 0, none⟩) 1 1] (w1.alloc (.cells #[.int .i64 i] 3)) fun e w' => e = .returned (.string b) ∧ w'.cell? ⟨w.heap.size, 0, none⟩ = some (.int .i64 3) ∧ w'.cell? ⟨w.heap.size, 1, none⟩ = some (.int .i64 i) ∧ Hid (Left w [(0, .int .i64 3), (1, .int .i64 i)] w'))) :
    Calls Try.prog 13 #[.agg #[.int .i64 3, .int .i64 i, .int .i64 s, .int .i64 t, .int .i64 p, .int .i64 c, .string K, .string M, .int .i64 v, .string X]] w fun e w' => e = .returned (.tuple #[.string (⟨#[78]⟩ ++ a ++ b), .int .i64 0]) ∧ Below w.heap.size w w' := by
  have HF : Hid (Left w [(0, .int .i64 3), (1, .int .i64 i)] (w.alloc (.cells #[.int .i64 3, .int .i64 i, .int .i64 s, .int .i64 t, .int .i64 p, .int .i64 c, .string K, .string M, .int .i64 v, .string X] 35))) := Left.first _ _ _ _ (by simp)
  go_enter Try.func13, Try.ntmps13
  go_wp2_with fail
  refine (C0.out _ HF).mono ?_
  rintro e w1 ⟨rfl, m0, m1, HB1⟩
  clear C0 HF
  go_wp2_with fail
  refine (C1.out _ _ rfl HB1).mono ?_
  rintro e w2 ⟨rfl, n0, n1, HB2⟩
  clear C1 HB1 m0 m1
  go_wp2_with fail
  refine (C2.out _ _ rfl HB2).mono ?_
  rintro e w3 ⟨rfl, o0, o1, HB3⟩
  clear C2 HB2 n0 n1
  go_wp2
  go_ret2
  exact ⟨rfl, HB3.out.2.1⟩
set_option maxHeartbeats 1000000 in
theorem rnote4 (i s t p c : Int) (K M : ByteArray) (v : Int) (X : ByteArray) (w : World) (a b d : ByteArray) (ha : a.size ≤ 64) (hb : b.size ≤ 64) (hd : d.size ≤ 64)
    (C0 : Hid (∀ w1 : World, Hid (Left w [(0, .int .i64 4), (1, .int .i64 i)] w1) → Calls Try.prog 21 #[.agg #[.int .i64 4, .int .i64 i, .int .i64 s, .int .i64 t, .int .i64 p, .int .i64 c, .string K, .string M, .int .i64 v, .string X]] w1 fun e w' => e = .returned (.bool true) ∧ w'.cell? ⟨w.heap.size, 0, none⟩ = some (.int .i64 4) ∧ w'.cell? ⟨w.heap.size, 1, none⟩ = some (.int .i64 i) ∧ Hid (Left w [(0, .int .i64 4), (1, .int .i64 i)] w')))
    (C1 : Hid (∀ (w1 : World) (g : Nat), g = w1.heap.size → Hid (Left w [(0, .int .i64 4), (1, .int .i64 i)] w1) → Calls Try.prog 22 #[.slice (some ⟨g, 0, none⟩) 1 1] (w1.alloc (.cells #[.int .i64 4] 3)) fun e w' => e = .returned (.string a) ∧ w'.cell? ⟨w.heap.size, 0, none⟩ = some (.int .i64 4) ∧ w'.cell? ⟨w.heap.size, 1, none⟩ = some (.int .i64 i) ∧ Hid (Left w [(0, .int .i64 4), (1, .int .i64 i)] w')))
    (C2 : Hid (∀ (w1 : World) (g : Nat), g = w1.heap.size → Hid (Left w [(0, .int .i64 4), (1, .int .i64 i)] w1) → Calls Try.prog 22 #[.slice (some ⟨g, 0, none⟩) 1 1] (w1.alloc (.cells #[.int .i64 i] 3)) fun e w' => e = .returned (.string b) ∧ w'.cell? ⟨w.heap.size, 0, none⟩ = some (.int .i64 4) ∧ w'.cell? ⟨w.heap.size, 1, none⟩ = some (.int .i64 i) ∧ Hid (Left w [(0, .int .i64 4), (1, .int .i64 i)] w'))) :
    Calls Try.prog 13 #[.agg #[.int .i64 4, .int .i64 i, .int .i64 s, .int .i64 t, .int .i64 p, .int .i64 c, .string K, .string M, .int .i64 v, .string X]] w fun e w' => e = .returned (.tuple #[.string (⟨#[78]⟩ ++ a ++ b), .int .i64 0]) ∧ Below w.heap.size w w' := by
  have HF : Hid (Left w [(0, .int .i64 4), (1, .int .i64 i)] (w.alloc (.cells #[.int .i64 4, .int .i64 i, .int .i64 s, .int .i64 t, .int .i64 p, .int .i64 c, .string K, .string M, .int .i64 v, .string X] 35))) := Left.first _ _ _ _ (by simp)
  go_enter Try.func13, Try.ntmps13
  go_wp2_with fail
  refine (C0.out _ HF).mono ?_
  rintro e w1 ⟨rfl, m0, m1, HB1⟩
  clear C0 HF
  go_wp2_with fail
  refine (C1.out _ _ rfl HB1).mono ?_
  rintro e w2 ⟨rfl, n0, n1, HB2⟩
  clear C1 HB1 m0 m1
  go_wp2_with fail
  refine (C2.out _ _ rfl HB2).mono ?_
  rintro e w3 ⟨rfl, o0, o1, HB3⟩
  clear C2 HB2 n0 n1
  go_wp2
  go_ret2
  exact ⟨rfl, HB3.out.2.1⟩
set_option maxHeartbeats 1000000 in
theorem rnote7 (i s t p c : Int) (K M : ByteArray) (v : Int) (X : ByteArray) (w : World) (a b d : ByteArray) (ha : a.size ≤ 64) (hb : b.size ≤ 64) (hd : d.size ≤ 64)
    (C0 : Hid (∀ w1 : World, Hid (Left w [(0, .int .i64 7), (1, .int .i64 i)] w1) → Calls Try.prog 21 #[.agg #[.int .i64 7, .int .i64 i, .int .i64 s, .int .i64 t, .int .i64 p, .int .i64 c, .string K, .string M, .int .i64 v, .string X]] w1 fun e w' => e = .returned (.bool true) ∧ w'.cell? ⟨w.heap.size, 0, none⟩ = some (.int .i64 7) ∧ w'.cell? ⟨w.heap.size, 1, none⟩ = some (.int .i64 i) ∧ Hid (Left w [(0, .int .i64 7), (1, .int .i64 i)] w')))
    (C1 : Hid (∀ (w1 : World) (g : Nat), g = w1.heap.size → Hid (Left w [(0, .int .i64 7), (1, .int .i64 i)] w1) → Calls Try.prog 22 #[.slice (some ⟨g, 0, none⟩) 1 1] (w1.alloc (.cells #[.int .i64 7] 3)) fun e w' => e = .returned (.string a) ∧ w'.cell? ⟨w.heap.size, 0, none⟩ = some (.int .i64 7) ∧ w'.cell? ⟨w.heap.size, 1, none⟩ = some (.int .i64 i) ∧ Hid (Left w [(0, .int .i64 7), (1, .int .i64 i)] w')))
    (C2 : Hid (∀ (w1 : World) (g : Nat), g = w1.heap.size → Hid (Left w [(0, .int .i64 7), (1, .int .i64 i)] w1) → Calls Try.prog 22 #[.slice (some ⟨g, 0, none⟩) 1 1] (w1.alloc (.cells #[.int .i64 i] 3)) fun e w' => e = .returned (.string b) ∧ w'.cell? ⟨w.heap.size, 0, none⟩ = some (.int .i64 7) ∧ w'.cell? ⟨w.heap.size, 1, none⟩ = some (.int .i64 i) ∧ Hid (Left w [(0, .int .i64 7), (1, .int .i64 i)] w'))) :
    Calls Try.prog 13 #[.agg #[.int .i64 7, .int .i64 i, .int .i64 s, .int .i64 t, .int .i64 p, .int .i64 c, .string K, .string M, .int .i64 v, .string X]] w fun e w' => e = .returned (.tuple #[.string (⟨#[78]⟩ ++ a ++ b), .int .i64 0]) ∧ Below w.heap.size w w' := by
  have HF : Hid (Left w [(0, .int .i64 7), (1, .int .i64 i)] (w.alloc (.cells #[.int .i64 7, .int .i64 i, .int .i64 s, .int .i64 t, .int .i64 p, .int .i64 c, .string K, .string M, .int .i64 v, .string X] 35))) := Left.first _ _ _ _ (by simp)
  go_enter Try.func13, Try.ntmps13
  go_wp2_with fail
  refine (C0.out _ HF).mono ?_
  rintro e w1 ⟨rfl, m0, m1, HB1⟩
  clear C0 HF
  go_wp2_with fail
  refine (C1.out _ _ rfl HB1).mono ?_
  rintro e w2 ⟨rfl, n0, n1, HB2⟩
  clear C1 HB1 m0 m1
  go_wp2_with fail
  refine (C2.out _ _ rfl HB2).mono ?_
  rintro e w3 ⟨rfl, o0, o1, HB3⟩
  clear C2 HB2 n0 n1
  go_wp2
  go_ret2
  exact ⟨rfl, HB3.out.2.1⟩
set_option maxHeartbeats 1000000 in
theorem rnote5 (i s t p c : Int) (K M : ByteArray) (v : Int) (X : ByteArray) (w : World) (a b d : ByteArray) (ha : a.size ≤ 64) (hb : b.size ≤ 64) (hd : d.size ≤ 64)
    (C0 : Hid (∀ w1 : World, Hid (Left w [(0, .int .i64 5), (1, .int .i64 i), (2, .int .i64 s)] w1) → Calls Try.prog 21 #[.agg #[.int .i64 5, .int .i64 i, .int .i64 s, .int .i64 t, .int .i64 p, .int .i64 c, .string K, .string M, .int .i64 v, .string X]] w1 fun e w' => e = .returned (.bool true) ∧ w'.cell? ⟨w.heap.size, 0, none⟩ = some (.int .i64 5) ∧ w'.cell? ⟨w.heap.size, 1, none⟩ = some (.int .i64 i) ∧ w'.cell? ⟨w.heap.size, 2, none⟩ = some (.int .i64 s) ∧ Hid (Left w [(0, .int .i64 5), (1, .int .i64 i), (2, .int .i64 s)] w')))
    (C1 : Hid (∀ (w1 : World) (g : Nat), g = w1.heap.size → Hid (Left w [(0, .int .i64 5), (1, .int .i64 i), (2, .int .i64 s)] w1) → Calls Try.prog 22 #[.slice (some ⟨g, 0, none⟩) 1 1] (w1.alloc (.cells #[.int .i64 5] 3)) fun e w' => e = .returned (.string a) ∧ w'.cell? ⟨w.heap.size, 0, none⟩ = some (.int .i64 5) ∧ w'.cell? ⟨w.heap.size, 1, none⟩ = some (.int .i64 i) ∧ w'.cell? ⟨w.heap.size, 2, none⟩ = some (.int .i64 s) ∧ Hid (Left w [(0, .int .i64 5), (1, .int .i64 i), (2, .int .i64 s)] w')))
    (C2 : Hid (∀ (w1 : World) (g : Nat), g = w1.heap.size → Hid (Left w [(0, .int .i64 5), (1, .int .i64 i), (2, .int .i64 s)] w1) → Calls Try.prog 22 #[.slice (some ⟨g, 0, none⟩) 1 1] (w1.alloc (.cells #[.int .i64 i] 3)) fun e w' => e = .returned (.string b) ∧ w'.cell? ⟨w.heap.size, 0, none⟩ = some (.int .i64 5) ∧ w'.cell? ⟨w.heap.size, 1, none⟩ = some (.int .i64 i) ∧ w'.cell? ⟨w.heap.size, 2, none⟩ = some (.int .i64 s) ∧ Hid (Left w [(0, .int .i64 5), (1, .int .i64 i), (2, .int .i64 s)] w')))
    (C3 : Hid (∀ (w1 : World) (g : Nat), g = w1.heap.size → Hid (Left w [(0, .int .i64 5), (1, .int .i64 i), (2, .int .i64 s)] w1) → Calls Try.prog 22 #[.slice (some ⟨g, 0, none⟩) 1 1] (w1.alloc (.cells #[.int .i64 s] 3)) fun e w' => e = .returned (.string d) ∧ w'.cell? ⟨w.heap.size, 0, none⟩ = some (.int .i64 5) ∧ w'.cell? ⟨w.heap.size, 1, none⟩ = some (.int .i64 i) ∧ w'.cell? ⟨w.heap.size, 2, none⟩ = some (.int .i64 s) ∧ Hid (Left w [(0, .int .i64 5), (1, .int .i64 i), (2, .int .i64 s)] w'))) :
    Calls Try.prog 13 #[.agg #[.int .i64 5, .int .i64 i, .int .i64 s, .int .i64 t, .int .i64 p, .int .i64 c, .string K, .string M, .int .i64 v, .string X]] w fun e w' => e = .returned (.tuple #[.string (⟨#[78]⟩ ++ a ++ b ++ d), .int .i64 0]) ∧ Below w.heap.size w w' := by
  have HF : Hid (Left w [(0, .int .i64 5), (1, .int .i64 i), (2, .int .i64 s)] (w.alloc (.cells #[.int .i64 5, .int .i64 i, .int .i64 s, .int .i64 t, .int .i64 p, .int .i64 c, .string K, .string M, .int .i64 v, .string X] 35))) := Left.first _ _ _ _ (by simp)
  go_enter Try.func13, Try.ntmps13
  go_wp2_with fail
  refine (C0.out _ HF).mono ?_
  rintro e w1 ⟨rfl, m0, m1, m2, HB1⟩
  clear C0 HF
  go_wp2_with fail
  refine (C1.out _ _ rfl HB1).mono ?_
  rintro e w2 ⟨rfl, n0, n1, n2, HB2⟩
  clear C1 HB1 m0 m1 m2
  go_wp2_with fail
  refine (C2.out _ _ rfl HB2).mono ?_
  rintro e w3 ⟨rfl, o0, o1, o2, HB3⟩
  clear C2 HB2 n0 n1 n2
  go_wp2_with fail
  refine (C3.out _ _ rfl HB3).mono ?_
  rintro e w4 ⟨rfl, q0, q1, q2, HB4⟩
  clear C3 HB3 o0 o1 o2
  go_wp2
  go_ret2
  exact ⟨rfl, HB4.out.2.1⟩
set_option maxHeartbeats 1000000 in
theorem rnote6 (i s t p c : Int) (K M : ByteArray) (v : Int) (X : ByteArray) (w : World) (a b d : ByteArray) (ha : a.size ≤ 64) (hb : b.size ≤ 64) (hd : d.size ≤ 64)
    (C0 : Hid (∀ w1 : World, Hid (Left w [(0, .int .i64 6), (1, .int .i64 i), (2, .int .i64 s), (3, .int .i64 t)] w1) → Calls Try.prog 21 #[.agg #[.int .i64 6, .int .i64 i, .int .i64 s, .int .i64 t, .int .i64 p, .int .i64 c, .string K, .string M, .int .i64 v, .string X]] w1 fun e w' => e = .returned (.bool true) ∧ w'.cell? ⟨w.heap.size, 0, none⟩ = some (.int .i64 6) ∧ w'.cell? ⟨w.heap.size, 1, none⟩ = some (.int .i64 i) ∧ w'.cell? ⟨w.heap.size, 2, none⟩ = some (.int .i64 s) ∧ w'.cell? ⟨w.heap.size, 3, none⟩ = some (.int .i64 t) ∧ Hid (Left w [(0, .int .i64 6), (1, .int .i64 i), (2, .int .i64 s), (3, .int .i64 t)] w')))
    (C1 : Hid (∀ (w1 : World) (g : Nat), g = w1.heap.size → Hid (Left w [(0, .int .i64 6), (1, .int .i64 i), (2, .int .i64 s), (3, .int .i64 t)] w1) → Calls Try.prog 22 #[.slice (some ⟨g, 0, none⟩) 1 1] (w1.alloc (.cells #[.int .i64 6] 3)) fun e w' => e = .returned (.string a) ∧ w'.cell? ⟨w.heap.size, 0, none⟩ = some (.int .i64 6) ∧ w'.cell? ⟨w.heap.size, 1, none⟩ = some (.int .i64 i) ∧ w'.cell? ⟨w.heap.size, 2, none⟩ = some (.int .i64 s) ∧ w'.cell? ⟨w.heap.size, 3, none⟩ = some (.int .i64 t) ∧ Hid (Left w [(0, .int .i64 6), (1, .int .i64 i), (2, .int .i64 s), (3, .int .i64 t)] w')))
    (C2 : Hid (∀ (w1 : World) (g : Nat), g = w1.heap.size → Hid (Left w [(0, .int .i64 6), (1, .int .i64 i), (2, .int .i64 s), (3, .int .i64 t)] w1) → Calls Try.prog 22 #[.slice (some ⟨g, 0, none⟩) 1 1] (w1.alloc (.cells #[.int .i64 i] 3)) fun e w' => e = .returned (.string b) ∧ w'.cell? ⟨w.heap.size, 0, none⟩ = some (.int .i64 6) ∧ w'.cell? ⟨w.heap.size, 1, none⟩ = some (.int .i64 i) ∧ w'.cell? ⟨w.heap.size, 2, none⟩ = some (.int .i64 s) ∧ w'.cell? ⟨w.heap.size, 3, none⟩ = some (.int .i64 t) ∧ Hid (Left w [(0, .int .i64 6), (1, .int .i64 i), (2, .int .i64 s), (3, .int .i64 t)] w')))
    (C3 : Hid (∀ (w1 : World) (g : Nat), g = w1.heap.size → Hid (Left w [(0, .int .i64 6), (1, .int .i64 i), (2, .int .i64 s), (3, .int .i64 t)] w1) → Calls Try.prog 22 #[.slice (some ⟨g, 0, none⟩) 2 2] (w1.alloc (.cells #[.int .i64 s, .int .i64 t] 3)) fun e w' => e = .returned (.string d) ∧ w'.cell? ⟨w.heap.size, 0, none⟩ = some (.int .i64 6) ∧ w'.cell? ⟨w.heap.size, 1, none⟩ = some (.int .i64 i) ∧ w'.cell? ⟨w.heap.size, 2, none⟩ = some (.int .i64 s) ∧ w'.cell? ⟨w.heap.size, 3, none⟩ = some (.int .i64 t) ∧ Hid (Left w [(0, .int .i64 6), (1, .int .i64 i), (2, .int .i64 s), (3, .int .i64 t)] w'))) :
    Calls Try.prog 13 #[.agg #[.int .i64 6, .int .i64 i, .int .i64 s, .int .i64 t, .int .i64 p, .int .i64 c, .string K, .string M, .int .i64 v, .string X]] w fun e w' => e = .returned (.tuple #[.string (⟨#[78]⟩ ++ a ++ b ++ d), .int .i64 0]) ∧ Below w.heap.size w w' := by
  have HF : Hid (Left w [(0, .int .i64 6), (1, .int .i64 i), (2, .int .i64 s), (3, .int .i64 t)] (w.alloc (.cells #[.int .i64 6, .int .i64 i, .int .i64 s, .int .i64 t, .int .i64 p, .int .i64 c, .string K, .string M, .int .i64 v, .string X] 35))) := Left.first _ _ _ _ (by simp)
  go_enter Try.func13, Try.ntmps13
  go_wp2_with fail
  refine (C0.out _ HF).mono ?_
  rintro e w1 ⟨rfl, m0, m1, m2, m3, HB1⟩
  clear C0 HF
  go_wp2_with fail
  refine (C1.out _ _ rfl HB1).mono ?_
  rintro e w2 ⟨rfl, n0, n1, n2, n3, HB2⟩
  clear C1 HB1 m0 m1 m2 m3
  go_wp2_with fail
  refine (C2.out _ _ rfl HB2).mono ?_
  rintro e w3 ⟨rfl, o0, o1, o2, o3, HB3⟩
  clear C2 HB2 n0 n1 n2 n3
  go_wp2_with fail
  refine (C3.out _ _ rfl HB3).mono ?_
  rintro e w4 ⟨rfl, q0, q1, q2, q3, HB4⟩
  clear C3 HB3 o0 o1 o2 o3
  go_wp2
  go_ret2
  exact ⟨rfl, HB4.out.2.1⟩
set_option maxHeartbeats 1000000 in
theorem rnote8 (i s t p c : Int) (K M : ByteArray) (v : Int) (X : ByteArray) (w : World) (a b d : ByteArray) (ha : a.size ≤ 64) (hb : b.size ≤ 64) (hd : d.size ≤ 64)
    (C0 : Hid (∀ w1 : World, Hid (Left w [(0, .int .i64 8), (1, .int .i64 i), (4, .int .i64 p)] w1) → Calls Try.prog 21 #[.agg #[.int .i64 8, .int .i64 i, .int .i64 s, .int .i64 t, .int .i64 p, .int .i64 c, .string K, .string M, .int .i64 v, .string X]] w1 fun e w' => e = .returned (.bool true) ∧ w'.cell? ⟨w.heap.size, 0, none⟩ = some (.int .i64 8) ∧ w'.cell? ⟨w.heap.size, 1, none⟩ = some (.int .i64 i) ∧ w'.cell? ⟨w.heap.size, 4, none⟩ = some (.int .i64 p) ∧ Hid (Left w [(0, .int .i64 8), (1, .int .i64 i), (4, .int .i64 p)] w')))
    (C1 : Hid (∀ (w1 : World) (g : Nat), g = w1.heap.size → Hid (Left w [(0, .int .i64 8), (1, .int .i64 i), (4, .int .i64 p)] w1) → Calls Try.prog 22 #[.slice (some ⟨g, 0, none⟩) 1 1] (w1.alloc (.cells #[.int .i64 8] 3)) fun e w' => e = .returned (.string a) ∧ w'.cell? ⟨w.heap.size, 0, none⟩ = some (.int .i64 8) ∧ w'.cell? ⟨w.heap.size, 1, none⟩ = some (.int .i64 i) ∧ w'.cell? ⟨w.heap.size, 4, none⟩ = some (.int .i64 p) ∧ Hid (Left w [(0, .int .i64 8), (1, .int .i64 i), (4, .int .i64 p)] w')))
    (C2 : Hid (∀ (w1 : World) (g : Nat), g = w1.heap.size → Hid (Left w [(0, .int .i64 8), (1, .int .i64 i), (4, .int .i64 p)] w1) → Calls Try.prog 22 #[.slice (some ⟨g, 0, none⟩) 1 1] (w1.alloc (.cells #[.int .i64 i] 3)) fun e w' => e = .returned (.string b) ∧ w'.cell? ⟨w.heap.size, 0, none⟩ = some (.int .i64 8) ∧ w'.cell? ⟨w.heap.size, 1, none⟩ = some (.int .i64 i) ∧ w'.cell? ⟨w.heap.size, 4, none⟩ = some (.int .i64 p) ∧ Hid (Left w [(0, .int .i64 8), (1, .int .i64 i), (4, .int .i64 p)] w')))
    (C3 : Hid (∀ (w1 : World) (g : Nat), g = w1.heap.size → Hid (Left w [(0, .int .i64 8), (1, .int .i64 i), (4, .int .i64 p)] w1) → Calls Try.prog 22 #[.slice (some ⟨g, 0, none⟩) 1 1] (w1.alloc (.cells #[.int .i64 p] 3)) fun e w' => e = .returned (.string d) ∧ w'.cell? ⟨w.heap.size, 0, none⟩ = some (.int .i64 8) ∧ w'.cell? ⟨w.heap.size, 1, none⟩ = some (.int .i64 i) ∧ w'.cell? ⟨w.heap.size, 4, none⟩ = some (.int .i64 p) ∧ Hid (Left w [(0, .int .i64 8), (1, .int .i64 i), (4, .int .i64 p)] w'))) :
    Calls Try.prog 13 #[.agg #[.int .i64 8, .int .i64 i, .int .i64 s, .int .i64 t, .int .i64 p, .int .i64 c, .string K, .string M, .int .i64 v, .string X]] w fun e w' => e = .returned (.tuple #[.string (⟨#[78]⟩ ++ a ++ b ++ d), .int .i64 0]) ∧ Below w.heap.size w w' := by
  have HF : Hid (Left w [(0, .int .i64 8), (1, .int .i64 i), (4, .int .i64 p)] (w.alloc (.cells #[.int .i64 8, .int .i64 i, .int .i64 s, .int .i64 t, .int .i64 p, .int .i64 c, .string K, .string M, .int .i64 v, .string X] 35))) := Left.first _ _ _ _ (by simp)
  go_enter Try.func13, Try.ntmps13
  go_wp2_with fail
  refine (C0.out _ HF).mono ?_
  rintro e w1 ⟨rfl, m0, m1, m2, HB1⟩
  clear C0 HF
  go_wp2_with fail
  refine (C1.out _ _ rfl HB1).mono ?_
  rintro e w2 ⟨rfl, n0, n1, n2, HB2⟩
  clear C1 HB1 m0 m1 m2
  go_wp2_with fail
  refine (C2.out _ _ rfl HB2).mono ?_
  rintro e w3 ⟨rfl, o0, o1, o2, HB3⟩
  clear C2 HB2 n0 n1 n2
  go_wp2_with fail
  refine (C3.out _ _ rfl HB3).mono ?_
  rintro e w4 ⟨rfl, q0, q1, q2, HB4⟩
  clear C3 HB3 o0 o1 o2
  go_wp2
  go_ret2
  exact ⟨rfl, HB4.out.2.1⟩
set_option maxHeartbeats 1000000 in
theorem rnote9 (i s t p c : Int) (K M : ByteArray) (v : Int) (X : ByteArray) (w : World) (a b d : ByteArray) (ha : a.size ≤ 64) (hb : b.size ≤ 64) (hd : d.size ≤ 64)
    (C0 : Hid (∀ w1 : World, Hid (Left w [(0, .int .i64 9), (1, .int .i64 i), (3, .int .i64 t), (5, .int .i64 c)] w1) → Calls Try.prog 21 #[.agg #[.int .i64 9, .int .i64 i, .int .i64 s, .int .i64 t, .int .i64 p, .int .i64 c, .string K, .string M, .int .i64 v, .string X]] w1 fun e w' => e = .returned (.bool true) ∧ w'.cell? ⟨w.heap.size, 0, none⟩ = some (.int .i64 9) ∧ w'.cell? ⟨w.heap.size, 1, none⟩ = some (.int .i64 i) ∧ w'.cell? ⟨w.heap.size, 3, none⟩ = some (.int .i64 t) ∧ w'.cell? ⟨w.heap.size, 5, none⟩ = some (.int .i64 c) ∧ Hid (Left w [(0, .int .i64 9), (1, .int .i64 i), (3, .int .i64 t), (5, .int .i64 c)] w')))
    (C1 : Hid (∀ (w1 : World) (g : Nat), g = w1.heap.size → Hid (Left w [(0, .int .i64 9), (1, .int .i64 i), (3, .int .i64 t), (5, .int .i64 c)] w1) → Calls Try.prog 22 #[.slice (some ⟨g, 0, none⟩) 1 1] (w1.alloc (.cells #[.int .i64 9] 3)) fun e w' => e = .returned (.string a) ∧ w'.cell? ⟨w.heap.size, 0, none⟩ = some (.int .i64 9) ∧ w'.cell? ⟨w.heap.size, 1, none⟩ = some (.int .i64 i) ∧ w'.cell? ⟨w.heap.size, 3, none⟩ = some (.int .i64 t) ∧ w'.cell? ⟨w.heap.size, 5, none⟩ = some (.int .i64 c) ∧ Hid (Left w [(0, .int .i64 9), (1, .int .i64 i), (3, .int .i64 t), (5, .int .i64 c)] w')))
    (C2 : Hid (∀ (w1 : World) (g : Nat), g = w1.heap.size → Hid (Left w [(0, .int .i64 9), (1, .int .i64 i), (3, .int .i64 t), (5, .int .i64 c)] w1) → Calls Try.prog 22 #[.slice (some ⟨g, 0, none⟩) 1 1] (w1.alloc (.cells #[.int .i64 i] 3)) fun e w' => e = .returned (.string b) ∧ w'.cell? ⟨w.heap.size, 0, none⟩ = some (.int .i64 9) ∧ w'.cell? ⟨w.heap.size, 1, none⟩ = some (.int .i64 i) ∧ w'.cell? ⟨w.heap.size, 3, none⟩ = some (.int .i64 t) ∧ w'.cell? ⟨w.heap.size, 5, none⟩ = some (.int .i64 c) ∧ Hid (Left w [(0, .int .i64 9), (1, .int .i64 i), (3, .int .i64 t), (5, .int .i64 c)] w')))
    (C3 : Hid (∀ (w1 : World) (g : Nat), g = w1.heap.size → Hid (Left w [(0, .int .i64 9), (1, .int .i64 i), (3, .int .i64 t), (5, .int .i64 c)] w1) → Calls Try.prog 22 #[.slice (some ⟨g, 0, none⟩) 2 2] (w1.alloc (.cells #[.int .i64 t, .int .i64 c] 3)) fun e w' => e = .returned (.string d) ∧ w'.cell? ⟨w.heap.size, 0, none⟩ = some (.int .i64 9) ∧ w'.cell? ⟨w.heap.size, 1, none⟩ = some (.int .i64 i) ∧ w'.cell? ⟨w.heap.size, 3, none⟩ = some (.int .i64 t) ∧ w'.cell? ⟨w.heap.size, 5, none⟩ = some (.int .i64 c) ∧ Hid (Left w [(0, .int .i64 9), (1, .int .i64 i), (3, .int .i64 t), (5, .int .i64 c)] w'))) :
    Calls Try.prog 13 #[.agg #[.int .i64 9, .int .i64 i, .int .i64 s, .int .i64 t, .int .i64 p, .int .i64 c, .string K, .string M, .int .i64 v, .string X]] w fun e w' => e = .returned (.tuple #[.string (⟨#[78]⟩ ++ a ++ b ++ d), .int .i64 0]) ∧ Below w.heap.size w w' := by
  have HF : Hid (Left w [(0, .int .i64 9), (1, .int .i64 i), (3, .int .i64 t), (5, .int .i64 c)] (w.alloc (.cells #[.int .i64 9, .int .i64 i, .int .i64 s, .int .i64 t, .int .i64 p, .int .i64 c, .string K, .string M, .int .i64 v, .string X] 35))) := Left.first _ _ _ _ (by simp)
  go_enter Try.func13, Try.ntmps13
  go_wp2_with fail
  refine (C0.out _ HF).mono ?_
  rintro e w1 ⟨rfl, m0, m1, m2, m3, HB1⟩
  clear C0 HF
  go_wp2_with fail
  refine (C1.out _ _ rfl HB1).mono ?_
  rintro e w2 ⟨rfl, n0, n1, n2, n3, HB2⟩
  clear C1 HB1 m0 m1 m2 m3
  go_wp2_with fail
  refine (C2.out _ _ rfl HB2).mono ?_
  rintro e w3 ⟨rfl, o0, o1, o2, o3, HB3⟩
  clear C2 HB2 n0 n1 n2 n3
  go_wp2_with fail
  refine (C3.out _ _ rfl HB3).mono ?_
  rintro e w4 ⟨rfl, q0, q1, q2, q3, HB4⟩
  clear C3 HB3 o0 o1 o2 o3
  go_wp2
  go_ret2
  exact ⟨rfl, HB4.out.2.1⟩
end Go.Proofs.Ytbgankldnjeohaa
