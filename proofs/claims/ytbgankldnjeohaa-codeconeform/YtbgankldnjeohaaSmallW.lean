/- The small walks of package codec and of the document's: ranges; numbers one behind the other. -/
import Derived.Test.YtbgankldnjeohaaPkNumW
import Derived.Test.YtbgankldnjeohaaPkRefNumW
set_option linter.unusedVariables false
set_option maxRecDepth 100000
namespace Go.Proofs.Ytbgankldnjeohaa
open Go.RowKit

/-- A number from one to another. -/
def btw (n a b : Int) : Bool := decide (a ≤ n) && decide (n ≤ b)
theorem between_any (n a b : Int) (w : World) : Calls Try.prog 65 #[.int .i64 n, .int .i64 a, .int .i64 b] w fun e w' => e = .returned (.bool (btw n a b)) ∧ w' = w := by
  unfold btw
  by_cases h : a ≤ n
  · have d : decide (a ≤ n) = true := by simpa using h
    rw [d, Bool.true_and]
    go_enter Try.func65, Try.ntmps65
    go_wp2
    go_ret
    exact ⟨rfl, rfl⟩
  · have d : decide (a ≤ n) = false := by simpa using h
    rw [d, Bool.false_and]
    go_enter Try.func65, Try.ntmps65
    go_wp2
    go_ret
    exact ⟨rfl, rfl⟩
theorem isID_any (n : Int) (w : World) : Calls Try.prog 67 #[.int .i64 n] w fun e w' => e = .returned (.bool (btw n 1 60)) ∧ w' = w := by
  go_enter Try.func67, Try.ntmps67
  go_wp2_with (go_at_call 65; refine (between_any _ _ _ _).mono ?_; rintro e w' ⟨rfl, hw'⟩; rw [hw']; clear hw' w')
  go_ret
  exact ⟨rfl, rfl⟩
theorem isStep_any (n : Int) (w : World) : Calls Try.prog 68 #[.int .i64 n] w fun e w' => e = .returned (.bool (btw n 0 7)) ∧ w' = w := by
  go_enter Try.func68, Try.ntmps68
  go_wp2_with (go_at_call 65; refine (between_any _ _ _ _).mono ?_; rintro e w' ⟨rfl, hw'⟩; rw [hw']; clear hw' w')
  go_ret
  exact ⟨rfl, rfl⟩
theorem isPart_any (n : Int) (w : World) : Calls Try.prog 66 #[.int .i64 n] w fun e w' => e = .returned (.bool (btw n 0 3)) ∧ w' = w := by
  go_enter Try.func66, Try.ntmps66
  go_wp2_with (go_at_call 65; refine (between_any _ _ _ _).mono ?_; rintro e w' ⟨rfl, hw'⟩; rw [hw']; clear hw' w')
  go_ret
  exact ⟨rfl, rfl⟩
theorem within_any (n a b : Int) (w : World) : Calls Try.prog 28 #[.int .i64 n, .int .i64 a, .int .i64 b] w fun e w' => e = .returned (.bool (btw n a b)) ∧ w' = w := by
  unfold btw
  by_cases h : a ≤ n
  · have d : decide (a ≤ n) = true := by simpa using h
    rw [d, Bool.true_and]
    go_enter Try.func28, Try.ntmps28
    go_wp2
    go_ret
    exact ⟨rfl, rfl⟩
  · have d : decide (a ≤ n) = false := by simpa using h
    rw [d, Bool.false_and]
    go_enter Try.func28, Try.ntmps28
    go_wp2
    go_ret
    exact ⟨rfl, rfl⟩
theorem refId_any (n : Int) (w : World) : Calls Try.prog 27 #[.int .i64 n] w fun e w' => e = .returned (.bool (btw n 1 60)) ∧ w' = w := by
  go_enter Try.func27, Try.ntmps27
  go_wp2_with (go_at_call 28; refine (within_any _ _ _ _).mono ?_; rintro e w' ⟨rfl, hw'⟩; rw [hw']; clear hw' w')
  go_ret
  exact ⟨rfl, rfl⟩
theorem refStep_any (n : Int) (w : World) : Calls Try.prog 30 #[.int .i64 n] w fun e w' => e = .returned (.bool (btw n 0 7)) ∧ w' = w := by
  go_enter Try.func30, Try.ntmps30
  go_wp2_with (go_at_call 28; refine (within_any _ _ _ _).mono ?_; rintro e w' ⟨rfl, hw'⟩; rw [hw']; clear hw' w')
  go_ret
  exact ⟨rfl, rfl⟩
/-- May an instance have ended so? -/
def endB (p c : Int) : Bool := if p = 4 then decide (c = 0) else if p = 6 then btw c 1 4 else false
theorem isEnd_any (p c : Int) (w : World) : Calls Try.prog 93 #[.int .i64 p, .int .i64 c] w fun e w' => e = .returned (.bool (endB p c)) ∧ w' = w := by
  unfold endB
  by_cases h : p = 4
  · subst h
    rw [if_pos rfl]
    by_cases hc : c = 0
    · subst hc
      go_enter Try.func93, Try.ntmps93
      go_wp2
      go_ret
      exact ⟨rfl, rfl⟩
    · have d : decide (c = 0) = false := by simpa using hc
      have d' : (c == 0) = false := by simpa using hc
      rw [d]
      go_enter Try.func93, Try.ntmps93
      go_wp2
      go_ret
      exact ⟨rfl, rfl⟩
  · rw [if_neg h]
    have d : decide (p = 4) = false := by simpa using h
    have d' : (p == 4) = false := by simpa using h
    by_cases h6 : p = 6
    · subst h6
      rw [if_pos rfl]
      go_enter Try.func93, Try.ntmps93
      go_wp2_with (go_at_call 65; refine (between_any _ _ _ _).mono ?_; rintro e w' ⟨rfl, hw'⟩; rw [hw']; clear hw' w')
      go_ret
      exact ⟨rfl, rfl⟩
    · rw [if_neg h6]
      have e : decide (p = 6) = false := by simpa using h6
      have e' : (p == 6) = false := by simpa using h6
      go_enter Try.func93, Try.ntmps93
      go_wp2
      go_ret
      exact ⟨rfl, rfl⟩
theorem btw_true {n a b : Int} : btw n a b = true ↔ a ≤ n ∧ n ≤ b := by unfold btw; simp
theorem btw_false {n a b : Int} : btw n a b = false ↔ ¬ (a ≤ n ∧ n ≤ b) := by unfold btw; simp
/-- Numbers, as bytes one behind the other. -/
def numsL (xs : List Nat) : List UInt8 := (xs.map PackMath.num).flatten
def Small (xs : List Nat) : Prop := ∀ x ∈ xs, x ≤ 1125899906842624
/-- A slice value that leads to numbers. -/
def NRow (w : World) (v : Value) (xs : List Nat) : Prop := ∃ g cap, v = .slice (some ⟨g, 0, none⟩) xs.length cap ∧ g < w.heap.size ∧ ∀ j, (h : j < xs.length) → w.cell? ⟨g, j, none⟩ = some (.int .i64 (xs[j] : Int))
theorem nums_len (xs : List Nat) (h : Small xs) : (numsL xs).length ≤ 8 * xs.length := by
  induction xs with
  | nil => simp [numsL]
  | cons x xs ih =>
    have h1 := PackMath.num_len8 x (h x (by simp))
    have h2 := ih (fun y hy => h y (by simp [hy]))
    unfold numsL at *
    simp only [List.map_cons, List.flatten_cons, List.length_append, List.length_cons]
    omega
theorem small_take {xs : List Nat} (h : Small xs) (k : Nat) : Small (xs.take k) := fun x hx => h x (List.mem_of_mem_take hx)
theorem nums_snoc (xs : List Nat) (k : Nat) (hk : k < xs.length) : ByteArray.mk (numsL (xs.take (k + 1))).toArray = ByteArray.mk (numsL (xs.take k)).toArray ++ ByteArray.mk (PackMath.num xs[k]).toArray := by
  apply ByteArray.ext
  unfold numsL
  rw [List.take_succ_eq_append_getElem hk, List.map_append, List.flatten_append, ByteArray.data_append]
  simp
set_option maxHeartbeats 1000000 in
theorem nums_any (w : World) (v : Value) (xs : List Nat) (hl : xs.length ≤ 8) (hs : Small xs) (hr : NRow w v xs) :
    Calls Try.prog 63 #[v] w fun e w' => e = .returned (.string ⟨(numsL xs).toArray⟩) ∧ Below w.heap.size w w' := by
  obtain ⟨g, cap, rfl, hg, hrow⟩ := hr
  have HR : Hid (∀ j, (h : j < xs.length) → w.cell? ⟨g, j, none⟩ = some (.int .i64 (xs[j] : Int))) := hrow
  have HL : Hid (∀ k, (numsL (xs.take k)).length ≤ 64) := fun k => by
    have h1 := nums_len _ (small_take hs k)
    have h2 : (xs.take k).length ≤ xs.length := by rw [List.length_take]; omega
    omega
  have HSm : Hid (∀ k, (h : k < xs.length) → xs[k] ≤ 1125899906842624) := fun k h => hs _ (List.getElem_mem h)
  have HN : Hid (∀ k, (h : k < xs.length) → ByteArray.mk (numsL (xs.take (k + 1))).toArray = ByteArray.mk (numsL (xs.take k)).toArray ++ ByteArray.mk (PackMath.num xs[k]).toArray) := fun k h => nums_snoc xs k h
  clear hrow hs
  go_enter Try.func63, Try.ntmps63
  go_wp2
  go_loopw [3, 10] (fun s i wr => ∃ k : Nat, k ≤ xs.length ∧ i = .int .i64 (k : Int) ∧ s = .string ⟨(numsL (xs.take k)).toArray⟩ ∧ Hid (Below w.heap.size w wr)) (fun _ i _ => xs.length - (intOf i).toNat)
  case atStart => exact ⟨0, Nat.zero_le _, rfl, rfl, Below.refl _ _⟩
  case round =>
    obtain ⟨k, hk, rfl, rfl, HB⟩ := hrel
    by_cases hlt : k < xs.length
    · have c1 : wr.cell? ⟨g, k, none⟩ = some (.int .i64 (xs[k] : Int)) := (HB.out.cell (p := ⟨g, k, none⟩) hg).trans (HR.out k hlt)
      have i1 : (k : Int) < (xs.length : Int) := by omega
      have hm := HSm.out k hlt
      have C : Hid (∀ w1, Calls Try.prog 70 #[.int .i64 (xs[k] : Int)] w1 fun e w' => e = .returned (.tuple #[.string ⟨(PackMath.num xs[k]).toArray⟩, .int .i64 0]) ∧ Below w1.heap.size w1 w') := fun w1 => Pk.num_any xs[k] hm w1
      have HE : Hid (ByteArray.mk (numsL (xs.take (k + 1))).toArray = ByteArray.mk (numsL (xs.take k)).toArray ++ ByteArray.mk (PackMath.num xs[k]).toArray) := HN.out k hlt
      have h1 : (ByteArray.mk (numsL (xs.take k)).toArray).size ≤ 64 := by rw [strV_size]; exact HL.out k
      have h2 : (ByteArray.mk (PackMath.num xs[k]).toArray).size ≤ 8 := by rw [strV_size]; exact PackMath.num_len8 _ hm
      generalize ByteArray.mk (numsL (xs.take k)).toArray = a at *
      generalize ByteArray.mk (PackMath.num xs[k]).toArray = b at *
      generalize (xs[k] : Int) = x at *
      clear hm
      go_wp2_with fail
      refine (C.out _).mono ?_
      rintro e w1 ⟨rfl, hb1⟩
      have HB1 : Hid (Below w.heap.size w w1) := HB.out.trans (hb1.mono HB.out.size)
      clear hb1 C HB c1
      go_wp2
      exact ⟨⟨k + 1, by omega, by go_num, by rw [HE.out], HB1⟩, by simp [intOf]; omega⟩
    · obtain rfl : k = xs.length := by omega
      rw [List.take_length]
      go_wp2
      go_ret
      exact ⟨rfl, HB.out⟩
set_option maxHeartbeats 1000000 in
theorem numbers_any (w : World) (v : Value) (xs : List Nat) (hl : xs.length ≤ 8) (hs : Small xs) (hr : NRow w v xs) :
    Calls Try.prog 22 #[v] w fun e w' => e = .returned (.string ⟨(numsL xs).toArray⟩) ∧ Below w.heap.size w w' := by
  obtain ⟨g, cap, rfl, hg, hrow⟩ := hr
  have HR : Hid (∀ j, (h : j < xs.length) → w.cell? ⟨g, j, none⟩ = some (.int .i64 (xs[j] : Int))) := hrow
  have HL : Hid (∀ k, (numsL (xs.take k)).length ≤ 64) := fun k => by
    have h1 := nums_len _ (small_take hs k)
    have h2 : (xs.take k).length ≤ xs.length := by rw [List.length_take]; omega
    omega
  have HSm : Hid (∀ k, (h : k < xs.length) → xs[k] ≤ 1125899906842624) := fun k h => hs _ (List.getElem_mem h)
  have HN : Hid (∀ k, (h : k < xs.length) → ByteArray.mk (numsL (xs.take (k + 1))).toArray = ByteArray.mk (numsL (xs.take k)).toArray ++ ByteArray.mk (PackMath.num xs[k]).toArray) := fun k h => nums_snoc xs k h
  clear hrow hs
  go_enter Try.func22, Try.ntmps22
  go_wp2
  go_loopw [3, 4] (fun s i wr => ∃ k : Nat, k ≤ xs.length ∧ i = .int .i64 (k : Int) ∧ s = .string ⟨(numsL (xs.take k)).toArray⟩ ∧ Hid (Below w.heap.size w wr)) (fun _ i _ => xs.length - (intOf i).toNat)
  case atStart => exact ⟨0, Nat.zero_le _, rfl, rfl, Below.refl _ _⟩
  case round =>
    obtain ⟨k, hk, rfl, rfl, HB⟩ := hrel
    by_cases hlt : k < xs.length
    · have c1 : wr.cell? ⟨g, k, none⟩ = some (.int .i64 (xs[k] : Int)) := (HB.out.cell (p := ⟨g, k, none⟩) hg).trans (HR.out k hlt)
      have i1 : (k : Int) < (xs.length : Int) := by omega
      have hm := HSm.out k hlt
      have C : Hid (∀ w1, Calls Try.prog 31 #[.int .i64 (xs[k] : Int)] w1 fun e w' => e = .returned (.tuple #[.string ⟨(PackMath.num xs[k]).toArray⟩, .int .i64 0]) ∧ Below w1.heap.size w1 w') := fun w1 => Pk.refNum_any xs[k] hm w1
      have HE : Hid (ByteArray.mk (numsL (xs.take (k + 1))).toArray = ByteArray.mk (numsL (xs.take k)).toArray ++ ByteArray.mk (PackMath.num xs[k]).toArray) := HN.out k hlt
      have h1 : (ByteArray.mk (numsL (xs.take k)).toArray).size ≤ 64 := by rw [strV_size]; exact HL.out k
      have h2 : (ByteArray.mk (PackMath.num xs[k]).toArray).size ≤ 8 := by rw [strV_size]; exact PackMath.num_len8 _ hm
      generalize ByteArray.mk (numsL (xs.take k)).toArray = a at *
      generalize ByteArray.mk (PackMath.num xs[k]).toArray = b at *
      generalize (xs[k] : Int) = x at *
      clear hm
      go_wp2_with fail
      refine (C.out _).mono ?_
      rintro e w1 ⟨rfl, hb1⟩
      have HB1 : Hid (Below w.heap.size w w1) := HB.out.trans (hb1.mono HB.out.size)
      clear hb1 C HB c1
      go_wp2
      exact ⟨⟨k + 1, by omega, by go_num, by rw [HE.out], HB1⟩, by simp [intOf]; omega⟩
    · obtain rfl : k = xs.length := by omega
      rw [List.take_length]
      go_wp2
      go_ret
      exact ⟨rfl, HB.out⟩
end Go.Proofs.Ytbgankldnjeohaa
