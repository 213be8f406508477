/- The form of a note: the walks of note.form and text. -/
import Derived.Test.YtbgankldnjeohaaMayW
import Derived.Test.YtbgankldnjeohaaPkTextW
import Derived.Test.YtbgankldnjeohaaPkRefTextW
import Derived.Deep.RegionHeld3
set_option linter.unusedVariables false
set_option linter.unusedSimpArgs false
set_option maxRecDepth 100000
namespace Go.Proofs.Ytbgankldnjeohaa
open Go.RowKit

theorem nums_new (xs : List Nat) (hl : xs.length ≤ 8) (hs : Small xs) (w1 : World) (cs : Array Value) (hc : cs = (xs.map fun x : Nat => Value.int .i64 (x : Int)).toArray) (n : Nat) (hn : n = xs.length) (ty : TypeId) :
    Calls Try.prog 63 #[.slice (some ⟨w1.heap.size, 0, none⟩) n n] (w1.alloc (.cells cs ty)) fun e w' => e = .returned (.string ⟨(numsL xs).toArray⟩) ∧ Below w1.heap.size w1 w' := by
  subst hc hn
  refine (nums_any _ _ xs hl hs ⟨w1.heap.size, xs.length, rfl, by simp, fun j h => by simp [h]⟩).mono fun e w' ⟨h1, h2⟩ => ⟨h1, ?_⟩
  have h3 : Below w1.heap.size w1 (w1.alloc (.cells (xs.map fun x : Nat => Value.int .i64 (x : Int)).toArray ty)) := (Below.refl _ _).alloc (Nat.le_refl _) _
  exact h3.trans (h2.mono h3.size)
theorem numbers_new (xs : List Nat) (hl : xs.length ≤ 8) (hs : Small xs) (w1 : World) (cs : Array Value) (hc : cs = (xs.map fun x : Nat => Value.int .i64 (x : Int)).toArray) (n : Nat) (hn : n = xs.length) (ty : TypeId) :
    Calls Try.prog 22 #[.slice (some ⟨w1.heap.size, 0, none⟩) n n] (w1.alloc (.cells cs ty)) fun e w' => e = .returned (.string ⟨(numsL xs).toArray⟩) ∧ Below w1.heap.size w1 w' := by
  subst hc hn
  refine (numbers_any _ _ xs hl hs ⟨w1.heap.size, xs.length, rfl, by simp, fun j h => by simp [h]⟩).mono fun e w' ⟨h1, h2⟩ => ⟨h1, ?_⟩
  have h3 : Below w1.heap.size w1 (w1.alloc (.cells (xs.map fun x : Nat => Value.int .i64 (x : Int)).toArray ty)) := (Below.refl _ _).alloc (Nat.le_refl _) _
  exact h3.trans (h2.mono h3.size)
theorem text_ok (s : ByteArray) (hs : s.size ≤ 2000) (w : World) : Calls Try.prog 92 #[.string s] w fun e w' => e = .returned (strV (PackMath.txt s.data.toList)) ∧ Below w.heap.size w w' := by
  have C : Hid (∀ w, Calls Try.prog 94 #[.string s] w fun e w' => e = .returned (.tuple #[strV (PackMath.txt s.data.toList), .int .i64 0]) ∧ Below w.heap.size w w') := fun w => by
    have h := Pk.text_any s (by omega) w
    unfold Pk.txV at h
    rw [if_neg (by rw [size_data]; omega)] at h
    exact h
  go_enter Try.func92, Try.ntmps92
  go_wp2_with fail
  refine (C.out _).mono ?_
  rintro e w1 ⟨rfl, hb⟩
  go_wp2
  go_ret
  exact ⟨rfl, hb⟩
theorem txt_len (s : ByteArray) (hs : s.size ≤ 2000) : (PackMath.txt s.data.toList).length ≤ 2008 := by
  have := PackMath.num_len8 s.data.toList.length (by rw [size_data]; omega)
  unfold PackMath.txt
  rw [List.length_append]
  rw [size_data] at *
  omega
theorem small1 {a : Nat} (h : a ≤ 2000) : Small [a] := fun x hx => by simp at hx; omega
theorem small2 {a b : Nat} (h : a ≤ 2000) (h' : b ≤ 2000) : Small [a, b] := fun x hx => by simp at hx; omega
theorem small3 {a b c : Nat} (h : a ≤ 2000) (h' : b ≤ 2000) (h2 : c ≤ 2000) : Small [a, b, c] := fun x hx => by simp at hx; omega
theorem small4 {a b c d : Nat} (h : a ≤ 2000) (h' : b ≤ 2000) (h2 : c ≤ 2000) (h3 : d ≤ 2000) : Small [a, b, c, d] := fun x hx => by simp at hx; omega
/-- A text that is its bytes. -/
def bstr (l : List UInt8) : Value := .string ⟨l.toArray⟩
theorem bstr_cons (l : List UInt8) : Value.string (ByteArray.mk #[78] ++ ByteArray.mk l.toArray) = bstr (78 :: l) := by
  unfold bstr; congr 1
theorem bstr_app (a b : List UInt8) : ByteArray.mk a.toArray ++ ByteArray.mk b.toArray = ByteArray.mk (a ++ b).toArray := by
  apply ByteArray.ext; simp [ByteArray.data_append]
set_option maxHeartbeats 1000000 in
theorem form3 (i s t p c : Int) (K M : ByteArray) (v : Int) (X : ByteArray) (w : World) (b : ByteArray) (HL : b.size ≤ 64)
    (C : Hid (∀ (w1 : World) (g : Nat), g = w1.heap.size → Calls Try.prog 63 #[.slice (some ⟨g, 0, none⟩) 2 2] (w1.alloc (.cells #[.int .i64 3, .int .i64 i] 3)) fun e w' => e = .returned (.string b) ∧ Below w1.heap.size w1 w')) :
    Calls Try.prog 90 #[.agg #[.int .i64 3, .int .i64 i, .int .i64 s, .int .i64 t, .int .i64 p, .int .i64 c, .string K, .string M, .int .i64 v, .string X]] w fun e w' => e = .returned (.string (⟨#[78]⟩ ++ b)) ∧ Below w.heap.size w w' := by
  go_enter Try.func90, Try.ntmps90
  go_wp2_with fail
  refine (C.out _ _ (by simp)).mono ?_
  rintro e w1 ⟨rfl, hb⟩
  go_wp2
  go_ret
  refine ⟨rfl, ?_⟩
  have h3 : Below w.heap.size w (w.alloc (.cells #[.int .i64 3, .int .i64 i, .int .i64 s, .int .i64 t, .int .i64 p, .int .i64 c, .string K, .string M, .int .i64 v, .string X] 56)) := (Below.refl _ _).alloc (Nat.le_refl _) _
  exact h3.trans (hb.mono h3.size)
theorem formN3 (i : Nat) (hi : i ≤ 2000) (s t p c : Int) (K M : ByteArray) (v : Int) (X : ByteArray) (w : World) :
    Calls Try.prog 90 #[.agg #[.int .i64 3, .int .i64 (i : Int), .int .i64 s, .int .i64 t, .int .i64 p, .int .i64 c, .string K, .string M, .int .i64 v, .string X]] w fun e w' => e = .returned (bstr (78 :: numsL [3, i])) ∧ Below w.heap.size w w' := by
  have HS : Small [3, i] := small2 (by omega) hi
  have h := form3 (i : Int) s t p c K M v X w ⟨(numsL [3, i]).toArray⟩ (by rw [strV_size]; have := nums_len _ HS; simp only [List.length_cons, List.length_nil] at this; omega) (fun w1 g hg => by subst hg; exact nums_new [3, i] (by simp) HS w1 _ (by simp) _ (by simp) _)
  simp only [bstr_cons] at h
  exact h
set_option maxHeartbeats 1000000 in
theorem form4 (i s t p c : Int) (K M : ByteArray) (v : Int) (X : ByteArray) (w : World) (b : ByteArray) (HL : b.size ≤ 64)
    (C : Hid (∀ (w1 : World) (g : Nat), g = w1.heap.size → Calls Try.prog 63 #[.slice (some ⟨g, 0, none⟩) 2 2] (w1.alloc (.cells #[.int .i64 4, .int .i64 i] 3)) fun e w' => e = .returned (.string b) ∧ Below w1.heap.size w1 w')) :
    Calls Try.prog 90 #[.agg #[.int .i64 4, .int .i64 i, .int .i64 s, .int .i64 t, .int .i64 p, .int .i64 c, .string K, .string M, .int .i64 v, .string X]] w fun e w' => e = .returned (.string (⟨#[78]⟩ ++ b)) ∧ Below w.heap.size w w' := by
  go_enter Try.func90, Try.ntmps90
  go_wp2_with fail
  refine (C.out _ _ (by simp)).mono ?_
  rintro e w1 ⟨rfl, hb⟩
  go_wp2
  go_ret
  refine ⟨rfl, ?_⟩
  have h3 : Below w.heap.size w (w.alloc (.cells #[.int .i64 4, .int .i64 i, .int .i64 s, .int .i64 t, .int .i64 p, .int .i64 c, .string K, .string M, .int .i64 v, .string X] 56)) := (Below.refl _ _).alloc (Nat.le_refl _) _
  exact h3.trans (hb.mono h3.size)
theorem formN4 (i : Nat) (hi : i ≤ 2000) (s t p c : Int) (K M : ByteArray) (v : Int) (X : ByteArray) (w : World) :
    Calls Try.prog 90 #[.agg #[.int .i64 4, .int .i64 (i : Int), .int .i64 s, .int .i64 t, .int .i64 p, .int .i64 c, .string K, .string M, .int .i64 v, .string X]] w fun e w' => e = .returned (bstr (78 :: numsL [4, i])) ∧ Below w.heap.size w w' := by
  have HS : Small [4, i] := small2 (by omega) hi
  have h := form4 (i : Int) s t p c K M v X w ⟨(numsL [4, i]).toArray⟩ (by rw [strV_size]; have := nums_len _ HS; simp only [List.length_cons, List.length_nil] at this; omega) (fun w1 g hg => by subst hg; exact nums_new [4, i] (by simp) HS w1 _ (by simp) _ (by simp) _)
  simp only [bstr_cons] at h
  exact h
set_option maxHeartbeats 1000000 in
theorem form7 (i s t p c : Int) (K M : ByteArray) (v : Int) (X : ByteArray) (w : World) (b : ByteArray) (HL : b.size ≤ 64)
    (C : Hid (∀ (w1 : World) (g : Nat), g = w1.heap.size → Calls Try.prog 63 #[.slice (some ⟨g, 0, none⟩) 2 2] (w1.alloc (.cells #[.int .i64 7, .int .i64 i] 3)) fun e w' => e = .returned (.string b) ∧ Below w1.heap.size w1 w')) :
    Calls Try.prog 90 #[.agg #[.int .i64 7, .int .i64 i, .int .i64 s, .int .i64 t, .int .i64 p, .int .i64 c, .string K, .string M, .int .i64 v, .string X]] w fun e w' => e = .returned (.string (⟨#[78]⟩ ++ b)) ∧ Below w.heap.size w w' := by
  go_enter Try.func90, Try.ntmps90
  go_wp2_with fail
  refine (C.out _ _ (by simp)).mono ?_
  rintro e w1 ⟨rfl, hb⟩
  go_wp2
  go_ret
  refine ⟨rfl, ?_⟩
  have h3 : Below w.heap.size w (w.alloc (.cells #[.int .i64 7, .int .i64 i, .int .i64 s, .int .i64 t, .int .i64 p, .int .i64 c, .string K, .string M, .int .i64 v, .string X] 56)) := (Below.refl _ _).alloc (Nat.le_refl _) _
  exact h3.trans (hb.mono h3.size)
theorem formN7 (i : Nat) (hi : i ≤ 2000) (s t p c : Int) (K M : ByteArray) (v : Int) (X : ByteArray) (w : World) :
    Calls Try.prog 90 #[.agg #[.int .i64 7, .int .i64 (i : Int), .int .i64 s, .int .i64 t, .int .i64 p, .int .i64 c, .string K, .string M, .int .i64 v, .string X]] w fun e w' => e = .returned (bstr (78 :: numsL [7, i])) ∧ Below w.heap.size w w' := by
  have HS : Small [7, i] := small2 (by omega) hi
  have h := form7 (i : Int) s t p c K M v X w ⟨(numsL [7, i]).toArray⟩ (by rw [strV_size]; have := nums_len _ HS; simp only [List.length_cons, List.length_nil] at this; omega) (fun w1 g hg => by subst hg; exact nums_new [7, i] (by simp) HS w1 _ (by simp) _ (by simp) _)
  simp only [bstr_cons] at h
  exact h
set_option maxHeartbeats 1000000 in
theorem form5 (i s t p c : Int) (K M : ByteArray) (v : Int) (X : ByteArray) (w : World) (b : ByteArray) (HL : b.size ≤ 64)
    (C : Hid (∀ (w1 : World) (g : Nat), g = w1.heap.size → Calls Try.prog 63 #[.slice (some ⟨g, 0, none⟩) 3 3] (w1.alloc (.cells #[.int .i64 5, .int .i64 i, .int .i64 s] 3)) fun e w' => e = .returned (.string b) ∧ Below w1.heap.size w1 w')) :
    Calls Try.prog 90 #[.agg #[.int .i64 5, .int .i64 i, .int .i64 s, .int .i64 t, .int .i64 p, .int .i64 c, .string K, .string M, .int .i64 v, .string X]] w fun e w' => e = .returned (.string (⟨#[78]⟩ ++ b)) ∧ Below w.heap.size w w' := by
  go_enter Try.func90, Try.ntmps90
  go_wp2_with fail
  refine (C.out _ _ (by simp)).mono ?_
  rintro e w1 ⟨rfl, hb⟩
  go_wp2
  go_ret
  refine ⟨rfl, ?_⟩
  have h3 : Below w.heap.size w (w.alloc (.cells #[.int .i64 5, .int .i64 i, .int .i64 s, .int .i64 t, .int .i64 p, .int .i64 c, .string K, .string M, .int .i64 v, .string X] 56)) := (Below.refl _ _).alloc (Nat.le_refl _) _
  exact h3.trans (hb.mono h3.size)
theorem formN5 (i s : Nat) (hi : i ≤ 2000) (hs : s ≤ 2000) (t p c : Int) (K M : ByteArray) (v : Int) (X : ByteArray) (w : World) :
    Calls Try.prog 90 #[.agg #[.int .i64 5, .int .i64 (i : Int), .int .i64 (s : Int), .int .i64 t, .int .i64 p, .int .i64 c, .string K, .string M, .int .i64 v, .string X]] w fun e w' => e = .returned (bstr (78 :: numsL [5, i, s])) ∧ Below w.heap.size w w' := by
  have HS : Small [5, i, s] := small3 (by omega) hi hs
  have h := form5 (i : Int) (s : Int) t p c K M v X w ⟨(numsL [5, i, s]).toArray⟩ (by rw [strV_size]; have := nums_len _ HS; simp only [List.length_cons, List.length_nil] at this; omega) (fun w1 g hg => by subst hg; exact nums_new [5, i, s] (by simp) HS w1 _ (by simp) _ (by simp) _)
  simp only [bstr_cons] at h
  exact h
set_option maxHeartbeats 1000000 in
theorem form6 (i s t p c : Int) (K M : ByteArray) (v : Int) (X : ByteArray) (w : World) (b : ByteArray) (HL : b.size ≤ 64)
    (C : Hid (∀ (w1 : World) (g : Nat), g = w1.heap.size → Calls Try.prog 63 #[.slice (some ⟨g, 0, none⟩) 4 4] (w1.alloc (.cells #[.int .i64 6, .int .i64 i, .int .i64 s, .int .i64 t] 3)) fun e w' => e = .returned (.string b) ∧ Below w1.heap.size w1 w')) :
    Calls Try.prog 90 #[.agg #[.int .i64 6, .int .i64 i, .int .i64 s, .int .i64 t, .int .i64 p, .int .i64 c, .string K, .string M, .int .i64 v, .string X]] w fun e w' => e = .returned (.string (⟨#[78]⟩ ++ b)) ∧ Below w.heap.size w w' := by
  go_enter Try.func90, Try.ntmps90
  go_wp2_with fail
  refine (C.out _ _ (by simp)).mono ?_
  rintro e w1 ⟨rfl, hb⟩
  go_wp2
  go_ret
  refine ⟨rfl, ?_⟩
  have h3 : Below w.heap.size w (w.alloc (.cells #[.int .i64 6, .int .i64 i, .int .i64 s, .int .i64 t, .int .i64 p, .int .i64 c, .string K, .string M, .int .i64 v, .string X] 56)) := (Below.refl _ _).alloc (Nat.le_refl _) _
  exact h3.trans (hb.mono h3.size)
theorem formN6 (i s t : Nat) (hi : i ≤ 2000) (hs : s ≤ 2000) (ht : t ≤ 2000) (p c : Int) (K M : ByteArray) (v : Int) (X : ByteArray) (w : World) :
    Calls Try.prog 90 #[.agg #[.int .i64 6, .int .i64 (i : Int), .int .i64 (s : Int), .int .i64 (t : Int), .int .i64 p, .int .i64 c, .string K, .string M, .int .i64 v, .string X]] w fun e w' => e = .returned (bstr (78 :: numsL [6, i, s, t])) ∧ Below w.heap.size w w' := by
  have HS : Small [6, i, s, t] := small4 (by omega) hi hs ht
  have h := form6 (i : Int) (s : Int) (t : Int) p c K M v X w ⟨(numsL [6, i, s, t]).toArray⟩ (by rw [strV_size]; have := nums_len _ HS; simp only [List.length_cons, List.length_nil] at this; omega) (fun w1 g hg => by subst hg; exact nums_new [6, i, s, t] (by simp) HS w1 _ (by simp) _ (by simp) _)
  simp only [bstr_cons] at h
  exact h
set_option maxHeartbeats 1000000 in
theorem form8 (i s t p c : Int) (K M : ByteArray) (v : Int) (X : ByteArray) (w : World) (b : ByteArray) (HL : b.size ≤ 64)
    (C : Hid (∀ (w1 : World) (g : Nat), g = w1.heap.size → Calls Try.prog 63 #[.slice (some ⟨g, 0, none⟩) 3 3] (w1.alloc (.cells #[.int .i64 8, .int .i64 i, .int .i64 p] 3)) fun e w' => e = .returned (.string b) ∧ Below w1.heap.size w1 w')) :
    Calls Try.prog 90 #[.agg #[.int .i64 8, .int .i64 i, .int .i64 s, .int .i64 t, .int .i64 p, .int .i64 c, .string K, .string M, .int .i64 v, .string X]] w fun e w' => e = .returned (.string (⟨#[78]⟩ ++ b)) ∧ Below w.heap.size w w' := by
  go_enter Try.func90, Try.ntmps90
  go_wp2_with fail
  refine (C.out _ _ (by simp)).mono ?_
  rintro e w1 ⟨rfl, hb⟩
  go_wp2
  go_ret
  refine ⟨rfl, ?_⟩
  have h3 : Below w.heap.size w (w.alloc (.cells #[.int .i64 8, .int .i64 i, .int .i64 s, .int .i64 t, .int .i64 p, .int .i64 c, .string K, .string M, .int .i64 v, .string X] 56)) := (Below.refl _ _).alloc (Nat.le_refl _) _
  exact h3.trans (hb.mono h3.size)
theorem formN8 (i p : Nat) (hi : i ≤ 2000) (hp : p ≤ 2000) (s t c : Int) (K M : ByteArray) (v : Int) (X : ByteArray) (w : World) :
    Calls Try.prog 90 #[.agg #[.int .i64 8, .int .i64 (i : Int), .int .i64 s, .int .i64 t, .int .i64 (p : Int), .int .i64 c, .string K, .string M, .int .i64 v, .string X]] w fun e w' => e = .returned (bstr (78 :: numsL [8, i, p])) ∧ Below w.heap.size w w' := by
  have HS : Small [8, i, p] := small3 (by omega) hi hp
  have h := form8 (i : Int) s t (p : Int) c K M v X w ⟨(numsL [8, i, p]).toArray⟩ (by rw [strV_size]; have := nums_len _ HS; simp only [List.length_cons, List.length_nil] at this; omega) (fun w1 g hg => by subst hg; exact nums_new [8, i, p] (by simp) HS w1 _ (by simp) _ (by simp) _)
  simp only [bstr_cons] at h
  exact h
set_option maxHeartbeats 1000000 in
theorem form9 (i s t p c : Int) (K M : ByteArray) (v : Int) (X : ByteArray) (w : World) (b : ByteArray) (HL : b.size ≤ 64)
    (C : Hid (∀ (w1 : World) (g : Nat), g = w1.heap.size → Calls Try.prog 63 #[.slice (some ⟨g, 0, none⟩) 4 4] (w1.alloc (.cells #[.int .i64 9, .int .i64 i, .int .i64 t, .int .i64 c] 3)) fun e w' => e = .returned (.string b) ∧ Below w1.heap.size w1 w')) :
    Calls Try.prog 90 #[.agg #[.int .i64 9, .int .i64 i, .int .i64 s, .int .i64 t, .int .i64 p, .int .i64 c, .string K, .string M, .int .i64 v, .string X]] w fun e w' => e = .returned (.string (⟨#[78]⟩ ++ b)) ∧ Below w.heap.size w w' := by
  go_enter Try.func90, Try.ntmps90
  go_wp2_with fail
  refine (C.out _ _ (by simp)).mono ?_
  rintro e w1 ⟨rfl, hb⟩
  go_wp2
  go_ret
  refine ⟨rfl, ?_⟩
  have h3 : Below w.heap.size w (w.alloc (.cells #[.int .i64 9, .int .i64 i, .int .i64 s, .int .i64 t, .int .i64 p, .int .i64 c, .string K, .string M, .int .i64 v, .string X] 56)) := (Below.refl _ _).alloc (Nat.le_refl _) _
  exact h3.trans (hb.mono h3.size)
theorem formN9 (i t c : Nat) (hi : i ≤ 2000) (ht : t ≤ 2000) (hc : c ≤ 2000) (s p : Int) (K M : ByteArray) (v : Int) (X : ByteArray) (w : World) :
    Calls Try.prog 90 #[.agg #[.int .i64 9, .int .i64 (i : Int), .int .i64 s, .int .i64 (t : Int), .int .i64 p, .int .i64 (c : Int), .string K, .string M, .int .i64 v, .string X]] w fun e w' => e = .returned (bstr (78 :: numsL [9, i, t, c])) ∧ Below w.heap.size w w' := by
  have HS : Small [9, i, t, c] := small4 (by omega) hi ht hc
  have h := form9 (i : Int) s (t : Int) p (c : Int) K M v X w ⟨(numsL [9, i, t, c]).toArray⟩ (by rw [strV_size]; have := nums_len _ HS; simp only [List.length_cons, List.length_nil] at this; omega) (fun w1 g hg => by subst hg; exact nums_new [9, i, t, c] (by simp) HS w1 _ (by simp) _ (by simp) _)
  simp only [bstr_cons] at h
  exact h
end Go.Proofs.Ytbgankldnjeohaa
