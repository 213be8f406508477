/- Note of both sides, of every kind: the same text, or the same error. -/
import Derived.Test.YtbgankldnjeohaaRNoteB
import Derived.Test.YtbgankldnjeohaaWriteW
import Derived.Test.YtbgankldnjeohaaMayB
import Derived.Test.YtbgankldnjeohaaRMayW
set_option linter.unusedVariables false
set_option linter.unusedSimpArgs false
set_option maxRecDepth 100000
namespace Go.Proofs.Ytbgankldnjeohaa
open Go.RowKit

theorem isGo_len : ∀ (rs : List Nat) (m : Nat), m ≤ 8 → NameMath.isGo rs m = true → m + rs.length ≤ 8
  | [], m, hm, _ => by simpa using hm
  | r :: rs, m, hm, h => by
    rw [NameMath.isGo] at h
    by_cases h1 : NameMath.small r = false ∧ (m = 0 ∨ NameMath.dig r = false)
    · rw [if_pos h1] at h; cases h
    · rw [if_neg h1] at h
      by_cases h2 : 8 < m + 1
      · rw [if_pos h2] at h; cases h
      · rw [if_neg h2] at h
        have := isGo_len rs (m + 1) (by omega) h
        simp only [List.length_cons]
        omega
theorem runes_four : ∀ (l : List UInt8), l.length ≤ 4 * (NameMath.runes l).length := by
  apply NameMath.byRunes
  · exact Nat.zero_le _
  · intro l h ih
    rw [NameMath.runes_cons l h, List.length_cons]
    have h4 : (NameMath.dec l).2 ≤ 4 := (NameMath.d4_w _ _ _ _).2
    rw [List.length_drop] at ih
    omega
theorem isNm_size {s : ByteArray} (h : isNm s = true) : s.size ≤ 32 := by
  have h1 := isGo_len _ 0 (by omega) h
  have h2 := runes_four s.data.toList
  have h3 : s.data.toList.length = s.size := Array.length_toList
  omega
def bA (l : List UInt8) : ByteArray := ⟨l.toArray⟩
theorem bA_size (l : List UInt8) : (bA l).size = l.length := by simp [bA, ByteArray.size]
theorem bA_nums {xs : List Nat} (h : Small xs) (hl : xs.length ≤ 8) : (bA (numsL xs)).size ≤ 64 := by
  rw [bA_size]; have := nums_len xs h; omega
theorem bA_txt (s : ByteArray) (hs : s.size ≤ 2000) : (bA (PackMath.txt s.data.toList)).size ≤ 4000 := by
  rw [bA_size]; have := txt_len s hs; omega
theorem bA_app (a b : List UInt8) : bA a ++ bA b = bA (a ++ b) := by apply ByteArray.ext; simp [bA, ByteArray.data_append]
theorem mk78 : (⟨#[78]⟩ : ByteArray) = bA [78] := rfl
theorem nums_app (a b : List Nat) : numsL a ++ numsL b = numsL (a ++ b) := by simp [numsL]
theorem refTextV (s : ByteArray) (hs : s.size ≤ 2000) (w : World) : Calls Try.prog 23 #[.string s] w fun e w' => e = .returned (.tuple #[.string (bA (PackMath.txt s.data.toList)), .int .i64 0]) ∧ Below w.heap.size w w' := by
  have h := Pk.refText_any s (by omega) w
  unfold Pk.txV at h
  rw [if_neg (by rw [size_data]; omega)] at h
  exact h
theorem nrow_of {w1 : World} {g n : Nat} {cs : Array Value} {xs : List Nat} (hg : g < w1.heap.size) (hn : n = xs.length) (hc : cs = (xs.map fun x : Nat => Value.int .i64 (x : Int)).toArray) (h : ∀ j x, cs[j]? = some x → w1.cell? ⟨g, j, none⟩ = some x) : NRow w1 (.slice (some ⟨g, 0, none⟩) n n) xs := by
  subst hn hc
  exact ⟨g, xs.length, rfl, hg, fun j hj => h j _ (by simp [hj])⟩

set_option maxHeartbeats 1000000 in
theorem refN3 (i : Nat) (hi : i ≤ 2000) (s t p c : Int) (K M : ByteArray) (v : Int) (X : ByteArray) (hK : K.size ≤ 140737488351232) (hM : M.size ≤ 140737488351232) (hX : X.size ≤ 140737488351232) (hm : Nt.may ⟨3, (i : Int), s, t, p, c, K, M, v, X⟩ = true) (w : World) :
    Calls Try.prog 13 #[.agg #[.int .i64 3, .int .i64 (i : Int), .int .i64 s, .int .i64 t, .int .i64 p, .int .i64 c, .string K, .string M, .int .i64 v, .string X]] w fun e w' => e = .returned (.tuple #[bstr (78 :: numsL [3, i]), .int .i64 0]) ∧ Below w.heap.size w w' := by
  have HS : ∀ l, l ∈ ([[3], [i]] : List (List Nat)) → Small l := by
    intro l hl
    simp only [List.mem_cons, List.not_mem_nil, or_false] at hl
    rcases hl with rfl | rfl
    · intro x hx; simp at hx; omega
    · intro x hx; simp at hx; omega
  have x := rnote3 (i : Int) s t p c K M v X w (bA (numsL [3])) (bA (numsL [i])) ⟨#[]⟩ (bA_nums (HS _ (by simp)) (by simp)) (bA_nums (HS _ (by simp)) (by simp)) (by decide)
    (fun w1 hl => (rmay3 (i : Int) s t p c K M v X hK hM hX w1).mono (fun e w' ⟨he, hb⟩ => ⟨by rw [he, hm], (hl.out.call hb).2.2 (0, .int .i64 3) (by simp), (hl.out.call hb).2.2 (1, .int .i64 (i : Int)) (by simp), hl.out.call hb⟩))
    (fun w1 g hg hl => by subst hg; exact (numbers_new [3] (by simp) (HS _ (by simp)) w1 _ (by simp) _ (by simp) _).mono (fun e w' ⟨he, hb⟩ => ⟨he, (hl.out.call hb).2.2 (0, .int .i64 3) (by simp), (hl.out.call hb).2.2 (1, .int .i64 (i : Int)) (by simp), hl.out.call hb⟩))
    (fun w1 g hg hl => by subst hg; exact (numbers_new [i] (by simp) (HS _ (by simp)) w1 _ (by simp) _ (by simp) _).mono (fun e w' ⟨he, hb⟩ => ⟨he, (hl.out.call hb).2.2 (0, .int .i64 3) (by simp), (hl.out.call hb).2.2 (1, .int .i64 (i : Int)) (by simp), hl.out.call hb⟩))
    
  rw [mk78] at x
  simp only [bA_app, List.append_assoc, nums_app] at x
  exact x
set_option maxHeartbeats 1000000 in
theorem refN4 (i : Nat) (hi : i ≤ 2000) (s t p c : Int) (K M : ByteArray) (v : Int) (X : ByteArray) (hK : K.size ≤ 140737488351232) (hM : M.size ≤ 140737488351232) (hX : X.size ≤ 140737488351232) (hm : Nt.may ⟨4, (i : Int), s, t, p, c, K, M, v, X⟩ = true) (w : World) :
    Calls Try.prog 13 #[.agg #[.int .i64 4, .int .i64 (i : Int), .int .i64 s, .int .i64 t, .int .i64 p, .int .i64 c, .string K, .string M, .int .i64 v, .string X]] w fun e w' => e = .returned (.tuple #[bstr (78 :: numsL [4, i]), .int .i64 0]) ∧ Below w.heap.size w w' := by
  have HS : ∀ l, l ∈ ([[4], [i]] : List (List Nat)) → Small l := by
    intro l hl
    simp only [List.mem_cons, List.not_mem_nil, or_false] at hl
    rcases hl with rfl | rfl
    · intro x hx; simp at hx; omega
    · intro x hx; simp at hx; omega
  have x := rnote4 (i : Int) s t p c K M v X w (bA (numsL [4])) (bA (numsL [i])) ⟨#[]⟩ (bA_nums (HS _ (by simp)) (by simp)) (bA_nums (HS _ (by simp)) (by simp)) (by decide)
    (fun w1 hl => (rmay4 (i : Int) s t p c K M v X hK hM hX w1).mono (fun e w' ⟨he, hb⟩ => ⟨by rw [he, hm], (hl.out.call hb).2.2 (0, .int .i64 4) (by simp), (hl.out.call hb).2.2 (1, .int .i64 (i : Int)) (by simp), hl.out.call hb⟩))
    (fun w1 g hg hl => by subst hg; exact (numbers_new [4] (by simp) (HS _ (by simp)) w1 _ (by simp) _ (by simp) _).mono (fun e w' ⟨he, hb⟩ => ⟨he, (hl.out.call hb).2.2 (0, .int .i64 4) (by simp), (hl.out.call hb).2.2 (1, .int .i64 (i : Int)) (by simp), hl.out.call hb⟩))
    (fun w1 g hg hl => by subst hg; exact (numbers_new [i] (by simp) (HS _ (by simp)) w1 _ (by simp) _ (by simp) _).mono (fun e w' ⟨he, hb⟩ => ⟨he, (hl.out.call hb).2.2 (0, .int .i64 4) (by simp), (hl.out.call hb).2.2 (1, .int .i64 (i : Int)) (by simp), hl.out.call hb⟩))
    
  rw [mk78] at x
  simp only [bA_app, List.append_assoc, nums_app] at x
  exact x
set_option maxHeartbeats 1000000 in
theorem refN7 (i : Nat) (hi : i ≤ 2000) (s t p c : Int) (K M : ByteArray) (v : Int) (X : ByteArray) (hK : K.size ≤ 140737488351232) (hM : M.size ≤ 140737488351232) (hX : X.size ≤ 140737488351232) (hm : Nt.may ⟨7, (i : Int), s, t, p, c, K, M, v, X⟩ = true) (w : World) :
    Calls Try.prog 13 #[.agg #[.int .i64 7, .int .i64 (i : Int), .int .i64 s, .int .i64 t, .int .i64 p, .int .i64 c, .string K, .string M, .int .i64 v, .string X]] w fun e w' => e = .returned (.tuple #[bstr (78 :: numsL [7, i]), .int .i64 0]) ∧ Below w.heap.size w w' := by
  have HS : ∀ l, l ∈ ([[7], [i]] : List (List Nat)) → Small l := by
    intro l hl
    simp only [List.mem_cons, List.not_mem_nil, or_false] at hl
    rcases hl with rfl | rfl
    · intro x hx; simp at hx; omega
    · intro x hx; simp at hx; omega
  have x := rnote7 (i : Int) s t p c K M v X w (bA (numsL [7])) (bA (numsL [i])) ⟨#[]⟩ (bA_nums (HS _ (by simp)) (by simp)) (bA_nums (HS _ (by simp)) (by simp)) (by decide)
    (fun w1 hl => (rmay7 (i : Int) s t p c K M v X hK hM hX w1).mono (fun e w' ⟨he, hb⟩ => ⟨by rw [he, hm], (hl.out.call hb).2.2 (0, .int .i64 7) (by simp), (hl.out.call hb).2.2 (1, .int .i64 (i : Int)) (by simp), hl.out.call hb⟩))
    (fun w1 g hg hl => by subst hg; exact (numbers_new [7] (by simp) (HS _ (by simp)) w1 _ (by simp) _ (by simp) _).mono (fun e w' ⟨he, hb⟩ => ⟨he, (hl.out.call hb).2.2 (0, .int .i64 7) (by simp), (hl.out.call hb).2.2 (1, .int .i64 (i : Int)) (by simp), hl.out.call hb⟩))
    (fun w1 g hg hl => by subst hg; exact (numbers_new [i] (by simp) (HS _ (by simp)) w1 _ (by simp) _ (by simp) _).mono (fun e w' ⟨he, hb⟩ => ⟨he, (hl.out.call hb).2.2 (0, .int .i64 7) (by simp), (hl.out.call hb).2.2 (1, .int .i64 (i : Int)) (by simp), hl.out.call hb⟩))
    
  rw [mk78] at x
  simp only [bA_app, List.append_assoc, nums_app] at x
  exact x
set_option maxHeartbeats 1000000 in
theorem refN5 (i s : Nat) (hi : i ≤ 2000) (hs : s ≤ 2000) (t p c : Int) (K M : ByteArray) (v : Int) (X : ByteArray) (hK : K.size ≤ 140737488351232) (hM : M.size ≤ 140737488351232) (hX : X.size ≤ 140737488351232) (hm : Nt.may ⟨5, (i : Int), (s : Int), t, p, c, K, M, v, X⟩ = true) (w : World) :
    Calls Try.prog 13 #[.agg #[.int .i64 5, .int .i64 (i : Int), .int .i64 (s : Int), .int .i64 t, .int .i64 p, .int .i64 c, .string K, .string M, .int .i64 v, .string X]] w fun e w' => e = .returned (.tuple #[bstr (78 :: numsL [5, i, s]), .int .i64 0]) ∧ Below w.heap.size w w' := by
  have HS : ∀ l, l ∈ ([[5], [i], [s]] : List (List Nat)) → Small l := by
    intro l hl
    simp only [List.mem_cons, List.not_mem_nil, or_false] at hl
    rcases hl with rfl | rfl | rfl
    · intro x hx; simp at hx; omega
    · intro x hx; simp at hx; omega
    · intro x hx; simp at hx; omega
  have x := rnote5 (i : Int) (s : Int) t p c K M v X w (bA (numsL [5])) (bA (numsL [i])) (bA (numsL [s])) (bA_nums (HS _ (by simp)) (by simp)) (bA_nums (HS _ (by simp)) (by simp)) (bA_nums (HS _ (by simp)) (by simp))
    (fun w1 hl => (rmay5 (i : Int) (s : Int) t p c K M v X hK hM hX w1).mono (fun e w' ⟨he, hb⟩ => ⟨by rw [he, hm], (hl.out.call hb).2.2 (0, .int .i64 5) (by simp), (hl.out.call hb).2.2 (1, .int .i64 (i : Int)) (by simp), (hl.out.call hb).2.2 (2, .int .i64 (s : Int)) (by simp), hl.out.call hb⟩))
    (fun w1 g hg hl => by subst hg; exact (numbers_new [5] (by simp) (HS _ (by simp)) w1 _ (by simp) _ (by simp) _).mono (fun e w' ⟨he, hb⟩ => ⟨he, (hl.out.call hb).2.2 (0, .int .i64 5) (by simp), (hl.out.call hb).2.2 (1, .int .i64 (i : Int)) (by simp), (hl.out.call hb).2.2 (2, .int .i64 (s : Int)) (by simp), hl.out.call hb⟩))
    (fun w1 g hg hl => by subst hg; exact (numbers_new [i] (by simp) (HS _ (by simp)) w1 _ (by simp) _ (by simp) _).mono (fun e w' ⟨he, hb⟩ => ⟨he, (hl.out.call hb).2.2 (0, .int .i64 5) (by simp), (hl.out.call hb).2.2 (1, .int .i64 (i : Int)) (by simp), (hl.out.call hb).2.2 (2, .int .i64 (s : Int)) (by simp), hl.out.call hb⟩))
    (fun w1 g hg hl => by subst hg; exact (numbers_new [s] (by simp) (HS _ (by simp)) w1 _ (by simp) _ (by simp) _).mono (fun e w' ⟨he, hb⟩ => ⟨he, (hl.out.call hb).2.2 (0, .int .i64 5) (by simp), (hl.out.call hb).2.2 (1, .int .i64 (i : Int)) (by simp), (hl.out.call hb).2.2 (2, .int .i64 (s : Int)) (by simp), hl.out.call hb⟩))
  rw [mk78] at x
  simp only [bA_app, List.append_assoc, nums_app] at x
  exact x
set_option maxHeartbeats 1000000 in
theorem refN6 (i s t : Nat) (hi : i ≤ 2000) (hs : s ≤ 2000) (ht : t ≤ 2000) (p c : Int) (K M : ByteArray) (v : Int) (X : ByteArray) (hK : K.size ≤ 140737488351232) (hM : M.size ≤ 140737488351232) (hX : X.size ≤ 140737488351232) (hm : Nt.may ⟨6, (i : Int), (s : Int), (t : Int), p, c, K, M, v, X⟩ = true) (w : World) :
    Calls Try.prog 13 #[.agg #[.int .i64 6, .int .i64 (i : Int), .int .i64 (s : Int), .int .i64 (t : Int), .int .i64 p, .int .i64 c, .string K, .string M, .int .i64 v, .string X]] w fun e w' => e = .returned (.tuple #[bstr (78 :: numsL [6, i, s, t]), .int .i64 0]) ∧ Below w.heap.size w w' := by
  have HS : ∀ l, l ∈ ([[6], [i], [s, t]] : List (List Nat)) → Small l := by
    intro l hl
    simp only [List.mem_cons, List.not_mem_nil, or_false] at hl
    rcases hl with rfl | rfl | rfl
    · intro x hx; simp at hx; omega
    · intro x hx; simp at hx; omega
    · intro x hx; simp at hx; omega
  have x := rnote6 (i : Int) (s : Int) (t : Int) p c K M v X w (bA (numsL [6])) (bA (numsL [i])) (bA (numsL [s, t])) (bA_nums (HS _ (by simp)) (by simp)) (bA_nums (HS _ (by simp)) (by simp)) (bA_nums (HS _ (by simp)) (by simp))
    (fun w1 hl => (rmay6 (i : Int) (s : Int) (t : Int) p c K M v X hK hM hX w1).mono (fun e w' ⟨he, hb⟩ => ⟨by rw [he, hm], (hl.out.call hb).2.2 (0, .int .i64 6) (by simp), (hl.out.call hb).2.2 (1, .int .i64 (i : Int)) (by simp), (hl.out.call hb).2.2 (2, .int .i64 (s : Int)) (by simp), (hl.out.call hb).2.2 (3, .int .i64 (t : Int)) (by simp), hl.out.call hb⟩))
    (fun w1 g hg hl => by subst hg; exact (numbers_new [6] (by simp) (HS _ (by simp)) w1 _ (by simp) _ (by simp) _).mono (fun e w' ⟨he, hb⟩ => ⟨he, (hl.out.call hb).2.2 (0, .int .i64 6) (by simp), (hl.out.call hb).2.2 (1, .int .i64 (i : Int)) (by simp), (hl.out.call hb).2.2 (2, .int .i64 (s : Int)) (by simp), (hl.out.call hb).2.2 (3, .int .i64 (t : Int)) (by simp), hl.out.call hb⟩))
    (fun w1 g hg hl => by subst hg; exact (numbers_new [i] (by simp) (HS _ (by simp)) w1 _ (by simp) _ (by simp) _).mono (fun e w' ⟨he, hb⟩ => ⟨he, (hl.out.call hb).2.2 (0, .int .i64 6) (by simp), (hl.out.call hb).2.2 (1, .int .i64 (i : Int)) (by simp), (hl.out.call hb).2.2 (2, .int .i64 (s : Int)) (by simp), (hl.out.call hb).2.2 (3, .int .i64 (t : Int)) (by simp), hl.out.call hb⟩))
    (fun w1 g hg hl => by subst hg; exact (numbers_new [s, t] (by simp) (HS _ (by simp)) w1 _ (by simp) _ (by simp) _).mono (fun e w' ⟨he, hb⟩ => ⟨he, (hl.out.call hb).2.2 (0, .int .i64 6) (by simp), (hl.out.call hb).2.2 (1, .int .i64 (i : Int)) (by simp), (hl.out.call hb).2.2 (2, .int .i64 (s : Int)) (by simp), (hl.out.call hb).2.2 (3, .int .i64 (t : Int)) (by simp), hl.out.call hb⟩))
  rw [mk78] at x
  simp only [bA_app, List.append_assoc, nums_app] at x
  exact x
set_option maxHeartbeats 1000000 in
theorem refN8 (i p : Nat) (hi : i ≤ 2000) (hp : p ≤ 2000) (s t c : Int) (K M : ByteArray) (v : Int) (X : ByteArray) (hK : K.size ≤ 140737488351232) (hM : M.size ≤ 140737488351232) (hX : X.size ≤ 140737488351232) (hm : Nt.may ⟨8, (i : Int), s, t, (p : Int), c, K, M, v, X⟩ = true) (w : World) :
    Calls Try.prog 13 #[.agg #[.int .i64 8, .int .i64 (i : Int), .int .i64 s, .int .i64 t, .int .i64 (p : Int), .int .i64 c, .string K, .string M, .int .i64 v, .string X]] w fun e w' => e = .returned (.tuple #[bstr (78 :: numsL [8, i, p]), .int .i64 0]) ∧ Below w.heap.size w w' := by
  have HS : ∀ l, l ∈ ([[8], [i], [p]] : List (List Nat)) → Small l := by
    intro l hl
    simp only [List.mem_cons, List.not_mem_nil, or_false] at hl
    rcases hl with rfl | rfl | rfl
    · intro x hx; simp at hx; omega
    · intro x hx; simp at hx; omega
    · intro x hx; simp at hx; omega
  have x := rnote8 (i : Int) s t (p : Int) c K M v X w (bA (numsL [8])) (bA (numsL [i])) (bA (numsL [p])) (bA_nums (HS _ (by simp)) (by simp)) (bA_nums (HS _ (by simp)) (by simp)) (bA_nums (HS _ (by simp)) (by simp))
    (fun w1 hl => (rmay8 (i : Int) s t (p : Int) c K M v X hK hM hX w1).mono (fun e w' ⟨he, hb⟩ => ⟨by rw [he, hm], (hl.out.call hb).2.2 (0, .int .i64 8) (by simp), (hl.out.call hb).2.2 (1, .int .i64 (i : Int)) (by simp), (hl.out.call hb).2.2 (4, .int .i64 (p : Int)) (by simp), hl.out.call hb⟩))
    (fun w1 g hg hl => by subst hg; exact (numbers_new [8] (by simp) (HS _ (by simp)) w1 _ (by simp) _ (by simp) _).mono (fun e w' ⟨he, hb⟩ => ⟨he, (hl.out.call hb).2.2 (0, .int .i64 8) (by simp), (hl.out.call hb).2.2 (1, .int .i64 (i : Int)) (by simp), (hl.out.call hb).2.2 (4, .int .i64 (p : Int)) (by simp), hl.out.call hb⟩))
    (fun w1 g hg hl => by subst hg; exact (numbers_new [i] (by simp) (HS _ (by simp)) w1 _ (by simp) _ (by simp) _).mono (fun e w' ⟨he, hb⟩ => ⟨he, (hl.out.call hb).2.2 (0, .int .i64 8) (by simp), (hl.out.call hb).2.2 (1, .int .i64 (i : Int)) (by simp), (hl.out.call hb).2.2 (4, .int .i64 (p : Int)) (by simp), hl.out.call hb⟩))
    (fun w1 g hg hl => by subst hg; exact (numbers_new [p] (by simp) (HS _ (by simp)) w1 _ (by simp) _ (by simp) _).mono (fun e w' ⟨he, hb⟩ => ⟨he, (hl.out.call hb).2.2 (0, .int .i64 8) (by simp), (hl.out.call hb).2.2 (1, .int .i64 (i : Int)) (by simp), (hl.out.call hb).2.2 (4, .int .i64 (p : Int)) (by simp), hl.out.call hb⟩))
  rw [mk78] at x
  simp only [bA_app, List.append_assoc, nums_app] at x
  exact x
set_option maxHeartbeats 1000000 in
theorem refN9 (i t c : Nat) (hi : i ≤ 2000) (ht : t ≤ 2000) (hc : c ≤ 2000) (s p : Int) (K M : ByteArray) (v : Int) (X : ByteArray) (hK : K.size ≤ 140737488351232) (hM : M.size ≤ 140737488351232) (hX : X.size ≤ 140737488351232) (hm : Nt.may ⟨9, (i : Int), s, (t : Int), p, (c : Int), K, M, v, X⟩ = true) (w : World) :
    Calls Try.prog 13 #[.agg #[.int .i64 9, .int .i64 (i : Int), .int .i64 s, .int .i64 (t : Int), .int .i64 p, .int .i64 (c : Int), .string K, .string M, .int .i64 v, .string X]] w fun e w' => e = .returned (.tuple #[bstr (78 :: numsL [9, i, t, c]), .int .i64 0]) ∧ Below w.heap.size w w' := by
  have HS : ∀ l, l ∈ ([[9], [i], [t, c]] : List (List Nat)) → Small l := by
    intro l hl
    simp only [List.mem_cons, List.not_mem_nil, or_false] at hl
    rcases hl with rfl | rfl | rfl
    · intro x hx; simp at hx; omega
    · intro x hx; simp at hx; omega
    · intro x hx; simp at hx; omega
  have x := rnote9 (i : Int) s (t : Int) p (c : Int) K M v X w (bA (numsL [9])) (bA (numsL [i])) (bA (numsL [t, c])) (bA_nums (HS _ (by simp)) (by simp)) (bA_nums (HS _ (by simp)) (by simp)) (bA_nums (HS _ (by simp)) (by simp))
    (fun w1 hl => (rmay9 (i : Int) s (t : Int) p (c : Int) K M v X hK hM hX w1).mono (fun e w' ⟨he, hb⟩ => ⟨by rw [he, hm], (hl.out.call hb).2.2 (0, .int .i64 9) (by simp), (hl.out.call hb).2.2 (1, .int .i64 (i : Int)) (by simp), (hl.out.call hb).2.2 (3, .int .i64 (t : Int)) (by simp), (hl.out.call hb).2.2 (5, .int .i64 (c : Int)) (by simp), hl.out.call hb⟩))
    (fun w1 g hg hl => by subst hg; exact (numbers_new [9] (by simp) (HS _ (by simp)) w1 _ (by simp) _ (by simp) _).mono (fun e w' ⟨he, hb⟩ => ⟨he, (hl.out.call hb).2.2 (0, .int .i64 9) (by simp), (hl.out.call hb).2.2 (1, .int .i64 (i : Int)) (by simp), (hl.out.call hb).2.2 (3, .int .i64 (t : Int)) (by simp), (hl.out.call hb).2.2 (5, .int .i64 (c : Int)) (by simp), hl.out.call hb⟩))
    (fun w1 g hg hl => by subst hg; exact (numbers_new [i] (by simp) (HS _ (by simp)) w1 _ (by simp) _ (by simp) _).mono (fun e w' ⟨he, hb⟩ => ⟨he, (hl.out.call hb).2.2 (0, .int .i64 9) (by simp), (hl.out.call hb).2.2 (1, .int .i64 (i : Int)) (by simp), (hl.out.call hb).2.2 (3, .int .i64 (t : Int)) (by simp), (hl.out.call hb).2.2 (5, .int .i64 (c : Int)) (by simp), hl.out.call hb⟩))
    (fun w1 g hg hl => by subst hg; exact (numbers_new [t, c] (by simp) (HS _ (by simp)) w1 _ (by simp) _ (by simp) _).mono (fun e w' ⟨he, hb⟩ => ⟨he, (hl.out.call hb).2.2 (0, .int .i64 9) (by simp), (hl.out.call hb).2.2 (1, .int .i64 (i : Int)) (by simp), (hl.out.call hb).2.2 (3, .int .i64 (t : Int)) (by simp), (hl.out.call hb).2.2 (5, .int .i64 (c : Int)) (by simp), hl.out.call hb⟩))
  rw [mk78] at x
  simp only [bA_app, List.append_assoc, nums_app] at x
  exact x
set_option maxHeartbeats 1000000 in
theorem refN1 (i s t p c : Int) (K M : ByteArray) (v : Int) (X : ByteArray) (hK : K.size ≤ 140737488351232) (hM : M.size ≤ 140737488351232) (hX : X.size ≤ 2000) (hm : Nt.may ⟨1, i, s, t, p, c, K, M, v, X⟩ = true) (w : World) :
    Calls Try.prog 13 #[.agg #[.int .i64 1, .int .i64 i, .int .i64 s, .int .i64 t, .int .i64 p, .int .i64 c, .string K, .string M, .int .i64 v, .string X]] w fun e w' => e = .returned (.tuple #[bstr (78 :: (numsL [1] ++ PackMath.txt X.data.toList)), .int .i64 0]) ∧ Below w.heap.size w w' := by
  have HS : ∀ l, l ∈ ([[1]] : List (List Nat)) → Small l := by
    intro l hl
    simp only [List.mem_cons, List.not_mem_nil, or_false] at hl
    subst hl
    intro x hx; simp at hx; omega
  have x := rnote1 i s t p c K M v X w (bA (numsL [1])) (bA (PackMath.txt X.data.toList)) (bA_nums (HS _ (by simp)) (by simp)) (bA_txt X hX)
    (fun w1 hl => (rmay1 i s t p c K M v X hK hM (by omega) w1).mono (fun e w' ⟨he, hb⟩ => ⟨by rw [he, hm], (hl.out.call hb).2.2 (0, .int .i64 1) (by simp), (hl.out.call hb).2.2 (9, .string X) (by simp), hl.out.call hb⟩))
    (fun w1 g hg hl => by subst hg; exact (numbers_new [1] (by simp) (HS _ (by simp)) w1 _ (by simp) _ (by simp) _).mono (fun e w' ⟨he, hb⟩ => ⟨he, (hl.out.call hb).2.2 (0, .int .i64 1) (by simp), (hl.out.call hb).2.2 (9, .string X) (by simp), hl.out.call hb⟩))
    (fun w1 hl => (refTextV X hX w1).mono (fun e w' ⟨he, hb⟩ => ⟨he, (hl.out.call hb).2.2 (0, .int .i64 1) (by simp), (hl.out.call hb).2.2 (9, .string X) (by simp), hl.out.call hb⟩))
  rw [mk78] at x
  simp only [bA_app, List.append_assoc] at x
  exact x
set_option maxHeartbeats 1000000 in
theorem refN2 (i v : Nat) (hi : i ≤ 2000) (hv : v ≤ 2000) (s t p c : Int) (K M : ByteArray) (X : ByteArray) (hK : K.size ≤ 2000) (hM : M.size ≤ 2000) (hX : X.size ≤ 140737488351232) (hm : Nt.may ⟨2, (i : Int), s, t, p, c, K, M, (v : Int), X⟩ = true) (w : World) :
    Calls Try.prog 13 #[.agg #[.int .i64 2, .int .i64 (i : Int), .int .i64 s, .int .i64 t, .int .i64 p, .int .i64 c, .string K, .string M, .int .i64 (v : Int), .string X]] w fun e w' => e = .returned (.tuple #[bstr (78 :: (numsL [2, i] ++ (PackMath.txt K.data.toList ++ (PackMath.txt M.data.toList ++ numsL [v])))), .int .i64 0]) ∧ Below w.heap.size w w' := by
  have HS : ∀ l, l ∈ ([[2], [i], [v]] : List (List Nat)) → Small l := by
    intro l hl
    simp only [List.mem_cons, List.not_mem_nil, or_false] at hl
    rcases hl with rfl | rfl | rfl
    · intro x hx; simp at hx; omega
    · intro x hx; simp at hx; omega
    · intro x hx; simp at hx; omega
  have x := rnote2 (i : Int) s t p c K M (v : Int) X w (bA (numsL [2])) (bA (numsL [i])) (bA (PackMath.txt K.data.toList)) (bA (PackMath.txt M.data.toList)) (bA (numsL [v])) (bA_nums (HS _ (by simp)) (by simp)) (bA_nums (HS _ (by simp)) (by simp)) (bA_txt K hK) (bA_txt M hM) (bA_nums (HS _ (by simp)) (by simp))
    (fun w1 hl => (rmay2 (i : Int) s t p c K M (v : Int) X (by omega) (by omega) hX w1).mono (fun e w' ⟨he, hb⟩ => ⟨by rw [he, hm], (hl.out.call hb).2.2 (0, .int .i64 2) (by simp), (hl.out.call hb).2.2 (1, .int .i64 (i : Int)) (by simp), (hl.out.call hb).2.2 (6, .string K) (by simp), (hl.out.call hb).2.2 (7, .string M) (by simp), (hl.out.call hb).2.2 (8, .int .i64 (v : Int)) (by simp), hl.out.call hb⟩))
    (fun w1 g hg hl => by subst hg; exact (numbers_new [2] (by simp) (HS _ (by simp)) w1 _ (by simp) _ (by simp) _).mono (fun e w' ⟨he, hb⟩ => ⟨he, (hl.out.call hb).2.2 (0, .int .i64 2) (by simp), (hl.out.call hb).2.2 (1, .int .i64 (i : Int)) (by simp), (hl.out.call hb).2.2 (6, .string K) (by simp), (hl.out.call hb).2.2 (7, .string M) (by simp), (hl.out.call hb).2.2 (8, .int .i64 (v : Int)) (by simp), hl.out.call hb⟩))
    (fun w1 g hg hl => by subst hg; exact (numbers_new [i] (by simp) (HS _ (by simp)) w1 _ (by simp) _ (by simp) _).mono (fun e w' ⟨he, hb⟩ => ⟨he, (hl.out.call hb).2.2 (0, .int .i64 2) (by simp), (hl.out.call hb).2.2 (1, .int .i64 (i : Int)) (by simp), (hl.out.call hb).2.2 (6, .string K) (by simp), (hl.out.call hb).2.2 (7, .string M) (by simp), (hl.out.call hb).2.2 (8, .int .i64 (v : Int)) (by simp), hl.out.call hb⟩))
    (fun w1 hl => (refTextV K hK w1).mono (fun e w' ⟨he, hb⟩ => ⟨he, (hl.out.call hb).2.2 (0, .int .i64 2) (by simp), (hl.out.call hb).2.2 (1, .int .i64 (i : Int)) (by simp), (hl.out.call hb).2.2 (6, .string K) (by simp), (hl.out.call hb).2.2 (7, .string M) (by simp), (hl.out.call hb).2.2 (8, .int .i64 (v : Int)) (by simp), hl.out.call hb⟩))
    (fun w1 hl => (refTextV M hM w1).mono (fun e w' ⟨he, hb⟩ => ⟨he, (hl.out.call hb).2.2 (0, .int .i64 2) (by simp), (hl.out.call hb).2.2 (1, .int .i64 (i : Int)) (by simp), (hl.out.call hb).2.2 (6, .string K) (by simp), (hl.out.call hb).2.2 (7, .string M) (by simp), (hl.out.call hb).2.2 (8, .int .i64 (v : Int)) (by simp), hl.out.call hb⟩))
    (fun w1 g hg hl => by subst hg; exact (numbers_new [v] (by simp) (HS _ (by simp)) w1 _ (by simp) _ (by simp) _).mono (fun e w' ⟨he, hb⟩ => ⟨he, (hl.out.call hb).2.2 (0, .int .i64 2) (by simp), (hl.out.call hb).2.2 (1, .int .i64 (i : Int)) (by simp), (hl.out.call hb).2.2 (6, .string K) (by simp), (hl.out.call hb).2.2 (7, .string M) (by simp), (hl.out.call hb).2.2 (8, .int .i64 (v : Int)) (by simp), hl.out.call hb⟩))
  rw [mk78] at x
  have e1 : ∀ r : List UInt8, numsL [2] ++ (numsL [i] ++ r) = numsL [2, i] ++ r := fun r => by rw [← List.append_assoc, nums_app]; rfl
  simp only [bA_app, List.append_assoc, e1] at x
  exact x
set_option maxHeartbeats 1000000 in
theorem formN1 (i s t p c : Int) (K M : ByteArray) (v : Int) (X : ByteArray) (hX : X.size ≤ 2000) (w : World) :
    Calls Try.prog 90 #[.agg #[.int .i64 1, .int .i64 i, .int .i64 s, .int .i64 t, .int .i64 p, .int .i64 c, .string K, .string M, .int .i64 v, .string X]] w fun e w' => e = .returned (bstr (78 :: (numsL [1] ++ PackMath.txt X.data.toList))) ∧ Below w.heap.size w w' := by
  have HS : ∀ l, l ∈ ([[1]] : List (List Nat)) → Small l := by
    intro l hl
    simp only [List.mem_cons, List.not_mem_nil, or_false] at hl
    subst hl
    intro x hx; simp at hx; omega
  have x := form1 i s t p c K M v X w (bA (numsL [1])) (bA (PackMath.txt X.data.toList)) (bA_nums (HS _ (by simp)) (by simp)) (bA_txt X hX)
    (fun w1 g hc hg hl => (nums_any w1 _ [1] (by simp) (HS _ (by simp)) (nrow_of hg rfl rfl hc)).mono (fun e w' ⟨he, hb⟩ => ⟨he, (hl.out.call hb).2.2 (0, .int .i64 1) (by simp), (hl.out.call hb).2.2 (9, .string X) (by simp), hl.out.call hb⟩))
    (fun w1 hl => (text_ok X hX w1).mono (fun e w' ⟨he, hb⟩ => ⟨he, (hl.out.call hb).2.2 (0, .int .i64 1) (by simp), (hl.out.call hb).2.2 (9, .string X) (by simp), hl.out.call hb⟩))
  rw [mk78] at x
  simp only [bA_app, List.append_assoc] at x
  exact x
set_option maxHeartbeats 1000000 in
theorem formN2 (i v : Nat) (hi : i ≤ 2000) (hv : v ≤ 2000) (s t p c : Int) (K M : ByteArray) (X : ByteArray) (hK : K.size ≤ 2000) (hM : M.size ≤ 2000) (w : World) :
    Calls Try.prog 90 #[.agg #[.int .i64 2, .int .i64 (i : Int), .int .i64 s, .int .i64 t, .int .i64 p, .int .i64 c, .string K, .string M, .int .i64 (v : Int), .string X]] w fun e w' => e = .returned (bstr (78 :: (numsL [2, i] ++ (PackMath.txt K.data.toList ++ (PackMath.txt M.data.toList ++ numsL [v]))))) ∧ Below w.heap.size w w' := by
  have HS : ∀ l, l ∈ ([[2, i], [v]] : List (List Nat)) → Small l := by
    intro l hl
    simp only [List.mem_cons, List.not_mem_nil, or_false] at hl
    rcases hl with rfl | rfl
    · intro x hx; simp at hx; omega
    · intro x hx; simp at hx; omega
  have x := form2 (i : Int) s t p c K M (v : Int) X w (bA (numsL [2, i])) (bA (PackMath.txt K.data.toList)) (bA (PackMath.txt M.data.toList)) (bA (numsL [v])) (bA_nums (HS _ (by simp)) (by simp)) (bA_txt K hK) (bA_txt M hM) (bA_nums (HS _ (by simp)) (by simp))
    (fun w1 g hc hg hl => (nums_any w1 _ [2, i] (by simp) (HS _ (by simp)) (nrow_of hg rfl rfl hc)).mono (fun e w' ⟨he, hb⟩ => ⟨he, (hl.out.call hb).2.2 (0, .int .i64 2) (by simp), (hl.out.call hb).2.2 (1, .int .i64 (i : Int)) (by simp), (hl.out.call hb).2.2 (6, .string K) (by simp), (hl.out.call hb).2.2 (7, .string M) (by simp), (hl.out.call hb).2.2 (8, .int .i64 (v : Int)) (by simp), hl.out.call hb, hb⟩))
    (fun w1 hl => (text_ok K hK w1).mono (fun e w' ⟨he, hb⟩ => ⟨he, (hl.out.call hb).2.2 (0, .int .i64 2) (by simp), (hl.out.call hb).2.2 (1, .int .i64 (i : Int)) (by simp), (hl.out.call hb).2.2 (6, .string K) (by simp), (hl.out.call hb).2.2 (7, .string M) (by simp), (hl.out.call hb).2.2 (8, .int .i64 (v : Int)) (by simp), hl.out.call hb, hb⟩))
    (fun w1 hl => (text_ok M hM w1).mono (fun e w' ⟨he, hb⟩ => ⟨he, (hl.out.call hb).2.2 (0, .int .i64 2) (by simp), (hl.out.call hb).2.2 (1, .int .i64 (i : Int)) (by simp), (hl.out.call hb).2.2 (6, .string K) (by simp), (hl.out.call hb).2.2 (7, .string M) (by simp), (hl.out.call hb).2.2 (8, .int .i64 (v : Int)) (by simp), hl.out.call hb, hb⟩))
    (fun w1 g hc hg hl => (nums_any w1 _ [v] (by simp) (HS _ (by simp)) (nrow_of hg rfl rfl hc)).mono (fun e w' ⟨he, hb⟩ => ⟨he, (hl.out.call hb).2.2 (0, .int .i64 2) (by simp), (hl.out.call hb).2.2 (1, .int .i64 (i : Int)) (by simp), (hl.out.call hb).2.2 (6, .string K) (by simp), (hl.out.call hb).2.2 (7, .string M) (by simp), (hl.out.call hb).2.2 (8, .int .i64 (v : Int)) (by simp), hl.out.call hb, hb⟩))
  rw [mk78] at x
  simp only [bA_app, List.append_assoc] at x
  exact x
end Go.Proofs.Ytbgankldnjeohaa
