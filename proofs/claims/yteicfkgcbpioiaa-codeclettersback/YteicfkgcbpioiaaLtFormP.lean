/- The form of a letter; codec.Letter of any letter, at tables of any content. -/
import Derived.Test.YteicfkgcbpioiaaLtMayP
set_option linter.unusedVariables false
set_option linter.unusedSimpArgs false
set_option maxRecDepth 100000
namespace Go.Proofs.Yteicfkgcbpioiaa
open Go.RowKit Go.Lib Go.Shelf

theorem bstr_76 (l : List UInt8) : Value.string (ByteArray.mk #[76] ++ bA l) = bstr (76 :: l) := by
  unfold bstr bA; congr 1
theorem mk76 : (⟨#[76]⟩ : ByteArray) = bA [76] := rfl
set_option maxHeartbeats 4000000 in
theorem ltForm1 (p i s o : Int) (ao : Option Addr) (n cap : Nat) (w : World) (a b : ByteArray) (ha : a.size ≤ 64) (hb : b.size ≤ 4000)
    (C1 : Hid (∀ (w1 : World) (g : Nat), (∀ j x, (#[.int .i64 1, .int .i64 p, .int .i64 i, .int .i64 s, .int .i64 o] : Array Value)[j]? = some x → w1.cell? ⟨g, j, none⟩ = some x) → g < w1.heap.size → Hid (Left w [(0, .int .i64 1), (1, .int .i64 p), (2, .int .i64 i), (3, .int .i64 s), (4, .int .i64 o), (5, .slice ao n cap)] w1) → Calls Try.prog 62 #[.slice (some ⟨g, 0, none⟩) 5 5] w1 fun e w' => e = .returned (.string a) ∧ w'.cell? ⟨w.heap.size, 0, none⟩ = some (.int .i64 1) ∧ w'.cell? ⟨w.heap.size, 1, none⟩ = some (.int .i64 p) ∧ w'.cell? ⟨w.heap.size, 2, none⟩ = some (.int .i64 i) ∧ w'.cell? ⟨w.heap.size, 3, none⟩ = some (.int .i64 s) ∧ w'.cell? ⟨w.heap.size, 4, none⟩ = some (.int .i64 o) ∧ w'.cell? ⟨w.heap.size, 5, none⟩ = some (.slice ao n cap) ∧ Hid (Left w [(0, .int .i64 1), (1, .int .i64 p), (2, .int .i64 i), (3, .int .i64 s), (4, .int .i64 o), (5, .slice ao n cap)] w')))
    (C2 : Hid (∀ (w1 : World), Hid (Left w [(0, .int .i64 1), (1, .int .i64 p), (2, .int .i64 i), (3, .int .i64 s), (4, .int .i64 o), (5, .slice ao n cap)] w1) → Calls Try.prog 86 #[.slice ao n cap] w1 fun e w' => e = .returned (.string b) ∧ w'.cell? ⟨w.heap.size, 0, none⟩ = some (.int .i64 1) ∧ w'.cell? ⟨w.heap.size, 1, none⟩ = some (.int .i64 p) ∧ w'.cell? ⟨w.heap.size, 2, none⟩ = some (.int .i64 i) ∧ w'.cell? ⟨w.heap.size, 3, none⟩ = some (.int .i64 s) ∧ w'.cell? ⟨w.heap.size, 4, none⟩ = some (.int .i64 o) ∧ w'.cell? ⟨w.heap.size, 5, none⟩ = some (.slice ao n cap) ∧ Hid (Left w [(0, .int .i64 1), (1, .int .i64 p), (2, .int .i64 i), (3, .int .i64 s), (4, .int .i64 o), (5, .slice ao n cap)] w'))) :
    Calls Try.prog 84 #[.agg #[.int .i64 1, .int .i64 p, .int .i64 i, .int .i64 s, .int .i64 o, .slice ao n cap]] w fun e w' => e = .returned (.string (⟨#[76]⟩ ++ a ++ b)) ∧ Below w.heap.size w w' := by
  have p0 : ¬ 9223372036854775807 < (ByteArray.mk #[76]).size + a.size := by simp only [ByteArray.size_append, show (ByteArray.mk #[76]).size = 1 from rfl]; omega
  have r0 : ¬ 9223372036854775807 < 1 + a.size := by omega
  have p1 : ¬ 9223372036854775807 < ((ByteArray.mk #[76]) ++ a).size + b.size := by simp only [ByteArray.size_append, show (ByteArray.mk #[76]).size = 1 from rfl]; omega
  have r1 : ¬ 9223372036854775807 < 1 + a.size + b.size := by omega
  have HF : Hid (Left w [(0, .int .i64 1), (1, .int .i64 p), (2, .int .i64 i), (3, .int .i64 s), (4, .int .i64 o), (5, .slice ao n cap)] (w.alloc (.cells #[.int .i64 1, .int .i64 p, .int .i64 i, .int .i64 s, .int .i64 o, .slice ao n cap] 52))) := Left.first _ _ _ _ (by simp)
  go_enter Try.func84, Try.ntmps84
  go_wp2_with fail
  go_region_held3 (fun w' => w'.cell? ⟨w.heap.size, 0, none⟩ = some (.int .i64 1) ∧ w'.cell? ⟨w.heap.size, 1, none⟩ = some (.int .i64 p) ∧ w'.cell? ⟨w.heap.size, 2, none⟩ = some (.int .i64 i) ∧ w'.cell? ⟨w.heap.size, 3, none⟩ = some (.int .i64 s) ∧ w'.cell? ⟨w.heap.size, 4, none⟩ = some (.int .i64 o) ∧ w'.cell? ⟨w.heap.size, 5, none⟩ = some (.slice ao n cap)) (go_keep) (first | (go_at_call 62; refine (C1.out _ _ (new_cells (by simp)) (by simp) (HF.out.alloc _).draw).mono ?_; rintro e w1 ⟨rfl, m0, m1, m2, m3, m4, m5, HB1⟩) | (go_at_call 86; refine (C2.out _ HB1).mono ?_; rintro e w2 ⟨rfl, n0, n1, n2, n3, n4, n5, HB2⟩))
  all_goals go_wp2
  all_goals go_ret
  all_goals exact ⟨rfl, HB2.out.2.1⟩
set_option maxHeartbeats 1000000 in
theorem ltForm3 (p i s o : Int) (ao : Option Addr) (n cap : Nat) (w : World) (b : ByteArray) (HL : b.size ≤ 64)
    (C : Hid (∀ (w1 : World) (g : Nat), g = w1.heap.size → Calls Try.prog 62 #[.slice (some ⟨g, 0, none⟩) 3 3] (w1.alloc (.cells #[.int .i64 3, .int .i64 p, .int .i64 i] 3)) fun e w' => e = .returned (.string b) ∧ Below w1.heap.size w1 w')) :
    Calls Try.prog 84 #[.agg #[.int .i64 3, .int .i64 p, .int .i64 i, .int .i64 s, .int .i64 o, .slice ao n cap]] w fun e w' => e = .returned (.string (⟨#[76]⟩ ++ b)) ∧ Below w.heap.size w w' := by
  go_enter Try.func84, Try.ntmps84
  go_wp2_with fail
  refine (C.out _ _ (by simp)).mono ?_
  rintro e w1 ⟨rfl, hb⟩
  go_wp2
  go_ret
  refine ⟨rfl, ?_⟩
  have h3 : Below w.heap.size w (w.alloc (.cells #[.int .i64 3, .int .i64 p, .int .i64 i, .int .i64 s, .int .i64 o, .slice ao n cap] 52)) := (Below.refl _ _).alloc (Nat.le_refl _) _
  exact h3.trans (hb.mono h3.size)
set_option maxHeartbeats 1000000 in
theorem ltForm9 (p i s o : Int) (ao : Option Addr) (n cap : Nat) (w : World) (b : ByteArray) (HL : b.size ≤ 64)
    (C : Hid (∀ (w1 : World) (g : Nat), g = w1.heap.size → Calls Try.prog 62 #[.slice (some ⟨g, 0, none⟩) 3 3] (w1.alloc (.cells #[.int .i64 9, .int .i64 p, .int .i64 i] 3)) fun e w' => e = .returned (.string b) ∧ Below w1.heap.size w1 w')) :
    Calls Try.prog 84 #[.agg #[.int .i64 9, .int .i64 p, .int .i64 i, .int .i64 s, .int .i64 o, .slice ao n cap]] w fun e w' => e = .returned (.string (⟨#[76]⟩ ++ b)) ∧ Below w.heap.size w w' := by
  go_enter Try.func84, Try.ntmps84
  go_wp2_with fail
  refine (C.out _ _ (by simp)).mono ?_
  rintro e w1 ⟨rfl, hb⟩
  go_wp2
  go_ret
  refine ⟨rfl, ?_⟩
  have h3 : Below w.heap.size w (w.alloc (.cells #[.int .i64 9, .int .i64 p, .int .i64 i, .int .i64 s, .int .i64 o, .slice ao n cap] 52)) := (Below.refl _ _).alloc (Nat.le_refl _) _
  exact h3.trans (hb.mono h3.size)
set_option maxHeartbeats 1000000 in
theorem ltFormK (k p i s o : Int) (k1 : k ≠ 1) (k3 : k ≠ 3) (k9 : k ≠ 9) (ao : Option Addr) (n cap : Nat) (w : World) (b : ByteArray) (HL : b.size ≤ 64)
    (C : Hid (∀ (w1 : World) (g : Nat), g = w1.heap.size → Calls Try.prog 62 #[.slice (some ⟨g, 0, none⟩) 4 4] (w1.alloc (.cells #[.int .i64 k, .int .i64 p, .int .i64 i, .int .i64 s] 3)) fun e w' => e = .returned (.string b) ∧ Below w1.heap.size w1 w')) :
    Calls Try.prog 84 #[.agg #[.int .i64 k, .int .i64 p, .int .i64 i, .int .i64 s, .int .i64 o, .slice ao n cap]] w fun e w' => e = .returned (.string (⟨#[76]⟩ ++ b)) ∧ Below w.heap.size w w' := by
  have k1' : (k == 1) = false := beq_eq_false_iff_ne.2 k1
  have k3' : (k == 3) = false := beq_eq_false_iff_ne.2 k3
  have k9' : (k == 9) = false := beq_eq_false_iff_ne.2 k9
  go_enter Try.func84, Try.ntmps84
  go_wp2_with fail
  refine (C.out _ _ (by simp)).mono ?_
  rintro e w1 ⟨rfl, hb⟩
  go_wp2
  go_ret
  refine ⟨rfl, ?_⟩
  have h3 : Below w.heap.size w (w.alloc (.cells #[.int .i64 k, .int .i64 p, .int .i64 i, .int .i64 s, .int .i64 o, .slice ao n cap] 52)) := (Below.refl _ _).alloc (Nat.le_refl _) _
  exact h3.trans (hb.mono h3.size)
/-- The form of a letter. -/
def ltL (k p i s o : Nat) (xs : List (List UInt8)) : List UInt8 := 76 :: (if k = 1 then numsL [1, p, i, s, o] ++ PackMath.lst xs else if k = 3 then numsL [3, p, i] else if k = 9 then numsL [9, p, i] else numsL [k, p, i, s])
theorem small5 {a b c d e : Nat} (h : a ≤ 2000) (h' : b ≤ 2000) (h2 : c ≤ 2000) (h3 : d ≤ 2000) (h4 : e ≤ 2000) : Small [a, b, c, d, e] := fun x hx => by simp at hx; omega
theorem ltForm_any (k p i s o : Nat) (hk : k ≤ 2000) (hp : p ≤ 2000) (hi : i ≤ 2000) (hs : s ≤ 2000) (ho : o ≤ 2000) (v : Value) (xs : List (List UInt8)) (hx : xs.length ≤ 2) (hxs : ∀ s ∈ xs, s.length ≤ 2000) (hl : (PackMath.lst xs).length ≤ 4000) (w : World) (hS : SRow w v xs) :
    Calls Try.prog 84 #[.agg #[.int .i64 (k : Int), .int .i64 (p : Int), .int .i64 (i : Int), .int .i64 (s : Int), .int .i64 (o : Int), v]] w fun e w' => e = .returned (bstr (ltL k p i s o xs)) ∧ Below w.heap.size w w' := by
  obtain ⟨ao, cap, rfl, hca, hrow⟩ := id hS
  by_cases k1 : k = 1
  · subst k1
    have HS : Small [1, p, i, s, o] := small5 (by omega) hp hi hs ho
    have x := ltForm1 (p : Int) (i : Int) (s : Int) (o : Int) ao xs.length cap w (bA (numsL [1, p, i, s, o])) (bA (PackMath.lst xs)) (bA_nums HS (by simp)) (by rw [bA_size]; exact hl)
      (fun w1 g hc hg hl => (nums_any w1 _ [1, p, i, s, o] (by simp) HS (nrow_of hg rfl rfl hc)).mono (fun e w' ⟨he, hb⟩ => ⟨he, (hl.out.call hb).2.2 (0, .int .i64 1) (by simp), (hl.out.call hb).2.2 (1, .int .i64 (p : Int)) (by simp), (hl.out.call hb).2.2 (2, .int .i64 (i : Int)) (by simp), (hl.out.call hb).2.2 (3, .int .i64 (s : Int)) (by simp), (hl.out.call hb).2.2 (4, .int .i64 (o : Int)) (by simp), (hl.out.call hb).2.2 (5, .slice ao xs.length cap) (by simp), hl.out.call hb⟩))
      (fun w1 hl => (list_ok _ xs (by omega) hxs w1 (srow_below hS hl.out.2.1)).mono (fun e w' ⟨he, hb⟩ => ⟨he, (hl.out.call hb).2.2 (0, .int .i64 1) (by simp), (hl.out.call hb).2.2 (1, .int .i64 (p : Int)) (by simp), (hl.out.call hb).2.2 (2, .int .i64 (i : Int)) (by simp), (hl.out.call hb).2.2 (3, .int .i64 (s : Int)) (by simp), (hl.out.call hb).2.2 (4, .int .i64 (o : Int)) (by simp), (hl.out.call hb).2.2 (5, .slice ao xs.length cap) (by simp), hl.out.call hb⟩))
    rw [mk76] at x
    simp only [bA_app, List.append_assoc] at x
    exact x
  · by_cases k3 : k = 3
    · subst k3
      have HS : Small [3, p, i] := small3 (by omega) hp hi
      have x := ltForm3 (p : Int) (i : Int) (s : Int) (o : Int) ao xs.length cap w (bA (numsL [3, p, i])) (bA_nums HS (by simp)) (fun w1 g hg => by subst hg; exact nums_new [3, p, i] (by simp) HS w1 _ (by simp) _ (by simp) _)
      simp only [bstr_76] at x
      exact x
    · by_cases k9 : k = 9
      · subst k9
        have HS : Small [9, p, i] := small3 (by omega) hp hi
        have x := ltForm9 (p : Int) (i : Int) (s : Int) (o : Int) ao xs.length cap w (bA (numsL [9, p, i])) (bA_nums HS (by simp)) (fun w1 g hg => by subst hg; exact nums_new [9, p, i] (by simp) HS w1 _ (by simp) _ (by simp) _)
        simp only [bstr_76] at x
        exact x
      · have HS : Small [k, p, i, s] := small4 hk hp hi hs
        have x := ltFormK (k : Int) (p : Int) (i : Int) (s : Int) (o : Int) (by omega) (by omega) (by omega) ao xs.length cap w (bA (numsL [k, p, i, s])) (bA_nums HS (by simp)) (fun w1 g hg => by subst hg; exact nums_new [k, p, i, s] (by simp) HS w1 _ (by simp) _ (by simp) _)
        simp only [bstr_76] at x
        have e : ltL k p i s o xs = 76 :: numsL [k, p, i, s] := by unfold ltL; rw [if_neg k1, if_neg k3, if_neg k9]
        rw [e]
        exact x
theorem letter_call {k p i s o j : Int} {v e1 : Value} {w : World} (hv : ∃ ao n cap, v = .slice ao n cap)
    (C : Hid (∀ w1, Below w.heap.size w w1 → Calls Try.prog 17 #[.iface 52 (.agg #[.int .i64 k, .int .i64 p, .int .i64 i, .int .i64 s, .int .i64 o, v])] w1 fun e w' => e = .returned (.tuple #[e1, .int .i64 j]) ∧ Below w1.heap.size w1 w')) :
    Calls Try.prog 9 #[.agg #[.int .i64 k, .int .i64 p, .int .i64 i, .int .i64 s, .int .i64 o, v]] w fun e w' => e = .returned (.tuple #[e1, .int .i64 j]) ∧ Below w.heap.size w w' := by
  obtain ⟨ao, n, cap, rfl⟩ := hv
  go_enter Try.func9, Try.ntmps9
  go_wp2_with fail
  refine (C.out _ (by go_grown)).mono ?_
  rintro e w1 ⟨rfl, hb1⟩
  have HB1 : Hid (Below w.heap.size w w1) := ((Below.refl _ _).alloc (Nat.le_refl _) _).trans (hb1.mono (by rw [World.size_alloc]; omega))
  clear C hb1
  go_wp2_with fail
  go_ret2
  exact ⟨rfl, HB1.out⟩
theorem keysX_short {t : Tb} {xs : List (List UInt8)} (h : keysX t xs = true) : ∀ x ∈ xs, x.length ≤ 32 := fun x hx => by
  obtain ⟨j, hj, rfl⟩ := List.getElem_of_mem hx
  have ho := keysX_at h hj
  unfold okAt at ho
  rw [Bool.and_eq_true] at ho
  have hz := isNm_size ho.1
  have e : (tx xs j).size = xs[j].length := by unfold tx; simp [ByteArray.size, hj]
  omega
/-- What a letter that may be is like. -/
theorem ltMay_facts {t : Tb} {k p i s o : Int} {xs : List (List UInt8)} (h : ltMay t k p i s o xs = true) : (1 ≤ k ∧ k ≤ 9) ∧ (0 ≤ p ∧ p ≤ 3) ∧ (1 ≤ i ∧ i ≤ 60) ∧ (0 ≤ s ∧ s ≤ 7) ∧ (0 ≤ o ∧ o ≤ 3) ∧ xs.length ≤ 2 ∧ (∀ x ∈ xs, x.length ≤ 32) ∧ (k ≠ 1 → xs = [] ∧ o = 0) ∧ (k = 3 ∨ k = 9 → s = 0) := by
  unfold ltMay btw at h
  rw [Bool.and_eq_true, Bool.and_eq_true, Bool.and_eq_true] at h
  obtain ⟨⟨⟨h1, h2⟩, h4⟩, h3⟩ := h
  simp only [Bool.and_eq_true, decide_eq_true_eq] at h1 h2 h4
  split at h3
  · rename_i k1
    rw [Bool.and_eq_true] at h3
    simp only [Bool.and_eq_true, decide_eq_true_eq] at h3
    exact ⟨h1, h2, h4, by omega, by omega, keysX_len h3.2, keysX_short h3.2, fun hn => absurd k1 hn, fun h6 => by omega⟩
  · rename_i k1
    split at h3
    · simp only [Bool.and_eq_true, decide_eq_true_eq] at h3
      have hx : xs = [] := List.eq_nil_of_length_eq_zero h3.2
      subst hx
      exact ⟨h1, h2, h4, by omega, by omega, by simp, by simp, fun _ => ⟨rfl, h3.1.2⟩, fun _ => h3.1.1⟩
    · rename_i k6
      simp only [Bool.and_eq_true, decide_eq_true_eq] at h3
      have hx : xs = [] := List.eq_nil_of_length_eq_zero h3.2
      subst hx
      exact ⟨h1, h2, h4, h3.1.1, by omega, by simp, by simp, fun _ => ⟨rfl, h3.1.2⟩, fun hn => absurd hn k6⟩
theorem letter_yes (t : Tb) (k p i s o : Nat) (v : Value) (xs : List (List UInt8)) (w : World) (hT : Hid (TabX t w)) (hlow : Hid (1 < w.heap.size ∧ 2 < w.heap.size)) (hS : SRow w v xs) (hm : ltMay t k p i s o xs = true) :
    Calls Try.prog 9 #[.agg #[.int .i64 (k : Int), .int .i64 (p : Int), .int .i64 (i : Int), .int .i64 (s : Int), .int .i64 (o : Int), v]] w fun e w' => e = .returned (.tuple #[bstr (ltL k p i s o xs), .int .i64 0]) ∧ Below w.heap.size w w' := by
  obtain ⟨f1, f2, f3, f3b, f3c, f4, f5, _⟩ := ltMay_facts hm
  refine letter_call (by obtain ⟨ao, cap, rfl, _⟩ := hS; exact ⟨_, _, _, rfl⟩) (fun w1 hb1 => write_yesW _ _ _ _ _ w1 (m_letter_may _) (m_letter_form _) e_letter_may e_letter_form ?_ (fun w2 hb2 => ?_))
  · have x := ltMay_any t (k : Int) p i s o v xs (by omega) (fun x hx => by have := f5 x hx; omega) w1 (hT.out.below hb1 hlow.out) ⟨Nat.lt_of_lt_of_le hlow.out.1 hb1.size, Nat.lt_of_lt_of_le hlow.out.2 hb1.size⟩ (srow_below hS hb1)
    rw [hm] at x
    exact x
  · exact ltForm_any k p i s o (by omega) (by omega) (by omega) (by omega) (by omega) v xs f4 (fun x hx => by have := f5 x hx; omega) (by have := lst_small f4 f5; omega) w2 (srow_below (srow_below hS hb1) hb2)
theorem letter_no (t : Tb) (k p i s o : Int) (v : Value) (xs : List (List UInt8)) (hx : xs.length ≤ 140737488355328) (hxs : ∀ s ∈ xs, s.length ≤ 140737488351232) (w : World) (hT : Hid (TabX t w)) (hlow : Hid (1 < w.heap.size ∧ 2 < w.heap.size)) (hS : SRow w v xs) (hm : ltMay t k p i s o xs = false) :
    Calls Try.prog 9 #[.agg #[.int .i64 k, .int .i64 p, .int .i64 i, .int .i64 s, .int .i64 o, v]] w fun e w' => e = .returned (.tuple #[.string ⟨#[]⟩, .int .i64 1]) ∧ Below w.heap.size w w' := by
  refine letter_call (by obtain ⟨ao, cap, rfl, _⟩ := hS; exact ⟨_, _, _, rfl⟩) (fun w1 hb1 => write_noW _ _ _ w1 (m_letter_may _) e_letter_may ?_)
  have x := ltMay_any t k p i s o v xs hx hxs w1 (hT.out.below hb1 hlow.out) ⟨Nat.lt_of_lt_of_le hlow.out.1 hb1.size, Nat.lt_of_lt_of_le hlow.out.2 hb1.size⟩ (srow_below hS hb1)
  rw [hm] at x
  exact x
end Go.Proofs.Yteicfkgcbpioiaa
