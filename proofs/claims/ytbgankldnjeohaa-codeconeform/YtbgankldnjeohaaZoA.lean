/- The texts LtMay, LtForm, LtRead, LtVal, LtGet, EvGet, EvTop, LtTop, one behind the other. -/
import Derived.Test.YtbgankldnjeohaaEvCall
import Derived.Test.YtbgankldnjeohaaEvVal
import Derived.Test.YtbgankldnjeohaaCatch
import Derived.Test.YtbgankldnjeohaaLiveF
/- letter.mayBe, at tables of any content. -/
set_option linter.unusedVariables false
set_option linter.unusedSimpArgs false
set_option maxRecDepth 100000
namespace Go.Proofs.Ytbgankldnjeohaa
open Go.RowKit

/-- May the letter be? -/
def ltMay (t : Tb) (k p i s o : Int) (xs : List (List UInt8)) : Bool :=
  btw k 1 9 && btw p 0 3 && btw i 1 60 && (if k = 1 then btw s 0 7 && btw o 1 3 && keysX t xs else if k = 3 ∨ k = 9 then decide (s = 0) && decide (o = 0) && decide (xs.length = 0) else btw s 0 7 && decide (o = 0) && decide (xs.length = 0))
set_option maxHeartbeats 2000000 in
theorem ltMay_any (t : Tb) (k p i s o : Int) (v : Value) (xs : List (List UInt8)) (hx : xs.length ≤ 140737488355328) (hxs : ∀ s ∈ xs, s.length ≤ 140737488351232) (w : World) (hT : Hid (TabX t w)) (hlow : Hid (0 < w.heap.size ∧ 1 < w.heap.size)) (hS : SRow w v xs) :
    Calls Try.prog 62 #[.agg #[.int .i64 k, .int .i64 p, .int .i64 i, .int .i64 s, .int .i64 o, v]] w fun e w' => e = .returned (.bool (ltMay t k p i s o xs)) ∧ Below w.heap.size w w' := by
  have CK : Hid (∀ w1, Below w.heap.size w w1 → Calls Try.prog 69 #[v] w1 fun e w' => e = .returned (.bool (keysX t xs)) ∧ Below w1.heap.size w1 w') := fun w1 hb =>
    areKeys_any t v xs hx hxs w1 (hT.out.below hb hlow.out) ⟨Nat.lt_of_lt_of_le hlow.out.1 hb.size, Nat.lt_of_lt_of_le hlow.out.2 hb.size⟩ (srow_below hS hb)
  obtain ⟨ao, cap, rfl, hca, hrow⟩ := hS
  clear hrow hxs hT hlow
  cases b0 : btw k 1 9 with
  | false =>
    have HE : Hid (ltMay t k p i s o xs = false) := by show _ = _; unfold ltMay; rw [b0]; rfl
    clear CK
    go_enter Try.func62, Try.ntmps62
    go_wp2_with (first | (go_at_call 65; refine (between_any _ _ _ _).mono ?_; rintro e w' ⟨rfl, hw'⟩; first | (rw [hw', b0]; clear hw' w')))
    all_goals go_ret
    all_goals exact ⟨retB HE.out.symm, by go_grown⟩
  | true =>
  cases bp : btw p 0 3 with
  | false =>
    have HE : Hid (ltMay t k p i s o xs = false) := by show _ = _; unfold ltMay; rw [b0, bp]; rfl
    clear CK
    go_enter Try.func62, Try.ntmps62
    go_wp2_with (first | (go_at_call 66; refine (isPart_any _ _).mono ?_; rintro e w' ⟨rfl, hw'⟩; rw [hw', bp]; clear hw' w') | (go_at_call 65; refine (between_any _ _ _ _).mono ?_; rintro e w' ⟨rfl, hw'⟩; first | (rw [hw', b0]; clear hw' w')))
    all_goals go_ret
    all_goals exact ⟨retB HE.out.symm, by go_grown⟩
  | true =>
  cases bi : btw i 1 60 with
  | false =>
    have HE : Hid (ltMay t k p i s o xs = false) := by show _ = _; unfold ltMay; rw [b0, bp, bi]; rfl
    clear CK
    go_enter Try.func62, Try.ntmps62
    go_wp2_with (first | (go_at_call 67; refine (isID_any _ _).mono ?_; rintro e w' ⟨rfl, hw'⟩; rw [hw', bi]; clear hw' w') | (go_at_call 66; refine (isPart_any _ _).mono ?_; rintro e w' ⟨rfl, hw'⟩; rw [hw', bp]; clear hw' w') | (go_at_call 65; refine (between_any _ _ _ _).mono ?_; rintro e w' ⟨rfl, hw'⟩; first | (rw [hw', b0]; clear hw' w')))
    all_goals go_ret
    all_goals exact ⟨retB HE.out.symm, by go_grown⟩
  | true =>
  by_cases k1 : k = 1
  · subst k1
    cases bs : btw s 0 7 with
    | false =>
      have HE : Hid (ltMay t 1 p i s o xs = false) := by show _ = _; unfold ltMay; rw [b0, bp, bi, bs]; rfl
      clear CK
      go_enter Try.func62, Try.ntmps62
      go_wp2_with (first | (go_at_call 68; refine (isStep_any _ _).mono ?_; rintro e w' ⟨rfl, hw'⟩; rw [hw', bs]; clear hw' w') | (go_at_call 67; refine (isID_any _ _).mono ?_; rintro e w' ⟨rfl, hw'⟩; rw [hw', bi]; clear hw' w') | (go_at_call 66; refine (isPart_any _ _).mono ?_; rintro e w' ⟨rfl, hw'⟩; rw [hw', bp]; clear hw' w') | (go_at_call 65; refine (between_any _ _ _ _).mono ?_; rintro e w' ⟨rfl, hw'⟩; first | (rw [hw', b0]; clear hw' w')))
      all_goals go_ret
      all_goals exact ⟨retB HE.out.symm, by go_grown⟩
    | true =>
    cases bo : btw o 1 3 with
    | false =>
      have HE : Hid (ltMay t 1 p i s o xs = false) := by show _ = _; unfold ltMay; rw [b0, bp, bi, bs, bo]; rfl
      clear CK
      go_enter Try.func62, Try.ntmps62
      go_wp2_with (first | (go_at_call 68; refine (isStep_any _ _).mono ?_; rintro e w' ⟨rfl, hw'⟩; rw [hw', bs]; clear hw' w') | (go_at_call 67; refine (isID_any _ _).mono ?_; rintro e w' ⟨rfl, hw'⟩; rw [hw', bi]; clear hw' w') | (go_at_call 66; refine (isPart_any _ _).mono ?_; rintro e w' ⟨rfl, hw'⟩; rw [hw', bp]; clear hw' w') | (go_at_call 65; refine (between_any _ _ _ _).mono ?_; rintro e w' ⟨rfl, hw'⟩; first | (rw [hw', b0]; clear hw' w') | (rw [hw', bo]; clear hw' w')))
      all_goals go_ret
      all_goals exact ⟨retB HE.out.symm, by go_grown⟩
    | true =>
      have HE : Hid (ltMay t 1 p i s o xs = keysX t xs) := by show _ = _; unfold ltMay; rw [b0, bp, bi, bs, bo]; rfl
      generalize keysX t xs = q at *
      go_enter Try.func62, Try.ntmps62
      go_wp2_with (first | (go_at_call 68; refine (isStep_any _ _).mono ?_; rintro e w' ⟨rfl, hw'⟩; rw [hw', bs]; clear hw' w') | (go_at_call 67; refine (isID_any _ _).mono ?_; rintro e w' ⟨rfl, hw'⟩; rw [hw', bi]; clear hw' w') | (go_at_call 66; refine (isPart_any _ _).mono ?_; rintro e w' ⟨rfl, hw'⟩; rw [hw', bp]; clear hw' w') | (go_at_call 65; refine (between_any _ _ _ _).mono ?_; rintro e w' ⟨rfl, hw'⟩; first | (rw [hw', b0]; clear hw' w') | (rw [hw', bo]; clear hw' w')))
      refine (CK.out _ (by go_grown)).mono ?_
      rintro e w2 ⟨rfl, hb2⟩
      have HB : Hid (Below w.heap.size w w2) := (show Below w.heap.size w _ by go_grown).trans (hb2.mono (by simp))
      clear hb2 CK
      go_wp2_with fail
      all_goals go_ret
      all_goals exact ⟨retB HE.out.symm, HB.out⟩
  · by_cases k3 : k = 3
    · subst k3
      by_cases s0 : s = 0
      · subst s0
        by_cases o0 : o = 0
        · subst o0
          by_cases n0 : xs.length = 0
          · rw [n0] at hca ⊢
            have HE : Hid (ltMay t 3 p i 0 0 xs = true) := by show _ = _; unfold ltMay; rw [b0, bp, bi]; simp [n0]
            clear CK
            go_enter Try.func62, Try.ntmps62
            go_wp2_with (first | (go_at_call 67; refine (isID_any _ _).mono ?_; rintro e w' ⟨rfl, hw'⟩; rw [hw', bi]; clear hw' w') | (go_at_call 66; refine (isPart_any _ _).mono ?_; rintro e w' ⟨rfl, hw'⟩; rw [hw', bp]; clear hw' w') | (go_at_call 65; refine (between_any _ _ _ _).mono ?_; rintro e w' ⟨rfl, hw'⟩; first | (rw [hw', b0]; clear hw' w')))
            all_goals go_ret
            all_goals exact ⟨retB HE.out.symm, by go_grown⟩
          · have n0' : ((xs.length : Int) == 0) = false := beq_eq_false_iff_ne.2 (by omega)
            have HE : Hid (ltMay t 3 p i 0 0 xs = false) := by show _ = _; unfold ltMay; rw [b0, bp, bi]; simp [n0]
            clear CK
            go_enter Try.func62, Try.ntmps62
            go_wp2_with (first | (go_at_call 67; refine (isID_any _ _).mono ?_; rintro e w' ⟨rfl, hw'⟩; rw [hw', bi]; clear hw' w') | (go_at_call 66; refine (isPart_any _ _).mono ?_; rintro e w' ⟨rfl, hw'⟩; rw [hw', bp]; clear hw' w') | (go_at_call 65; refine (between_any _ _ _ _).mono ?_; rintro e w' ⟨rfl, hw'⟩; first | (rw [hw', b0]; clear hw' w')))
            all_goals go_ret
            all_goals exact ⟨retB HE.out.symm, by go_grown⟩
        · have o0' : (o == 0) = false := beq_eq_false_iff_ne.2 o0
          have HE : Hid (ltMay t 3 p i 0 o xs = false) := by show _ = _; unfold ltMay; rw [b0, bp, bi]; simp [o0]
          clear CK
          go_enter Try.func62, Try.ntmps62
          go_wp2_with (first | (go_at_call 67; refine (isID_any _ _).mono ?_; rintro e w' ⟨rfl, hw'⟩; rw [hw', bi]; clear hw' w') | (go_at_call 66; refine (isPart_any _ _).mono ?_; rintro e w' ⟨rfl, hw'⟩; rw [hw', bp]; clear hw' w') | (go_at_call 65; refine (between_any _ _ _ _).mono ?_; rintro e w' ⟨rfl, hw'⟩; first | (rw [hw', b0]; clear hw' w')))
          all_goals go_ret
          all_goals exact ⟨retB HE.out.symm, by go_grown⟩
      · have s0' : (s == 0) = false := beq_eq_false_iff_ne.2 s0
        have HE : Hid (ltMay t 3 p i s o xs = false) := by show _ = _; unfold ltMay; rw [b0, bp, bi]; simp [s0]
        clear CK
        go_enter Try.func62, Try.ntmps62
        go_wp2_with (first | (go_at_call 67; refine (isID_any _ _).mono ?_; rintro e w' ⟨rfl, hw'⟩; rw [hw', bi]; clear hw' w') | (go_at_call 66; refine (isPart_any _ _).mono ?_; rintro e w' ⟨rfl, hw'⟩; rw [hw', bp]; clear hw' w') | (go_at_call 65; refine (between_any _ _ _ _).mono ?_; rintro e w' ⟨rfl, hw'⟩; first | (rw [hw', b0]; clear hw' w')))
        all_goals go_ret
        all_goals exact ⟨retB HE.out.symm, by go_grown⟩
    by_cases k9 : k = 9
    · subst k9
      by_cases s0 : s = 0
      · subst s0
        by_cases o0 : o = 0
        · subst o0
          by_cases n0 : xs.length = 0
          · rw [n0] at hca ⊢
            have HE : Hid (ltMay t 9 p i 0 0 xs = true) := by show _ = _; unfold ltMay; rw [b0, bp, bi]; simp [n0]
            clear CK
            go_enter Try.func62, Try.ntmps62
            go_wp2_with (first | (go_at_call 67; refine (isID_any _ _).mono ?_; rintro e w' ⟨rfl, hw'⟩; rw [hw', bi]; clear hw' w') | (go_at_call 66; refine (isPart_any _ _).mono ?_; rintro e w' ⟨rfl, hw'⟩; rw [hw', bp]; clear hw' w') | (go_at_call 65; refine (between_any _ _ _ _).mono ?_; rintro e w' ⟨rfl, hw'⟩; first | (rw [hw', b0]; clear hw' w')))
            all_goals go_ret
            all_goals exact ⟨retB HE.out.symm, by go_grown⟩
          · have n0' : ((xs.length : Int) == 0) = false := beq_eq_false_iff_ne.2 (by omega)
            have HE : Hid (ltMay t 9 p i 0 0 xs = false) := by show _ = _; unfold ltMay; rw [b0, bp, bi]; simp [n0]
            clear CK
            go_enter Try.func62, Try.ntmps62
            go_wp2_with (first | (go_at_call 67; refine (isID_any _ _).mono ?_; rintro e w' ⟨rfl, hw'⟩; rw [hw', bi]; clear hw' w') | (go_at_call 66; refine (isPart_any _ _).mono ?_; rintro e w' ⟨rfl, hw'⟩; rw [hw', bp]; clear hw' w') | (go_at_call 65; refine (between_any _ _ _ _).mono ?_; rintro e w' ⟨rfl, hw'⟩; first | (rw [hw', b0]; clear hw' w')))
            all_goals go_ret
            all_goals exact ⟨retB HE.out.symm, by go_grown⟩
        · have o0' : (o == 0) = false := beq_eq_false_iff_ne.2 o0
          have HE : Hid (ltMay t 9 p i 0 o xs = false) := by show _ = _; unfold ltMay; rw [b0, bp, bi]; simp [o0]
          clear CK
          go_enter Try.func62, Try.ntmps62
          go_wp2_with (first | (go_at_call 67; refine (isID_any _ _).mono ?_; rintro e w' ⟨rfl, hw'⟩; rw [hw', bi]; clear hw' w') | (go_at_call 66; refine (isPart_any _ _).mono ?_; rintro e w' ⟨rfl, hw'⟩; rw [hw', bp]; clear hw' w') | (go_at_call 65; refine (between_any _ _ _ _).mono ?_; rintro e w' ⟨rfl, hw'⟩; first | (rw [hw', b0]; clear hw' w')))
          all_goals go_ret
          all_goals exact ⟨retB HE.out.symm, by go_grown⟩
      · have s0' : (s == 0) = false := beq_eq_false_iff_ne.2 s0
        have HE : Hid (ltMay t 9 p i s o xs = false) := by show _ = _; unfold ltMay; rw [b0, bp, bi]; simp [s0]
        clear CK
        go_enter Try.func62, Try.ntmps62
        go_wp2_with (first | (go_at_call 67; refine (isID_any _ _).mono ?_; rintro e w' ⟨rfl, hw'⟩; rw [hw', bi]; clear hw' w') | (go_at_call 66; refine (isPart_any _ _).mono ?_; rintro e w' ⟨rfl, hw'⟩; rw [hw', bp]; clear hw' w') | (go_at_call 65; refine (between_any _ _ _ _).mono ?_; rintro e w' ⟨rfl, hw'⟩; first | (rw [hw', b0]; clear hw' w')))
        all_goals go_ret
        all_goals exact ⟨retB HE.out.symm, by go_grown⟩
    have k1' : (k == 1) = false := beq_eq_false_iff_ne.2 k1
    have k3' : (k == 3) = false := beq_eq_false_iff_ne.2 k3
    have k9' : (k == 9) = false := beq_eq_false_iff_ne.2 k9
    cases bs : btw s 0 7 with
    | false =>
      have HE : Hid (ltMay t k p i s o xs = false) := by show _ = _; unfold ltMay; rw [b0, bp, bi, bs, if_neg k1, if_neg (by omega)]; rfl
      clear CK
      go_enter Try.func62, Try.ntmps62
      go_wp2_with (first | (go_at_call 68; refine (isStep_any _ _).mono ?_; rintro e w' ⟨rfl, hw'⟩; rw [hw', bs]; clear hw' w') | (go_at_call 67; refine (isID_any _ _).mono ?_; rintro e w' ⟨rfl, hw'⟩; rw [hw', bi]; clear hw' w') | (go_at_call 66; refine (isPart_any _ _).mono ?_; rintro e w' ⟨rfl, hw'⟩; rw [hw', bp]; clear hw' w') | (go_at_call 65; refine (between_any _ _ _ _).mono ?_; rintro e w' ⟨rfl, hw'⟩; first | (rw [hw', b0]; clear hw' w')))
      all_goals go_ret
      all_goals exact ⟨retB HE.out.symm, by go_grown⟩
    | true =>
      by_cases o0 : o = 0
      · subst o0
        by_cases n0 : xs.length = 0
        · rw [n0] at hca ⊢
          have HE : Hid (ltMay t k p i s 0 xs = true) := by show _ = _; unfold ltMay; rw [b0, bp, bi]; simp [bs, k1, k3, k9, n0]
          clear CK
          go_enter Try.func62, Try.ntmps62
          go_wp2_with (first | (go_at_call 68; refine (isStep_any _ _).mono ?_; rintro e w' ⟨rfl, hw'⟩; rw [hw', bs]; clear hw' w') | (go_at_call 67; refine (isID_any _ _).mono ?_; rintro e w' ⟨rfl, hw'⟩; rw [hw', bi]; clear hw' w') | (go_at_call 66; refine (isPart_any _ _).mono ?_; rintro e w' ⟨rfl, hw'⟩; rw [hw', bp]; clear hw' w') | (go_at_call 65; refine (between_any _ _ _ _).mono ?_; rintro e w' ⟨rfl, hw'⟩; first | (rw [hw', b0]; clear hw' w')))
          all_goals go_ret
          all_goals exact ⟨retB HE.out.symm, by go_grown⟩
        · have n0' : ((xs.length : Int) == 0) = false := beq_eq_false_iff_ne.2 (by omega)
          have HE : Hid (ltMay t k p i s 0 xs = false) := by show _ = _; unfold ltMay; rw [b0, bp, bi]; simp [bs, k1, k3, k9, n0]
          clear CK
          go_enter Try.func62, Try.ntmps62
          go_wp2_with (first | (go_at_call 68; refine (isStep_any _ _).mono ?_; rintro e w' ⟨rfl, hw'⟩; rw [hw', bs]; clear hw' w') | (go_at_call 67; refine (isID_any _ _).mono ?_; rintro e w' ⟨rfl, hw'⟩; rw [hw', bi]; clear hw' w') | (go_at_call 66; refine (isPart_any _ _).mono ?_; rintro e w' ⟨rfl, hw'⟩; rw [hw', bp]; clear hw' w') | (go_at_call 65; refine (between_any _ _ _ _).mono ?_; rintro e w' ⟨rfl, hw'⟩; first | (rw [hw', b0]; clear hw' w')))
          all_goals go_ret
          all_goals exact ⟨retB HE.out.symm, by go_grown⟩
      · have o0' : (o == 0) = false := beq_eq_false_iff_ne.2 o0
        have HE : Hid (ltMay t k p i s o xs = false) := by show _ = _; unfold ltMay; rw [b0, bp, bi]; simp [bs, k1, k3, k9, o0]
        clear CK
        go_enter Try.func62, Try.ntmps62
        go_wp2_with (first | (go_at_call 68; refine (isStep_any _ _).mono ?_; rintro e w' ⟨rfl, hw'⟩; rw [hw', bs]; clear hw' w') | (go_at_call 67; refine (isID_any _ _).mono ?_; rintro e w' ⟨rfl, hw'⟩; rw [hw', bi]; clear hw' w') | (go_at_call 66; refine (isPart_any _ _).mono ?_; rintro e w' ⟨rfl, hw'⟩; rw [hw', bp]; clear hw' w') | (go_at_call 65; refine (between_any _ _ _ _).mono ?_; rintro e w' ⟨rfl, hw'⟩; first | (rw [hw', b0]; clear hw' w')))
        all_goals go_ret
        all_goals exact ⟨retB HE.out.symm, by go_grown⟩
end Go.Proofs.Ytbgankldnjeohaa

/- The form of a letter; codec.Letter of any letter, at tables of any content. -/
set_option linter.unusedVariables false
set_option linter.unusedSimpArgs false
set_option maxRecDepth 100000
namespace Go.Proofs.Ytbgankldnjeohaa
open Go.RowKit Go.Lib Go.Shelf

theorem bstr_76 (l : List UInt8) : Value.string (ByteArray.mk #[76] ++ bA l) = bstr (76 :: l) := by
  unfold bstr bA; congr 1
theorem mk76 : (⟨#[76]⟩ : ByteArray) = bA [76] := rfl
set_option maxHeartbeats 4000000 in
theorem ltForm1 (p i s o : Int) (ao : Option Addr) (n cap : Nat) (w : World) (a b : ByteArray) (ha : a.size ≤ 64) (hb : b.size ≤ 4000)
    (C1 : Hid (∀ (w1 : World) (g : Nat), (∀ j x, (#[.int .i64 1, .int .i64 p, .int .i64 i, .int .i64 s, .int .i64 o] : Array Value)[j]? = some x → w1.cell? ⟨g, j, none⟩ = some x) → g < w1.heap.size → Hid (Left w [(0, .int .i64 1), (1, .int .i64 p), (2, .int .i64 i), (3, .int .i64 s), (4, .int .i64 o), (5, .slice ao n cap)] w1) → Calls Try.prog 63 #[.slice (some ⟨g, 0, none⟩) 5 5] w1 fun e w' => e = .returned (.string a) ∧ w'.cell? ⟨w.heap.size, 0, none⟩ = some (.int .i64 1) ∧ w'.cell? ⟨w.heap.size, 1, none⟩ = some (.int .i64 p) ∧ w'.cell? ⟨w.heap.size, 2, none⟩ = some (.int .i64 i) ∧ w'.cell? ⟨w.heap.size, 3, none⟩ = some (.int .i64 s) ∧ w'.cell? ⟨w.heap.size, 4, none⟩ = some (.int .i64 o) ∧ w'.cell? ⟨w.heap.size, 5, none⟩ = some (.slice ao n cap) ∧ Hid (Left w [(0, .int .i64 1), (1, .int .i64 p), (2, .int .i64 i), (3, .int .i64 s), (4, .int .i64 o), (5, .slice ao n cap)] w')))
    (C2 : Hid (∀ (w1 : World), Hid (Left w [(0, .int .i64 1), (1, .int .i64 p), (2, .int .i64 i), (3, .int .i64 s), (4, .int .i64 o), (5, .slice ao n cap)] w1) → Calls Try.prog 64 #[.slice ao n cap] w1 fun e w' => e = .returned (.string b) ∧ w'.cell? ⟨w.heap.size, 0, none⟩ = some (.int .i64 1) ∧ w'.cell? ⟨w.heap.size, 1, none⟩ = some (.int .i64 p) ∧ w'.cell? ⟨w.heap.size, 2, none⟩ = some (.int .i64 i) ∧ w'.cell? ⟨w.heap.size, 3, none⟩ = some (.int .i64 s) ∧ w'.cell? ⟨w.heap.size, 4, none⟩ = some (.int .i64 o) ∧ w'.cell? ⟨w.heap.size, 5, none⟩ = some (.slice ao n cap) ∧ Hid (Left w [(0, .int .i64 1), (1, .int .i64 p), (2, .int .i64 i), (3, .int .i64 s), (4, .int .i64 o), (5, .slice ao n cap)] w'))) :
    Calls Try.prog 61 #[.agg #[.int .i64 1, .int .i64 p, .int .i64 i, .int .i64 s, .int .i64 o, .slice ao n cap]] w fun e w' => e = .returned (.string (⟨#[76]⟩ ++ a ++ b)) ∧ Below w.heap.size w w' := by
  have p0 : ¬ 9223372036854775807 < (ByteArray.mk #[76]).size + a.size := by simp only [ByteArray.size_append, show (ByteArray.mk #[76]).size = 1 from rfl]; omega
  have r0 : ¬ 9223372036854775807 < 1 + a.size := by omega
  have p1 : ¬ 9223372036854775807 < ((ByteArray.mk #[76]) ++ a).size + b.size := by simp only [ByteArray.size_append, show (ByteArray.mk #[76]).size = 1 from rfl]; omega
  have r1 : ¬ 9223372036854775807 < 1 + a.size + b.size := by omega
  have HF : Hid (Left w [(0, .int .i64 1), (1, .int .i64 p), (2, .int .i64 i), (3, .int .i64 s), (4, .int .i64 o), (5, .slice ao n cap)] (w.alloc (.cells #[.int .i64 1, .int .i64 p, .int .i64 i, .int .i64 s, .int .i64 o, .slice ao n cap] 49))) := Left.first _ _ _ _ (by simp)
  go_enter Try.func61, Try.ntmps61
  go_wp2_with fail
  go_region_held3 (fun w' => w'.cell? ⟨w.heap.size, 0, none⟩ = some (.int .i64 1) ∧ w'.cell? ⟨w.heap.size, 1, none⟩ = some (.int .i64 p) ∧ w'.cell? ⟨w.heap.size, 2, none⟩ = some (.int .i64 i) ∧ w'.cell? ⟨w.heap.size, 3, none⟩ = some (.int .i64 s) ∧ w'.cell? ⟨w.heap.size, 4, none⟩ = some (.int .i64 o) ∧ w'.cell? ⟨w.heap.size, 5, none⟩ = some (.slice ao n cap)) (go_keep) (first | (go_at_call 63; refine (C1.out _ _ (new_cells (by simp)) (by simp) (HF.out.alloc _).draw).mono ?_; rintro e w1 ⟨rfl, m0, m1, m2, m3, m4, m5, HB1⟩) | (go_at_call 64; refine (C2.out _ HB1).mono ?_; rintro e w2 ⟨rfl, n0, n1, n2, n3, n4, n5, HB2⟩))
  all_goals go_wp2
  all_goals go_ret
  all_goals exact ⟨rfl, HB2.out.2.1⟩
set_option maxHeartbeats 1000000 in
theorem ltForm3 (p i s o : Int) (ao : Option Addr) (n cap : Nat) (w : World) (b : ByteArray) (HL : b.size ≤ 64)
    (C : Hid (∀ (w1 : World) (g : Nat), g = w1.heap.size → Calls Try.prog 63 #[.slice (some ⟨g, 0, none⟩) 3 3] (w1.alloc (.cells #[.int .i64 3, .int .i64 p, .int .i64 i] 3)) fun e w' => e = .returned (.string b) ∧ Below w1.heap.size w1 w')) :
    Calls Try.prog 61 #[.agg #[.int .i64 3, .int .i64 p, .int .i64 i, .int .i64 s, .int .i64 o, .slice ao n cap]] w fun e w' => e = .returned (.string (⟨#[76]⟩ ++ b)) ∧ Below w.heap.size w w' := by
  go_enter Try.func61, Try.ntmps61
  go_wp2_with fail
  refine (C.out _ _ (by simp)).mono ?_
  rintro e w1 ⟨rfl, hb⟩
  go_wp2
  go_ret
  refine ⟨rfl, ?_⟩
  have h3 : Below w.heap.size w (w.alloc (.cells #[.int .i64 3, .int .i64 p, .int .i64 i, .int .i64 s, .int .i64 o, .slice ao n cap] 49)) := (Below.refl _ _).alloc (Nat.le_refl _) _
  exact h3.trans (hb.mono h3.size)
set_option maxHeartbeats 1000000 in
theorem ltForm9 (p i s o : Int) (ao : Option Addr) (n cap : Nat) (w : World) (b : ByteArray) (HL : b.size ≤ 64)
    (C : Hid (∀ (w1 : World) (g : Nat), g = w1.heap.size → Calls Try.prog 63 #[.slice (some ⟨g, 0, none⟩) 3 3] (w1.alloc (.cells #[.int .i64 9, .int .i64 p, .int .i64 i] 3)) fun e w' => e = .returned (.string b) ∧ Below w1.heap.size w1 w')) :
    Calls Try.prog 61 #[.agg #[.int .i64 9, .int .i64 p, .int .i64 i, .int .i64 s, .int .i64 o, .slice ao n cap]] w fun e w' => e = .returned (.string (⟨#[76]⟩ ++ b)) ∧ Below w.heap.size w w' := by
  go_enter Try.func61, Try.ntmps61
  go_wp2_with fail
  refine (C.out _ _ (by simp)).mono ?_
  rintro e w1 ⟨rfl, hb⟩
  go_wp2
  go_ret
  refine ⟨rfl, ?_⟩
  have h3 : Below w.heap.size w (w.alloc (.cells #[.int .i64 9, .int .i64 p, .int .i64 i, .int .i64 s, .int .i64 o, .slice ao n cap] 49)) := (Below.refl _ _).alloc (Nat.le_refl _) _
  exact h3.trans (hb.mono h3.size)
set_option maxHeartbeats 1000000 in
theorem ltFormK (k p i s o : Int) (k1 : k ≠ 1) (k3 : k ≠ 3) (k9 : k ≠ 9) (ao : Option Addr) (n cap : Nat) (w : World) (b : ByteArray) (HL : b.size ≤ 64)
    (C : Hid (∀ (w1 : World) (g : Nat), g = w1.heap.size → Calls Try.prog 63 #[.slice (some ⟨g, 0, none⟩) 4 4] (w1.alloc (.cells #[.int .i64 k, .int .i64 p, .int .i64 i, .int .i64 s] 3)) fun e w' => e = .returned (.string b) ∧ Below w1.heap.size w1 w')) :
    Calls Try.prog 61 #[.agg #[.int .i64 k, .int .i64 p, .int .i64 i, .int .i64 s, .int .i64 o, .slice ao n cap]] w fun e w' => e = .returned (.string (⟨#[76]⟩ ++ b)) ∧ Below w.heap.size w w' := by
  have k1' : (k == 1) = false := beq_eq_false_iff_ne.2 k1
  have k3' : (k == 3) = false := beq_eq_false_iff_ne.2 k3
  have k9' : (k == 9) = false := beq_eq_false_iff_ne.2 k9
  go_enter Try.func61, Try.ntmps61
  go_wp2_with fail
  refine (C.out _ _ (by simp)).mono ?_
  rintro e w1 ⟨rfl, hb⟩
  go_wp2
  go_ret
  refine ⟨rfl, ?_⟩
  have h3 : Below w.heap.size w (w.alloc (.cells #[.int .i64 k, .int .i64 p, .int .i64 i, .int .i64 s, .int .i64 o, .slice ao n cap] 49)) := (Below.refl _ _).alloc (Nat.le_refl _) _
  exact h3.trans (hb.mono h3.size)
/-- The form of a letter. -/
def ltL (k p i s o : Nat) (xs : List (List UInt8)) : List UInt8 := 76 :: (if k = 1 then numsL [1, p, i, s, o] ++ PackMath.lst xs else if k = 3 then numsL [3, p, i] else if k = 9 then numsL [9, p, i] else numsL [k, p, i, s])
theorem small5 {a b c d e : Nat} (h : a ≤ 2000) (h' : b ≤ 2000) (h2 : c ≤ 2000) (h3 : d ≤ 2000) (h4 : e ≤ 2000) : Small [a, b, c, d, e] := fun x hx => by simp at hx; omega
theorem ltForm_any (k p i s o : Nat) (hk : k ≤ 2000) (hp : p ≤ 2000) (hi : i ≤ 2000) (hs : s ≤ 2000) (ho : o ≤ 2000) (v : Value) (xs : List (List UInt8)) (hx : xs.length ≤ 2) (hxs : ∀ s ∈ xs, s.length ≤ 2000) (hl : (PackMath.lst xs).length ≤ 4000) (w : World) (hS : SRow w v xs) :
    Calls Try.prog 61 #[.agg #[.int .i64 (k : Int), .int .i64 (p : Int), .int .i64 (i : Int), .int .i64 (s : Int), .int .i64 (o : Int), v]] w fun e w' => e = .returned (bstr (ltL k p i s o xs)) ∧ Below w.heap.size w w' := by
  obtain ⟨ao, cap, rfl, hca, hrow⟩ := id hS
  by_cases k1 : k = 1
  · subst k1
    have HS : Small [1, p, i, s, o] := small5 (by omega) hp hi hs ho
    have x := ltForm1 (p : Int) (i : Int) (s : Int) (o : Int) ao xs.length cap w (bA (numsL [1, p, i, s, o])) (bA (PackMath.lst xs)) (bA_nums HS (by simp)) (by rw [bA_size]; exact hl)
      (fun w1 g hc hg hl => (nums_any w1 _ [1, p, i, s, o] (by simp) HS (nrow_of hg rfl rfl hc)).mono (fun e w' ⟨he, hb⟩ => ⟨he, (hl.out.call hb).2.2 (0, .int .i64 1) (by simp), (hl.out.call hb).2.2 (1, .int .i64 (p : Int)) (by simp), (hl.out.call hb).2.2 (2, .int .i64 (i : Int)) (by simp), (hl.out.call hb).2.2 (3, .int .i64 (s : Int)) (by simp), (hl.out.call hb).2.2 (4, .int .i64 (o : Int)) (by simp), (hl.out.call hb).2.2 (5, .slice ao xs.length cap) (by simp), hl.out.call hb⟩))
      (fun w1 hl => (list_ok _ xs (by omega) hxs w1 (srow_below hS hl.out.2.1)).mono (fun e w' ⟨he, hb⟩ => ⟨he, (hl.out.call hb).2.2 (0, .int .i64 1) (by simp), (hl.out.call hb).2.2 (1, .int .i64 (p : Int)) (by simp), (hl.out.call hb).2.2 (2, .int .i64 (i : Int)) (by simp), (hl.out.call hb).2.2 (3, .int .i64 (s : Int)) (by simp), (hl.out.call hb).2.2 (4, .int .i64 (o : Int)) (by simp), (hl.out.call hb).2.2 (5, .slice ao xs.length cap) (by simp), hl.out.call hb⟩))
    rw [mk76] at x
    simp only [bA_app, List.append_assoc] at x
    exact x
  · by_cases k3 : k = 3
    · subst k3
      have HS : Small [3, p, i] := small3 (by omega) hp hi
      have x := ltForm3 (p : Int) (i : Int) (s : Int) (o : Int) ao xs.length cap w (bA (numsL [3, p, i])) (bA_nums HS (by simp)) (fun w1 g hg => by subst hg; exact nums_new [3, p, i] (by simp) HS w1 _ (by simp) _ (by simp) _)
      simp only [bstr_76] at x
      exact x
    · by_cases k9 : k = 9
      · subst k9
        have HS : Small [9, p, i] := small3 (by omega) hp hi
        have x := ltForm9 (p : Int) (i : Int) (s : Int) (o : Int) ao xs.length cap w (bA (numsL [9, p, i])) (bA_nums HS (by simp)) (fun w1 g hg => by subst hg; exact nums_new [9, p, i] (by simp) HS w1 _ (by simp) _ (by simp) _)
        simp only [bstr_76] at x
        exact x
      · have HS : Small [k, p, i, s] := small4 hk hp hi hs
        have x := ltFormK (k : Int) (p : Int) (i : Int) (s : Int) (o : Int) (by omega) (by omega) (by omega) ao xs.length cap w (bA (numsL [k, p, i, s])) (bA_nums HS (by simp)) (fun w1 g hg => by subst hg; exact nums_new [k, p, i, s] (by simp) HS w1 _ (by simp) _ (by simp) _)
        simp only [bstr_76] at x
        have e : ltL k p i s o xs = 76 :: numsL [k, p, i, s] := by unfold ltL; rw [if_neg k1, if_neg k3, if_neg k9]
        rw [e]
        exact x
theorem letter_call {k p i s o j : Int} {v e1 : Value} {w : World} (hv : ∃ ao n cap, v = .slice ao n cap)
    (C : Hid (∀ w1, Below w.heap.size w w1 → Calls Try.prog 18 #[.iface 49 (.agg #[.int .i64 k, .int .i64 p, .int .i64 i, .int .i64 s, .int .i64 o, v])] w1 fun e w' => e = .returned (.tuple #[e1, .int .i64 j]) ∧ Below w1.heap.size w1 w')) :
    Calls Try.prog 7 #[.agg #[.int .i64 k, .int .i64 p, .int .i64 i, .int .i64 s, .int .i64 o, v]] w fun e w' => e = .returned (.tuple #[e1, .int .i64 j]) ∧ Below w.heap.size w w' := by
  obtain ⟨ao, n, cap, rfl⟩ := hv
  go_enter Try.func7, Try.ntmps7
  go_wp2_with fail
  refine (C.out _ (by go_grown)).mono ?_
  rintro e w1 ⟨rfl, hb1⟩
  have HB1 : Hid (Below w.heap.size w w1) := ((Below.refl _ _).alloc (Nat.le_refl _) _).trans (hb1.mono (by rw [World.size_alloc]; omega))
  clear C hb1
  go_wp2_with fail
  go_ret2
  exact ⟨rfl, HB1.out⟩
theorem keysX_short {t : Tb} {xs : List (List UInt8)} (h : keysX t xs = true) : ∀ x ∈ xs, x.length ≤ 32 := fun x hx => by
  obtain ⟨j, hj, rfl⟩ := List.getElem_of_mem hx
  have ho := keysX_at h hj
  unfold okAt at ho
  rw [Bool.and_eq_true] at ho
  have hz := isNm_size ho.1
  have e : (tx xs j).size = xs[j].length := by unfold tx; simp [ByteArray.size, hj]
  omega
/-- What a letter that may be is like. -/
theorem ltMay_facts {t : Tb} {k p i s o : Int} {xs : List (List UInt8)} (h : ltMay t k p i s o xs = true) : (1 ≤ k ∧ k ≤ 9) ∧ (0 ≤ p ∧ p ≤ 3) ∧ (1 ≤ i ∧ i ≤ 60) ∧ (0 ≤ s ∧ s ≤ 7) ∧ (0 ≤ o ∧ o ≤ 3) ∧ xs.length ≤ 2 ∧ (∀ x ∈ xs, x.length ≤ 32) ∧ (k ≠ 1 → xs = [] ∧ o = 0) ∧ (k = 3 ∨ k = 9 → s = 0) := by
  unfold ltMay btw at h
  rw [Bool.and_eq_true, Bool.and_eq_true, Bool.and_eq_true] at h
  obtain ⟨⟨⟨h1, h2⟩, h4⟩, h3⟩ := h
  simp only [Bool.and_eq_true, decide_eq_true_eq] at h1 h2 h4
  split at h3
  · rename_i k1
    rw [Bool.and_eq_true] at h3
    simp only [Bool.and_eq_true, decide_eq_true_eq] at h3
    exact ⟨h1, h2, h4, by omega, by omega, keysX_len h3.2, keysX_short h3.2, fun hn => absurd k1 hn, fun h6 => by omega⟩
  · rename_i k1
    split at h3
    · simp only [Bool.and_eq_true, decide_eq_true_eq] at h3
      have hx : xs = [] := List.eq_nil_of_length_eq_zero h3.2
      subst hx
      exact ⟨h1, h2, h4, by omega, by omega, by simp, by simp, fun _ => ⟨rfl, h3.1.2⟩, fun _ => h3.1.1⟩
    · rename_i k6
      simp only [Bool.and_eq_true, decide_eq_true_eq] at h3
      have hx : xs = [] := List.eq_nil_of_length_eq_zero h3.2
      subst hx
      exact ⟨h1, h2, h4, h3.1.1, by omega, by simp, by simp, fun _ => ⟨rfl, h3.1.2⟩, fun hn => absurd hn k6⟩
theorem letter_yes (t : Tb) (k p i s o : Nat) (v : Value) (xs : List (List UInt8)) (w : World) (hT : Hid (TabX t w)) (hlow : Hid (0 < w.heap.size ∧ 1 < w.heap.size)) (hS : SRow w v xs) (hm : ltMay t k p i s o xs = true) :
    Calls Try.prog 7 #[.agg #[.int .i64 (k : Int), .int .i64 (p : Int), .int .i64 (i : Int), .int .i64 (s : Int), .int .i64 (o : Int), v]] w fun e w' => e = .returned (.tuple #[bstr (ltL k p i s o xs), .int .i64 0]) ∧ Below w.heap.size w w' := by
  obtain ⟨f1, f2, f3, f3b, f3c, f4, f5, _⟩ := ltMay_facts hm
  refine letter_call (by obtain ⟨ao, cap, rfl, _⟩ := hS; exact ⟨_, _, _, rfl⟩) (fun w1 hb1 => write_yesW _ _ _ _ _ w1 (m_letter_may _) (m_letter_form _) e_letter_may e_letter_form ?_ (fun w2 hb2 => ?_))
  · have x := ltMay_any t (k : Int) p i s o v xs (by omega) (fun x hx => by have := f5 x hx; omega) w1 (hT.out.below hb1 hlow.out) ⟨Nat.lt_of_lt_of_le hlow.out.1 hb1.size, Nat.lt_of_lt_of_le hlow.out.2 hb1.size⟩ (srow_below hS hb1)
    rw [hm] at x
    exact x
  · exact ltForm_any k p i s o (by omega) (by omega) (by omega) (by omega) (by omega) v xs f4 (fun x hx => by have := f5 x hx; omega) (by have := lst_small f4 f5; omega) w2 (srow_below (srow_below hS hb1) hb2)
theorem letter_no (t : Tb) (k p i s o : Int) (v : Value) (xs : List (List UInt8)) (hx : xs.length ≤ 140737488355328) (hxs : ∀ s ∈ xs, s.length ≤ 140737488351232) (w : World) (hT : Hid (TabX t w)) (hlow : Hid (0 < w.heap.size ∧ 1 < w.heap.size)) (hS : SRow w v xs) (hm : ltMay t k p i s o xs = false) :
    Calls Try.prog 7 #[.agg #[.int .i64 k, .int .i64 p, .int .i64 i, .int .i64 s, .int .i64 o, v]] w fun e w' => e = .returned (.tuple #[.string ⟨#[]⟩, .int .i64 1]) ∧ Below w.heap.size w w' := by
  refine letter_call (by obtain ⟨ao, cap, rfl, _⟩ := hS; exact ⟨_, _, _, rfl⟩) (fun w1 hb1 => write_noW _ _ _ w1 (m_letter_may _) e_letter_may ?_)
  have x := ltMay_any t k p i s o v xs hx hxs w1 (hT.out.below hb1 hlow.out) ⟨Nat.lt_of_lt_of_le hlow.out.1 hb1.size, Nat.lt_of_lt_of_le hlow.out.2 hb1.size⟩ (srow_below hS hb1)
  rw [hm] at x
  exact x
end Go.Proofs.Ytbgankldnjeohaa

/- Reading a letter: the shapes; and where the last of it is cut off. -/
set_option linter.unusedVariables false
set_option maxRecDepth 100000
namespace Go.Proofs.Ytbgankldnjeohaa.Pl
open Go.RowKit Go.Proofs.Ytbgankldnjeohaa

def vL (k p i s o : Int) (v : Value) : List Value := [.int .i64 k, .int .i64 p, .int .i64 i, .int .i64 s, .int .i64 o, v]
section
variable {B : Nat} {w wr : World} {rs : List Res}
set_option maxHeartbeats 2000000 in
theorem ltR3 {q p i : Nat} {S : ByteArray} (hS : S.size ≤ 4611686018427387904) (hS3 : 4 ≤ S.size) (h : Has B w (RdR q S 1 :: rs) wr) (tk : PackMath.tn (S.data.toList.drop 1) = (3, 1, 0)) (t0 : PackMath.tn (S.data.toList.drop 2) = (p, 1, 0)) (t1 : PackMath.tn (S.data.toList.drop 3) = (i, 1, 0)) :
    Calls Try.prog 32 #[.pointer (some ⟨q, 0, none⟩)] wr fun e w' => e = .returned (.agg (vL 3 (p : Int) (i : Int) 0 0 nilS).toArray) ∧ Has B w (RdR q S 4 :: rs) w' := by
  have CN : Hid (∀ (a n : Nat) (rs : List Res) (wq : World), a ≤ S.size → PackMath.tn (S.data.toList.drop a) = (n, 1, 0) → Has B w (RdR q S a :: rs) wq → Calls Try.prog 37 #[.pointer (some ⟨q, 0, none⟩)] wq fun e w' => e = .returned (.int .i64 (n : Int)) ∧ Hid (Has B w (RdR q S (a + 1) :: rs) w')) := fun a n rs wq ha ht hq => numR_ok hS ha hq ht
  have H0 : Hid (Has B w (RdR q S 1 :: BlockR (wr.heap.size + 1) (vL 0 0 0 0 0 nilS) :: BlockR wr.heap.size (vL 0 0 0 0 0 nilS) :: rs) ((wr.alloc (.cells #[.int .i64 0, .int .i64 0, .int .i64 0, .int .i64 0, .int .i64 0, .slice none 0 0] 49)).alloc (.cells #[.int .i64 0, .int .i64 0, .int .i64 0, .int .i64 0, .int .i64 0, .slice none 0 0] 49))) := by
    have x := ((h.box (vL 0 0 0 0 0 nilS) 49).box (vL 0 0 0 0 0 nilS) 49)
    rw [World.size_alloc] at x
    exact x.perm ((List.perm_middle (l₁ := [_, _]) (l₂ := rs)))
  have E := CN.out 1 3 _ _ (by omega) tk H0.out
  obtain ⟨rb, hrb⟩ : ∃ rb, wr.heap.size = rb := ⟨_, rfl⟩
  clear h H0
  rw [hrb] at E
  go_enter Try.func32, Try.ntmps32
  go_wp2_with fail
  refine E.mono ?_
  rintro e v0 ⟨rfl, G0⟩
  obtain ⟨nb, hnb⟩ : ∃ nb, rb + 1 = nb := ⟨_, rfl⟩
  rw [hnb] at G0
  have P0 : Hid (Has B w (RdR q S 2 :: BlockR nb (vL 3 0 0 0 0 nilS) :: BlockR rb (vL 0 0 0 0 0 nilS) :: rs) (v0.setCell ⟨nb, 0, none⟩ (.int .i64 3))) := ((G0.out.perm (List.Perm.swap _ _ _)).put 0 (by simp [vL]) (.int .i64 3)).perm (List.Perm.swap _ _ _)
  obtain ⟨e1, f1⟩ := G0.out.bcell (q := nb) (vs := (vL 0 0 0 0 0 nilS)) (by simp) 0 _ rfl
  obtain ⟨e0, _⟩ := P0.out.bcell (q := nb) (vs := (vL 3 0 0 0 0 nilS)) (by simp) 0 _ rfl
  clear E G0 hrb
  have E := CN.out 2 p _ _ (by omega) t0 P0.out
  go_wp2_with fail
  refine E.mono ?_
  rintro e v1 ⟨rfl, G1⟩
  have P1 : Hid (Has B w (RdR q S 3 :: BlockR nb (vL 3 (p : Int) 0 0 0 nilS) :: BlockR rb (vL 0 0 0 0 0 nilS) :: rs) (v1.setCell ⟨nb, 1, none⟩ (.int .i64 (p : Int)))) := ((G1.out.perm (List.Perm.swap _ _ _)).put 1 (by simp [vL]) (.int .i64 (p : Int))).perm (List.Perm.swap _ _ _)
  clear e0 e1 f1
  obtain ⟨e1, f1⟩ := G1.out.bcell (q := nb) (vs := (vL 3 0 0 0 0 nilS)) (by simp) 1 _ rfl
  obtain ⟨e0, _⟩ := P1.out.bcell (q := nb) (vs := (vL 3 (p : Int) 0 0 0 nilS)) (by simp) 0 _ rfl
  clear E G1 P0
  have E := CN.out 3 i _ _ (by omega) t1 P1.out
  go_wp2_with fail
  refine E.mono ?_
  rintro e v2 ⟨rfl, G2⟩
  have P2 : Hid (Has B w (RdR q S 4 :: BlockR nb (vL 3 (p : Int) (i : Int) 0 0 nilS) :: BlockR rb (vL 0 0 0 0 0 nilS) :: rs) (v2.setCell ⟨nb, 2, none⟩ (.int .i64 (i : Int)))) := ((G2.out.perm (List.Perm.swap _ _ _)).put 2 (by simp [vL]) (.int .i64 (i : Int))).perm (List.Perm.swap _ _ _)
  clear e0 e1 f1
  obtain ⟨e1, f1⟩ := G2.out.bcell (q := nb) (vs := (vL 3 (p : Int) 0 0 0 nilS)) (by simp) 2 _ rfl
  obtain ⟨e0, _⟩ := P2.out.bcell (q := nb) (vs := (vL 3 (p : Int) (i : Int) 0 0 nilS)) (by simp) 0 _ rfl
  clear E G2 P1
  have HPZ : Hid (Has B w (BlockR rb (vL 0 0 0 0 0 nilS) :: RdR q S 4 :: BlockR nb (vL 3 (p : Int) (i : Int) 0 0 nilS) :: rs) (v2.setCell ⟨nb, 2, none⟩ (.int .i64 (i : Int)))) := P2.out.perm (List.perm_middle (l₁ := [_, _]) (l₂ := rs))
  clear P2 e0
  clear CN
  obtain ⟨x0, _⟩ := HPZ.out.bcell (q := nb) (vs := (vL 3 (p : Int) (i : Int) 0 0 nilS)) (by simp) 0 _ rfl
  obtain ⟨x1, _⟩ := HPZ.out.bcell (q := nb) (vs := (vL 3 (p : Int) (i : Int) 0 0 nilS)) (by simp) 1 _ rfl
  obtain ⟨x2, _⟩ := HPZ.out.bcell (q := nb) (vs := (vL 3 (p : Int) (i : Int) 0 0 nilS)) (by simp) 2 _ rfl
  obtain ⟨x3, _⟩ := HPZ.out.bcell (q := nb) (vs := (vL 3 (p : Int) (i : Int) 0 0 nilS)) (by simp) 3 _ rfl
  obtain ⟨x4, _⟩ := HPZ.out.bcell (q := nb) (vs := (vL 3 (p : Int) (i : Int) 0 0 nilS)) (by simp) 4 _ rfl
  obtain ⟨x5, _⟩ := HPZ.out.bcell (q := nb) (vs := (vL 3 (p : Int) (i : Int) 0 0 nilS)) (by simp) 5 _ rfl
  obtain ⟨y0, g0⟩ := HPZ.out.bcell (q := rb) (vs := (vL 0 0 0 0 0 nilS)) (by simp) 0 _ rfl
  obtain ⟨y1, g1⟩ := HPZ.out.bcell (q := rb) (vs := (vL 0 0 0 0 0 nilS)) (by simp) 1 _ rfl
  obtain ⟨y2, g2⟩ := HPZ.out.bcell (q := rb) (vs := (vL 0 0 0 0 0 nilS)) (by simp) 2 _ rfl
  obtain ⟨y3, g3⟩ := HPZ.out.bcell (q := rb) (vs := (vL 0 0 0 0 0 nilS)) (by simp) 3 _ rfl
  obtain ⟨y4, g4⟩ := HPZ.out.bcell (q := rb) (vs := (vL 0 0 0 0 0 nilS)) (by simp) 4 _ rfl
  obtain ⟨y5, g5⟩ := HPZ.out.bcell (q := rb) (vs := (vL 0 0 0 0 0 nilS)) (by simp) 5 _ rfl
  have HQ : Hid (Has B w (BlockR rb (vL 3 (p : Int) (i : Int) 0 0 nilS) :: RdR q S 4 :: BlockR nb (vL 3 (p : Int) (i : Int) 0 0 nilS) :: rs) (setAll rb 0 (vL 3 (p : Int) (i : Int) 0 0 nilS) (v2.setCell ⟨nb, 2, none⟩ (.int .i64 (i : Int))))) := Has.puts (vL 3 (p : Int) (i : Int) 0 0 nilS) [] (vL 0 0 0 0 0 nilS) HPZ.out rfl
  clear HPZ
  go_wp2_with fail
  have HC : Hid (∀ j u, (vL 3 (p : Int) (i : Int) 0 0 nilS)[j]? = some u → (setAll rb 0 (vL 3 (p : Int) (i : Int) 0 0 nilS) (v2.setCell ⟨nb, 2, none⟩ (.int .i64 (i : Int)))).cell? ⟨rb, j, none⟩ = some u) := fun j u hu => (HQ.out.bcell (q := rb) (vs := (vL 3 (p : Int) (i : Int) 0 0 nilS)) (by simp) j u hu).1
  refine bodyPost_ret (results_row rfl _ _ rb (vL 3 (p : Int) (i : Int) 0 0 nilS) _ rfl HC.out Try.underlying49 rfl (by kernel_rfl)) rfl ⟨rfl, ?_⟩
  exact (HQ.out.drop.perm (List.Perm.swap _ _ _)).drop
set_option maxHeartbeats 2000000 in
theorem ltR9 {q p i : Nat} {S : ByteArray} (hS : S.size ≤ 4611686018427387904) (hS3 : 4 ≤ S.size) (h : Has B w (RdR q S 1 :: rs) wr) (tk : PackMath.tn (S.data.toList.drop 1) = (9, 1, 0)) (t0 : PackMath.tn (S.data.toList.drop 2) = (p, 1, 0)) (t1 : PackMath.tn (S.data.toList.drop 3) = (i, 1, 0)) :
    Calls Try.prog 32 #[.pointer (some ⟨q, 0, none⟩)] wr fun e w' => e = .returned (.agg (vL 9 (p : Int) (i : Int) 0 0 nilS).toArray) ∧ Has B w (RdR q S 4 :: rs) w' := by
  have CN : Hid (∀ (a n : Nat) (rs : List Res) (wq : World), a ≤ S.size → PackMath.tn (S.data.toList.drop a) = (n, 1, 0) → Has B w (RdR q S a :: rs) wq → Calls Try.prog 37 #[.pointer (some ⟨q, 0, none⟩)] wq fun e w' => e = .returned (.int .i64 (n : Int)) ∧ Hid (Has B w (RdR q S (a + 1) :: rs) w')) := fun a n rs wq ha ht hq => numR_ok hS ha hq ht
  have H0 : Hid (Has B w (RdR q S 1 :: BlockR (wr.heap.size + 1) (vL 0 0 0 0 0 nilS) :: BlockR wr.heap.size (vL 0 0 0 0 0 nilS) :: rs) ((wr.alloc (.cells #[.int .i64 0, .int .i64 0, .int .i64 0, .int .i64 0, .int .i64 0, .slice none 0 0] 49)).alloc (.cells #[.int .i64 0, .int .i64 0, .int .i64 0, .int .i64 0, .int .i64 0, .slice none 0 0] 49))) := by
    have x := ((h.box (vL 0 0 0 0 0 nilS) 49).box (vL 0 0 0 0 0 nilS) 49)
    rw [World.size_alloc] at x
    exact x.perm ((List.perm_middle (l₁ := [_, _]) (l₂ := rs)))
  have E := CN.out 1 9 _ _ (by omega) tk H0.out
  obtain ⟨rb, hrb⟩ : ∃ rb, wr.heap.size = rb := ⟨_, rfl⟩
  clear h H0
  rw [hrb] at E
  go_enter Try.func32, Try.ntmps32
  go_wp2_with fail
  refine E.mono ?_
  rintro e v0 ⟨rfl, G0⟩
  obtain ⟨nb, hnb⟩ : ∃ nb, rb + 1 = nb := ⟨_, rfl⟩
  rw [hnb] at G0
  have P0 : Hid (Has B w (RdR q S 2 :: BlockR nb (vL 9 0 0 0 0 nilS) :: BlockR rb (vL 0 0 0 0 0 nilS) :: rs) (v0.setCell ⟨nb, 0, none⟩ (.int .i64 9))) := ((G0.out.perm (List.Perm.swap _ _ _)).put 0 (by simp [vL]) (.int .i64 9)).perm (List.Perm.swap _ _ _)
  obtain ⟨e1, f1⟩ := G0.out.bcell (q := nb) (vs := (vL 0 0 0 0 0 nilS)) (by simp) 0 _ rfl
  obtain ⟨e0, _⟩ := P0.out.bcell (q := nb) (vs := (vL 9 0 0 0 0 nilS)) (by simp) 0 _ rfl
  clear E G0 hrb
  have E := CN.out 2 p _ _ (by omega) t0 P0.out
  go_wp2_with fail
  refine E.mono ?_
  rintro e v1 ⟨rfl, G1⟩
  have P1 : Hid (Has B w (RdR q S 3 :: BlockR nb (vL 9 (p : Int) 0 0 0 nilS) :: BlockR rb (vL 0 0 0 0 0 nilS) :: rs) (v1.setCell ⟨nb, 1, none⟩ (.int .i64 (p : Int)))) := ((G1.out.perm (List.Perm.swap _ _ _)).put 1 (by simp [vL]) (.int .i64 (p : Int))).perm (List.Perm.swap _ _ _)
  clear e0 e1 f1
  obtain ⟨e1, f1⟩ := G1.out.bcell (q := nb) (vs := (vL 9 0 0 0 0 nilS)) (by simp) 1 _ rfl
  obtain ⟨e0, _⟩ := P1.out.bcell (q := nb) (vs := (vL 9 (p : Int) 0 0 0 nilS)) (by simp) 0 _ rfl
  clear E G1 P0
  have E := CN.out 3 i _ _ (by omega) t1 P1.out
  go_wp2_with fail
  refine E.mono ?_
  rintro e v2 ⟨rfl, G2⟩
  have P2 : Hid (Has B w (RdR q S 4 :: BlockR nb (vL 9 (p : Int) (i : Int) 0 0 nilS) :: BlockR rb (vL 0 0 0 0 0 nilS) :: rs) (v2.setCell ⟨nb, 2, none⟩ (.int .i64 (i : Int)))) := ((G2.out.perm (List.Perm.swap _ _ _)).put 2 (by simp [vL]) (.int .i64 (i : Int))).perm (List.Perm.swap _ _ _)
  clear e0 e1 f1
  obtain ⟨e1, f1⟩ := G2.out.bcell (q := nb) (vs := (vL 9 (p : Int) 0 0 0 nilS)) (by simp) 2 _ rfl
  obtain ⟨e0, _⟩ := P2.out.bcell (q := nb) (vs := (vL 9 (p : Int) (i : Int) 0 0 nilS)) (by simp) 0 _ rfl
  clear E G2 P1
  have HPZ : Hid (Has B w (BlockR rb (vL 0 0 0 0 0 nilS) :: RdR q S 4 :: BlockR nb (vL 9 (p : Int) (i : Int) 0 0 nilS) :: rs) (v2.setCell ⟨nb, 2, none⟩ (.int .i64 (i : Int)))) := P2.out.perm (List.perm_middle (l₁ := [_, _]) (l₂ := rs))
  clear P2 e0
  clear CN
  obtain ⟨x0, _⟩ := HPZ.out.bcell (q := nb) (vs := (vL 9 (p : Int) (i : Int) 0 0 nilS)) (by simp) 0 _ rfl
  obtain ⟨x1, _⟩ := HPZ.out.bcell (q := nb) (vs := (vL 9 (p : Int) (i : Int) 0 0 nilS)) (by simp) 1 _ rfl
  obtain ⟨x2, _⟩ := HPZ.out.bcell (q := nb) (vs := (vL 9 (p : Int) (i : Int) 0 0 nilS)) (by simp) 2 _ rfl
  obtain ⟨x3, _⟩ := HPZ.out.bcell (q := nb) (vs := (vL 9 (p : Int) (i : Int) 0 0 nilS)) (by simp) 3 _ rfl
  obtain ⟨x4, _⟩ := HPZ.out.bcell (q := nb) (vs := (vL 9 (p : Int) (i : Int) 0 0 nilS)) (by simp) 4 _ rfl
  obtain ⟨x5, _⟩ := HPZ.out.bcell (q := nb) (vs := (vL 9 (p : Int) (i : Int) 0 0 nilS)) (by simp) 5 _ rfl
  obtain ⟨y0, g0⟩ := HPZ.out.bcell (q := rb) (vs := (vL 0 0 0 0 0 nilS)) (by simp) 0 _ rfl
  obtain ⟨y1, g1⟩ := HPZ.out.bcell (q := rb) (vs := (vL 0 0 0 0 0 nilS)) (by simp) 1 _ rfl
  obtain ⟨y2, g2⟩ := HPZ.out.bcell (q := rb) (vs := (vL 0 0 0 0 0 nilS)) (by simp) 2 _ rfl
  obtain ⟨y3, g3⟩ := HPZ.out.bcell (q := rb) (vs := (vL 0 0 0 0 0 nilS)) (by simp) 3 _ rfl
  obtain ⟨y4, g4⟩ := HPZ.out.bcell (q := rb) (vs := (vL 0 0 0 0 0 nilS)) (by simp) 4 _ rfl
  obtain ⟨y5, g5⟩ := HPZ.out.bcell (q := rb) (vs := (vL 0 0 0 0 0 nilS)) (by simp) 5 _ rfl
  have HQ : Hid (Has B w (BlockR rb (vL 9 (p : Int) (i : Int) 0 0 nilS) :: RdR q S 4 :: BlockR nb (vL 9 (p : Int) (i : Int) 0 0 nilS) :: rs) (setAll rb 0 (vL 9 (p : Int) (i : Int) 0 0 nilS) (v2.setCell ⟨nb, 2, none⟩ (.int .i64 (i : Int))))) := Has.puts (vL 9 (p : Int) (i : Int) 0 0 nilS) [] (vL 0 0 0 0 0 nilS) HPZ.out rfl
  clear HPZ
  go_wp2_with fail
  have HC : Hid (∀ j u, (vL 9 (p : Int) (i : Int) 0 0 nilS)[j]? = some u → (setAll rb 0 (vL 9 (p : Int) (i : Int) 0 0 nilS) (v2.setCell ⟨nb, 2, none⟩ (.int .i64 (i : Int)))).cell? ⟨rb, j, none⟩ = some u) := fun j u hu => (HQ.out.bcell (q := rb) (vs := (vL 9 (p : Int) (i : Int) 0 0 nilS)) (by simp) j u hu).1
  refine bodyPost_ret (results_row rfl _ _ rb (vL 9 (p : Int) (i : Int) 0 0 nilS) _ rfl HC.out Try.underlying49 rfl (by kernel_rfl)) rfl ⟨rfl, ?_⟩
  exact (HQ.out.drop.perm (List.Perm.swap _ _ _)).drop
set_option maxHeartbeats 2000000 in
theorem ltRK {q k p i s : Nat} {S : ByteArray} (hS : S.size ≤ 4611686018427387904) (hS3 : 5 ≤ S.size) (h : Has B w (RdR q S 1 :: rs) wr) (tk : PackMath.tn (S.data.toList.drop 1) = (k, 1, 0)) (t0 : PackMath.tn (S.data.toList.drop 2) = (p, 1, 0)) (t1 : PackMath.tn (S.data.toList.drop 3) = (i, 1, 0)) (t2 : PackMath.tn (S.data.toList.drop 4) = (s, 1, 0)) (k1 : k ≠ 1) (k3 : k ≠ 3) (k9 : k ≠ 9) :
    Calls Try.prog 32 #[.pointer (some ⟨q, 0, none⟩)] wr fun e w' => e = .returned (.agg (vL (k : Int) (p : Int) (i : Int) (s : Int) 0 nilS).toArray) ∧ Has B w (RdR q S 5 :: rs) w' := by
  have CN : Hid (∀ (a n : Nat) (rs : List Res) (wq : World), a ≤ S.size → PackMath.tn (S.data.toList.drop a) = (n, 1, 0) → Has B w (RdR q S a :: rs) wq → Calls Try.prog 37 #[.pointer (some ⟨q, 0, none⟩)] wq fun e w' => e = .returned (.int .i64 (n : Int)) ∧ Hid (Has B w (RdR q S (a + 1) :: rs) w')) := fun a n rs wq ha ht hq => numR_ok hS ha hq ht
  have k1' : ((k : Int) == 1) = false := beq_eq_false_iff_ne.2 (by omega)
  have k3' : ((k : Int) == 3) = false := beq_eq_false_iff_ne.2 (by omega)
  have k9' : ((k : Int) == 9) = false := beq_eq_false_iff_ne.2 (by omega)
  have k3n : ((k : Int) != 3) = true := by simp [bne, k3']
  have k9n : ((k : Int) != 9) = true := by simp [bne, k9']
  have k3m : ¬ (k : Int) = 3 := by omega
  have k9m : ¬ (k : Int) = 9 := by omega
  have H0 : Hid (Has B w (RdR q S 1 :: BlockR (wr.heap.size + 1) (vL 0 0 0 0 0 nilS) :: BlockR wr.heap.size (vL 0 0 0 0 0 nilS) :: rs) ((wr.alloc (.cells #[.int .i64 0, .int .i64 0, .int .i64 0, .int .i64 0, .int .i64 0, .slice none 0 0] 49)).alloc (.cells #[.int .i64 0, .int .i64 0, .int .i64 0, .int .i64 0, .int .i64 0, .slice none 0 0] 49))) := by
    have x := ((h.box (vL 0 0 0 0 0 nilS) 49).box (vL 0 0 0 0 0 nilS) 49)
    rw [World.size_alloc] at x
    exact x.perm ((List.perm_middle (l₁ := [_, _]) (l₂ := rs)))
  have E := CN.out 1 k _ _ (by omega) tk H0.out
  obtain ⟨rb, hrb⟩ : ∃ rb, wr.heap.size = rb := ⟨_, rfl⟩
  clear h H0
  rw [hrb] at E
  go_enter Try.func32, Try.ntmps32
  go_wp2_with fail
  refine E.mono ?_
  rintro e v0 ⟨rfl, G0⟩
  obtain ⟨nb, hnb⟩ : ∃ nb, rb + 1 = nb := ⟨_, rfl⟩
  rw [hnb] at G0
  have P0 : Hid (Has B w (RdR q S 2 :: BlockR nb (vL (k : Int) 0 0 0 0 nilS) :: BlockR rb (vL 0 0 0 0 0 nilS) :: rs) (v0.setCell ⟨nb, 0, none⟩ (.int .i64 (k : Int)))) := ((G0.out.perm (List.Perm.swap _ _ _)).put 0 (by simp [vL]) (.int .i64 (k : Int))).perm (List.Perm.swap _ _ _)
  obtain ⟨e1, f1⟩ := G0.out.bcell (q := nb) (vs := (vL 0 0 0 0 0 nilS)) (by simp) 0 _ rfl
  obtain ⟨e0, _⟩ := P0.out.bcell (q := nb) (vs := (vL (k : Int) 0 0 0 0 nilS)) (by simp) 0 _ rfl
  clear E G0 hrb
  have E := CN.out 2 p _ _ (by omega) t0 P0.out
  go_wp2_with fail
  refine E.mono ?_
  rintro e v1 ⟨rfl, G1⟩
  have P1 : Hid (Has B w (RdR q S 3 :: BlockR nb (vL (k : Int) (p : Int) 0 0 0 nilS) :: BlockR rb (vL 0 0 0 0 0 nilS) :: rs) (v1.setCell ⟨nb, 1, none⟩ (.int .i64 (p : Int)))) := ((G1.out.perm (List.Perm.swap _ _ _)).put 1 (by simp [vL]) (.int .i64 (p : Int))).perm (List.Perm.swap _ _ _)
  clear e0 e1 f1
  obtain ⟨e1, f1⟩ := G1.out.bcell (q := nb) (vs := (vL (k : Int) 0 0 0 0 nilS)) (by simp) 1 _ rfl
  obtain ⟨e0, _⟩ := P1.out.bcell (q := nb) (vs := (vL (k : Int) (p : Int) 0 0 0 nilS)) (by simp) 0 _ rfl
  clear E G1 P0
  have E := CN.out 3 i _ _ (by omega) t1 P1.out
  go_wp2_with fail
  refine E.mono ?_
  rintro e v2 ⟨rfl, G2⟩
  have P2 : Hid (Has B w (RdR q S 4 :: BlockR nb (vL (k : Int) (p : Int) (i : Int) 0 0 nilS) :: BlockR rb (vL 0 0 0 0 0 nilS) :: rs) (v2.setCell ⟨nb, 2, none⟩ (.int .i64 (i : Int)))) := ((G2.out.perm (List.Perm.swap _ _ _)).put 2 (by simp [vL]) (.int .i64 (i : Int))).perm (List.Perm.swap _ _ _)
  clear e0 e1 f1
  obtain ⟨e1, f1⟩ := G2.out.bcell (q := nb) (vs := (vL (k : Int) (p : Int) 0 0 0 nilS)) (by simp) 2 _ rfl
  obtain ⟨e0, _⟩ := P2.out.bcell (q := nb) (vs := (vL (k : Int) (p : Int) (i : Int) 0 0 nilS)) (by simp) 0 _ rfl
  clear E G2 P1
  have E := CN.out 4 s _ _ (by omega) t2 P2.out
  go_wp2_with fail
  refine E.mono ?_
  rintro e v3 ⟨rfl, G3⟩
  have P3 : Hid (Has B w (RdR q S 5 :: BlockR nb (vL (k : Int) (p : Int) (i : Int) (s : Int) 0 nilS) :: BlockR rb (vL 0 0 0 0 0 nilS) :: rs) (v3.setCell ⟨nb, 3, none⟩ (.int .i64 (s : Int)))) := ((G3.out.perm (List.Perm.swap _ _ _)).put 3 (by simp [vL]) (.int .i64 (s : Int))).perm (List.Perm.swap _ _ _)
  clear e0 e1 f1
  obtain ⟨e1, f1⟩ := G3.out.bcell (q := nb) (vs := (vL (k : Int) (p : Int) (i : Int) 0 0 nilS)) (by simp) 3 _ rfl
  obtain ⟨e0, _⟩ := P3.out.bcell (q := nb) (vs := (vL (k : Int) (p : Int) (i : Int) (s : Int) 0 nilS)) (by simp) 0 _ rfl
  clear E G3 P2
  have HPZ : Hid (Has B w (BlockR rb (vL 0 0 0 0 0 nilS) :: RdR q S 5 :: BlockR nb (vL (k : Int) (p : Int) (i : Int) (s : Int) 0 nilS) :: rs) (v3.setCell ⟨nb, 3, none⟩ (.int .i64 (s : Int)))) := P3.out.perm (List.perm_middle (l₁ := [_, _]) (l₂ := rs))
  clear P3 e0
  clear CN
  obtain ⟨x0, _⟩ := HPZ.out.bcell (q := nb) (vs := (vL (k : Int) (p : Int) (i : Int) (s : Int) 0 nilS)) (by simp) 0 _ rfl
  obtain ⟨x1, _⟩ := HPZ.out.bcell (q := nb) (vs := (vL (k : Int) (p : Int) (i : Int) (s : Int) 0 nilS)) (by simp) 1 _ rfl
  obtain ⟨x2, _⟩ := HPZ.out.bcell (q := nb) (vs := (vL (k : Int) (p : Int) (i : Int) (s : Int) 0 nilS)) (by simp) 2 _ rfl
  obtain ⟨x3, _⟩ := HPZ.out.bcell (q := nb) (vs := (vL (k : Int) (p : Int) (i : Int) (s : Int) 0 nilS)) (by simp) 3 _ rfl
  obtain ⟨x4, _⟩ := HPZ.out.bcell (q := nb) (vs := (vL (k : Int) (p : Int) (i : Int) (s : Int) 0 nilS)) (by simp) 4 _ rfl
  obtain ⟨x5, _⟩ := HPZ.out.bcell (q := nb) (vs := (vL (k : Int) (p : Int) (i : Int) (s : Int) 0 nilS)) (by simp) 5 _ rfl
  obtain ⟨y0, g0⟩ := HPZ.out.bcell (q := rb) (vs := (vL 0 0 0 0 0 nilS)) (by simp) 0 _ rfl
  obtain ⟨y1, g1⟩ := HPZ.out.bcell (q := rb) (vs := (vL 0 0 0 0 0 nilS)) (by simp) 1 _ rfl
  obtain ⟨y2, g2⟩ := HPZ.out.bcell (q := rb) (vs := (vL 0 0 0 0 0 nilS)) (by simp) 2 _ rfl
  obtain ⟨y3, g3⟩ := HPZ.out.bcell (q := rb) (vs := (vL 0 0 0 0 0 nilS)) (by simp) 3 _ rfl
  obtain ⟨y4, g4⟩ := HPZ.out.bcell (q := rb) (vs := (vL 0 0 0 0 0 nilS)) (by simp) 4 _ rfl
  obtain ⟨y5, g5⟩ := HPZ.out.bcell (q := rb) (vs := (vL 0 0 0 0 0 nilS)) (by simp) 5 _ rfl
  have HQ : Hid (Has B w (BlockR rb (vL (k : Int) (p : Int) (i : Int) (s : Int) 0 nilS) :: RdR q S 5 :: BlockR nb (vL (k : Int) (p : Int) (i : Int) (s : Int) 0 nilS) :: rs) (setAll rb 0 (vL (k : Int) (p : Int) (i : Int) (s : Int) 0 nilS) (v3.setCell ⟨nb, 3, none⟩ (.int .i64 (s : Int))))) := Has.puts (vL (k : Int) (p : Int) (i : Int) (s : Int) 0 nilS) [] (vL 0 0 0 0 0 nilS) HPZ.out rfl
  clear HPZ
  go_wp2_with fail
  have HC : Hid (∀ j u, (vL (k : Int) (p : Int) (i : Int) (s : Int) 0 nilS)[j]? = some u → (setAll rb 0 (vL (k : Int) (p : Int) (i : Int) (s : Int) 0 nilS) (v3.setCell ⟨nb, 3, none⟩ (.int .i64 (s : Int)))).cell? ⟨rb, j, none⟩ = some u) := fun j u hu => (HQ.out.bcell (q := rb) (vs := (vL (k : Int) (p : Int) (i : Int) (s : Int) 0 nilS)) (by simp) j u hu).1
  refine bodyPost_ret (results_row rfl _ _ rb (vL (k : Int) (p : Int) (i : Int) (s : Int) 0 nilS) _ rfl HC.out Try.underlying49 rfl (by kernel_rfl)) rfl ⟨rfl, ?_⟩
  exact (HQ.out.drop.perm (List.Perm.swap _ _ _)).drop
set_option maxHeartbeats 2000000 in
theorem ltR1 {q p i s o c : Nat} {xs : List (List UInt8)} {S : ByteArray} (hS : S.size ≤ 4611686018427387904) (hS3 : 6 ≤ S.size) (h : Has B w (RdR q S 1 :: rs) wr) (tk : PackMath.tn (S.data.toList.drop 1) = (1, 1, 0)) (t0 : PackMath.tn (S.data.toList.drop 2) = (p, 1, 0)) (t1 : PackMath.tn (S.data.toList.drop 3) = (i, 1, 0)) (t2 : PackMath.tn (S.data.toList.drop 4) = (s, 1, 0)) (t3 : PackMath.tn (S.data.toList.drop 5) = (o, 1, 0)) (tq : PackMath.tl (S.data.toList.drop 6) = (xs, c, 0)) :
    Calls Try.prog 32 #[.pointer (some ⟨q, 0, none⟩)] wr fun e w' => ∃ ao cap, e = .returned (.agg (vL 1 (p : Int) (i : Int) (s : Int) (o : Int) (.slice ao xs.length cap)).toArray) ∧ Hid (Has B w (RdR q S (6 + c) :: TR (.slice ao xs.length cap) xs :: rs) w') := by
  have CN : Hid (∀ (a n : Nat) (rs : List Res) (wq : World), a ≤ S.size → PackMath.tn (S.data.toList.drop a) = (n, 1, 0) → Has B w (RdR q S a :: rs) wq → Calls Try.prog 37 #[.pointer (some ⟨q, 0, none⟩)] wq fun e w' => e = .returned (.int .i64 (n : Int)) ∧ Hid (Has B w (RdR q S (a + 1) :: rs) w')) := fun a n rs wq ha ht hq => numR_ok hS ha hq ht
  have CK : Hid (∀ (rs : List Res) (wq : World), Has B w (RdR q S 6 :: rs) wq → Calls Try.prog 38 #[.pointer (some ⟨q, 0, none⟩)] wq fun e w' => ∃ v, e = .returned v ∧ (∃ ao cap, v = .slice ao xs.length cap) ∧ Hid (Has B w (RdR q S (6 + c) :: TR v xs :: rs) w')) := fun rs wq hq => keysR_ok hS hS3 hq tq
  have H0 : Hid (Has B w (RdR q S 1 :: BlockR (wr.heap.size + 1) (vL 0 0 0 0 0 nilS) :: BlockR wr.heap.size (vL 0 0 0 0 0 nilS) :: rs) ((wr.alloc (.cells #[.int .i64 0, .int .i64 0, .int .i64 0, .int .i64 0, .int .i64 0, .slice none 0 0] 49)).alloc (.cells #[.int .i64 0, .int .i64 0, .int .i64 0, .int .i64 0, .int .i64 0, .slice none 0 0] 49))) := by
    have x := ((h.box (vL 0 0 0 0 0 nilS) 49).box (vL 0 0 0 0 0 nilS) 49)
    rw [World.size_alloc] at x
    exact x.perm ((List.perm_middle (l₁ := [_, _]) (l₂ := rs)))
  have E := CN.out 1 1 _ _ (by omega) tk H0.out
  obtain ⟨rb, hrb⟩ : ∃ rb, wr.heap.size = rb := ⟨_, rfl⟩
  clear h H0
  rw [hrb] at E
  go_enter Try.func32, Try.ntmps32
  go_wp2_with fail
  refine E.mono ?_
  rintro e v0 ⟨rfl, G0⟩
  obtain ⟨nb, hnb⟩ : ∃ nb, rb + 1 = nb := ⟨_, rfl⟩
  rw [hnb] at G0
  have P0 : Hid (Has B w (RdR q S 2 :: BlockR nb (vL 1 0 0 0 0 nilS) :: BlockR rb (vL 0 0 0 0 0 nilS) :: rs) (v0.setCell ⟨nb, 0, none⟩ (.int .i64 1))) := ((G0.out.perm (List.Perm.swap _ _ _)).put 0 (by simp [vL]) (.int .i64 1)).perm (List.Perm.swap _ _ _)
  obtain ⟨e1, f1⟩ := G0.out.bcell (q := nb) (vs := (vL 0 0 0 0 0 nilS)) (by simp) 0 _ rfl
  obtain ⟨e0, _⟩ := P0.out.bcell (q := nb) (vs := (vL 1 0 0 0 0 nilS)) (by simp) 0 _ rfl
  clear E G0 hrb
  have E := CN.out 2 p _ _ (by omega) t0 P0.out
  go_wp2_with fail
  refine E.mono ?_
  rintro e v1 ⟨rfl, G1⟩
  have P1 : Hid (Has B w (RdR q S 3 :: BlockR nb (vL 1 (p : Int) 0 0 0 nilS) :: BlockR rb (vL 0 0 0 0 0 nilS) :: rs) (v1.setCell ⟨nb, 1, none⟩ (.int .i64 (p : Int)))) := ((G1.out.perm (List.Perm.swap _ _ _)).put 1 (by simp [vL]) (.int .i64 (p : Int))).perm (List.Perm.swap _ _ _)
  clear e0 e1 f1
  obtain ⟨e1, f1⟩ := G1.out.bcell (q := nb) (vs := (vL 1 0 0 0 0 nilS)) (by simp) 1 _ rfl
  obtain ⟨e0, _⟩ := P1.out.bcell (q := nb) (vs := (vL 1 (p : Int) 0 0 0 nilS)) (by simp) 0 _ rfl
  clear E G1 P0
  have E := CN.out 3 i _ _ (by omega) t1 P1.out
  go_wp2_with fail
  refine E.mono ?_
  rintro e v2 ⟨rfl, G2⟩
  have P2 : Hid (Has B w (RdR q S 4 :: BlockR nb (vL 1 (p : Int) (i : Int) 0 0 nilS) :: BlockR rb (vL 0 0 0 0 0 nilS) :: rs) (v2.setCell ⟨nb, 2, none⟩ (.int .i64 (i : Int)))) := ((G2.out.perm (List.Perm.swap _ _ _)).put 2 (by simp [vL]) (.int .i64 (i : Int))).perm (List.Perm.swap _ _ _)
  clear e0 e1 f1
  obtain ⟨e1, f1⟩ := G2.out.bcell (q := nb) (vs := (vL 1 (p : Int) 0 0 0 nilS)) (by simp) 2 _ rfl
  obtain ⟨e0, _⟩ := P2.out.bcell (q := nb) (vs := (vL 1 (p : Int) (i : Int) 0 0 nilS)) (by simp) 0 _ rfl
  clear E G2 P1
  have E := CN.out 4 s _ _ (by omega) t2 P2.out
  go_wp2_with fail
  refine E.mono ?_
  rintro e v3 ⟨rfl, G3⟩
  have P3 : Hid (Has B w (RdR q S 5 :: BlockR nb (vL 1 (p : Int) (i : Int) (s : Int) 0 nilS) :: BlockR rb (vL 0 0 0 0 0 nilS) :: rs) (v3.setCell ⟨nb, 3, none⟩ (.int .i64 (s : Int)))) := ((G3.out.perm (List.Perm.swap _ _ _)).put 3 (by simp [vL]) (.int .i64 (s : Int))).perm (List.Perm.swap _ _ _)
  clear e0 e1 f1
  obtain ⟨e1, f1⟩ := G3.out.bcell (q := nb) (vs := (vL 1 (p : Int) (i : Int) 0 0 nilS)) (by simp) 3 _ rfl
  obtain ⟨e0, _⟩ := P3.out.bcell (q := nb) (vs := (vL 1 (p : Int) (i : Int) (s : Int) 0 nilS)) (by simp) 0 _ rfl
  clear E G3 P2
  have E := CN.out 5 o _ _ (by omega) t3 P3.out
  go_wp2_with fail
  refine E.mono ?_
  rintro e v4 ⟨rfl, G4⟩
  have P4 : Hid (Has B w (RdR q S 6 :: BlockR nb (vL 1 (p : Int) (i : Int) (s : Int) (o : Int) nilS) :: BlockR rb (vL 0 0 0 0 0 nilS) :: rs) (v4.setCell ⟨nb, 4, none⟩ (.int .i64 (o : Int)))) := ((G4.out.perm (List.Perm.swap _ _ _)).put 4 (by simp [vL]) (.int .i64 (o : Int))).perm (List.Perm.swap _ _ _)
  clear e0 e1 f1
  obtain ⟨e1, f1⟩ := G4.out.bcell (q := nb) (vs := (vL 1 (p : Int) (i : Int) (s : Int) 0 nilS)) (by simp) 4 _ rfl
  obtain ⟨e0, _⟩ := P4.out.bcell (q := nb) (vs := (vL 1 (p : Int) (i : Int) (s : Int) (o : Int) nilS)) (by simp) 0 _ rfl
  clear E G4 P3
  have E := CK.out _ _ P4.out
  go_wp2_with fail
  refine E.mono ?_
  rintro e w4 ⟨v, rfl, ⟨ao, cap, rfl⟩, H4⟩
  have HX4 := H4.out.perm (List.perm_middle (l₁ := [_, _]) (a := BlockR nb (vL 1 (p : Int) (i : Int) (s : Int) (o : Int) nilS)))
  have HP4 : Hid (Has B w (BlockR nb (vL 1 (p : Int) (i : Int) (s : Int) (o : Int) (.slice ao xs.length cap)) :: RdR q S (6 + c) :: TR (.slice ao xs.length cap) xs :: BlockR rb (vL 0 0 0 0 0 nilS) :: rs) (w4.setCell ⟨nb, 5, none⟩ (.slice ao xs.length cap))) := HX4.put 5 (by simp [vL]) (.slice ao xs.length cap)
  clear e0 e1 f1
  obtain ⟨e1, f1⟩ := HX4.bcell (q := nb) (vs := (vL 1 (p : Int) (i : Int) (s : Int) (o : Int) nilS)) (by simp) 5 _ rfl
  have HPZ : Hid (Has B w (BlockR rb (vL 0 0 0 0 0 nilS) :: BlockR nb (vL 1 (p : Int) (i : Int) (s : Int) (o : Int) (.slice ao xs.length cap)) :: RdR q S (6 + c) :: TR (.slice ao xs.length cap) xs :: rs) (w4.setCell ⟨nb, 5, none⟩ (.slice ao xs.length cap))) := HP4.out.perm (List.perm_middle (l₁ := [_, _, _]) (l₂ := rs))
  clear E P4 H4 HX4 HP4 CK
  clear CN
  obtain ⟨x0, _⟩ := HPZ.out.bcell (q := nb) (vs := (vL 1 (p : Int) (i : Int) (s : Int) (o : Int) (.slice ao xs.length cap))) (by simp) 0 _ rfl
  obtain ⟨x1, _⟩ := HPZ.out.bcell (q := nb) (vs := (vL 1 (p : Int) (i : Int) (s : Int) (o : Int) (.slice ao xs.length cap))) (by simp) 1 _ rfl
  obtain ⟨x2, _⟩ := HPZ.out.bcell (q := nb) (vs := (vL 1 (p : Int) (i : Int) (s : Int) (o : Int) (.slice ao xs.length cap))) (by simp) 2 _ rfl
  obtain ⟨x3, _⟩ := HPZ.out.bcell (q := nb) (vs := (vL 1 (p : Int) (i : Int) (s : Int) (o : Int) (.slice ao xs.length cap))) (by simp) 3 _ rfl
  obtain ⟨x4, _⟩ := HPZ.out.bcell (q := nb) (vs := (vL 1 (p : Int) (i : Int) (s : Int) (o : Int) (.slice ao xs.length cap))) (by simp) 4 _ rfl
  obtain ⟨x5, _⟩ := HPZ.out.bcell (q := nb) (vs := (vL 1 (p : Int) (i : Int) (s : Int) (o : Int) (.slice ao xs.length cap))) (by simp) 5 _ rfl
  obtain ⟨y0, g0⟩ := HPZ.out.bcell (q := rb) (vs := (vL 0 0 0 0 0 nilS)) (by simp) 0 _ rfl
  obtain ⟨y1, g1⟩ := HPZ.out.bcell (q := rb) (vs := (vL 0 0 0 0 0 nilS)) (by simp) 1 _ rfl
  obtain ⟨y2, g2⟩ := HPZ.out.bcell (q := rb) (vs := (vL 0 0 0 0 0 nilS)) (by simp) 2 _ rfl
  obtain ⟨y3, g3⟩ := HPZ.out.bcell (q := rb) (vs := (vL 0 0 0 0 0 nilS)) (by simp) 3 _ rfl
  obtain ⟨y4, g4⟩ := HPZ.out.bcell (q := rb) (vs := (vL 0 0 0 0 0 nilS)) (by simp) 4 _ rfl
  obtain ⟨y5, g5⟩ := HPZ.out.bcell (q := rb) (vs := (vL 0 0 0 0 0 nilS)) (by simp) 5 _ rfl
  have HQ : Hid (Has B w (BlockR rb (vL 1 (p : Int) (i : Int) (s : Int) (o : Int) (.slice ao xs.length cap)) :: BlockR nb (vL 1 (p : Int) (i : Int) (s : Int) (o : Int) (.slice ao xs.length cap)) :: RdR q S (6 + c) :: TR (.slice ao xs.length cap) xs :: rs) (setAll rb 0 (vL 1 (p : Int) (i : Int) (s : Int) (o : Int) (.slice ao xs.length cap)) (w4.setCell ⟨nb, 5, none⟩ (.slice ao xs.length cap)))) := Has.puts (vL 1 (p : Int) (i : Int) (s : Int) (o : Int) (.slice ao xs.length cap)) [] (vL 0 0 0 0 0 nilS) HPZ.out rfl
  clear HPZ
  go_wp2_with fail
  have HC : Hid (∀ j u, (vL 1 (p : Int) (i : Int) (s : Int) (o : Int) (.slice ao xs.length cap))[j]? = some u → (setAll rb 0 (vL 1 (p : Int) (i : Int) (s : Int) (o : Int) (.slice ao xs.length cap)) (w4.setCell ⟨nb, 5, none⟩ (.slice ao xs.length cap))).cell? ⟨rb, j, none⟩ = some u) := fun j u hu => (HQ.out.bcell (q := rb) (vs := (vL 1 (p : Int) (i : Int) (s : Int) (o : Int) (.slice ao xs.length cap))) (by simp) j u hu).1
  refine bodyPost_ret (results_row rfl _ _ rb (vL 1 (p : Int) (i : Int) (s : Int) (o : Int) (.slice ao xs.length cap)) _ rfl HC.out Try.underlying49 rfl (by kernel_rfl)) rfl ⟨_, _, rfl, ?_⟩
  exact HQ.out.drop.drop
end
end Go.Proofs.Ytbgankldnjeohaa.Pl

/- Reading the form of a letter, whatever stands behind it: letter, value. -/
set_option linter.unusedVariables false
set_option linter.unusedSimpArgs false
set_option maxRecDepth 100000
namespace Go.Proofs.Ytbgankldnjeohaa.Pl
open Go.RowKit Go.Proofs.Ytbgankldnjeohaa

theorem nums_4 {a b c d : Nat} (ha : a < 128) (hb : b < 128) (hc : c < 128) (hd : d < 128) : numsL [a, b, c, d] = [UInt8.ofNat a, UInt8.ofNat b, UInt8.ofNat c, UInt8.ofNat d] := by
  unfold numsL
  simp [PackMath.num_lt a ha, PackMath.num_lt b hb, PackMath.num_lt c hc, PackMath.num_lt d hd]
theorem nums_5 {a b c d e : Nat} (ha : a < 128) (hb : b < 128) (hc : c < 128) (hd : d < 128) (he : e < 128) : numsL [a, b, c, d, e] = [UInt8.ofNat a, UInt8.ofNat b, UInt8.ofNat c, UInt8.ofNat d, UInt8.ofNat e] := by
  unfold numsL
  simp [PackMath.num_lt a ha, PackMath.num_lt b hb, PackMath.num_lt c hc, PackMath.num_lt d hd, PackMath.num_lt e he]
section
variable {B : Nat} {w wr : World} {rs : List Res}
theorem letterR_any {q k p i s o : Nat} {S : ByteArray} {xs : List (List UInt8)} {r : List UInt8} (hS : S.size ≤ 4611686018427387904) (hk : 1 ≤ k ∧ k ≤ 9) (hp : p ≤ 3) (hi : i ≤ 60) (hs : s ≤ 7) (ho : o ≤ 3) (hx : xs.length ≤ 4000) (hxs : ∀ x ∈ xs, x.length ≤ 2000) (hn : k ≠ 1 → xs = [] ∧ o = 0) (h6 : k = 3 ∨ k = 9 → s = 0)
    (he : S.data.toList = ltL k p i s o xs ++ r) (h : Has B w (RdR q S 1 :: rs) wr) :
    Calls Try.prog 32 #[.pointer (some ⟨q, 0, none⟩)] wr fun e w' => ∃ ao cap, e = .returned (.agg (vL k p i s o (.slice ao xs.length cap)).toArray) ∧ Hid (Has B w (RdR q S (ltL k p i s o xs).length :: TR (.slice ao xs.length cap) xs :: rs) w') := by
  have hl : S.data.toList.length = S.size := Array.length_toList
  unfold ltL at he ⊢
  by_cases k1 : k = 1
  · subst k1
    rw [if_pos rfl, nums_5 (by omega) (by omega) (by omega) (by omega) (by omega)] at he ⊢
    have e1 : S.data.toList = 76 :: UInt8.ofNat 1 :: UInt8.ofNat p :: UInt8.ofNat i :: UInt8.ofNat s :: UInt8.ofNat o :: (PackMath.lst xs ++ r) := by rw [he]; simp
    have h4 : 6 ≤ S.size := by rw [← hl, e1]; simp
    refine (ltR1 (c := (PackMath.lst xs).length) (xs := xs) hS h4 h (by rw [e1]; exact tn_one (by omega) _) (by rw [e1]; exact tn_one (by omega) _) (by rw [e1]; exact tn_one (by omega) _) (by rw [e1]; exact tn_one (by omega) _) (by rw [e1]; exact tn_one (by omega) _) (by rw [e1]; exact PackMath.tl_lst xs r hx hxs)).mono ?_
    rintro e w' ⟨ao, cap, rfl, H⟩
    refine ⟨ao, cap, rfl, ?_⟩
    have e2 : (76 :: ([UInt8.ofNat 1, UInt8.ofNat p, UInt8.ofNat i, UInt8.ofNat s, UInt8.ofNat o] ++ PackMath.lst xs)).length = 6 + (PackMath.lst xs).length := by simp; omega
    rw [e2]
    exact H
  · obtain ⟨rfl, rfl⟩ := hn k1
    by_cases k3 : k = 3
    · subst k3
      obtain rfl := h6 (Or.inl rfl)
      rw [if_neg (by decide), if_pos rfl, nums_three (by omega) (by omega) (by omega)] at he ⊢
      have e1 : S.data.toList = 76 :: UInt8.ofNat 3 :: UInt8.ofNat p :: UInt8.ofNat i :: r := by rw [he]; simp
      have h4 : 4 ≤ S.size := by rw [← hl, e1]; simp
      refine (ltR3 hS h4 h (by rw [e1]; exact tn_one (by omega) _) (by rw [e1]; exact tn_one (by omega) _) (by rw [e1]; exact tn_one (by omega) _)).mono ?_
      rintro e w' ⟨rfl, H⟩
      exact ⟨none, 0, rfl, (H.nilT).perm (List.Perm.swap _ _ _)⟩
    · by_cases k9 : k = 9
      · subst k9
        obtain rfl := h6 (Or.inr rfl)
        rw [if_neg (by decide), if_neg (by decide), if_pos rfl, nums_three (by omega) (by omega) (by omega)] at he ⊢
        have e1 : S.data.toList = 76 :: UInt8.ofNat 9 :: UInt8.ofNat p :: UInt8.ofNat i :: r := by rw [he]; simp
        have h4 : 4 ≤ S.size := by rw [← hl, e1]; simp
        refine (ltR9 hS h4 h (by rw [e1]; exact tn_one (by omega) _) (by rw [e1]; exact tn_one (by omega) _) (by rw [e1]; exact tn_one (by omega) _)).mono ?_
        rintro e w' ⟨rfl, H⟩
        exact ⟨none, 0, rfl, (H.nilT).perm (List.Perm.swap _ _ _)⟩
      · rw [if_neg k1, if_neg k3, if_neg k9, nums_4 (by omega) (by omega) (by omega) (by omega)] at he ⊢
        have e1 : S.data.toList = 76 :: UInt8.ofNat k :: UInt8.ofNat p :: UInt8.ofNat i :: UInt8.ofNat s :: r := by rw [he]; simp
        have h4 : 5 ≤ S.size := by rw [← hl, e1]; simp
        refine (ltRK hS h4 h (by rw [e1]; exact tn_one (by omega) _) (by rw [e1]; exact tn_one (by omega) _) (by rw [e1]; exact tn_one (by omega) _) (by rw [e1]; exact tn_one (by omega) _) k1 k3 k9).mono ?_
        rintro e w' ⟨rfl, H⟩
        exact ⟨none, 0, rfl, (H.nilT).perm (List.Perm.swap _ _ _)⟩
set_option maxHeartbeats 2000000 in
theorem valueL_any {q k p i s o : Nat} {S : ByteArray} {xs : List (List UInt8)} {r : List UInt8} (hS : S.size ≤ 4611686018427387904) (hk : 1 ≤ k ∧ k ≤ 9) (hp : p ≤ 3) (hi : i ≤ 60) (hs : s ≤ 7) (ho : o ≤ 3) (hx : xs.length ≤ 4000) (hxs : ∀ x ∈ xs, x.length ≤ 2000) (hn : k ≠ 1 → xs = [] ∧ o = 0) (h6 : k = 3 ∨ k = 9 → s = 0)
    (he : S.data.toList = ltL k p i s o xs ++ r) (h : Has B w (RdR q S 0 :: rs) wr) :
    Calls Try.prog 25 #[.pointer (some ⟨q, 0, none⟩)] wr fun e w' => ∃ ao cap, e = .returned (.iface 49 (.agg (vL k p i s o (.slice ao xs.length cap)).toArray)) ∧ Hid (Has B w (RdR q S (ltL k p i s o xs).length :: TR (.slice ao xs.length cap) xs :: rs) w') := by
  have hl : S.data.toList.length = S.size := Array.length_toList
  have hz : S.size ≠ 0 := by rw [← hl, he]; unfold ltL; simp
  have hz1 : (1 : Int) ≤ (S.size : Int) := by omega
  have hem := emp_no S hz
  obtain ⟨m, hc⟩ : ∃ m, S.data.toList = 76 :: m := ⟨_, he⟩
  have k1 := head_is hc 76
  rw [show ((76 : UInt8) == 76) = true from by decide] at k1
  have H1 : Hid (Has B w (RdR q S 1 :: rs) (wr.setCell ⟨q, 1, none⟩ (.int .i64 1))) := h.put 1 (by simp) (.int .i64 1)
  have D1 : Hid (Calls Try.prog 32 #[.pointer (some ⟨q, 0, none⟩)] (wr.setCell ⟨q, 1, none⟩ (.int .i64 1)) fun e w' => ∃ ao cap, e = .returned (.agg (vL k p i s o (.slice ao xs.length cap)).toArray) ∧ Hid (Has B w (RdR q S (ltL k p i s o xs).length :: TR (.slice ao xs.length cap) xs :: rs) w')) := letterR_any hS hk hp hi hs ho hx hxs hn h6 he H1.out
  obtain ⟨c0, _⟩ := h.bcell (q := q) (vs := [.string S, .int .i64 0]) List.mem_cons_self 0 _ rfl
  obtain ⟨c1, f1⟩ := h.bcell (q := q) (vs := [.string S, .int .i64 0]) List.mem_cons_self 1 _ rfl
  clear h H1 he hc hn h6 hxs hl
  go_enter Try.func25, Try.ntmps25
  go_wp2_with fail
  refine D1.out.mono ?_
  rintro e w2 ⟨ao, cap, rfl, H2⟩
  clear D1
  go_wp2_with fail
  go_ret
  exact ⟨_, _, rfl, H2⟩
end
end Go.Proofs.Ytbgankldnjeohaa.Pl

/- read of a letter's form, and of one with something behind it. -/
set_option linter.unusedVariables false
set_option linter.unusedSimpArgs false
set_option maxRecDepth 100000
namespace Go.Proofs.Ytbgankldnjeohaa.Pl
open Go.RowKit Go.Proofs.Ytbgankldnjeohaa

section
variable {B : Nat} {w wr : World} {rs : List Res}
set_option maxHeartbeats 2000000 in
theorem readL_ok (t : Tb) {k p i s o : Nat} {S : ByteArray} {xs : List (List UInt8)} (hS : S.size ≤ 4611686018427387904) (hT : Hid (TabX t w)) (hlow : Hid (0 < B ∧ 1 < B)) (hm : ltMay t k p i s o xs = true) (he : S.data.toList = ltL k p i s o xs) (h : Has B w rs wr) :
    Calls Try.prog 19 #[.string S] wr fun e w' => ∃ ao cap, e = .returned (.iface 49 (.agg #[.int .i64 (k : Int), .int .i64 (p : Int), .int .i64 (i : Int), .int .i64 (s : Int), .int .i64 (o : Int), .slice ao xs.length cap])) ∧ Hid (Has B w (TR (.slice ao xs.length cap) xs :: rs) w') := by
  obtain ⟨f1, f2, f2b, f3, f3b, f4, f5, f6, f7⟩ := ltMay_facts hm
  have hl : S.data.toList.length = S.size := Array.length_toList
  obtain ⟨L, hL⟩ : ∃ L, (ltL k p i s o xs).length = L := ⟨_, rfl⟩
  have hLS : S.size = L := by rw [← hl, he, hL]
  have hmf : ∀ (fn : Fn) (first cap : Array Value) (w : World), (Instr.makeFunc fn first cap).run Try.prog w = .ok (.func fn first cap) w := fun _ _ _ _ => rfl
  have hmm := m_letter_may
  have H1 : Hid (Has B w (RdR (wr.heap.size + 1) S 0 :: BlockR wr.heap.size [.nilIface] :: rs) ((wr.alloc (.cells #[.nilIface] 52)).alloc (.cells #[.string S, .int .i64 0] 65))) := by
    have x := (h.box [.nilIface] 52).box [.string S, .int .i64 0] 65
    rw [World.size_alloc] at x
    exact x
  have D1 : Hid (Calls Try.prog 25 #[.pointer (some ⟨wr.heap.size + 1, 0, none⟩)] ((wr.alloc (.cells #[.nilIface] 52)).alloc (.cells #[.string S, .int .i64 0] 65)) fun e w' => ∃ ao cap, e = .returned (.iface 49 (.agg (vL k p i s o (.slice ao xs.length cap)).toArray)) ∧ Hid (Has B w (RdR (wr.heap.size + 1) S L :: TR (.slice ao xs.length cap) xs :: BlockR wr.heap.size [.nilIface] :: rs) w')) := by
    have x := valueL_any (k := k) (p := p) (i := i) (s := s) (o := o) (xs := xs) (r := []) hS (by omega) (by omega) (by omega) (by omega) (by omega) (by omega : xs.length ≤ 4000) (fun x hx => by have := f5 x hx; omega) (fun hk => by have := f6 (by omega); exact ⟨this.1, by omega⟩) (fun hk => by have := f7 (by omega); omega) (by rw [List.append_nil]; exact he) H1.out
    rw [hL] at x
    exact x
  have CM : Hid (∀ ao cap wq, Below B w wq → B ≤ wq.heap.size → SRow wq (.slice ao xs.length cap) xs → Calls Try.prog 62 #[.agg #[.int .i64 (k : Int), .int .i64 (p : Int), .int .i64 (i : Int), .int .i64 (s : Int), .int .i64 (o : Int), .slice ao xs.length cap]] wq fun e w' => e = .returned (.bool true) ∧ Below wq.heap.size wq w') := fun ao cap wq hb hz hS2 => by
    have x := ltMay_any t (k : Int) p i s o (.slice ao xs.length cap) xs (by omega) (fun x hx => by have := f5 x hx; omega) wq (hT.out.below hb hlow.out) ⟨Nat.lt_of_lt_of_le hlow.out.1 hz, Nat.lt_of_lt_of_le hlow.out.2 hz⟩ hS2
    rw [hm] at x
    exact x
  clear h H1 he hm hT f1 f2 f2b f3 f3b f4 f5 f6 f7 hl hL
  go_enter_defers Try.func19, Try.ntmps19
  go_wp2_with fail
  refine D1.out.mono ?_
  rintro e w2 ⟨ao, cap, rfl, H2⟩
  clear D1
  have hvn : (vL k p i s o (.slice ao xs.length cap)).toArray = #[.int .i64 (k : Int), .int .i64 (p : Int), .int .i64 (i : Int), .int .i64 (s : Int), .int .i64 (o : Int), .slice ao xs.length cap] := rfl
  rw [hvn]
  clear hvn
  have H2p := H2.out.perm (List.perm_middle (l₁ := [_, _]) (a := BlockR wr.heap.size [.nilIface]))
  obtain ⟨c0, f0⟩ := H2p.bcell (q := wr.heap.size) (vs := [.nilIface]) (by simp) 0 _ rfl
  have HP : Hid (Has B w (BlockR wr.heap.size [(.iface 49 (.agg #[.int .i64 (k : Int), .int .i64 (p : Int), .int .i64 (i : Int), .int .i64 (s : Int), .int .i64 (o : Int), .slice ao xs.length cap]))] :: RdR (wr.heap.size + 1) S L :: TR (.slice ao xs.length cap) xs :: rs) (w2.setCell ⟨wr.heap.size, 0, none⟩ (.iface 49 (.agg #[.int .i64 (k : Int), .int .i64 (p : Int), .int .i64 (i : Int), .int .i64 (s : Int), .int .i64 (o : Int), .slice ao xs.length cap])))) := H2p.put 0 (by simp) _
  obtain ⟨x0, _⟩ := HP.out.bcell (q := wr.heap.size) (vs := [(.iface 49 (.agg #[.int .i64 (k : Int), .int .i64 (p : Int), .int .i64 (i : Int), .int .i64 (s : Int), .int .i64 (o : Int), .slice ao xs.length cap]))]) (by simp) 0 _ rfl
  clear H2 H2p
  go_wp2_with fail
  refine (CM.out _ _ _ HP.out.bel HP.out.size (HP.out.srowT (by simp))).mono ?_
  rintro e w3 ⟨rfl, hb⟩
  have HQ : Hid (Has B w (BlockR wr.heap.size [(.iface 49 (.agg #[.int .i64 (k : Int), .int .i64 (p : Int), .int .i64 (i : Int), .int .i64 (s : Int), .int .i64 (o : Int), .slice ao xs.length cap]))] :: RdR (wr.heap.size + 1) S L :: TR (.slice ao xs.length cap) xs :: rs) w3) := HP.out.below hb
  clear HP hb x0 c0 f0 CM
  obtain ⟨y0, g0⟩ := HQ.out.bcell (q := wr.heap.size) (vs := [(.iface 49 (.agg #[.int .i64 (k : Int), .int .i64 (p : Int), .int .i64 (i : Int), .int .i64 (s : Int), .int .i64 (o : Int), .slice ao xs.length cap]))]) (by simp) 0 _ rfl
  obtain ⟨y1, _⟩ := HQ.out.bcell (q := wr.heap.size + 1) (vs := [.string S, .int .i64 (L : Int)]) (List.mem_cons_of_mem _ List.mem_cons_self) 1 (.int .i64 (L : Int)) rfl
  have y2 : (w3.setCell ⟨wr.heap.size, 0, none⟩ (.iface 49 (.agg #[.int .i64 (k : Int), .int .i64 (p : Int), .int .i64 (i : Int), .int .i64 (s : Int), .int .i64 (o : Int), .slice ao xs.length cap]))).cell? ⟨wr.heap.size, 0, none⟩ = some (.iface 49 (.agg #[.int .i64 (k : Int), .int .i64 (p : Int), .int .i64 (i : Int), .int .i64 (s : Int), .int .i64 (o : Int), .slice ao xs.length cap])) := World.cell?_setCell_same _ _ _ y0
  have HZ : Hid (Has B w (TR (.slice ao xs.length cap) xs :: rs) (w3.setCell ⟨wr.heap.size, 0, none⟩ (.iface 49 (.agg #[.int .i64 (k : Int), .int .i64 (p : Int), .int .i64 (i : Int), .int .i64 (s : Int), .int .i64 (o : Int), .slice ao xs.length cap])))) := (HQ.out.put 0 (by simp) (.iface 49 (.agg #[.int .i64 (k : Int), .int .i64 (p : Int), .int .i64 (i : Int), .int .i64 (s : Int), .int .i64 (o : Int), .slice ao xs.length cap]))).drop.drop
  clear HQ
  subst hLS
  go_wp2_with fail
  refine leaves_cons (f := 24) (args := #[.pointer (some ⟨wr.heap.size, 0, none⟩)]) (by simp) (by simp [go_sem]) ?_
  refine (catch_idle ⟨wr.heap.size, 0, none⟩ _).mono ?_
  rintro e u' w'' ⟨rfl, rfl, rfl⟩
  simp [Leaves, settle, results, Try.results19, go_sem, y2]
  exact ⟨_, _, ⟨rfl, rfl⟩, HZ⟩
set_option maxHeartbeats 2000000 in
theorem readL_more (t : Tb) {k p i s o : Nat} {S : ByteArray} {xs : List (List UInt8)} {r : List UInt8} (hS : S.size ≤ 4611686018427387904) (hT : Hid (TabX t w)) (hlow : Hid (0 < B ∧ 1 < B)) (hm : ltMay t k p i s o xs = true) (hr : r ≠ []) (he : S.data.toList = ltL k p i s o xs ++ r) (h : Has B w rs wr) :
    Calls Try.prog 19 #[.string S] wr fun e w' => e = .returned .nilIface ∧ Hid (Has B w rs w') := by
  obtain ⟨f1, f2, f2b, f3, f3b, f4, f5, f6, f7⟩ := ltMay_facts hm
  have hl : S.data.toList.length = S.size := Array.length_toList
  obtain ⟨L, hL⟩ : ∃ L, (ltL k p i s o xs).length = L := ⟨_, rfl⟩
  have hLS : ((L : Int) == (S.size : Int)) = false := beq_eq_false_iff_ne.2 (by
    have h1 : S.size = L + r.length := by
      have h0 := congrArg List.length he
      rw [List.length_append, hL, hl] at h0
      exact h0
    have h2 : 0 < r.length := by cases r with | nil => exact absurd rfl hr | cons _ _ => simp
    omega)
  have hmf : ∀ (fn : Fn) (first cap : Array Value) (w : World), (Instr.makeFunc fn first cap).run Try.prog w = .ok (.func fn first cap) w := fun _ _ _ _ => rfl
  have hmm := m_letter_may
  have H1 : Hid (Has B w (RdR (wr.heap.size + 1) S 0 :: BlockR wr.heap.size [.nilIface] :: rs) ((wr.alloc (.cells #[.nilIface] 52)).alloc (.cells #[.string S, .int .i64 0] 65))) := by
    have x := (h.box [.nilIface] 52).box [.string S, .int .i64 0] 65
    rw [World.size_alloc] at x
    exact x
  have D1 : Hid (Calls Try.prog 25 #[.pointer (some ⟨wr.heap.size + 1, 0, none⟩)] ((wr.alloc (.cells #[.nilIface] 52)).alloc (.cells #[.string S, .int .i64 0] 65)) fun e w' => ∃ ao cap, e = .returned (.iface 49 (.agg (vL k p i s o (.slice ao xs.length cap)).toArray)) ∧ Hid (Has B w (RdR (wr.heap.size + 1) S L :: TR (.slice ao xs.length cap) xs :: BlockR wr.heap.size [.nilIface] :: rs) w')) := by
    have x := valueL_any (k := k) (p := p) (i := i) (s := s) (o := o) (xs := xs) (r := r) hS (by omega) (by omega) (by omega) (by omega) (by omega) (by omega : xs.length ≤ 4000) (fun x hx => by have := f5 x hx; omega) (fun hk => by have := f6 (by omega); exact ⟨this.1, by omega⟩) (fun hk => by have := f7 (by omega); omega) (by exact he) H1.out
    rw [hL] at x
    exact x
  have CM : Hid (∀ ao cap wq, Below B w wq → B ≤ wq.heap.size → SRow wq (.slice ao xs.length cap) xs → Calls Try.prog 62 #[.agg #[.int .i64 (k : Int), .int .i64 (p : Int), .int .i64 (i : Int), .int .i64 (s : Int), .int .i64 (o : Int), .slice ao xs.length cap]] wq fun e w' => e = .returned (.bool true) ∧ Below wq.heap.size wq w') := fun ao cap wq hb hz hS2 => by
    have x := ltMay_any t (k : Int) p i s o (.slice ao xs.length cap) xs (by omega) (fun x hx => by have := f5 x hx; omega) wq (hT.out.below hb hlow.out) ⟨Nat.lt_of_lt_of_le hlow.out.1 hz, Nat.lt_of_lt_of_le hlow.out.2 hz⟩ hS2
    rw [hm] at x
    exact x
  clear h H1 he hm hT f1 f2 f2b f3 f3b f4 f5 f6 f7 hl hL
  go_enter_defers Try.func19, Try.ntmps19
  go_wp2_with fail
  refine D1.out.mono ?_
  rintro e w2 ⟨ao, cap, rfl, H2⟩
  clear D1
  have hvn : (vL k p i s o (.slice ao xs.length cap)).toArray = #[.int .i64 (k : Int), .int .i64 (p : Int), .int .i64 (i : Int), .int .i64 (s : Int), .int .i64 (o : Int), .slice ao xs.length cap] := rfl
  rw [hvn]
  clear hvn
  have H2p := H2.out.perm (List.perm_middle (l₁ := [_, _]) (a := BlockR wr.heap.size [.nilIface]))
  obtain ⟨c0, f0⟩ := H2p.bcell (q := wr.heap.size) (vs := [.nilIface]) (by simp) 0 _ rfl
  have HP : Hid (Has B w (BlockR wr.heap.size [(.iface 49 (.agg #[.int .i64 (k : Int), .int .i64 (p : Int), .int .i64 (i : Int), .int .i64 (s : Int), .int .i64 (o : Int), .slice ao xs.length cap]))] :: RdR (wr.heap.size + 1) S L :: TR (.slice ao xs.length cap) xs :: rs) (w2.setCell ⟨wr.heap.size, 0, none⟩ (.iface 49 (.agg #[.int .i64 (k : Int), .int .i64 (p : Int), .int .i64 (i : Int), .int .i64 (s : Int), .int .i64 (o : Int), .slice ao xs.length cap])))) := H2p.put 0 (by simp) _
  obtain ⟨x0, _⟩ := HP.out.bcell (q := wr.heap.size) (vs := [(.iface 49 (.agg #[.int .i64 (k : Int), .int .i64 (p : Int), .int .i64 (i : Int), .int .i64 (s : Int), .int .i64 (o : Int), .slice ao xs.length cap]))]) (by simp) 0 _ rfl
  clear H2 H2p
  go_wp2_with fail
  refine (CM.out _ _ _ HP.out.bel HP.out.size (HP.out.srowT (by simp))).mono ?_
  rintro e w3 ⟨rfl, hb⟩
  have HQ : Hid (Has B w (BlockR wr.heap.size [(.iface 49 (.agg #[.int .i64 (k : Int), .int .i64 (p : Int), .int .i64 (i : Int), .int .i64 (s : Int), .int .i64 (o : Int), .slice ao xs.length cap]))] :: RdR (wr.heap.size + 1) S L :: TR (.slice ao xs.length cap) xs :: rs) w3) := HP.out.below hb
  clear HP hb x0 c0 f0 CM
  obtain ⟨y0, g0⟩ := HQ.out.bcell (q := wr.heap.size) (vs := [(.iface 49 (.agg #[.int .i64 (k : Int), .int .i64 (p : Int), .int .i64 (i : Int), .int .i64 (s : Int), .int .i64 (o : Int), .slice ao xs.length cap]))]) (by simp) 0 _ rfl
  obtain ⟨y1, _⟩ := HQ.out.bcell (q := wr.heap.size + 1) (vs := [.string S, .int .i64 (L : Int)]) (List.mem_cons_of_mem _ List.mem_cons_self) 1 (.int .i64 (L : Int)) rfl
  have y2 : (w3.setCell ⟨wr.heap.size, 0, none⟩ .nilIface).cell? ⟨wr.heap.size, 0, none⟩ = some .nilIface := World.cell?_setCell_same _ _ _ y0
  have HZ : Hid (Has B w rs (w3.setCell ⟨wr.heap.size, 0, none⟩ .nilIface)) := (HQ.out.put 0 (by simp) .nilIface).drop.drop.drop
  clear HQ
  go_wp2_with fail
  refine (giveUp_any _).mono ?_
  rintro e w4 ⟨rfl, hw4⟩
  rw [hw4]
  clear hw4
  go_wp2_with fail
  refine leaves_cons (f := 24) (args := #[.pointer (some ⟨wr.heap.size, 0, none⟩)]) (by simp) (by simp [go_sem]) ?_
  refine (catch_finds ⟨wr.heap.size, 0, none⟩ _ _ y0 g0).mono ?_
  rintro e u' w'' ⟨rfl, rfl, rfl⟩
  simp [Leaves, settle, results, Try.results19, go_sem, y2]
  exact HZ
end
end Go.Proofs.Ytbgankldnjeohaa.Pl

/- read of an event's form, and of one with something behind it. -/
set_option linter.unusedVariables false
set_option linter.unusedSimpArgs false
set_option maxRecDepth 100000
namespace Go.Proofs.Ytbgankldnjeohaa.Pl
open Go.RowKit Go.Proofs.Ytbgankldnjeohaa

section
variable {B : Nat} {w wr : World} {rs : List Res}
set_option maxHeartbeats 2000000 in
theorem readE_ok (t : Tb) {k i s : Nat} {S : ByteArray} {xs : List (List UInt8)} (hS : S.size ≤ 4611686018427387904) (hT : Hid (TabX t w)) (hlow : Hid (0 < B ∧ 1 < B)) (hm : evMay t k i s xs = true) (he : S.data.toList = evL k i s xs) (h : Has B w rs wr) :
    Calls Try.prog 19 #[.string S] wr fun e w' => ∃ ao cap, e = .returned (.iface 55 (.agg #[.int .i64 (k : Int), .int .i64 (i : Int), .int .i64 (s : Int), .slice ao xs.length cap])) ∧ Hid (Has B w (TR (.slice ao xs.length cap) xs :: rs) w') := by
  obtain ⟨f1, f2, f3, f4, f5, f6, f7, f8⟩ := evMay_facts hm
  have hl : S.data.toList.length = S.size := Array.length_toList
  obtain ⟨L, hL⟩ : ∃ L, (evL k i s xs).length = L := ⟨_, rfl⟩
  have hLS : S.size = L := by rw [← hl, he, hL]
  have hmf : ∀ (fn : Fn) (first cap : Array Value) (w : World), (Instr.makeFunc fn first cap).run Try.prog w = .ok (.func fn first cap) w := fun _ _ _ _ => rfl
  have hmm := m_event_may
  have H1 : Hid (Has B w (RdR (wr.heap.size + 1) S 0 :: BlockR wr.heap.size [.nilIface] :: rs) ((wr.alloc (.cells #[.nilIface] 52)).alloc (.cells #[.string S, .int .i64 0] 65))) := by
    have x := (h.box [.nilIface] 52).box [.string S, .int .i64 0] 65
    rw [World.size_alloc] at x
    exact x
  have D1 : Hid (Calls Try.prog 25 #[.pointer (some ⟨wr.heap.size + 1, 0, none⟩)] ((wr.alloc (.cells #[.nilIface] 52)).alloc (.cells #[.string S, .int .i64 0] 65)) fun e w' => ∃ ao cap, e = .returned (.iface 55 (.agg (vV k i s (.slice ao xs.length cap)).toArray)) ∧ Hid (Has B w (RdR (wr.heap.size + 1) S L :: TR (.slice ao xs.length cap) xs :: BlockR wr.heap.size [.nilIface] :: rs) w')) := by
    have x := valueE_any (k := k) (i := i) (s := s) (xs := xs) (r := []) hS (by omega) (by omega) (by omega) (by omega : xs.length ≤ 4000) (fun x hx => by have := f5 x hx; omega) (fun hk => f6 (by omega)) (fun hk => by have := f7 (by omega); omega) (by rw [List.append_nil]; exact he) H1.out
    rw [hL] at x
    exact x
  have CM : Hid (∀ ao cap wq, Below B w wq → B ≤ wq.heap.size → SRow wq (.slice ao xs.length cap) xs → Calls Try.prog 89 #[.agg #[.int .i64 (k : Int), .int .i64 (i : Int), .int .i64 (s : Int), .slice ao xs.length cap]] wq fun e w' => e = .returned (.bool true) ∧ Below wq.heap.size wq w') := fun ao cap wq hb hz hS2 => by
    have x := evMay_any t (k : Int) i s (.slice ao xs.length cap) xs (by omega) (fun x hx => by have := f5 x hx; omega) wq (hT.out.below hb hlow.out) ⟨Nat.lt_of_lt_of_le hlow.out.1 hz, Nat.lt_of_lt_of_le hlow.out.2 hz⟩ hS2
    rw [hm] at x
    exact x
  clear h H1 he hm hT f1 f2 f3 f4 f5 f6 f7 f8 hl hL
  go_enter_defers Try.func19, Try.ntmps19
  go_wp2_with fail
  refine D1.out.mono ?_
  rintro e w2 ⟨ao, cap, rfl, H2⟩
  clear D1
  have hvn : (vV k i s (.slice ao xs.length cap)).toArray = #[.int .i64 (k : Int), .int .i64 (i : Int), .int .i64 (s : Int), .slice ao xs.length cap] := rfl
  rw [hvn]
  clear hvn
  have H2p := H2.out.perm (List.perm_middle (l₁ := [_, _]) (a := BlockR wr.heap.size [.nilIface]))
  obtain ⟨c0, f0⟩ := H2p.bcell (q := wr.heap.size) (vs := [.nilIface]) (by simp) 0 _ rfl
  have HP : Hid (Has B w (BlockR wr.heap.size [(.iface 55 (.agg #[.int .i64 (k : Int), .int .i64 (i : Int), .int .i64 (s : Int), .slice ao xs.length cap]))] :: RdR (wr.heap.size + 1) S L :: TR (.slice ao xs.length cap) xs :: rs) (w2.setCell ⟨wr.heap.size, 0, none⟩ (.iface 55 (.agg #[.int .i64 (k : Int), .int .i64 (i : Int), .int .i64 (s : Int), .slice ao xs.length cap])))) := H2p.put 0 (by simp) _
  obtain ⟨x0, _⟩ := HP.out.bcell (q := wr.heap.size) (vs := [(.iface 55 (.agg #[.int .i64 (k : Int), .int .i64 (i : Int), .int .i64 (s : Int), .slice ao xs.length cap]))]) (by simp) 0 _ rfl
  clear H2 H2p
  go_wp2_with fail
  refine (CM.out _ _ _ HP.out.bel HP.out.size (HP.out.srowT (by simp))).mono ?_
  rintro e w3 ⟨rfl, hb⟩
  have HQ : Hid (Has B w (BlockR wr.heap.size [(.iface 55 (.agg #[.int .i64 (k : Int), .int .i64 (i : Int), .int .i64 (s : Int), .slice ao xs.length cap]))] :: RdR (wr.heap.size + 1) S L :: TR (.slice ao xs.length cap) xs :: rs) w3) := HP.out.below hb
  clear HP hb x0 c0 f0 CM
  obtain ⟨y0, g0⟩ := HQ.out.bcell (q := wr.heap.size) (vs := [(.iface 55 (.agg #[.int .i64 (k : Int), .int .i64 (i : Int), .int .i64 (s : Int), .slice ao xs.length cap]))]) (by simp) 0 _ rfl
  obtain ⟨y1, _⟩ := HQ.out.bcell (q := wr.heap.size + 1) (vs := [.string S, .int .i64 (L : Int)]) (List.mem_cons_of_mem _ List.mem_cons_self) 1 (.int .i64 (L : Int)) rfl
  have y2 : (w3.setCell ⟨wr.heap.size, 0, none⟩ (.iface 55 (.agg #[.int .i64 (k : Int), .int .i64 (i : Int), .int .i64 (s : Int), .slice ao xs.length cap]))).cell? ⟨wr.heap.size, 0, none⟩ = some (.iface 55 (.agg #[.int .i64 (k : Int), .int .i64 (i : Int), .int .i64 (s : Int), .slice ao xs.length cap])) := World.cell?_setCell_same _ _ _ y0
  have HZ : Hid (Has B w (TR (.slice ao xs.length cap) xs :: rs) (w3.setCell ⟨wr.heap.size, 0, none⟩ (.iface 55 (.agg #[.int .i64 (k : Int), .int .i64 (i : Int), .int .i64 (s : Int), .slice ao xs.length cap])))) := (HQ.out.put 0 (by simp) (.iface 55 (.agg #[.int .i64 (k : Int), .int .i64 (i : Int), .int .i64 (s : Int), .slice ao xs.length cap]))).drop.drop
  clear HQ
  subst hLS
  go_wp2_with fail
  refine leaves_cons (f := 24) (args := #[.pointer (some ⟨wr.heap.size, 0, none⟩)]) (by simp) (by simp [go_sem]) ?_
  refine (catch_idle ⟨wr.heap.size, 0, none⟩ _).mono ?_
  rintro e u' w'' ⟨rfl, rfl, rfl⟩
  simp [Leaves, settle, results, Try.results19, go_sem, y2]
  exact ⟨_, _, ⟨rfl, rfl⟩, HZ⟩
set_option maxHeartbeats 2000000 in
theorem readE_more (t : Tb) {k i s : Nat} {S : ByteArray} {xs : List (List UInt8)} {r : List UInt8} (hS : S.size ≤ 4611686018427387904) (hT : Hid (TabX t w)) (hlow : Hid (0 < B ∧ 1 < B)) (hm : evMay t k i s xs = true) (hr : r ≠ []) (he : S.data.toList = evL k i s xs ++ r) (h : Has B w rs wr) :
    Calls Try.prog 19 #[.string S] wr fun e w' => e = .returned .nilIface ∧ Hid (Has B w rs w') := by
  obtain ⟨f1, f2, f3, f4, f5, f6, f7, f8⟩ := evMay_facts hm
  have hl : S.data.toList.length = S.size := Array.length_toList
  obtain ⟨L, hL⟩ : ∃ L, (evL k i s xs).length = L := ⟨_, rfl⟩
  have hLS : ((L : Int) == (S.size : Int)) = false := beq_eq_false_iff_ne.2 (by
    have h1 : S.size = L + r.length := by
      have h0 := congrArg List.length he
      rw [List.length_append, hL, hl] at h0
      exact h0
    have h2 : 0 < r.length := by cases r with | nil => exact absurd rfl hr | cons _ _ => simp
    omega)
  have hmf : ∀ (fn : Fn) (first cap : Array Value) (w : World), (Instr.makeFunc fn first cap).run Try.prog w = .ok (.func fn first cap) w := fun _ _ _ _ => rfl
  have hmm := m_event_may
  have H1 : Hid (Has B w (RdR (wr.heap.size + 1) S 0 :: BlockR wr.heap.size [.nilIface] :: rs) ((wr.alloc (.cells #[.nilIface] 52)).alloc (.cells #[.string S, .int .i64 0] 65))) := by
    have x := (h.box [.nilIface] 52).box [.string S, .int .i64 0] 65
    rw [World.size_alloc] at x
    exact x
  have D1 : Hid (Calls Try.prog 25 #[.pointer (some ⟨wr.heap.size + 1, 0, none⟩)] ((wr.alloc (.cells #[.nilIface] 52)).alloc (.cells #[.string S, .int .i64 0] 65)) fun e w' => ∃ ao cap, e = .returned (.iface 55 (.agg (vV k i s (.slice ao xs.length cap)).toArray)) ∧ Hid (Has B w (RdR (wr.heap.size + 1) S L :: TR (.slice ao xs.length cap) xs :: BlockR wr.heap.size [.nilIface] :: rs) w')) := by
    have x := valueE_any (k := k) (i := i) (s := s) (xs := xs) (r := r) hS (by omega) (by omega) (by omega) (by omega : xs.length ≤ 4000) (fun x hx => by have := f5 x hx; omega) (fun hk => f6 (by omega)) (fun hk => by have := f7 (by omega); omega) (by exact he) H1.out
    rw [hL] at x
    exact x
  have CM : Hid (∀ ao cap wq, Below B w wq → B ≤ wq.heap.size → SRow wq (.slice ao xs.length cap) xs → Calls Try.prog 89 #[.agg #[.int .i64 (k : Int), .int .i64 (i : Int), .int .i64 (s : Int), .slice ao xs.length cap]] wq fun e w' => e = .returned (.bool true) ∧ Below wq.heap.size wq w') := fun ao cap wq hb hz hS2 => by
    have x := evMay_any t (k : Int) i s (.slice ao xs.length cap) xs (by omega) (fun x hx => by have := f5 x hx; omega) wq (hT.out.below hb hlow.out) ⟨Nat.lt_of_lt_of_le hlow.out.1 hz, Nat.lt_of_lt_of_le hlow.out.2 hz⟩ hS2
    rw [hm] at x
    exact x
  clear h H1 he hm hT f1 f2 f3 f4 f5 f6 f7 f8 hl hL
  go_enter_defers Try.func19, Try.ntmps19
  go_wp2_with fail
  refine D1.out.mono ?_
  rintro e w2 ⟨ao, cap, rfl, H2⟩
  clear D1
  have hvn : (vV k i s (.slice ao xs.length cap)).toArray = #[.int .i64 (k : Int), .int .i64 (i : Int), .int .i64 (s : Int), .slice ao xs.length cap] := rfl
  rw [hvn]
  clear hvn
  have H2p := H2.out.perm (List.perm_middle (l₁ := [_, _]) (a := BlockR wr.heap.size [.nilIface]))
  obtain ⟨c0, f0⟩ := H2p.bcell (q := wr.heap.size) (vs := [.nilIface]) (by simp) 0 _ rfl
  have HP : Hid (Has B w (BlockR wr.heap.size [(.iface 55 (.agg #[.int .i64 (k : Int), .int .i64 (i : Int), .int .i64 (s : Int), .slice ao xs.length cap]))] :: RdR (wr.heap.size + 1) S L :: TR (.slice ao xs.length cap) xs :: rs) (w2.setCell ⟨wr.heap.size, 0, none⟩ (.iface 55 (.agg #[.int .i64 (k : Int), .int .i64 (i : Int), .int .i64 (s : Int), .slice ao xs.length cap])))) := H2p.put 0 (by simp) _
  obtain ⟨x0, _⟩ := HP.out.bcell (q := wr.heap.size) (vs := [(.iface 55 (.agg #[.int .i64 (k : Int), .int .i64 (i : Int), .int .i64 (s : Int), .slice ao xs.length cap]))]) (by simp) 0 _ rfl
  clear H2 H2p
  go_wp2_with fail
  refine (CM.out _ _ _ HP.out.bel HP.out.size (HP.out.srowT (by simp))).mono ?_
  rintro e w3 ⟨rfl, hb⟩
  have HQ : Hid (Has B w (BlockR wr.heap.size [(.iface 55 (.agg #[.int .i64 (k : Int), .int .i64 (i : Int), .int .i64 (s : Int), .slice ao xs.length cap]))] :: RdR (wr.heap.size + 1) S L :: TR (.slice ao xs.length cap) xs :: rs) w3) := HP.out.below hb
  clear HP hb x0 c0 f0 CM
  obtain ⟨y0, g0⟩ := HQ.out.bcell (q := wr.heap.size) (vs := [(.iface 55 (.agg #[.int .i64 (k : Int), .int .i64 (i : Int), .int .i64 (s : Int), .slice ao xs.length cap]))]) (by simp) 0 _ rfl
  obtain ⟨y1, _⟩ := HQ.out.bcell (q := wr.heap.size + 1) (vs := [.string S, .int .i64 (L : Int)]) (List.mem_cons_of_mem _ List.mem_cons_self) 1 (.int .i64 (L : Int)) rfl
  have y2 : (w3.setCell ⟨wr.heap.size, 0, none⟩ .nilIface).cell? ⟨wr.heap.size, 0, none⟩ = some .nilIface := World.cell?_setCell_same _ _ _ y0
  have HZ : Hid (Has B w rs (w3.setCell ⟨wr.heap.size, 0, none⟩ .nilIface)) := (HQ.out.put 0 (by simp) .nilIface).drop.drop.drop
  clear HQ
  go_wp2_with fail
  refine (giveUp_any _).mono ?_
  rintro e w4 ⟨rfl, hw4⟩
  rw [hw4]
  clear hw4
  go_wp2_with fail
  refine leaves_cons (f := 24) (args := #[.pointer (some ⟨wr.heap.size, 0, none⟩)]) (by simp) (by simp [go_sem]) ?_
  refine (catch_finds ⟨wr.heap.size, 0, none⟩ _ _ y0 g0).mono ?_
  rintro e u' w'' ⟨rfl, rfl, rfl⟩
  simp [Leaves, settle, results, Try.results19, go_sem, y2]
  exact HZ
end
end Go.Proofs.Ytbgankldnjeohaa.Pl

/- ReadEvent and What of an event's form; What of what is none. -/
set_option linter.unusedVariables false
set_option linter.unusedSimpArgs false
set_option maxRecDepth 100000
namespace Go.Proofs.Ytbgankldnjeohaa.Pl
open Go.RowKit Go.Proofs.Ytbgankldnjeohaa

theorem ta_nil_letter (w : World) : (Instr.typeAssert .nilIface 52 49 true).run Try.prog w = .ok (.tuple #[.agg #[.int .i64 0, .int .i64 0, .int .i64 0, .int .i64 0, .int .i64 0, .slice none 0 0], .bool false]) w := by kernel_rfl
theorem ta_nil_event (w : World) : (Instr.typeAssert .nilIface 52 55 true).run Try.prog w = .ok (.tuple #[.agg #[.int .i64 0, .int .i64 0, .int .i64 0, .slice none 0 0], .bool false]) w := by kernel_rfl
theorem ta_nil_note (w : World) : (Instr.typeAssert .nilIface 52 56 true).run Try.prog w = .ok (.tuple #[.agg #[.int .i64 0, .int .i64 0, .int .i64 0, .int .i64 0, .int .i64 0, .int .i64 0, .string ⟨#[]⟩, .string ⟨#[]⟩, .int .i64 0, .string ⟨#[]⟩], .bool false]) w := by kernel_rfl
section
variable {B : Nat} {w wr : World} {rs : List Res}
theorem what_nil {S : ByteArray} (D1 : Hid (Calls Try.prog 19 #[.string S] wr fun e w' => e = .returned .nilIface ∧ Hid (Has B w rs w'))) :
    Calls Try.prog 11 #[.string S] wr fun e w' => e = .returned (.int .i64 0) ∧ Hid (Has B w rs w') := by
  have hta := ta_nil_letter
  have hte := ta_nil_event
  have htn := ta_nil_note
  go_enter Try.func11, Try.ntmps11
  go_wp2_with fail
  refine D1.out.mono ?_
  rintro e w2 ⟨rfl, H2⟩
  clear D1
  go_wp2_with fail
  go_ret
  exact ⟨rfl, H2⟩
theorem what_ev {S : ByteArray} {x : Array Value} {R : World → Prop} (D1 : Hid (Calls Try.prog 19 #[.string S] wr fun e w' => e = .returned (.iface 55 (.agg x)) ∧ Hid (R w'))) :
    Calls Try.prog 11 #[.string S] wr fun e w' => e = .returned (.int .i64 2) ∧ Hid (R w') := by
  have hta := ta_event
  have htl := ta_letter
  go_enter Try.func11, Try.ntmps11
  go_wp2_with fail
  refine D1.out.mono ?_
  rintro e w2 ⟨rfl, H2⟩
  clear D1
  go_wp2_with fail
  go_ret
  exact ⟨rfl, H2⟩
theorem whatE_ok (t : Tb) {k i s : Nat} {S : ByteArray} {xs : List (List UInt8)} (hS : S.size ≤ 4611686018427387904) (hT : Hid (TabX t w)) (hlow : Hid (0 < B ∧ 1 < B)) (hm : evMay t k i s xs = true) (he : S.data.toList = evL k i s xs) (h : Has B w rs wr) :
    Calls Try.prog 11 #[.string S] wr fun e w' => e = .returned (.int .i64 2) ∧ Hid (Has B w rs w') := by
  have D1 : Hid (Calls Try.prog 19 #[.string S] wr fun e w' => ∃ ao cap, e = .returned (.iface 55 (.agg #[.int .i64 (k : Int), .int .i64 (i : Int), .int .i64 (s : Int), .slice ao xs.length cap])) ∧ Hid (Has B w (TR (.slice ao xs.length cap) xs :: rs) w')) := readE_ok t hS hT hlow hm he h
  have hta := ta_event
  have htl := ta_letter
  clear h he hm
  go_enter Try.func11, Try.ntmps11
  go_wp2_with fail
  refine D1.out.mono ?_
  rintro e w2 ⟨ao, cap, rfl, H2⟩
  clear D1
  go_wp2_with fail
  go_ret
  exact ⟨rfl, H2.out.drop⟩
set_option maxHeartbeats 2000000 in
theorem readEvent_ok (t : Tb) {k i s : Nat} {S : ByteArray} {xs : List (List UInt8)} (hS : S.size ≤ 4611686018427387904) (hT : Hid (TabX t w)) (hlow : Hid (0 < B ∧ 1 < B)) (hm : evMay t k i s xs = true) (he : S.data.toList = evL k i s xs) (h : Has B w rs wr) :
    Calls Try.prog 15 #[.string S] wr fun e w' => ∃ ao cap, e = .returned (.tuple #[.agg #[.int .i64 (k : Int), .int .i64 (i : Int), .int .i64 (s : Int), .slice ao xs.length cap], .int .i64 0]) ∧ Hid (Has B w (TR (.slice ao xs.length cap) xs :: rs) w') := by
  have H0 : Hid (Has B w (BlockR wr.heap.size (vV 0 0 0 nilS) :: rs) (wr.alloc (.cells #[.int .i64 0, .int .i64 0, .int .i64 0, .slice none 0 0] 39))) := h.box (vV 0 0 0 nilS) 39
  have D1 : Hid (Calls Try.prog 19 #[.string S] (wr.alloc (.cells #[.int .i64 0, .int .i64 0, .int .i64 0, .slice none 0 0] 39)) fun e w' => ∃ ao cap, e = .returned (.iface 55 (.agg #[.int .i64 (k : Int), .int .i64 (i : Int), .int .i64 (s : Int), .slice ao xs.length cap])) ∧ Hid (Has B w (TR (.slice ao xs.length cap) xs :: BlockR wr.heap.size (vV 0 0 0 nilS) :: rs) w')) := readE_ok t hS hT hlow hm he H0.out
  obtain ⟨rb, hrb⟩ : ∃ rb, wr.heap.size = rb := ⟨_, rfl⟩
  rw [hrb] at D1
  clear h H0 he hm hT
  have hta := ta_event
  go_enter Try.func15, Try.ntmps15
  go_wp2_with fail
  refine D1.out.mono ?_
  rintro e w2 ⟨ao, cap, rfl, h2⟩
  clear hrb D1
  have H2 : Hid (Has B w (BlockR rb (vV 0 0 0 nilS) :: BlockR w2.heap.size (vV k i s (.slice ao xs.length cap)) :: TR (.slice ao xs.length cap) xs :: rs) (w2.alloc (.cells #[.int .i64 (k : Int), .int .i64 (i : Int), .int .i64 (s : Int), .slice ao xs.length cap] 55))) := (h2.out.box (vV k i s (.slice ao xs.length cap)) 55).perm (List.perm_middle (l₁ := [_, _]) (l₂ := rs))
  clear h2
  go_upto_region 4 with fail
  generalize (w2.alloc (.cells #[.int .i64 (k : Int), .int .i64 (i : Int), .int .i64 (s : Int), .slice ao xs.length cap] 55)) = w3 at *
  generalize w2.heap.size = nb at *
  obtain ⟨x0, _⟩ := H2.out.bcell (q := nb) (vs := (vV k i s (.slice ao xs.length cap))) (by simp) 0 _ rfl
  obtain ⟨x1, _⟩ := H2.out.bcell (q := nb) (vs := (vV k i s (.slice ao xs.length cap))) (by simp) 1 _ rfl
  obtain ⟨x2, _⟩ := H2.out.bcell (q := nb) (vs := (vV k i s (.slice ao xs.length cap))) (by simp) 2 _ rfl
  obtain ⟨x3, _⟩ := H2.out.bcell (q := nb) (vs := (vV k i s (.slice ao xs.length cap))) (by simp) 3 _ rfl
  obtain ⟨y0, g0⟩ := H2.out.bcell (q := rb) (vs := vV 0 0 0 nilS) (by simp) 0 _ rfl
  obtain ⟨y1, g1⟩ := H2.out.bcell (q := rb) (vs := vV 0 0 0 nilS) (by simp) 1 _ rfl
  obtain ⟨y2, g2⟩ := H2.out.bcell (q := rb) (vs := vV 0 0 0 nilS) (by simp) 2 _ rfl
  obtain ⟨y3, g3⟩ := H2.out.bcell (q := rb) (vs := vV 0 0 0 nilS) (by simp) 3 _ rfl
  have HQ : Hid (Has B w (BlockR rb (vV k i s (.slice ao xs.length cap)) :: BlockR nb (vV k i s (.slice ao xs.length cap)) :: TR (.slice ao xs.length cap) xs :: rs) (setAll rb 0 (vV k i s (.slice ao xs.length cap)) w3)) := Has.puts (vV k i s (.slice ao xs.length cap)) [] (vV 0 0 0 nilS) H2.out rfl
  clear H2 hta
  go_wp2_with fail
  have HC : Hid (∀ j v, (vV k i s (.slice ao xs.length cap))[j]? = some v → (setAll rb 0 (vV k i s (.slice ao xs.length cap)) w3).cell? ⟨rb, j, none⟩ = some v) := fun j v hv => (HQ.out.bcell (q := rb) (vs := (vV k i s (.slice ao xs.length cap))) (by simp) j v hv).1
  refine bodyPost_ret (results_row_tmp rfl _ _ rb (vV k i s (.slice ao xs.length cap)) _ rfl HC.out Try.underlying39 rfl (by kernel_rfl)) rfl ⟨_, _, rfl, ?_⟩
  exact HQ.out.drop.drop
end
end Go.Proofs.Ytbgankldnjeohaa.Pl

/- ReadLetter and What of a letter's form; ReadLetter of what is none. -/
set_option linter.unusedVariables false
set_option linter.unusedSimpArgs false
set_option maxRecDepth 100000
namespace Go.Proofs.Ytbgankldnjeohaa.Pl
open Go.RowKit Go.Proofs.Ytbgankldnjeohaa

theorem ta_letter2 (x : Array Value) (w : World) : (Instr.typeAssert (.iface 49 (.agg x)) 52 49 true).run Try.prog w = .ok (.tuple #[.agg x, .bool true]) w := by kernel_rfl
section
variable {B : Nat} {w wr : World} {rs : List Res}
theorem whatL_ok (t : Tb) {k p i s o : Nat} {S : ByteArray} {xs : List (List UInt8)} (hS : S.size ≤ 4611686018427387904) (hT : Hid (TabX t w)) (hlow : Hid (0 < B ∧ 1 < B)) (hm : ltMay t k p i s o xs = true) (he : S.data.toList = ltL k p i s o xs) (h : Has B w rs wr) :
    Calls Try.prog 11 #[.string S] wr fun e w' => e = .returned (.int .i64 1) ∧ Hid (Has B w rs w') := by
  have D1 : Hid (Calls Try.prog 19 #[.string S] wr fun e w' => ∃ ao cap, e = .returned (.iface 49 (.agg #[.int .i64 (k : Int), .int .i64 (p : Int), .int .i64 (i : Int), .int .i64 (s : Int), .int .i64 (o : Int), .slice ao xs.length cap])) ∧ Hid (Has B w (TR (.slice ao xs.length cap) xs :: rs) w')) := readL_ok t hS hT hlow hm he h
  have hta := ta_letter2
  clear h he hm
  go_enter Try.func11, Try.ntmps11
  go_wp2_with fail
  refine D1.out.mono ?_
  rintro e w2 ⟨ao, cap, rfl, H2⟩
  clear D1
  go_wp2_with fail
  go_ret
  exact ⟨rfl, H2.out.drop⟩
set_option maxHeartbeats 2000000 in
theorem readLetter_ok (t : Tb) {k p i s o : Nat} {S : ByteArray} {xs : List (List UInt8)} (hS : S.size ≤ 4611686018427387904) (hT : Hid (TabX t w)) (hlow : Hid (0 < B ∧ 1 < B)) (hm : ltMay t k p i s o xs = true) (he : S.data.toList = ltL k p i s o xs) (h : Has B w rs wr) :
    Calls Try.prog 9 #[.string S] wr fun e w' => ∃ ao cap, e = .returned (.tuple #[.agg #[.int .i64 (k : Int), .int .i64 (p : Int), .int .i64 (i : Int), .int .i64 (s : Int), .int .i64 (o : Int), .slice ao xs.length cap], .int .i64 0]) ∧ Hid (Has B w (TR (.slice ao xs.length cap) xs :: rs) w') := by
  have H0 : Hid (Has B w (BlockR wr.heap.size (vL 0 0 0 0 0 nilS) :: rs) (wr.alloc (.cells #[.int .i64 0, .int .i64 0, .int .i64 0, .int .i64 0, .int .i64 0, .slice none 0 0] 24))) := h.box (vL 0 0 0 0 0 nilS) 24
  have D1 : Hid (Calls Try.prog 19 #[.string S] (wr.alloc (.cells #[.int .i64 0, .int .i64 0, .int .i64 0, .int .i64 0, .int .i64 0, .slice none 0 0] 24)) fun e w' => ∃ ao cap, e = .returned (.iface 49 (.agg #[.int .i64 (k : Int), .int .i64 (p : Int), .int .i64 (i : Int), .int .i64 (s : Int), .int .i64 (o : Int), .slice ao xs.length cap])) ∧ Hid (Has B w (TR (.slice ao xs.length cap) xs :: BlockR wr.heap.size (vL 0 0 0 0 0 nilS) :: rs) w')) := readL_ok t hS hT hlow hm he H0.out
  obtain ⟨rb, hrb⟩ : ∃ rb, wr.heap.size = rb := ⟨_, rfl⟩
  rw [hrb] at D1
  clear h H0 he hm hT
  have hta := ta_letter2
  go_enter Try.func9, Try.ntmps9
  go_wp2_with fail
  refine D1.out.mono ?_
  rintro e w2 ⟨ao, cap, rfl, h2⟩
  clear hrb D1
  have H2 : Hid (Has B w (BlockR rb (vL 0 0 0 0 0 nilS) :: BlockR w2.heap.size (vL k p i s o (.slice ao xs.length cap)) :: TR (.slice ao xs.length cap) xs :: rs) (w2.alloc (.cells #[.int .i64 (k : Int), .int .i64 (p : Int), .int .i64 (i : Int), .int .i64 (s : Int), .int .i64 (o : Int), .slice ao xs.length cap] 49))) := (h2.out.box (vL k p i s o (.slice ao xs.length cap)) 49).perm (List.perm_middle (l₁ := [_, _]) (l₂ := rs))
  clear h2
  go_upto_region 4 with fail
  generalize (w2.alloc (.cells #[.int .i64 (k : Int), .int .i64 (p : Int), .int .i64 (i : Int), .int .i64 (s : Int), .int .i64 (o : Int), .slice ao xs.length cap] 49)) = w3 at *
  generalize w2.heap.size = nb at *
  obtain ⟨x0, _⟩ := H2.out.bcell (q := nb) (vs := (vL k p i s o (.slice ao xs.length cap))) (by simp) 0 _ rfl
  obtain ⟨x1, _⟩ := H2.out.bcell (q := nb) (vs := (vL k p i s o (.slice ao xs.length cap))) (by simp) 1 _ rfl
  obtain ⟨x2, _⟩ := H2.out.bcell (q := nb) (vs := (vL k p i s o (.slice ao xs.length cap))) (by simp) 2 _ rfl
  obtain ⟨x3, _⟩ := H2.out.bcell (q := nb) (vs := (vL k p i s o (.slice ao xs.length cap))) (by simp) 3 _ rfl
  obtain ⟨x4, _⟩ := H2.out.bcell (q := nb) (vs := (vL k p i s o (.slice ao xs.length cap))) (by simp) 4 _ rfl
  obtain ⟨x5, _⟩ := H2.out.bcell (q := nb) (vs := (vL k p i s o (.slice ao xs.length cap))) (by simp) 5 _ rfl
  obtain ⟨y0, g0⟩ := H2.out.bcell (q := rb) (vs := (vL 0 0 0 0 0 nilS)) (by simp) 0 _ rfl
  obtain ⟨y1, g1⟩ := H2.out.bcell (q := rb) (vs := (vL 0 0 0 0 0 nilS)) (by simp) 1 _ rfl
  obtain ⟨y2, g2⟩ := H2.out.bcell (q := rb) (vs := (vL 0 0 0 0 0 nilS)) (by simp) 2 _ rfl
  obtain ⟨y3, g3⟩ := H2.out.bcell (q := rb) (vs := (vL 0 0 0 0 0 nilS)) (by simp) 3 _ rfl
  obtain ⟨y4, g4⟩ := H2.out.bcell (q := rb) (vs := (vL 0 0 0 0 0 nilS)) (by simp) 4 _ rfl
  obtain ⟨y5, g5⟩ := H2.out.bcell (q := rb) (vs := (vL 0 0 0 0 0 nilS)) (by simp) 5 _ rfl
  have HQ : Hid (Has B w (BlockR rb (vL k p i s o (.slice ao xs.length cap)) :: BlockR nb (vL k p i s o (.slice ao xs.length cap)) :: TR (.slice ao xs.length cap) xs :: rs) (setAll rb 0 (vL k p i s o (.slice ao xs.length cap)) w3)) := Has.puts (vL k p i s o (.slice ao xs.length cap)) [] (vL 0 0 0 0 0 nilS) H2.out rfl
  clear H2 hta
  go_wp2_with fail
  have HC : Hid (∀ j u, (vL k p i s o (.slice ao xs.length cap))[j]? = some u → (setAll rb 0 (vL k p i s o (.slice ao xs.length cap)) w3).cell? ⟨rb, j, none⟩ = some u) := fun j u hu => (HQ.out.bcell (q := rb) (vs := (vL k p i s o (.slice ao xs.length cap))) (by simp) j u hu).1
  refine bodyPost_ret (results_row_tmp rfl _ _ rb (vL k p i s o (.slice ao xs.length cap)) _ rfl HC.out Try.underlying24 rfl (by kernel_rfl)) rfl ⟨_, _, rfl, ?_⟩
  exact HQ.out.drop.drop
set_option maxHeartbeats 2000000 in
theorem readLetter_none {S : ByteArray} (C : ∀ (rs : List Res) (wr : World), Hid (Has B w rs wr) → Calls Try.prog 19 #[.string S] wr fun e w' => e = .returned .nilIface ∧ Hid (Has B w rs w')) (h : Has B w rs wr) :
    Calls Try.prog 9 #[.string S] wr fun e w' => e = .returned (.tuple #[.agg #[.int .i64 0, .int .i64 0, .int .i64 0, .int .i64 0, .int .i64 0, .slice none 0 0], .int .i64 70]) ∧ Hid (Has B w rs w') := by
  have H0 : Hid (Has B w (BlockR wr.heap.size (vL 0 0 0 0 0 nilS) :: rs) (wr.alloc (.cells #[.int .i64 0, .int .i64 0, .int .i64 0, .int .i64 0, .int .i64 0, .slice none 0 0] 24))) := h.box (vL 0 0 0 0 0 nilS) 24
  have D1 : Hid (Calls Try.prog 19 #[.string S] (wr.alloc (.cells #[.int .i64 0, .int .i64 0, .int .i64 0, .int .i64 0, .int .i64 0, .slice none 0 0] 24)) fun e w' => e = .returned .nilIface ∧ Hid (Has B w (BlockR wr.heap.size (vL 0 0 0 0 0 nilS) :: rs) w')) := C _ _ H0
  obtain ⟨rb, hrb⟩ : ∃ rb, wr.heap.size = rb := ⟨_, rfl⟩
  rw [hrb] at D1
  clear h H0 C
  have hta := ta_nil_letter
  go_enter Try.func9, Try.ntmps9
  go_wp2_with fail
  refine D1.out.mono ?_
  rintro e w2 ⟨rfl, h2⟩
  clear hrb D1
  have H2 : Hid (Has B w (BlockR rb (vL 0 0 0 0 0 nilS) :: rs) (w2.alloc (.cells #[.int .i64 0, .int .i64 0, .int .i64 0, .int .i64 0, .int .i64 0, .slice none 0 0] 49))) := h2.out.below (by go_grown)
  clear h2
  go_upto_region 3 with fail
  generalize (w2.alloc (.cells #[.int .i64 0, .int .i64 0, .int .i64 0, .int .i64 0, .int .i64 0, .slice none 0 0] 49)) = w3 at *
  obtain ⟨y0, g0⟩ := H2.out.bcell (q := rb) (vs := (vL 0 0 0 0 0 nilS)) (by simp) 0 _ rfl
  obtain ⟨y1, g1⟩ := H2.out.bcell (q := rb) (vs := (vL 0 0 0 0 0 nilS)) (by simp) 1 _ rfl
  obtain ⟨y2, g2⟩ := H2.out.bcell (q := rb) (vs := (vL 0 0 0 0 0 nilS)) (by simp) 2 _ rfl
  obtain ⟨y3, g3⟩ := H2.out.bcell (q := rb) (vs := (vL 0 0 0 0 0 nilS)) (by simp) 3 _ rfl
  obtain ⟨y4, g4⟩ := H2.out.bcell (q := rb) (vs := (vL 0 0 0 0 0 nilS)) (by simp) 4 _ rfl
  obtain ⟨y5, g5⟩ := H2.out.bcell (q := rb) (vs := (vL 0 0 0 0 0 nilS)) (by simp) 5 _ rfl
  have HQ : Hid (Has B w (BlockR rb (vL 0 0 0 0 0 nilS) :: rs) (setAll rb 0 (vL 0 0 0 0 0 nilS) w3)) := Has.puts (vL 0 0 0 0 0 nilS) [] (vL 0 0 0 0 0 nilS) H2.out rfl
  clear H2 hta
  go_wp2_with fail
  have HC : Hid (∀ j u, (vL 0 0 0 0 0 nilS)[j]? = some u → (setAll rb 0 (vL 0 0 0 0 0 nilS) w3).cell? ⟨rb, j, none⟩ = some u) := fun j u hu => (HQ.out.bcell (q := rb) (vs := (vL 0 0 0 0 0 nilS)) (by simp) j u hu).1
  refine bodyPost_ret (results_row_tmp rfl _ _ rb (vL 0 0 0 0 0 nilS) _ rfl HC.out Try.underlying24 rfl (by kernel_rfl)) rfl ⟨rfl, ?_⟩
  exact HQ.out.drop
end
end Go.Proofs.Ytbgankldnjeohaa.Pl
