/- The texts LtMay, LtForm, LtRead, LtVal, LtGet, EvGet, EvTop, LtTop, LtCut, LtCutV, NtRead, NtVal, one behind the other. -/
import Derived.Test.YtbgankldnjeohaaEvCall
import Derived.Test.YtbgankldnjeohaaEvVal
import Derived.Test.YtbgankldnjeohaaCatch
import Derived.Test.YtbgankldnjeohaaLiveF
import Derived.Test.YtbgankldnjeohaaRdKeys
import Derived.Test.YtbgankldnjeohaaLiveC
import Derived.Test.YtbgankldnjeohaaNotesW
/- letter.mayBe, at tables of any content. -/
set_option linter.unusedVariables false
set_option linter.unusedSimpArgs false
set_option maxRecDepth 100000
namespace Go.Proofs.Ytbgankldnjeohaa
open Go.RowKit

/-- May the letter be? -/
def ltMay (t : Tb) (k p i s o : Int) (xs : List (List UInt8)) : Bool :=
  btw k 1 9 && btw p 0 3 && btw i 1 60 && (if k = 1 then btw s 0 7 && btw o 1 3 && keysX t xs else if k = 3 ∨ k = 9 then decide (s = 0) && decide (o = 0) && decide (xs.length = 0) else btw s 0 7 && decide (o = 0) && decide (xs.length = 0))
set_option maxHeartbeats 2000000 in
theorem ltMay_any (t : Tb) (k p i s o : Int) (v : Value) (xs : List (List UInt8)) (hx : xs.length ≤ 140737488355328) (hxs : ∀ s ∈ xs, s.length ≤ 140737488351232) (w : World) (hT : Hid (TabX t w)) (hlow : Hid (0 < w.heap.size ∧ 1 < w.heap.size)) (hS : SRow w v xs) :
    Calls Try.prog 62 #[.agg #[.int .i64 k, .int .i64 p, .int .i64 i, .int .i64 s, .int .i64 o, v]] w fun e w' => e = .returned (.bool (ltMay t k p i s o xs)) ∧ Below w.heap.size w w' := by
  have CK : Hid (∀ w1, Below w.heap.size w w1 → Calls Try.prog 69 #[v] w1 fun e w' => e = .returned (.bool (keysX t xs)) ∧ Below w1.heap.size w1 w') := fun w1 hb =>
    areKeys_any t v xs hx hxs w1 (hT.out.below hb hlow.out) ⟨Nat.lt_of_lt_of_le hlow.out.1 hb.size, Nat.lt_of_lt_of_le hlow.out.2 hb.size⟩ (srow_below hS hb)
  obtain ⟨ao, cap, rfl, hca, hrow⟩ := hS
  clear hrow hxs hT hlow
  cases b0 : btw k 1 9 with
  | false =>
    have HE : Hid (ltMay t k p i s o xs = false) := by show _ = _; unfold ltMay; rw [b0]; rfl
    clear CK
    go_enter Try.func62, Try.ntmps62
    go_wp2_with (first | (go_at_call 65; refine (between_any _ _ _ _).mono ?_; rintro e w' ⟨rfl, hw'⟩; first | (rw [hw', b0]; clear hw' w')))
    all_goals go_ret
    all_goals exact ⟨retB HE.out.symm, by go_grown⟩
  | true =>
  cases bp : btw p 0 3 with
  | false =>
    have HE : Hid (ltMay t k p i s o xs = false) := by show _ = _; unfold ltMay; rw [b0, bp]; rfl
    clear CK
    go_enter Try.func62, Try.ntmps62
    go_wp2_with (first | (go_at_call 66; refine (isPart_any _ _).mono ?_; rintro e w' ⟨rfl, hw'⟩; rw [hw', bp]; clear hw' w') | (go_at_call 65; refine (between_any _ _ _ _).mono ?_; rintro e w' ⟨rfl, hw'⟩; first | (rw [hw', b0]; clear hw' w')))
    all_goals go_ret
    all_goals exact ⟨retB HE.out.symm, by go_grown⟩
  | true =>
  cases bi : btw i 1 60 with
  | false =>
    have HE : Hid (ltMay t k p i s o xs = false) := by show _ = _; unfold ltMay; rw [b0, bp, bi]; rfl
    clear CK
    go_enter Try.func62, Try.ntmps62
    go_wp2_with (first | (go_at_call 67; refine (isID_any _ _).mono ?_; rintro e w' ⟨rfl, hw'⟩; rw [hw', bi]; clear hw' w') | (go_at_call 66; refine (isPart_any _ _).mono ?_; rintro e w' ⟨rfl, hw'⟩; rw [hw', bp]; clear hw' w') | (go_at_call 65; refine (between_any _ _ _ _).mono ?_; rintro e w' ⟨rfl, hw'⟩; first | (rw [hw', b0]; clear hw' w')))
    all_goals go_ret
    all_goals exact ⟨retB HE.out.symm, by go_grown⟩
  | true =>
  by_cases k1 : k = 1
  · subst k1
    cases bs : btw s 0 7 with
    | false =>
      have HE : Hid (ltMay t 1 p i s o xs = false) := by show _ = _; unfold ltMay; rw [b0, bp, bi, bs]; rfl
      clear CK
      go_enter Try.func62, Try.ntmps62
      go_wp2_with (first | (go_at_call 68; refine (isStep_any _ _).mono ?_; rintro e w' ⟨rfl, hw'⟩; rw [hw', bs]; clear hw' w') | (go_at_call 67; refine (isID_any _ _).mono ?_; rintro e w' ⟨rfl, hw'⟩; rw [hw', bi]; clear hw' w') | (go_at_call 66; refine (isPart_any _ _).mono ?_; rintro e w' ⟨rfl, hw'⟩; rw [hw', bp]; clear hw' w') | (go_at_call 65; refine (between_any _ _ _ _).mono ?_; rintro e w' ⟨rfl, hw'⟩; first | (rw [hw', b0]; clear hw' w')))
      all_goals go_ret
      all_goals exact ⟨retB HE.out.symm, by go_grown⟩
    | true =>
    cases bo : btw o 1 3 with
    | false =>
      have HE : Hid (ltMay t 1 p i s o xs = false) := by show _ = _; unfold ltMay; rw [b0, bp, bi, bs, bo]; rfl
      clear CK
      go_enter Try.func62, Try.ntmps62
      go_wp2_with (first | (go_at_call 68; refine (isStep_any _ _).mono ?_; rintro e w' ⟨rfl, hw'⟩; rw [hw', bs]; clear hw' w') | (go_at_call 67; refine (isID_any _ _).mono ?_; rintro e w' ⟨rfl, hw'⟩; rw [hw', bi]; clear hw' w') | (go_at_call 66; refine (isPart_any _ _).mono ?_; rintro e w' ⟨rfl, hw'⟩; rw [hw', bp]; clear hw' w') | (go_at_call 65; refine (between_any _ _ _ _).mono ?_; rintro e w' ⟨rfl, hw'⟩; first | (rw [hw', b0]; clear hw' w') | (rw [hw', bo]; clear hw' w')))
      all_goals go_ret
      all_goals exact ⟨retB HE.out.symm, by go_grown⟩
    | true =>
      have HE : Hid (ltMay t 1 p i s o xs = keysX t xs) := by show _ = _; unfold ltMay; rw [b0, bp, bi, bs, bo]; rfl
      generalize keysX t xs = q at *
      go_enter Try.func62, Try.ntmps62
      go_wp2_with (first | (go_at_call 68; refine (isStep_any _ _).mono ?_; rintro e w' ⟨rfl, hw'⟩; rw [hw', bs]; clear hw' w') | (go_at_call 67; refine (isID_any _ _).mono ?_; rintro e w' ⟨rfl, hw'⟩; rw [hw', bi]; clear hw' w') | (go_at_call 66; refine (isPart_any _ _).mono ?_; rintro e w' ⟨rfl, hw'⟩; rw [hw', bp]; clear hw' w') | (go_at_call 65; refine (between_any _ _ _ _).mono ?_; rintro e w' ⟨rfl, hw'⟩; first | (rw [hw', b0]; clear hw' w') | (rw [hw', bo]; clear hw' w')))
      refine (CK.out _ (by go_grown)).mono ?_
      rintro e w2 ⟨rfl, hb2⟩
      have HB : Hid (Below w.heap.size w w2) := (show Below w.heap.size w _ by go_grown).trans (hb2.mono (by simp))
      clear hb2 CK
      go_wp2_with fail
      all_goals go_ret
      all_goals exact ⟨retB HE.out.symm, HB.out⟩
  · by_cases k3 : k = 3
    · subst k3
      by_cases s0 : s = 0
      · subst s0
        by_cases o0 : o = 0
        · subst o0
          by_cases n0 : xs.length = 0
          · rw [n0] at hca ⊢
            have HE : Hid (ltMay t 3 p i 0 0 xs = true) := by show _ = _; unfold ltMay; rw [b0, bp, bi]; simp [n0]
            clear CK
            go_enter Try.func62, Try.ntmps62
            go_wp2_with (first | (go_at_call 67; refine (isID_any _ _).mono ?_; rintro e w' ⟨rfl, hw'⟩; rw [hw', bi]; clear hw' w') | (go_at_call 66; refine (isPart_any _ _).mono ?_; rintro e w' ⟨rfl, hw'⟩; rw [hw', bp]; clear hw' w') | (go_at_call 65; refine (between_any _ _ _ _).mono ?_; rintro e w' ⟨rfl, hw'⟩; first | (rw [hw', b0]; clear hw' w')))
            all_goals go_ret
            all_goals exact ⟨retB HE.out.symm, by go_grown⟩
          · have n0' : ((xs.length : Int) == 0) = false := beq_eq_false_iff_ne.2 (by omega)
            have HE : Hid (ltMay t 3 p i 0 0 xs = false) := by show _ = _; unfold ltMay; rw [b0, bp, bi]; simp [n0]
            clear CK
            go_enter Try.func62, Try.ntmps62
            go_wp2_with (first | (go_at_call 67; refine (isID_any _ _).mono ?_; rintro e w' ⟨rfl, hw'⟩; rw [hw', bi]; clear hw' w') | (go_at_call 66; refine (isPart_any _ _).mono ?_; rintro e w' ⟨rfl, hw'⟩; rw [hw', bp]; clear hw' w') | (go_at_call 65; refine (between_any _ _ _ _).mono ?_; rintro e w' ⟨rfl, hw'⟩; first | (rw [hw', b0]; clear hw' w')))
            all_goals go_ret
            all_goals exact ⟨retB HE.out.symm, by go_grown⟩
        · have o0' : (o == 0) = false := beq_eq_false_iff_ne.2 o0
          have HE : Hid (ltMay t 3 p i 0 o xs = false) := by show _ = _; unfold ltMay; rw [b0, bp, bi]; simp [o0]
          clear CK
          go_enter Try.func62, Try.ntmps62
          go_wp2_with (first | (go_at_call 67; refine (isID_any _ _).mono ?_; rintro e w' ⟨rfl, hw'⟩; rw [hw', bi]; clear hw' w') | (go_at_call 66; refine (isPart_any _ _).mono ?_; rintro e w' ⟨rfl, hw'⟩; rw [hw', bp]; clear hw' w') | (go_at_call 65; refine (between_any _ _ _ _).mono ?_; rintro e w' ⟨rfl, hw'⟩; first | (rw [hw', b0]; clear hw' w')))
          all_goals go_ret
          all_goals exact ⟨retB HE.out.symm, by go_grown⟩
      · have s0' : (s == 0) = false := beq_eq_false_iff_ne.2 s0
        have HE : Hid (ltMay t 3 p i s o xs = false) := by show _ = _; unfold ltMay; rw [b0, bp, bi]; simp [s0]
        clear CK
        go_enter Try.func62, Try.ntmps62
        go_wp2_with (first | (go_at_call 67; refine (isID_any _ _).mono ?_; rintro e w' ⟨rfl, hw'⟩; rw [hw', bi]; clear hw' w') | (go_at_call 66; refine (isPart_any _ _).mono ?_; rintro e w' ⟨rfl, hw'⟩; rw [hw', bp]; clear hw' w') | (go_at_call 65; refine (between_any _ _ _ _).mono ?_; rintro e w' ⟨rfl, hw'⟩; first | (rw [hw', b0]; clear hw' w')))
        all_goals go_ret
        all_goals exact ⟨retB HE.out.symm, by go_grown⟩
    by_cases k9 : k = 9
    · subst k9
      by_cases s0 : s = 0
      · subst s0
        by_cases o0 : o = 0
        · subst o0
          by_cases n0 : xs.length = 0
          · rw [n0] at hca ⊢
            have HE : Hid (ltMay t 9 p i 0 0 xs = true) := by show _ = _; unfold ltMay; rw [b0, bp, bi]; simp [n0]
            clear CK
            go_enter Try.func62, Try.ntmps62
            go_wp2_with (first | (go_at_call 67; refine (isID_any _ _).mono ?_; rintro e w' ⟨rfl, hw'⟩; rw [hw', bi]; clear hw' w') | (go_at_call 66; refine (isPart_any _ _).mono ?_; rintro e w' ⟨rfl, hw'⟩; rw [hw', bp]; clear hw' w') | (go_at_call 65; refine (between_any _ _ _ _).mono ?_; rintro e w' ⟨rfl, hw'⟩; first | (rw [hw', b0]; clear hw' w')))
            all_goals go_ret
            all_goals exact ⟨retB HE.out.symm, by go_grown⟩
          · have n0' : ((xs.length : Int) == 0) = false := beq_eq_false_iff_ne.2 (by omega)
            have HE : Hid (ltMay t 9 p i 0 0 xs = false) := by show _ = _; unfold ltMay; rw [b0, bp, bi]; simp [n0]
            clear CK
            go_enter Try.func62, Try.ntmps62
            go_wp2_with (first | (go_at_call 67; refine (isID_any _ _).mono ?_; rintro e w' ⟨rfl, hw'⟩; rw [hw', bi]; clear hw' w') | (go_at_call 66; refine (isPart_any _ _).mono ?_; rintro e w' ⟨rfl, hw'⟩; rw [hw', bp]; clear hw' w') | (go_at_call 65; refine (between_any _ _ _ _).mono ?_; rintro e w' ⟨rfl, hw'⟩; first | (rw [hw', b0]; clear hw' w')))
            all_goals go_ret
            all_goals exact ⟨retB HE.out.symm, by go_grown⟩
        · have o0' : (o == 0) = false := beq_eq_false_iff_ne.2 o0
          have HE : Hid (ltMay t 9 p i 0 o xs = false) := by show _ = _; unfold ltMay; rw [b0, bp, bi]; simp [o0]
          clear CK
          go_enter Try.func62, Try.ntmps62
          go_wp2_with (first | (go_at_call 67; refine (isID_any _ _).mono ?_; rintro e w' ⟨rfl, hw'⟩; rw [hw', bi]; clear hw' w') | (go_at_call 66; refine (isPart_any _ _).mono ?_; rintro e w' ⟨rfl, hw'⟩; rw [hw', bp]; clear hw' w') | (go_at_call 65; refine (between_any _ _ _ _).mono ?_; rintro e w' ⟨rfl, hw'⟩; first | (rw [hw', b0]; clear hw' w')))
          all_goals go_ret
          all_goals exact ⟨retB HE.out.symm, by go_grown⟩
      · have s0' : (s == 0) = false := beq_eq_false_iff_ne.2 s0
        have HE : Hid (ltMay t 9 p i s o xs = false) := by show _ = _; unfold ltMay; rw [b0, bp, bi]; simp [s0]
        clear CK
        go_enter Try.func62, Try.ntmps62
        go_wp2_with (first | (go_at_call 67; refine (isID_any _ _).mono ?_; rintro e w' ⟨rfl, hw'⟩; rw [hw', bi]; clear hw' w') | (go_at_call 66; refine (isPart_any _ _).mono ?_; rintro e w' ⟨rfl, hw'⟩; rw [hw', bp]; clear hw' w') | (go_at_call 65; refine (between_any _ _ _ _).mono ?_; rintro e w' ⟨rfl, hw'⟩; first | (rw [hw', b0]; clear hw' w')))
        all_goals go_ret
        all_goals exact ⟨retB HE.out.symm, by go_grown⟩
    have k1' : (k == 1) = false := beq_eq_false_iff_ne.2 k1
    have k3' : (k == 3) = false := beq_eq_false_iff_ne.2 k3
    have k9' : (k == 9) = false := beq_eq_false_iff_ne.2 k9
    cases bs : btw s 0 7 with
    | false =>
      have HE : Hid (ltMay t k p i s o xs = false) := by show _ = _; unfold ltMay; rw [b0, bp, bi, bs, if_neg k1, if_neg (by omega)]; rfl
      clear CK
      go_enter Try.func62, Try.ntmps62
      go_wp2_with (first | (go_at_call 68; refine (isStep_any _ _).mono ?_; rintro e w' ⟨rfl, hw'⟩; rw [hw', bs]; clear hw' w') | (go_at_call 67; refine (isID_any _ _).mono ?_; rintro e w' ⟨rfl, hw'⟩; rw [hw', bi]; clear hw' w') | (go_at_call 66; refine (isPart_any _ _).mono ?_; rintro e w' ⟨rfl, hw'⟩; rw [hw', bp]; clear hw' w') | (go_at_call 65; refine (between_any _ _ _ _).mono ?_; rintro e w' ⟨rfl, hw'⟩; first | (rw [hw', b0]; clear hw' w')))
      all_goals go_ret
      all_goals exact ⟨retB HE.out.symm, by go_grown⟩
    | true =>
      by_cases o0 : o = 0
      · subst o0
        by_cases n0 : xs.length = 0
        · rw [n0] at hca ⊢
          have HE : Hid (ltMay t k p i s 0 xs = true) := by show _ = _; unfold ltMay; rw [b0, bp, bi]; simp [bs, k1, k3, k9, n0]
          clear CK
          go_enter Try.func62, Try.ntmps62
          go_wp2_with (first | (go_at_call 68; refine (isStep_any _ _).mono ?_; rintro e w' ⟨rfl, hw'⟩; rw [hw', bs]; clear hw' w') | (go_at_call 67; refine (isID_any _ _).mono ?_; rintro e w' ⟨rfl, hw'⟩; rw [hw', bi]; clear hw' w') | (go_at_call 66; refine (isPart_any _ _).mono ?_; rintro e w' ⟨rfl, hw'⟩; rw [hw', bp]; clear hw' w') | (go_at_call 65; refine (between_any _ _ _ _).mono ?_; rintro e w' ⟨rfl, hw'⟩; first | (rw [hw', b0]; clear hw' w')))
          all_goals go_ret
          all_goals exact ⟨retB HE.out.symm, by go_grown⟩
        · have n0' : ((xs.length : Int) == 0) = false := beq_eq_false_iff_ne.2 (by omega)
          have HE : Hid (ltMay t k p i s 0 xs = false) := by show _ = _; unfold ltMay; rw [b0, bp, bi]; simp [bs, k1, k3, k9, n0]
          clear CK
          go_enter Try.func62, Try.ntmps62
          go_wp2_with (first | (go_at_call 68; refine (isStep_any _ _).mono ?_; rintro e w' ⟨rfl, hw'⟩; rw [hw', bs]; clear hw' w') | (go_at_call 67; refine (isID_any _ _).mono ?_; rintro e w' ⟨rfl, hw'⟩; rw [hw', bi]; clear hw' w') | (go_at_call 66; refine (isPart_any _ _).mono ?_; rintro e w' ⟨rfl, hw'⟩; rw [hw', bp]; clear hw' w') | (go_at_call 65; refine (between_any _ _ _ _).mono ?_; rintro e w' ⟨rfl, hw'⟩; first | (rw [hw', b0]; clear hw' w')))
          all_goals go_ret
          all_goals exact ⟨retB HE.out.symm, by go_grown⟩
      · have o0' : (o == 0) = false := beq_eq_false_iff_ne.2 o0
        have HE : Hid (ltMay t k p i s o xs = false) := by show _ = _; unfold ltMay; rw [b0, bp, bi]; simp [bs, k1, k3, k9, o0]
        clear CK
        go_enter Try.func62, Try.ntmps62
        go_wp2_with (first | (go_at_call 68; refine (isStep_any _ _).mono ?_; rintro e w' ⟨rfl, hw'⟩; rw [hw', bs]; clear hw' w') | (go_at_call 67; refine (isID_any _ _).mono ?_; rintro e w' ⟨rfl, hw'⟩; rw [hw', bi]; clear hw' w') | (go_at_call 66; refine (isPart_any _ _).mono ?_; rintro e w' ⟨rfl, hw'⟩; rw [hw', bp]; clear hw' w') | (go_at_call 65; refine (between_any _ _ _ _).mono ?_; rintro e w' ⟨rfl, hw'⟩; first | (rw [hw', b0]; clear hw' w')))
        all_goals go_ret
        all_goals exact ⟨retB HE.out.symm, by go_grown⟩
end Go.Proofs.Ytbgankldnjeohaa

/- The form of a letter; codec.Letter of any letter, at tables of any content. -/
set_option linter.unusedVariables false
set_option linter.unusedSimpArgs false
set_option maxRecDepth 100000
namespace Go.Proofs.Ytbgankldnjeohaa
open Go.RowKit Go.Lib Go.Shelf

theorem bstr_76 (l : List UInt8) : Value.string (ByteArray.mk #[76] ++ bA l) = bstr (76 :: l) := by
  unfold bstr bA; congr 1
theorem mk76 : (⟨#[76]⟩ : ByteArray) = bA [76] := rfl
set_option maxHeartbeats 4000000 in
theorem ltForm1 (p i s o : Int) (ao : Option Addr) (n cap : Nat) (w : World) (a b : ByteArray) (ha : a.size ≤ 64) (hb : b.size ≤ 4000)
    (C1 : Hid (∀ (w1 : World) (g : Nat), (∀ j x, (#[.int .i64 1, .int .i64 p, .int .i64 i, .int .i64 s, .int .i64 o] : Array Value)[j]? = some x → w1.cell? ⟨g, j, none⟩ = some x) → g < w1.heap.size → Hid (Left w [(0, .int .i64 1), (1, .int .i64 p), (2, .int .i64 i), (3, .int .i64 s), (4, .int .i64 o), (5, .slice ao n cap)] w1) → Calls Try.prog 63 #[.slice (some ⟨g, 0, none⟩) 5 5] w1 fun e w' => e = .returned (.string a) ∧ w'.cell? ⟨w.heap.size, 0, none⟩ = some (.int .i64 1) ∧ w'.cell? ⟨w.heap.size, 1, none⟩ = some (.int .i64 p) ∧ w'.cell? ⟨w.heap.size, 2, none⟩ = some (.int .i64 i) ∧ w'.cell? ⟨w.heap.size, 3, none⟩ = some (.int .i64 s) ∧ w'.cell? ⟨w.heap.size, 4, none⟩ = some (.int .i64 o) ∧ w'.cell? ⟨w.heap.size, 5, none⟩ = some (.slice ao n cap) ∧ Hid (Left w [(0, .int .i64 1), (1, .int .i64 p), (2, .int .i64 i), (3, .int .i64 s), (4, .int .i64 o), (5, .slice ao n cap)] w')))
    (C2 : Hid (∀ (w1 : World), Hid (Left w [(0, .int .i64 1), (1, .int .i64 p), (2, .int .i64 i), (3, .int .i64 s), (4, .int .i64 o), (5, .slice ao n cap)] w1) → Calls Try.prog 64 #[.slice ao n cap] w1 fun e w' => e = .returned (.string b) ∧ w'.cell? ⟨w.heap.size, 0, none⟩ = some (.int .i64 1) ∧ w'.cell? ⟨w.heap.size, 1, none⟩ = some (.int .i64 p) ∧ w'.cell? ⟨w.heap.size, 2, none⟩ = some (.int .i64 i) ∧ w'.cell? ⟨w.heap.size, 3, none⟩ = some (.int .i64 s) ∧ w'.cell? ⟨w.heap.size, 4, none⟩ = some (.int .i64 o) ∧ w'.cell? ⟨w.heap.size, 5, none⟩ = some (.slice ao n cap) ∧ Hid (Left w [(0, .int .i64 1), (1, .int .i64 p), (2, .int .i64 i), (3, .int .i64 s), (4, .int .i64 o), (5, .slice ao n cap)] w'))) :
    Calls Try.prog 61 #[.agg #[.int .i64 1, .int .i64 p, .int .i64 i, .int .i64 s, .int .i64 o, .slice ao n cap]] w fun e w' => e = .returned (.string (⟨#[76]⟩ ++ a ++ b)) ∧ Below w.heap.size w w' := by
  have p0 : ¬ 9223372036854775807 < (ByteArray.mk #[76]).size + a.size := by simp only [ByteArray.size_append, show (ByteArray.mk #[76]).size = 1 from rfl]; omega
  have r0 : ¬ 9223372036854775807 < 1 + a.size := by omega
  have p1 : ¬ 9223372036854775807 < ((ByteArray.mk #[76]) ++ a).size + b.size := by simp only [ByteArray.size_append, show (ByteArray.mk #[76]).size = 1 from rfl]; omega
  have r1 : ¬ 9223372036854775807 < 1 + a.size + b.size := by omega
  have HF : Hid (Left w [(0, .int .i64 1), (1, .int .i64 p), (2, .int .i64 i), (3, .int .i64 s), (4, .int .i64 o), (5, .slice ao n cap)] (w.alloc (.cells #[.int .i64 1, .int .i64 p, .int .i64 i, .int .i64 s, .int .i64 o, .slice ao n cap] 49))) := Left.first _ _ _ _ (by simp)
  go_enter Try.func61, Try.ntmps61
  go_wp2_with fail
  go_region_held3 (fun w' => w'.cell? ⟨w.heap.size, 0, none⟩ = some (.int .i64 1) ∧ w'.cell? ⟨w.heap.size, 1, none⟩ = some (.int .i64 p) ∧ w'.cell? ⟨w.heap.size, 2, none⟩ = some (.int .i64 i) ∧ w'.cell? ⟨w.heap.size, 3, none⟩ = some (.int .i64 s) ∧ w'.cell? ⟨w.heap.size, 4, none⟩ = some (.int .i64 o) ∧ w'.cell? ⟨w.heap.size, 5, none⟩ = some (.slice ao n cap)) (go_keep) (first | (go_at_call 63; refine (C1.out _ _ (new_cells (by simp)) (by simp) (HF.out.alloc _).draw).mono ?_; rintro e w1 ⟨rfl, m0, m1, m2, m3, m4, m5, HB1⟩) | (go_at_call 64; refine (C2.out _ HB1).mono ?_; rintro e w2 ⟨rfl, n0, n1, n2, n3, n4, n5, HB2⟩))
  all_goals go_wp2
  all_goals go_ret
  all_goals exact ⟨rfl, HB2.out.2.1⟩
set_option maxHeartbeats 1000000 in
theorem ltForm3 (p i s o : Int) (ao : Option Addr) (n cap : Nat) (w : World) (b : ByteArray) (HL : b.size ≤ 64)
    (C : Hid (∀ (w1 : World) (g : Nat), g = w1.heap.size → Calls Try.prog 63 #[.slice (some ⟨g, 0, none⟩) 3 3] (w1.alloc (.cells #[.int .i64 3, .int .i64 p, .int .i64 i] 3)) fun e w' => e = .returned (.string b) ∧ Below w1.heap.size w1 w')) :
    Calls Try.prog 61 #[.agg #[.int .i64 3, .int .i64 p, .int .i64 i, .int .i64 s, .int .i64 o, .slice ao n cap]] w fun e w' => e = .returned (.string (⟨#[76]⟩ ++ b)) ∧ Below w.heap.size w w' := by
  go_enter Try.func61, Try.ntmps61
  go_wp2_with fail
  refine (C.out _ _ (by simp)).mono ?_
  rintro e w1 ⟨rfl, hb⟩
  go_wp2
  go_ret
  refine ⟨rfl, ?_⟩
  have h3 : Below w.heap.size w (w.alloc (.cells #[.int .i64 3, .int .i64 p, .int .i64 i, .int .i64 s, .int .i64 o, .slice ao n cap] 49)) := (Below.refl _ _).alloc (Nat.le_refl _) _
  exact h3.trans (hb.mono h3.size)
set_option maxHeartbeats 1000000 in
theorem ltForm9 (p i s o : Int) (ao : Option Addr) (n cap : Nat) (w : World) (b : ByteArray) (HL : b.size ≤ 64)
    (C : Hid (∀ (w1 : World) (g : Nat), g = w1.heap.size → Calls Try.prog 63 #[.slice (some ⟨g, 0, none⟩) 3 3] (w1.alloc (.cells #[.int .i64 9, .int .i64 p, .int .i64 i] 3)) fun e w' => e = .returned (.string b) ∧ Below w1.heap.size w1 w')) :
    Calls Try.prog 61 #[.agg #[.int .i64 9, .int .i64 p, .int .i64 i, .int .i64 s, .int .i64 o, .slice ao n cap]] w fun e w' => e = .returned (.string (⟨#[76]⟩ ++ b)) ∧ Below w.heap.size w w' := by
  go_enter Try.func61, Try.ntmps61
  go_wp2_with fail
  refine (C.out _ _ (by simp)).mono ?_
  rintro e w1 ⟨rfl, hb⟩
  go_wp2
  go_ret
  refine ⟨rfl, ?_⟩
  have h3 : Below w.heap.size w (w.alloc (.cells #[.int .i64 9, .int .i64 p, .int .i64 i, .int .i64 s, .int .i64 o, .slice ao n cap] 49)) := (Below.refl _ _).alloc (Nat.le_refl _) _
  exact h3.trans (hb.mono h3.size)
set_option maxHeartbeats 1000000 in
theorem ltFormK (k p i s o : Int) (k1 : k ≠ 1) (k3 : k ≠ 3) (k9 : k ≠ 9) (ao : Option Addr) (n cap : Nat) (w : World) (b : ByteArray) (HL : b.size ≤ 64)
    (C : Hid (∀ (w1 : World) (g : Nat), g = w1.heap.size → Calls Try.prog 63 #[.slice (some ⟨g, 0, none⟩) 4 4] (w1.alloc (.cells #[.int .i64 k, .int .i64 p, .int .i64 i, .int .i64 s] 3)) fun e w' => e = .returned (.string b) ∧ Below w1.heap.size w1 w')) :
    Calls Try.prog 61 #[.agg #[.int .i64 k, .int .i64 p, .int .i64 i, .int .i64 s, .int .i64 o, .slice ao n cap]] w fun e w' => e = .returned (.string (⟨#[76]⟩ ++ b)) ∧ Below w.heap.size w w' := by
  have k1' : (k == 1) = false := beq_eq_false_iff_ne.2 k1
  have k3' : (k == 3) = false := beq_eq_false_iff_ne.2 k3
  have k9' : (k == 9) = false := beq_eq_false_iff_ne.2 k9
  go_enter Try.func61, Try.ntmps61
  go_wp2_with fail
  refine (C.out _ _ (by simp)).mono ?_
  rintro e w1 ⟨rfl, hb⟩
  go_wp2
  go_ret
  refine ⟨rfl, ?_⟩
  have h3 : Below w.heap.size w (w.alloc (.cells #[.int .i64 k, .int .i64 p, .int .i64 i, .int .i64 s, .int .i64 o, .slice ao n cap] 49)) := (Below.refl _ _).alloc (Nat.le_refl _) _
  exact h3.trans (hb.mono h3.size)
/-- The form of a letter. -/
def ltL (k p i s o : Nat) (xs : List (List UInt8)) : List UInt8 := 76 :: (if k = 1 then numsL [1, p, i, s, o] ++ PackMath.lst xs else if k = 3 then numsL [3, p, i] else if k = 9 then numsL [9, p, i] else numsL [k, p, i, s])
theorem small5 {a b c d e : Nat} (h : a ≤ 2000) (h' : b ≤ 2000) (h2 : c ≤ 2000) (h3 : d ≤ 2000) (h4 : e ≤ 2000) : Small [a, b, c, d, e] := fun x hx => by simp at hx; omega
theorem ltForm_any (k p i s o : Nat) (hk : k ≤ 2000) (hp : p ≤ 2000) (hi : i ≤ 2000) (hs : s ≤ 2000) (ho : o ≤ 2000) (v : Value) (xs : List (List UInt8)) (hx : xs.length ≤ 2) (hxs : ∀ s ∈ xs, s.length ≤ 2000) (hl : (PackMath.lst xs).length ≤ 4000) (w : World) (hS : SRow w v xs) :
    Calls Try.prog 61 #[.agg #[.int .i64 (k : Int), .int .i64 (p : Int), .int .i64 (i : Int), .int .i64 (s : Int), .int .i64 (o : Int), v]] w fun e w' => e = .returned (bstr (ltL k p i s o xs)) ∧ Below w.heap.size w w' := by
  obtain ⟨ao, cap, rfl, hca, hrow⟩ := id hS
  by_cases k1 : k = 1
  · subst k1
    have HS : Small [1, p, i, s, o] := small5 (by omega) hp hi hs ho
    have x := ltForm1 (p : Int) (i : Int) (s : Int) (o : Int) ao xs.length cap w (bA (numsL [1, p, i, s, o])) (bA (PackMath.lst xs)) (bA_nums HS (by simp)) (by rw [bA_size]; exact hl)
      (fun w1 g hc hg hl => (nums_any w1 _ [1, p, i, s, o] (by simp) HS (nrow_of hg rfl rfl hc)).mono (fun e w' ⟨he, hb⟩ => ⟨he, (hl.out.call hb).2.2 (0, .int .i64 1) (by simp), (hl.out.call hb).2.2 (1, .int .i64 (p : Int)) (by simp), (hl.out.call hb).2.2 (2, .int .i64 (i : Int)) (by simp), (hl.out.call hb).2.2 (3, .int .i64 (s : Int)) (by simp), (hl.out.call hb).2.2 (4, .int .i64 (o : Int)) (by simp), (hl.out.call hb).2.2 (5, .slice ao xs.length cap) (by simp), hl.out.call hb⟩))
      (fun w1 hl => (list_ok _ xs (by omega) hxs w1 (srow_below hS hl.out.2.1)).mono (fun e w' ⟨he, hb⟩ => ⟨he, (hl.out.call hb).2.2 (0, .int .i64 1) (by simp), (hl.out.call hb).2.2 (1, .int .i64 (p : Int)) (by simp), (hl.out.call hb).2.2 (2, .int .i64 (i : Int)) (by simp), (hl.out.call hb).2.2 (3, .int .i64 (s : Int)) (by simp), (hl.out.call hb).2.2 (4, .int .i64 (o : Int)) (by simp), (hl.out.call hb).2.2 (5, .slice ao xs.length cap) (by simp), hl.out.call hb⟩))
    rw [mk76] at x
    simp only [bA_app, List.append_assoc] at x
    exact x
  · by_cases k3 : k = 3
    · subst k3
      have HS : Small [3, p, i] := small3 (by omega) hp hi
      have x := ltForm3 (p : Int) (i : Int) (s : Int) (o : Int) ao xs.length cap w (bA (numsL [3, p, i])) (bA_nums HS (by simp)) (fun w1 g hg => by subst hg; exact nums_new [3, p, i] (by simp) HS w1 _ (by simp) _ (by simp) _)
      simp only [bstr_76] at x
      exact x
    · by_cases k9 : k = 9
      · subst k9
        have HS : Small [9, p, i] := small3 (by omega) hp hi
        have x := ltForm9 (p : Int) (i : Int) (s : Int) (o : Int) ao xs.length cap w (bA (numsL [9, p, i])) (bA_nums HS (by simp)) (fun w1 g hg => by subst hg; exact nums_new [9, p, i] (by simp) HS w1 _ (by simp) _ (by simp) _)
        simp only [bstr_76] at x
        exact x
      · have HS : Small [k, p, i, s] := small4 hk hp hi hs
        have x := ltFormK (k : Int) (p : Int) (i : Int) (s : Int) (o : Int) (by omega) (by omega) (by omega) ao xs.length cap w (bA (numsL [k, p, i, s])) (bA_nums HS (by simp)) (fun w1 g hg => by subst hg; exact nums_new [k, p, i, s] (by simp) HS w1 _ (by simp) _ (by simp) _)
        simp only [bstr_76] at x
        have e : ltL k p i s o xs = 76 :: numsL [k, p, i, s] := by unfold ltL; rw [if_neg k1, if_neg k3, if_neg k9]
        rw [e]
        exact x
theorem letter_call {k p i s o j : Int} {v e1 : Value} {w : World} (hv : ∃ ao n cap, v = .slice ao n cap)
    (C : Hid (∀ w1, Below w.heap.size w w1 → Calls Try.prog 18 #[.iface 49 (.agg #[.int .i64 k, .int .i64 p, .int .i64 i, .int .i64 s, .int .i64 o, v])] w1 fun e w' => e = .returned (.tuple #[e1, .int .i64 j]) ∧ Below w1.heap.size w1 w')) :
    Calls Try.prog 7 #[.agg #[.int .i64 k, .int .i64 p, .int .i64 i, .int .i64 s, .int .i64 o, v]] w fun e w' => e = .returned (.tuple #[e1, .int .i64 j]) ∧ Below w.heap.size w w' := by
  obtain ⟨ao, n, cap, rfl⟩ := hv
  go_enter Try.func7, Try.ntmps7
  go_wp2_with fail
  refine (C.out _ (by go_grown)).mono ?_
  rintro e w1 ⟨rfl, hb1⟩
  have HB1 : Hid (Below w.heap.size w w1) := ((Below.refl _ _).alloc (Nat.le_refl _) _).trans (hb1.mono (by rw [World.size_alloc]; omega))
  clear C hb1
  go_wp2_with fail
  go_ret2
  exact ⟨rfl, HB1.out⟩
theorem keysX_short {t : Tb} {xs : List (List UInt8)} (h : keysX t xs = true) : ∀ x ∈ xs, x.length ≤ 32 := fun x hx => by
  obtain ⟨j, hj, rfl⟩ := List.getElem_of_mem hx
  have ho := keysX_at h hj
  unfold okAt at ho
  rw [Bool.and_eq_true] at ho
  have hz := isNm_size ho.1
  have e : (tx xs j).size = xs[j].length := by unfold tx; simp [ByteArray.size, hj]
  omega
/-- What a letter that may be is like. -/
theorem ltMay_facts {t : Tb} {k p i s o : Int} {xs : List (List UInt8)} (h : ltMay t k p i s o xs = true) : (1 ≤ k ∧ k ≤ 9) ∧ (0 ≤ p ∧ p ≤ 3) ∧ (1 ≤ i ∧ i ≤ 60) ∧ (0 ≤ s ∧ s ≤ 7) ∧ (0 ≤ o ∧ o ≤ 3) ∧ xs.length ≤ 2 ∧ (∀ x ∈ xs, x.length ≤ 32) ∧ (k ≠ 1 → xs = [] ∧ o = 0) ∧ (k = 3 ∨ k = 9 → s = 0) := by
  unfold ltMay btw at h
  rw [Bool.and_eq_true, Bool.and_eq_true, Bool.and_eq_true] at h
  obtain ⟨⟨⟨h1, h2⟩, h4⟩, h3⟩ := h
  simp only [Bool.and_eq_true, decide_eq_true_eq] at h1 h2 h4
  split at h3
  · rename_i k1
    rw [Bool.and_eq_true] at h3
    simp only [Bool.and_eq_true, decide_eq_true_eq] at h3
    exact ⟨h1, h2, h4, by omega, by omega, keysX_len h3.2, keysX_short h3.2, fun hn => absurd k1 hn, fun h6 => by omega⟩
  · rename_i k1
    split at h3
    · simp only [Bool.and_eq_true, decide_eq_true_eq] at h3
      have hx : xs = [] := List.eq_nil_of_length_eq_zero h3.2
      subst hx
      exact ⟨h1, h2, h4, by omega, by omega, by simp, by simp, fun _ => ⟨rfl, h3.1.2⟩, fun _ => h3.1.1⟩
    · rename_i k6
      simp only [Bool.and_eq_true, decide_eq_true_eq] at h3
      have hx : xs = [] := List.eq_nil_of_length_eq_zero h3.2
      subst hx
      exact ⟨h1, h2, h4, h3.1.1, by omega, by simp, by simp, fun _ => ⟨rfl, h3.1.2⟩, fun hn => absurd hn k6⟩
theorem letter_yes (t : Tb) (k p i s o : Nat) (v : Value) (xs : List (List UInt8)) (w : World) (hT : Hid (TabX t w)) (hlow : Hid (0 < w.heap.size ∧ 1 < w.heap.size)) (hS : SRow w v xs) (hm : ltMay t k p i s o xs = true) :
    Calls Try.prog 7 #[.agg #[.int .i64 (k : Int), .int .i64 (p : Int), .int .i64 (i : Int), .int .i64 (s : Int), .int .i64 (o : Int), v]] w fun e w' => e = .returned (.tuple #[bstr (ltL k p i s o xs), .int .i64 0]) ∧ Below w.heap.size w w' := by
  obtain ⟨f1, f2, f3, f3b, f3c, f4, f5, _⟩ := ltMay_facts hm
  refine letter_call (by obtain ⟨ao, cap, rfl, _⟩ := hS; exact ⟨_, _, _, rfl⟩) (fun w1 hb1 => write_yesW _ _ _ _ _ w1 (m_letter_may _) (m_letter_form _) e_letter_may e_letter_form ?_ (fun w2 hb2 => ?_))
  · have x := ltMay_any t (k : Int) p i s o v xs (by omega) (fun x hx => by have := f5 x hx; omega) w1 (hT.out.below hb1 hlow.out) ⟨Nat.lt_of_lt_of_le hlow.out.1 hb1.size, Nat.lt_of_lt_of_le hlow.out.2 hb1.size⟩ (srow_below hS hb1)
    rw [hm] at x
    exact x
  · exact ltForm_any k p i s o (by omega) (by omega) (by omega) (by omega) (by omega) v xs f4 (fun x hx => by have := f5 x hx; omega) (by have := lst_small f4 f5; omega) w2 (srow_below (srow_below hS hb1) hb2)
theorem letter_no (t : Tb) (k p i s o : Int) (v : Value) (xs : List (List UInt8)) (hx : xs.length ≤ 140737488355328) (hxs : ∀ s ∈ xs, s.length ≤ 140737488351232) (w : World) (hT : Hid (TabX t w)) (hlow : Hid (0 < w.heap.size ∧ 1 < w.heap.size)) (hS : SRow w v xs) (hm : ltMay t k p i s o xs = false) :
    Calls Try.prog 7 #[.agg #[.int .i64 k, .int .i64 p, .int .i64 i, .int .i64 s, .int .i64 o, v]] w fun e w' => e = .returned (.tuple #[.string ⟨#[]⟩, .int .i64 1]) ∧ Below w.heap.size w w' := by
  refine letter_call (by obtain ⟨ao, cap, rfl, _⟩ := hS; exact ⟨_, _, _, rfl⟩) (fun w1 hb1 => write_noW _ _ _ w1 (m_letter_may _) e_letter_may ?_)
  have x := ltMay_any t k p i s o v xs hx hxs w1 (hT.out.below hb1 hlow.out) ⟨Nat.lt_of_lt_of_le hlow.out.1 hb1.size, Nat.lt_of_lt_of_le hlow.out.2 hb1.size⟩ (srow_below hS hb1)
  rw [hm] at x
  exact x
end Go.Proofs.Ytbgankldnjeohaa

/- Reading a letter: the shapes; and where the last of it is cut off. -/
set_option linter.unusedVariables false
set_option maxRecDepth 100000
namespace Go.Proofs.Ytbgankldnjeohaa.Pl
open Go.RowKit Go.Proofs.Ytbgankldnjeohaa

def vL (k p i s o : Int) (v : Value) : List Value := [.int .i64 k, .int .i64 p, .int .i64 i, .int .i64 s, .int .i64 o, v]
section
variable {B : Nat} {w wr : World} {rs : List Res}
set_option maxHeartbeats 2000000 in
theorem ltR3 {q p i : Nat} {S : ByteArray} (hS : S.size ≤ 4611686018427387904) (hS3 : 4 ≤ S.size) (h : Has B w (RdR q S 1 :: rs) wr) (tk : PackMath.tn (S.data.toList.drop 1) = (3, 1, 0)) (t0 : PackMath.tn (S.data.toList.drop 2) = (p, 1, 0)) (t1 : PackMath.tn (S.data.toList.drop 3) = (i, 1, 0)) :
    Calls Try.prog 32 #[.pointer (some ⟨q, 0, none⟩)] wr fun e w' => e = .returned (.agg (vL 3 (p : Int) (i : Int) 0 0 nilS).toArray) ∧ Has B w (RdR q S 4 :: rs) w' := by
  have CN : Hid (∀ (a n : Nat) (rs : List Res) (wq : World), a ≤ S.size → PackMath.tn (S.data.toList.drop a) = (n, 1, 0) → Has B w (RdR q S a :: rs) wq → Calls Try.prog 37 #[.pointer (some ⟨q, 0, none⟩)] wq fun e w' => e = .returned (.int .i64 (n : Int)) ∧ Hid (Has B w (RdR q S (a + 1) :: rs) w')) := fun a n rs wq ha ht hq => numR_ok hS ha hq ht
  have H0 : Hid (Has B w (RdR q S 1 :: BlockR (wr.heap.size + 1) (vL 0 0 0 0 0 nilS) :: BlockR wr.heap.size (vL 0 0 0 0 0 nilS) :: rs) ((wr.alloc (.cells #[.int .i64 0, .int .i64 0, .int .i64 0, .int .i64 0, .int .i64 0, .slice none 0 0] 49)).alloc (.cells #[.int .i64 0, .int .i64 0, .int .i64 0, .int .i64 0, .int .i64 0, .slice none 0 0] 49))) := by
    have x := ((h.box (vL 0 0 0 0 0 nilS) 49).box (vL 0 0 0 0 0 nilS) 49)
    rw [World.size_alloc] at x
    exact x.perm ((List.perm_middle (l₁ := [_, _]) (l₂ := rs)))
  have E := CN.out 1 3 _ _ (by omega) tk H0.out
  obtain ⟨rb, hrb⟩ : ∃ rb, wr.heap.size = rb := ⟨_, rfl⟩
  clear h H0
  rw [hrb] at E
  go_enter Try.func32, Try.ntmps32
  go_wp2_with fail
  refine E.mono ?_
  rintro e v0 ⟨rfl, G0⟩
  obtain ⟨nb, hnb⟩ : ∃ nb, rb + 1 = nb := ⟨_, rfl⟩
  rw [hnb] at G0
  have P0 : Hid (Has B w (RdR q S 2 :: BlockR nb (vL 3 0 0 0 0 nilS) :: BlockR rb (vL 0 0 0 0 0 nilS) :: rs) (v0.setCell ⟨nb, 0, none⟩ (.int .i64 3))) := ((G0.out.perm (List.Perm.swap _ _ _)).put 0 (by simp [vL]) (.int .i64 3)).perm (List.Perm.swap _ _ _)
  obtain ⟨e1, f1⟩ := G0.out.bcell (q := nb) (vs := (vL 0 0 0 0 0 nilS)) (by simp) 0 _ rfl
  obtain ⟨e0, _⟩ := P0.out.bcell (q := nb) (vs := (vL 3 0 0 0 0 nilS)) (by simp) 0 _ rfl
  clear E G0 hrb
  have E := CN.out 2 p _ _ (by omega) t0 P0.out
  go_wp2_with fail
  refine E.mono ?_
  rintro e v1 ⟨rfl, G1⟩
  have P1 : Hid (Has B w (RdR q S 3 :: BlockR nb (vL 3 (p : Int) 0 0 0 nilS) :: BlockR rb (vL 0 0 0 0 0 nilS) :: rs) (v1.setCell ⟨nb, 1, none⟩ (.int .i64 (p : Int)))) := ((G1.out.perm (List.Perm.swap _ _ _)).put 1 (by simp [vL]) (.int .i64 (p : Int))).perm (List.Perm.swap _ _ _)
  clear e0 e1 f1
  obtain ⟨e1, f1⟩ := G1.out.bcell (q := nb) (vs := (vL 3 0 0 0 0 nilS)) (by simp) 1 _ rfl
  obtain ⟨e0, _⟩ := P1.out.bcell (q := nb) (vs := (vL 3 (p : Int) 0 0 0 nilS)) (by simp) 0 _ rfl
  clear E G1 P0
  have E := CN.out 3 i _ _ (by omega) t1 P1.out
  go_wp2_with fail
  refine E.mono ?_
  rintro e v2 ⟨rfl, G2⟩
  have P2 : Hid (Has B w (RdR q S 4 :: BlockR nb (vL 3 (p : Int) (i : Int) 0 0 nilS) :: BlockR rb (vL 0 0 0 0 0 nilS) :: rs) (v2.setCell ⟨nb, 2, none⟩ (.int .i64 (i : Int)))) := ((G2.out.perm (List.Perm.swap _ _ _)).put 2 (by simp [vL]) (.int .i64 (i : Int))).perm (List.Perm.swap _ _ _)
  clear e0 e1 f1
  obtain ⟨e1, f1⟩ := G2.out.bcell (q := nb) (vs := (vL 3 (p : Int) 0 0 0 nilS)) (by simp) 2 _ rfl
  obtain ⟨e0, _⟩ := P2.out.bcell (q := nb) (vs := (vL 3 (p : Int) (i : Int) 0 0 nilS)) (by simp) 0 _ rfl
  clear E G2 P1
  have HPZ : Hid (Has B w (BlockR rb (vL 0 0 0 0 0 nilS) :: RdR q S 4 :: BlockR nb (vL 3 (p : Int) (i : Int) 0 0 nilS) :: rs) (v2.setCell ⟨nb, 2, none⟩ (.int .i64 (i : Int)))) := P2.out.perm (List.perm_middle (l₁ := [_, _]) (l₂ := rs))
  clear P2 e0
  clear CN
  obtain ⟨x0, _⟩ := HPZ.out.bcell (q := nb) (vs := (vL 3 (p : Int) (i : Int) 0 0 nilS)) (by simp) 0 _ rfl
  obtain ⟨x1, _⟩ := HPZ.out.bcell (q := nb) (vs := (vL 3 (p : Int) (i : Int) 0 0 nilS)) (by simp) 1 _ rfl
  obtain ⟨x2, _⟩ := HPZ.out.bcell (q := nb) (vs := (vL 3 (p : Int) (i : Int) 0 0 nilS)) (by simp) 2 _ rfl
  obtain ⟨x3, _⟩ := HPZ.out.bcell (q := nb) (vs := (vL 3 (p : Int) (i : Int) 0 0 nilS)) (by simp) 3 _ rfl
  obtain ⟨x4, _⟩ := HPZ.out.bcell (q := nb) (vs := (vL 3 (p : Int) (i : Int) 0 0 nilS)) (by simp) 4 _ rfl
  obtain ⟨x5, _⟩ := HPZ.out.bcell (q := nb) (vs := (vL 3 (p : Int) (i : Int) 0 0 nilS)) (by simp) 5 _ rfl
  obtain ⟨y0, g0⟩ := HPZ.out.bcell (q := rb) (vs := (vL 0 0 0 0 0 nilS)) (by simp) 0 _ rfl
  obtain ⟨y1, g1⟩ := HPZ.out.bcell (q := rb) (vs := (vL 0 0 0 0 0 nilS)) (by simp) 1 _ rfl
  obtain ⟨y2, g2⟩ := HPZ.out.bcell (q := rb) (vs := (vL 0 0 0 0 0 nilS)) (by simp) 2 _ rfl
  obtain ⟨y3, g3⟩ := HPZ.out.bcell (q := rb) (vs := (vL 0 0 0 0 0 nilS)) (by simp) 3 _ rfl
  obtain ⟨y4, g4⟩ := HPZ.out.bcell (q := rb) (vs := (vL 0 0 0 0 0 nilS)) (by simp) 4 _ rfl
  obtain ⟨y5, g5⟩ := HPZ.out.bcell (q := rb) (vs := (vL 0 0 0 0 0 nilS)) (by simp) 5 _ rfl
  have HQ : Hid (Has B w (BlockR rb (vL 3 (p : Int) (i : Int) 0 0 nilS) :: RdR q S 4 :: BlockR nb (vL 3 (p : Int) (i : Int) 0 0 nilS) :: rs) (setAll rb 0 (vL 3 (p : Int) (i : Int) 0 0 nilS) (v2.setCell ⟨nb, 2, none⟩ (.int .i64 (i : Int))))) := Has.puts (vL 3 (p : Int) (i : Int) 0 0 nilS) [] (vL 0 0 0 0 0 nilS) HPZ.out rfl
  clear HPZ
  go_wp2_with fail
  have HC : Hid (∀ j u, (vL 3 (p : Int) (i : Int) 0 0 nilS)[j]? = some u → (setAll rb 0 (vL 3 (p : Int) (i : Int) 0 0 nilS) (v2.setCell ⟨nb, 2, none⟩ (.int .i64 (i : Int)))).cell? ⟨rb, j, none⟩ = some u) := fun j u hu => (HQ.out.bcell (q := rb) (vs := (vL 3 (p : Int) (i : Int) 0 0 nilS)) (by simp) j u hu).1
  refine bodyPost_ret (results_row rfl _ _ rb (vL 3 (p : Int) (i : Int) 0 0 nilS) _ rfl HC.out Try.underlying49 rfl (by kernel_rfl)) rfl ⟨rfl, ?_⟩
  exact (HQ.out.drop.perm (List.Perm.swap _ _ _)).drop
set_option maxHeartbeats 2000000 in
theorem ltR9 {q p i : Nat} {S : ByteArray} (hS : S.size ≤ 4611686018427387904) (hS3 : 4 ≤ S.size) (h : Has B w (RdR q S 1 :: rs) wr) (tk : PackMath.tn (S.data.toList.drop 1) = (9, 1, 0)) (t0 : PackMath.tn (S.data.toList.drop 2) = (p, 1, 0)) (t1 : PackMath.tn (S.data.toList.drop 3) = (i, 1, 0)) :
    Calls Try.prog 32 #[.pointer (some ⟨q, 0, none⟩)] wr fun e w' => e = .returned (.agg (vL 9 (p : Int) (i : Int) 0 0 nilS).toArray) ∧ Has B w (RdR q S 4 :: rs) w' := by
  have CN : Hid (∀ (a n : Nat) (rs : List Res) (wq : World), a ≤ S.size → PackMath.tn (S.data.toList.drop a) = (n, 1, 0) → Has B w (RdR q S a :: rs) wq → Calls Try.prog 37 #[.pointer (some ⟨q, 0, none⟩)] wq fun e w' => e = .returned (.int .i64 (n : Int)) ∧ Hid (Has B w (RdR q S (a + 1) :: rs) w')) := fun a n rs wq ha ht hq => numR_ok hS ha hq ht
  have H0 : Hid (Has B w (RdR q S 1 :: BlockR (wr.heap.size + 1) (vL 0 0 0 0 0 nilS) :: BlockR wr.heap.size (vL 0 0 0 0 0 nilS) :: rs) ((wr.alloc (.cells #[.int .i64 0, .int .i64 0, .int .i64 0, .int .i64 0, .int .i64 0, .slice none 0 0] 49)).alloc (.cells #[.int .i64 0, .int .i64 0, .int .i64 0, .int .i64 0, .int .i64 0, .slice none 0 0] 49))) := by
    have x := ((h.box (vL 0 0 0 0 0 nilS) 49).box (vL 0 0 0 0 0 nilS) 49)
    rw [World.size_alloc] at x
    exact x.perm ((List.perm_middle (l₁ := [_, _]) (l₂ := rs)))
  have E := CN.out 1 9 _ _ (by omega) tk H0.out
  obtain ⟨rb, hrb⟩ : ∃ rb, wr.heap.size = rb := ⟨_, rfl⟩
  clear h H0
  rw [hrb] at E
  go_enter Try.func32, Try.ntmps32
  go_wp2_with fail
  refine E.mono ?_
  rintro e v0 ⟨rfl, G0⟩
  obtain ⟨nb, hnb⟩ : ∃ nb, rb + 1 = nb := ⟨_, rfl⟩
  rw [hnb] at G0
  have P0 : Hid (Has B w (RdR q S 2 :: BlockR nb (vL 9 0 0 0 0 nilS) :: BlockR rb (vL 0 0 0 0 0 nilS) :: rs) (v0.setCell ⟨nb, 0, none⟩ (.int .i64 9))) := ((G0.out.perm (List.Perm.swap _ _ _)).put 0 (by simp [vL]) (.int .i64 9)).perm (List.Perm.swap _ _ _)
  obtain ⟨e1, f1⟩ := G0.out.bcell (q := nb) (vs := (vL 0 0 0 0 0 nilS)) (by simp) 0 _ rfl
  obtain ⟨e0, _⟩ := P0.out.bcell (q := nb) (vs := (vL 9 0 0 0 0 nilS)) (by simp) 0 _ rfl
  clear E G0 hrb
  have E := CN.out 2 p _ _ (by omega) t0 P0.out
  go_wp2_with fail
  refine E.mono ?_
  rintro e v1 ⟨rfl, G1⟩
  have P1 : Hid (Has B w (RdR q S 3 :: BlockR nb (vL 9 (p : Int) 0 0 0 nilS) :: BlockR rb (vL 0 0 0 0 0 nilS) :: rs) (v1.setCell ⟨nb, 1, none⟩ (.int .i64 (p : Int)))) := ((G1.out.perm (List.Perm.swap _ _ _)).put 1 (by simp [vL]) (.int .i64 (p : Int))).perm (List.Perm.swap _ _ _)
  clear e0 e1 f1
  obtain ⟨e1, f1⟩ := G1.out.bcell (q := nb) (vs := (vL 9 0 0 0 0 nilS)) (by simp) 1 _ rfl
  obtain ⟨e0, _⟩ := P1.out.bcell (q := nb) (vs := (vL 9 (p : Int) 0 0 0 nilS)) (by simp) 0 _ rfl
  clear E G1 P0
  have E := CN.out 3 i _ _ (by omega) t1 P1.out
  go_wp2_with fail
  refine E.mono ?_
  rintro e v2 ⟨rfl, G2⟩
  have P2 : Hid (Has B w (RdR q S 4 :: BlockR nb (vL 9 (p : Int) (i : Int) 0 0 nilS) :: BlockR rb (vL 0 0 0 0 0 nilS) :: rs) (v2.setCell ⟨nb, 2, none⟩ (.int .i64 (i : Int)))) := ((G2.out.perm (List.Perm.swap _ _ _)).put 2 (by simp [vL]) (.int .i64 (i : Int))).perm (List.Perm.swap _ _ _)
  clear e0 e1 f1
  obtain ⟨e1, f1⟩ := G2.out.bcell (q := nb) (vs := (vL 9 (p : Int) 0 0 0 nilS)) (by simp) 2 _ rfl
  obtain ⟨e0, _⟩ := P2.out.bcell (q := nb) (vs := (vL 9 (p : Int) (i : Int) 0 0 nilS)) (by simp) 0 _ rfl
  clear E G2 P1
  have HPZ : Hid (Has B w (BlockR rb (vL 0 0 0 0 0 nilS) :: RdR q S 4 :: BlockR nb (vL 9 (p : Int) (i : Int) 0 0 nilS) :: rs) (v2.setCell ⟨nb, 2, none⟩ (.int .i64 (i : Int)))) := P2.out.perm (List.perm_middle (l₁ := [_, _]) (l₂ := rs))
  clear P2 e0
  clear CN
  obtain ⟨x0, _⟩ := HPZ.out.bcell (q := nb) (vs := (vL 9 (p : Int) (i : Int) 0 0 nilS)) (by simp) 0 _ rfl
  obtain ⟨x1, _⟩ := HPZ.out.bcell (q := nb) (vs := (vL 9 (p : Int) (i : Int) 0 0 nilS)) (by simp) 1 _ rfl
  obtain ⟨x2, _⟩ := HPZ.out.bcell (q := nb) (vs := (vL 9 (p : Int) (i : Int) 0 0 nilS)) (by simp) 2 _ rfl
  obtain ⟨x3, _⟩ := HPZ.out.bcell (q := nb) (vs := (vL 9 (p : Int) (i : Int) 0 0 nilS)) (by simp) 3 _ rfl
  obtain ⟨x4, _⟩ := HPZ.out.bcell (q := nb) (vs := (vL 9 (p : Int) (i : Int) 0 0 nilS)) (by simp) 4 _ rfl
  obtain ⟨x5, _⟩ := HPZ.out.bcell (q := nb) (vs := (vL 9 (p : Int) (i : Int) 0 0 nilS)) (by simp) 5 _ rfl
  obtain ⟨y0, g0⟩ := HPZ.out.bcell (q := rb) (vs := (vL 0 0 0 0 0 nilS)) (by simp) 0 _ rfl
  obtain ⟨y1, g1⟩ := HPZ.out.bcell (q := rb) (vs := (vL 0 0 0 0 0 nilS)) (by simp) 1 _ rfl
  obtain ⟨y2, g2⟩ := HPZ.out.bcell (q := rb) (vs := (vL 0 0 0 0 0 nilS)) (by simp) 2 _ rfl
  obtain ⟨y3, g3⟩ := HPZ.out.bcell (q := rb) (vs := (vL 0 0 0 0 0 nilS)) (by simp) 3 _ rfl
  obtain ⟨y4, g4⟩ := HPZ.out.bcell (q := rb) (vs := (vL 0 0 0 0 0 nilS)) (by simp) 4 _ rfl
  obtain ⟨y5, g5⟩ := HPZ.out.bcell (q := rb) (vs := (vL 0 0 0 0 0 nilS)) (by simp) 5 _ rfl
  have HQ : Hid (Has B w (BlockR rb (vL 9 (p : Int) (i : Int) 0 0 nilS) :: RdR q S 4 :: BlockR nb (vL 9 (p : Int) (i : Int) 0 0 nilS) :: rs) (setAll rb 0 (vL 9 (p : Int) (i : Int) 0 0 nilS) (v2.setCell ⟨nb, 2, none⟩ (.int .i64 (i : Int))))) := Has.puts (vL 9 (p : Int) (i : Int) 0 0 nilS) [] (vL 0 0 0 0 0 nilS) HPZ.out rfl
  clear HPZ
  go_wp2_with fail
  have HC : Hid (∀ j u, (vL 9 (p : Int) (i : Int) 0 0 nilS)[j]? = some u → (setAll rb 0 (vL 9 (p : Int) (i : Int) 0 0 nilS) (v2.setCell ⟨nb, 2, none⟩ (.int .i64 (i : Int)))).cell? ⟨rb, j, none⟩ = some u) := fun j u hu => (HQ.out.bcell (q := rb) (vs := (vL 9 (p : Int) (i : Int) 0 0 nilS)) (by simp) j u hu).1
  refine bodyPost_ret (results_row rfl _ _ rb (vL 9 (p : Int) (i : Int) 0 0 nilS) _ rfl HC.out Try.underlying49 rfl (by kernel_rfl)) rfl ⟨rfl, ?_⟩
  exact (HQ.out.drop.perm (List.Perm.swap _ _ _)).drop
set_option maxHeartbeats 2000000 in
theorem ltRK {q k p i s : Nat} {S : ByteArray} (hS : S.size ≤ 4611686018427387904) (hS3 : 5 ≤ S.size) (h : Has B w (RdR q S 1 :: rs) wr) (tk : PackMath.tn (S.data.toList.drop 1) = (k, 1, 0)) (t0 : PackMath.tn (S.data.toList.drop 2) = (p, 1, 0)) (t1 : PackMath.tn (S.data.toList.drop 3) = (i, 1, 0)) (t2 : PackMath.tn (S.data.toList.drop 4) = (s, 1, 0)) (k1 : k ≠ 1) (k3 : k ≠ 3) (k9 : k ≠ 9) :
    Calls Try.prog 32 #[.pointer (some ⟨q, 0, none⟩)] wr fun e w' => e = .returned (.agg (vL (k : Int) (p : Int) (i : Int) (s : Int) 0 nilS).toArray) ∧ Has B w (RdR q S 5 :: rs) w' := by
  have CN : Hid (∀ (a n : Nat) (rs : List Res) (wq : World), a ≤ S.size → PackMath.tn (S.data.toList.drop a) = (n, 1, 0) → Has B w (RdR q S a :: rs) wq → Calls Try.prog 37 #[.pointer (some ⟨q, 0, none⟩)] wq fun e w' => e = .returned (.int .i64 (n : Int)) ∧ Hid (Has B w (RdR q S (a + 1) :: rs) w')) := fun a n rs wq ha ht hq => numR_ok hS ha hq ht
  have k1' : ((k : Int) == 1) = false := beq_eq_false_iff_ne.2 (by omega)
  have k3' : ((k : Int) == 3) = false := beq_eq_false_iff_ne.2 (by omega)
  have k9' : ((k : Int) == 9) = false := beq_eq_false_iff_ne.2 (by omega)
  have k3n : ((k : Int) != 3) = true := by simp [bne, k3']
  have k9n : ((k : Int) != 9) = true := by simp [bne, k9']
  have k3m : ¬ (k : Int) = 3 := by omega
  have k9m : ¬ (k : Int) = 9 := by omega
  have H0 : Hid (Has B w (RdR q S 1 :: BlockR (wr.heap.size + 1) (vL 0 0 0 0 0 nilS) :: BlockR wr.heap.size (vL 0 0 0 0 0 nilS) :: rs) ((wr.alloc (.cells #[.int .i64 0, .int .i64 0, .int .i64 0, .int .i64 0, .int .i64 0, .slice none 0 0] 49)).alloc (.cells #[.int .i64 0, .int .i64 0, .int .i64 0, .int .i64 0, .int .i64 0, .slice none 0 0] 49))) := by
    have x := ((h.box (vL 0 0 0 0 0 nilS) 49).box (vL 0 0 0 0 0 nilS) 49)
    rw [World.size_alloc] at x
    exact x.perm ((List.perm_middle (l₁ := [_, _]) (l₂ := rs)))
  have E := CN.out 1 k _ _ (by omega) tk H0.out
  obtain ⟨rb, hrb⟩ : ∃ rb, wr.heap.size = rb := ⟨_, rfl⟩
  clear h H0
  rw [hrb] at E
  go_enter Try.func32, Try.ntmps32
  go_wp2_with fail
  refine E.mono ?_
  rintro e v0 ⟨rfl, G0⟩
  obtain ⟨nb, hnb⟩ : ∃ nb, rb + 1 = nb := ⟨_, rfl⟩
  rw [hnb] at G0
  have P0 : Hid (Has B w (RdR q S 2 :: BlockR nb (vL (k : Int) 0 0 0 0 nilS) :: BlockR rb (vL 0 0 0 0 0 nilS) :: rs) (v0.setCell ⟨nb, 0, none⟩ (.int .i64 (k : Int)))) := ((G0.out.perm (List.Perm.swap _ _ _)).put 0 (by simp [vL]) (.int .i64 (k : Int))).perm (List.Perm.swap _ _ _)
  obtain ⟨e1, f1⟩ := G0.out.bcell (q := nb) (vs := (vL 0 0 0 0 0 nilS)) (by simp) 0 _ rfl
  obtain ⟨e0, _⟩ := P0.out.bcell (q := nb) (vs := (vL (k : Int) 0 0 0 0 nilS)) (by simp) 0 _ rfl
  clear E G0 hrb
  have E := CN.out 2 p _ _ (by omega) t0 P0.out
  go_wp2_with fail
  refine E.mono ?_
  rintro e v1 ⟨rfl, G1⟩
  have P1 : Hid (Has B w (RdR q S 3 :: BlockR nb (vL (k : Int) (p : Int) 0 0 0 nilS) :: BlockR rb (vL 0 0 0 0 0 nilS) :: rs) (v1.setCell ⟨nb, 1, none⟩ (.int .i64 (p : Int)))) := ((G1.out.perm (List.Perm.swap _ _ _)).put 1 (by simp [vL]) (.int .i64 (p : Int))).perm (List.Perm.swap _ _ _)
  clear e0 e1 f1
  obtain ⟨e1, f1⟩ := G1.out.bcell (q := nb) (vs := (vL (k : Int) 0 0 0 0 nilS)) (by simp) 1 _ rfl
  obtain ⟨e0, _⟩ := P1.out.bcell (q := nb) (vs := (vL (k : Int) (p : Int) 0 0 0 nilS)) (by simp) 0 _ rfl
  clear E G1 P0
  have E := CN.out 3 i _ _ (by omega) t1 P1.out
  go_wp2_with fail
  refine E.mono ?_
  rintro e v2 ⟨rfl, G2⟩
  have P2 : Hid (Has B w (RdR q S 4 :: BlockR nb (vL (k : Int) (p : Int) (i : Int) 0 0 nilS) :: BlockR rb (vL 0 0 0 0 0 nilS) :: rs) (v2.setCell ⟨nb, 2, none⟩ (.int .i64 (i : Int)))) := ((G2.out.perm (List.Perm.swap _ _ _)).put 2 (by simp [vL]) (.int .i64 (i : Int))).perm (List.Perm.swap _ _ _)
  clear e0 e1 f1
  obtain ⟨e1, f1⟩ := G2.out.bcell (q := nb) (vs := (vL (k : Int) (p : Int) 0 0 0 nilS)) (by simp) 2 _ rfl
  obtain ⟨e0, _⟩ := P2.out.bcell (q := nb) (vs := (vL (k : Int) (p : Int) (i : Int) 0 0 nilS)) (by simp) 0 _ rfl
  clear E G2 P1
  have E := CN.out 4 s _ _ (by omega) t2 P2.out
  go_wp2_with fail
  refine E.mono ?_
  rintro e v3 ⟨rfl, G3⟩
  have P3 : Hid (Has B w (RdR q S 5 :: BlockR nb (vL (k : Int) (p : Int) (i : Int) (s : Int) 0 nilS) :: BlockR rb (vL 0 0 0 0 0 nilS) :: rs) (v3.setCell ⟨nb, 3, none⟩ (.int .i64 (s : Int)))) := ((G3.out.perm (List.Perm.swap _ _ _)).put 3 (by simp [vL]) (.int .i64 (s : Int))).perm (List.Perm.swap _ _ _)
  clear e0 e1 f1
  obtain ⟨e1, f1⟩ := G3.out.bcell (q := nb) (vs := (vL (k : Int) (p : Int) (i : Int) 0 0 nilS)) (by simp) 3 _ rfl
  obtain ⟨e0, _⟩ := P3.out.bcell (q := nb) (vs := (vL (k : Int) (p : Int) (i : Int) (s : Int) 0 nilS)) (by simp) 0 _ rfl
  clear E G3 P2
  have HPZ : Hid (Has B w (BlockR rb (vL 0 0 0 0 0 nilS) :: RdR q S 5 :: BlockR nb (vL (k : Int) (p : Int) (i : Int) (s : Int) 0 nilS) :: rs) (v3.setCell ⟨nb, 3, none⟩ (.int .i64 (s : Int)))) := P3.out.perm (List.perm_middle (l₁ := [_, _]) (l₂ := rs))
  clear P3 e0
  clear CN
  obtain ⟨x0, _⟩ := HPZ.out.bcell (q := nb) (vs := (vL (k : Int) (p : Int) (i : Int) (s : Int) 0 nilS)) (by simp) 0 _ rfl
  obtain ⟨x1, _⟩ := HPZ.out.bcell (q := nb) (vs := (vL (k : Int) (p : Int) (i : Int) (s : Int) 0 nilS)) (by simp) 1 _ rfl
  obtain ⟨x2, _⟩ := HPZ.out.bcell (q := nb) (vs := (vL (k : Int) (p : Int) (i : Int) (s : Int) 0 nilS)) (by simp) 2 _ rfl
  obtain ⟨x3, _⟩ := HPZ.out.bcell (q := nb) (vs := (vL (k : Int) (p : Int) (i : Int) (s : Int) 0 nilS)) (by simp) 3 _ rfl
  obtain ⟨x4, _⟩ := HPZ.out.bcell (q := nb) (vs := (vL (k : Int) (p : Int) (i : Int) (s : Int) 0 nilS)) (by simp) 4 _ rfl
  obtain ⟨x5, _⟩ := HPZ.out.bcell (q := nb) (vs := (vL (k : Int) (p : Int) (i : Int) (s : Int) 0 nilS)) (by simp) 5 _ rfl
  obtain ⟨y0, g0⟩ := HPZ.out.bcell (q := rb) (vs := (vL 0 0 0 0 0 nilS)) (by simp) 0 _ rfl
  obtain ⟨y1, g1⟩ := HPZ.out.bcell (q := rb) (vs := (vL 0 0 0 0 0 nilS)) (by simp) 1 _ rfl
  obtain ⟨y2, g2⟩ := HPZ.out.bcell (q := rb) (vs := (vL 0 0 0 0 0 nilS)) (by simp) 2 _ rfl
  obtain ⟨y3, g3⟩ := HPZ.out.bcell (q := rb) (vs := (vL 0 0 0 0 0 nilS)) (by simp) 3 _ rfl
  obtain ⟨y4, g4⟩ := HPZ.out.bcell (q := rb) (vs := (vL 0 0 0 0 0 nilS)) (by simp) 4 _ rfl
  obtain ⟨y5, g5⟩ := HPZ.out.bcell (q := rb) (vs := (vL 0 0 0 0 0 nilS)) (by simp) 5 _ rfl
  have HQ : Hid (Has B w (BlockR rb (vL (k : Int) (p : Int) (i : Int) (s : Int) 0 nilS) :: RdR q S 5 :: BlockR nb (vL (k : Int) (p : Int) (i : Int) (s : Int) 0 nilS) :: rs) (setAll rb 0 (vL (k : Int) (p : Int) (i : Int) (s : Int) 0 nilS) (v3.setCell ⟨nb, 3, none⟩ (.int .i64 (s : Int))))) := Has.puts (vL (k : Int) (p : Int) (i : Int) (s : Int) 0 nilS) [] (vL 0 0 0 0 0 nilS) HPZ.out rfl
  clear HPZ
  go_wp2_with fail
  have HC : Hid (∀ j u, (vL (k : Int) (p : Int) (i : Int) (s : Int) 0 nilS)[j]? = some u → (setAll rb 0 (vL (k : Int) (p : Int) (i : Int) (s : Int) 0 nilS) (v3.setCell ⟨nb, 3, none⟩ (.int .i64 (s : Int)))).cell? ⟨rb, j, none⟩ = some u) := fun j u hu => (HQ.out.bcell (q := rb) (vs := (vL (k : Int) (p : Int) (i : Int) (s : Int) 0 nilS)) (by simp) j u hu).1
  refine bodyPost_ret (results_row rfl _ _ rb (vL (k : Int) (p : Int) (i : Int) (s : Int) 0 nilS) _ rfl HC.out Try.underlying49 rfl (by kernel_rfl)) rfl ⟨rfl, ?_⟩
  exact (HQ.out.drop.perm (List.Perm.swap _ _ _)).drop
set_option maxHeartbeats 2000000 in
theorem ltR1 {q p i s o c : Nat} {xs : List (List UInt8)} {S : ByteArray} (hS : S.size ≤ 4611686018427387904) (hS3 : 6 ≤ S.size) (h : Has B w (RdR q S 1 :: rs) wr) (tk : PackMath.tn (S.data.toList.drop 1) = (1, 1, 0)) (t0 : PackMath.tn (S.data.toList.drop 2) = (p, 1, 0)) (t1 : PackMath.tn (S.data.toList.drop 3) = (i, 1, 0)) (t2 : PackMath.tn (S.data.toList.drop 4) = (s, 1, 0)) (t3 : PackMath.tn (S.data.toList.drop 5) = (o, 1, 0)) (tq : PackMath.tl (S.data.toList.drop 6) = (xs, c, 0)) :
    Calls Try.prog 32 #[.pointer (some ⟨q, 0, none⟩)] wr fun e w' => ∃ ao cap, e = .returned (.agg (vL 1 (p : Int) (i : Int) (s : Int) (o : Int) (.slice ao xs.length cap)).toArray) ∧ Hid (Has B w (RdR q S (6 + c) :: TR (.slice ao xs.length cap) xs :: rs) w') := by
  have CN : Hid (∀ (a n : Nat) (rs : List Res) (wq : World), a ≤ S.size → PackMath.tn (S.data.toList.drop a) = (n, 1, 0) → Has B w (RdR q S a :: rs) wq → Calls Try.prog 37 #[.pointer (some ⟨q, 0, none⟩)] wq fun e w' => e = .returned (.int .i64 (n : Int)) ∧ Hid (Has B w (RdR q S (a + 1) :: rs) w')) := fun a n rs wq ha ht hq => numR_ok hS ha hq ht
  have CK : Hid (∀ (rs : List Res) (wq : World), Has B w (RdR q S 6 :: rs) wq → Calls Try.prog 38 #[.pointer (some ⟨q, 0, none⟩)] wq fun e w' => ∃ v, e = .returned v ∧ (∃ ao cap, v = .slice ao xs.length cap) ∧ Hid (Has B w (RdR q S (6 + c) :: TR v xs :: rs) w')) := fun rs wq hq => keysR_ok hS hS3 hq tq
  have H0 : Hid (Has B w (RdR q S 1 :: BlockR (wr.heap.size + 1) (vL 0 0 0 0 0 nilS) :: BlockR wr.heap.size (vL 0 0 0 0 0 nilS) :: rs) ((wr.alloc (.cells #[.int .i64 0, .int .i64 0, .int .i64 0, .int .i64 0, .int .i64 0, .slice none 0 0] 49)).alloc (.cells #[.int .i64 0, .int .i64 0, .int .i64 0, .int .i64 0, .int .i64 0, .slice none 0 0] 49))) := by
    have x := ((h.box (vL 0 0 0 0 0 nilS) 49).box (vL 0 0 0 0 0 nilS) 49)
    rw [World.size_alloc] at x
    exact x.perm ((List.perm_middle (l₁ := [_, _]) (l₂ := rs)))
  have E := CN.out 1 1 _ _ (by omega) tk H0.out
  obtain ⟨rb, hrb⟩ : ∃ rb, wr.heap.size = rb := ⟨_, rfl⟩
  clear h H0
  rw [hrb] at E
  go_enter Try.func32, Try.ntmps32
  go_wp2_with fail
  refine E.mono ?_
  rintro e v0 ⟨rfl, G0⟩
  obtain ⟨nb, hnb⟩ : ∃ nb, rb + 1 = nb := ⟨_, rfl⟩
  rw [hnb] at G0
  have P0 : Hid (Has B w (RdR q S 2 :: BlockR nb (vL 1 0 0 0 0 nilS) :: BlockR rb (vL 0 0 0 0 0 nilS) :: rs) (v0.setCell ⟨nb, 0, none⟩ (.int .i64 1))) := ((G0.out.perm (List.Perm.swap _ _ _)).put 0 (by simp [vL]) (.int .i64 1)).perm (List.Perm.swap _ _ _)
  obtain ⟨e1, f1⟩ := G0.out.bcell (q := nb) (vs := (vL 0 0 0 0 0 nilS)) (by simp) 0 _ rfl
  obtain ⟨e0, _⟩ := P0.out.bcell (q := nb) (vs := (vL 1 0 0 0 0 nilS)) (by simp) 0 _ rfl
  clear E G0 hrb
  have E := CN.out 2 p _ _ (by omega) t0 P0.out
  go_wp2_with fail
  refine E.mono ?_
  rintro e v1 ⟨rfl, G1⟩
  have P1 : Hid (Has B w (RdR q S 3 :: BlockR nb (vL 1 (p : Int) 0 0 0 nilS) :: BlockR rb (vL 0 0 0 0 0 nilS) :: rs) (v1.setCell ⟨nb, 1, none⟩ (.int .i64 (p : Int)))) := ((G1.out.perm (List.Perm.swap _ _ _)).put 1 (by simp [vL]) (.int .i64 (p : Int))).perm (List.Perm.swap _ _ _)
  clear e0 e1 f1
  obtain ⟨e1, f1⟩ := G1.out.bcell (q := nb) (vs := (vL 1 0 0 0 0 nilS)) (by simp) 1 _ rfl
  obtain ⟨e0, _⟩ := P1.out.bcell (q := nb) (vs := (vL 1 (p : Int) 0 0 0 nilS)) (by simp) 0 _ rfl
  clear E G1 P0
  have E := CN.out 3 i _ _ (by omega) t1 P1.out
  go_wp2_with fail
  refine E.mono ?_
  rintro e v2 ⟨rfl, G2⟩
  have P2 : Hid (Has B w (RdR q S 4 :: BlockR nb (vL 1 (p : Int) (i : Int) 0 0 nilS) :: BlockR rb (vL 0 0 0 0 0 nilS) :: rs) (v2.setCell ⟨nb, 2, none⟩ (.int .i64 (i : Int)))) := ((G2.out.perm (List.Perm.swap _ _ _)).put 2 (by simp [vL]) (.int .i64 (i : Int))).perm (List.Perm.swap _ _ _)
  clear e0 e1 f1
  obtain ⟨e1, f1⟩ := G2.out.bcell (q := nb) (vs := (vL 1 (p : Int) 0 0 0 nilS)) (by simp) 2 _ rfl
  obtain ⟨e0, _⟩ := P2.out.bcell (q := nb) (vs := (vL 1 (p : Int) (i : Int) 0 0 nilS)) (by simp) 0 _ rfl
  clear E G2 P1
  have E := CN.out 4 s _ _ (by omega) t2 P2.out
  go_wp2_with fail
  refine E.mono ?_
  rintro e v3 ⟨rfl, G3⟩
  have P3 : Hid (Has B w (RdR q S 5 :: BlockR nb (vL 1 (p : Int) (i : Int) (s : Int) 0 nilS) :: BlockR rb (vL 0 0 0 0 0 nilS) :: rs) (v3.setCell ⟨nb, 3, none⟩ (.int .i64 (s : Int)))) := ((G3.out.perm (List.Perm.swap _ _ _)).put 3 (by simp [vL]) (.int .i64 (s : Int))).perm (List.Perm.swap _ _ _)
  clear e0 e1 f1
  obtain ⟨e1, f1⟩ := G3.out.bcell (q := nb) (vs := (vL 1 (p : Int) (i : Int) 0 0 nilS)) (by simp) 3 _ rfl
  obtain ⟨e0, _⟩ := P3.out.bcell (q := nb) (vs := (vL 1 (p : Int) (i : Int) (s : Int) 0 nilS)) (by simp) 0 _ rfl
  clear E G3 P2
  have E := CN.out 5 o _ _ (by omega) t3 P3.out
  go_wp2_with fail
  refine E.mono ?_
  rintro e v4 ⟨rfl, G4⟩
  have P4 : Hid (Has B w (RdR q S 6 :: BlockR nb (vL 1 (p : Int) (i : Int) (s : Int) (o : Int) nilS) :: BlockR rb (vL 0 0 0 0 0 nilS) :: rs) (v4.setCell ⟨nb, 4, none⟩ (.int .i64 (o : Int)))) := ((G4.out.perm (List.Perm.swap _ _ _)).put 4 (by simp [vL]) (.int .i64 (o : Int))).perm (List.Perm.swap _ _ _)
  clear e0 e1 f1
  obtain ⟨e1, f1⟩ := G4.out.bcell (q := nb) (vs := (vL 1 (p : Int) (i : Int) (s : Int) 0 nilS)) (by simp) 4 _ rfl
  obtain ⟨e0, _⟩ := P4.out.bcell (q := nb) (vs := (vL 1 (p : Int) (i : Int) (s : Int) (o : Int) nilS)) (by simp) 0 _ rfl
  clear E G4 P3
  have E := CK.out _ _ P4.out
  go_wp2_with fail
  refine E.mono ?_
  rintro e w4 ⟨v, rfl, ⟨ao, cap, rfl⟩, H4⟩
  have HX4 := H4.out.perm (List.perm_middle (l₁ := [_, _]) (a := BlockR nb (vL 1 (p : Int) (i : Int) (s : Int) (o : Int) nilS)))
  have HP4 : Hid (Has B w (BlockR nb (vL 1 (p : Int) (i : Int) (s : Int) (o : Int) (.slice ao xs.length cap)) :: RdR q S (6 + c) :: TR (.slice ao xs.length cap) xs :: BlockR rb (vL 0 0 0 0 0 nilS) :: rs) (w4.setCell ⟨nb, 5, none⟩ (.slice ao xs.length cap))) := HX4.put 5 (by simp [vL]) (.slice ao xs.length cap)
  clear e0 e1 f1
  obtain ⟨e1, f1⟩ := HX4.bcell (q := nb) (vs := (vL 1 (p : Int) (i : Int) (s : Int) (o : Int) nilS)) (by simp) 5 _ rfl
  have HPZ : Hid (Has B w (BlockR rb (vL 0 0 0 0 0 nilS) :: BlockR nb (vL 1 (p : Int) (i : Int) (s : Int) (o : Int) (.slice ao xs.length cap)) :: RdR q S (6 + c) :: TR (.slice ao xs.length cap) xs :: rs) (w4.setCell ⟨nb, 5, none⟩ (.slice ao xs.length cap))) := HP4.out.perm (List.perm_middle (l₁ := [_, _, _]) (l₂ := rs))
  clear E P4 H4 HX4 HP4 CK
  clear CN
  obtain ⟨x0, _⟩ := HPZ.out.bcell (q := nb) (vs := (vL 1 (p : Int) (i : Int) (s : Int) (o : Int) (.slice ao xs.length cap))) (by simp) 0 _ rfl
  obtain ⟨x1, _⟩ := HPZ.out.bcell (q := nb) (vs := (vL 1 (p : Int) (i : Int) (s : Int) (o : Int) (.slice ao xs.length cap))) (by simp) 1 _ rfl
  obtain ⟨x2, _⟩ := HPZ.out.bcell (q := nb) (vs := (vL 1 (p : Int) (i : Int) (s : Int) (o : Int) (.slice ao xs.length cap))) (by simp) 2 _ rfl
  obtain ⟨x3, _⟩ := HPZ.out.bcell (q := nb) (vs := (vL 1 (p : Int) (i : Int) (s : Int) (o : Int) (.slice ao xs.length cap))) (by simp) 3 _ rfl
  obtain ⟨x4, _⟩ := HPZ.out.bcell (q := nb) (vs := (vL 1 (p : Int) (i : Int) (s : Int) (o : Int) (.slice ao xs.length cap))) (by simp) 4 _ rfl
  obtain ⟨x5, _⟩ := HPZ.out.bcell (q := nb) (vs := (vL 1 (p : Int) (i : Int) (s : Int) (o : Int) (.slice ao xs.length cap))) (by simp) 5 _ rfl
  obtain ⟨y0, g0⟩ := HPZ.out.bcell (q := rb) (vs := (vL 0 0 0 0 0 nilS)) (by simp) 0 _ rfl
  obtain ⟨y1, g1⟩ := HPZ.out.bcell (q := rb) (vs := (vL 0 0 0 0 0 nilS)) (by simp) 1 _ rfl
  obtain ⟨y2, g2⟩ := HPZ.out.bcell (q := rb) (vs := (vL 0 0 0 0 0 nilS)) (by simp) 2 _ rfl
  obtain ⟨y3, g3⟩ := HPZ.out.bcell (q := rb) (vs := (vL 0 0 0 0 0 nilS)) (by simp) 3 _ rfl
  obtain ⟨y4, g4⟩ := HPZ.out.bcell (q := rb) (vs := (vL 0 0 0 0 0 nilS)) (by simp) 4 _ rfl
  obtain ⟨y5, g5⟩ := HPZ.out.bcell (q := rb) (vs := (vL 0 0 0 0 0 nilS)) (by simp) 5 _ rfl
  have HQ : Hid (Has B w (BlockR rb (vL 1 (p : Int) (i : Int) (s : Int) (o : Int) (.slice ao xs.length cap)) :: BlockR nb (vL 1 (p : Int) (i : Int) (s : Int) (o : Int) (.slice ao xs.length cap)) :: RdR q S (6 + c) :: TR (.slice ao xs.length cap) xs :: rs) (setAll rb 0 (vL 1 (p : Int) (i : Int) (s : Int) (o : Int) (.slice ao xs.length cap)) (w4.setCell ⟨nb, 5, none⟩ (.slice ao xs.length cap)))) := Has.puts (vL 1 (p : Int) (i : Int) (s : Int) (o : Int) (.slice ao xs.length cap)) [] (vL 0 0 0 0 0 nilS) HPZ.out rfl
  clear HPZ
  go_wp2_with fail
  have HC : Hid (∀ j u, (vL 1 (p : Int) (i : Int) (s : Int) (o : Int) (.slice ao xs.length cap))[j]? = some u → (setAll rb 0 (vL 1 (p : Int) (i : Int) (s : Int) (o : Int) (.slice ao xs.length cap)) (w4.setCell ⟨nb, 5, none⟩ (.slice ao xs.length cap))).cell? ⟨rb, j, none⟩ = some u) := fun j u hu => (HQ.out.bcell (q := rb) (vs := (vL 1 (p : Int) (i : Int) (s : Int) (o : Int) (.slice ao xs.length cap))) (by simp) j u hu).1
  refine bodyPost_ret (results_row rfl _ _ rb (vL 1 (p : Int) (i : Int) (s : Int) (o : Int) (.slice ao xs.length cap)) _ rfl HC.out Try.underlying49 rfl (by kernel_rfl)) rfl ⟨_, _, rfl, ?_⟩
  exact HQ.out.drop.drop
end
end Go.Proofs.Ytbgankldnjeohaa.Pl

/- Reading the form of a letter, whatever stands behind it: letter, value. -/
set_option linter.unusedVariables false
set_option linter.unusedSimpArgs false
set_option maxRecDepth 100000
namespace Go.Proofs.Ytbgankldnjeohaa.Pl
open Go.RowKit Go.Proofs.Ytbgankldnjeohaa

theorem nums_4 {a b c d : Nat} (ha : a < 128) (hb : b < 128) (hc : c < 128) (hd : d < 128) : numsL [a, b, c, d] = [UInt8.ofNat a, UInt8.ofNat b, UInt8.ofNat c, UInt8.ofNat d] := by
  unfold numsL
  simp [PackMath.num_lt a ha, PackMath.num_lt b hb, PackMath.num_lt c hc, PackMath.num_lt d hd]
theorem nums_5 {a b c d e : Nat} (ha : a < 128) (hb : b < 128) (hc : c < 128) (hd : d < 128) (he : e < 128) : numsL [a, b, c, d, e] = [UInt8.ofNat a, UInt8.ofNat b, UInt8.ofNat c, UInt8.ofNat d, UInt8.ofNat e] := by
  unfold numsL
  simp [PackMath.num_lt a ha, PackMath.num_lt b hb, PackMath.num_lt c hc, PackMath.num_lt d hd, PackMath.num_lt e he]
section
variable {B : Nat} {w wr : World} {rs : List Res}
theorem letterR_any {q k p i s o : Nat} {S : ByteArray} {xs : List (List UInt8)} {r : List UInt8} (hS : S.size ≤ 4611686018427387904) (hk : 1 ≤ k ∧ k ≤ 9) (hp : p ≤ 3) (hi : i ≤ 60) (hs : s ≤ 7) (ho : o ≤ 3) (hx : xs.length ≤ 4000) (hxs : ∀ x ∈ xs, x.length ≤ 2000) (hn : k ≠ 1 → xs = [] ∧ o = 0) (h6 : k = 3 ∨ k = 9 → s = 0)
    (he : S.data.toList = ltL k p i s o xs ++ r) (h : Has B w (RdR q S 1 :: rs) wr) :
    Calls Try.prog 32 #[.pointer (some ⟨q, 0, none⟩)] wr fun e w' => ∃ ao cap, e = .returned (.agg (vL k p i s o (.slice ao xs.length cap)).toArray) ∧ Hid (Has B w (RdR q S (ltL k p i s o xs).length :: TR (.slice ao xs.length cap) xs :: rs) w') := by
  have hl : S.data.toList.length = S.size := Array.length_toList
  unfold ltL at he ⊢
  by_cases k1 : k = 1
  · subst k1
    rw [if_pos rfl, nums_5 (by omega) (by omega) (by omega) (by omega) (by omega)] at he ⊢
    have e1 : S.data.toList = 76 :: UInt8.ofNat 1 :: UInt8.ofNat p :: UInt8.ofNat i :: UInt8.ofNat s :: UInt8.ofNat o :: (PackMath.lst xs ++ r) := by rw [he]; simp
    have h4 : 6 ≤ S.size := by rw [← hl, e1]; simp
    refine (ltR1 (c := (PackMath.lst xs).length) (xs := xs) hS h4 h (by rw [e1]; exact tn_one (by omega) _) (by rw [e1]; exact tn_one (by omega) _) (by rw [e1]; exact tn_one (by omega) _) (by rw [e1]; exact tn_one (by omega) _) (by rw [e1]; exact tn_one (by omega) _) (by rw [e1]; exact PackMath.tl_lst xs r hx hxs)).mono ?_
    rintro e w' ⟨ao, cap, rfl, H⟩
    refine ⟨ao, cap, rfl, ?_⟩
    have e2 : (76 :: ([UInt8.ofNat 1, UInt8.ofNat p, UInt8.ofNat i, UInt8.ofNat s, UInt8.ofNat o] ++ PackMath.lst xs)).length = 6 + (PackMath.lst xs).length := by simp; omega
    rw [e2]
    exact H
  · obtain ⟨rfl, rfl⟩ := hn k1
    by_cases k3 : k = 3
    · subst k3
      obtain rfl := h6 (Or.inl rfl)
      rw [if_neg (by decide), if_pos rfl, nums_three (by omega) (by omega) (by omega)] at he ⊢
      have e1 : S.data.toList = 76 :: UInt8.ofNat 3 :: UInt8.ofNat p :: UInt8.ofNat i :: r := by rw [he]; simp
      have h4 : 4 ≤ S.size := by rw [← hl, e1]; simp
      refine (ltR3 hS h4 h (by rw [e1]; exact tn_one (by omega) _) (by rw [e1]; exact tn_one (by omega) _) (by rw [e1]; exact tn_one (by omega) _)).mono ?_
      rintro e w' ⟨rfl, H⟩
      exact ⟨none, 0, rfl, (H.nilT).perm (List.Perm.swap _ _ _)⟩
    · by_cases k9 : k = 9
      · subst k9
        obtain rfl := h6 (Or.inr rfl)
        rw [if_neg (by decide), if_neg (by decide), if_pos rfl, nums_three (by omega) (by omega) (by omega)] at he ⊢
        have e1 : S.data.toList = 76 :: UInt8.ofNat 9 :: UInt8.ofNat p :: UInt8.ofNat i :: r := by rw [he]; simp
        have h4 : 4 ≤ S.size := by rw [← hl, e1]; simp
        refine (ltR9 hS h4 h (by rw [e1]; exact tn_one (by omega) _) (by rw [e1]; exact tn_one (by omega) _) (by rw [e1]; exact tn_one (by omega) _)).mono ?_
        rintro e w' ⟨rfl, H⟩
        exact ⟨none, 0, rfl, (H.nilT).perm (List.Perm.swap _ _ _)⟩
      · rw [if_neg k1, if_neg k3, if_neg k9, nums_4 (by omega) (by omega) (by omega) (by omega)] at he ⊢
        have e1 : S.data.toList = 76 :: UInt8.ofNat k :: UInt8.ofNat p :: UInt8.ofNat i :: UInt8.ofNat s :: r := by rw [he]; simp
        have h4 : 5 ≤ S.size := by rw [← hl, e1]; simp
        refine (ltRK hS h4 h (by rw [e1]; exact tn_one (by omega) _) (by rw [e1]; exact tn_one (by omega) _) (by rw [e1]; exact tn_one (by omega) _) (by rw [e1]; exact tn_one (by omega) _) k1 k3 k9).mono ?_
        rintro e w' ⟨rfl, H⟩
        exact ⟨none, 0, rfl, (H.nilT).perm (List.Perm.swap _ _ _)⟩
set_option maxHeartbeats 2000000 in
theorem valueL_any {q k p i s o : Nat} {S : ByteArray} {xs : List (List UInt8)} {r : List UInt8} (hS : S.size ≤ 4611686018427387904) (hk : 1 ≤ k ∧ k ≤ 9) (hp : p ≤ 3) (hi : i ≤ 60) (hs : s ≤ 7) (ho : o ≤ 3) (hx : xs.length ≤ 4000) (hxs : ∀ x ∈ xs, x.length ≤ 2000) (hn : k ≠ 1 → xs = [] ∧ o = 0) (h6 : k = 3 ∨ k = 9 → s = 0)
    (he : S.data.toList = ltL k p i s o xs ++ r) (h : Has B w (RdR q S 0 :: rs) wr) :
    Calls Try.prog 25 #[.pointer (some ⟨q, 0, none⟩)] wr fun e w' => ∃ ao cap, e = .returned (.iface 49 (.agg (vL k p i s o (.slice ao xs.length cap)).toArray)) ∧ Hid (Has B w (RdR q S (ltL k p i s o xs).length :: TR (.slice ao xs.length cap) xs :: rs) w') := by
  have hl : S.data.toList.length = S.size := Array.length_toList
  have hz : S.size ≠ 0 := by rw [← hl, he]; unfold ltL; simp
  have hz1 : (1 : Int) ≤ (S.size : Int) := by omega
  have hem := emp_no S hz
  obtain ⟨m, hc⟩ : ∃ m, S.data.toList = 76 :: m := ⟨_, he⟩
  have k1 := head_is hc 76
  rw [show ((76 : UInt8) == 76) = true from by decide] at k1
  have H1 : Hid (Has B w (RdR q S 1 :: rs) (wr.setCell ⟨q, 1, none⟩ (.int .i64 1))) := h.put 1 (by simp) (.int .i64 1)
  have D1 : Hid (Calls Try.prog 32 #[.pointer (some ⟨q, 0, none⟩)] (wr.setCell ⟨q, 1, none⟩ (.int .i64 1)) fun e w' => ∃ ao cap, e = .returned (.agg (vL k p i s o (.slice ao xs.length cap)).toArray) ∧ Hid (Has B w (RdR q S (ltL k p i s o xs).length :: TR (.slice ao xs.length cap) xs :: rs) w')) := letterR_any hS hk hp hi hs ho hx hxs hn h6 he H1.out
  obtain ⟨c0, _⟩ := h.bcell (q := q) (vs := [.string S, .int .i64 0]) List.mem_cons_self 0 _ rfl
  obtain ⟨c1, f1⟩ := h.bcell (q := q) (vs := [.string S, .int .i64 0]) List.mem_cons_self 1 _ rfl
  clear h H1 he hc hn h6 hxs hl
  go_enter Try.func25, Try.ntmps25
  go_wp2_with fail
  refine D1.out.mono ?_
  rintro e w2 ⟨ao, cap, rfl, H2⟩
  clear D1
  go_wp2_with fail
  go_ret
  exact ⟨_, _, rfl, H2⟩
end
end Go.Proofs.Ytbgankldnjeohaa.Pl

/- read of a letter's form, and of one with something behind it. -/
set_option linter.unusedVariables false
set_option linter.unusedSimpArgs false
set_option maxRecDepth 100000
namespace Go.Proofs.Ytbgankldnjeohaa.Pl
open Go.RowKit Go.Proofs.Ytbgankldnjeohaa

section
variable {B : Nat} {w wr : World} {rs : List Res}
set_option maxHeartbeats 2000000 in
theorem readL_ok (t : Tb) {k p i s o : Nat} {S : ByteArray} {xs : List (List UInt8)} (hS : S.size ≤ 4611686018427387904) (hT : Hid (TabX t w)) (hlow : Hid (0 < B ∧ 1 < B)) (hm : ltMay t k p i s o xs = true) (he : S.data.toList = ltL k p i s o xs) (h : Has B w rs wr) :
    Calls Try.prog 19 #[.string S] wr fun e w' => ∃ ao cap, e = .returned (.iface 49 (.agg #[.int .i64 (k : Int), .int .i64 (p : Int), .int .i64 (i : Int), .int .i64 (s : Int), .int .i64 (o : Int), .slice ao xs.length cap])) ∧ Hid (Has B w (TR (.slice ao xs.length cap) xs :: rs) w') := by
  obtain ⟨f1, f2, f2b, f3, f3b, f4, f5, f6, f7⟩ := ltMay_facts hm
  have hl : S.data.toList.length = S.size := Array.length_toList
  obtain ⟨L, hL⟩ : ∃ L, (ltL k p i s o xs).length = L := ⟨_, rfl⟩
  have hLS : S.size = L := by rw [← hl, he, hL]
  have hmf : ∀ (fn : Fn) (first cap : Array Value) (w : World), (Instr.makeFunc fn first cap).run Try.prog w = .ok (.func fn first cap) w := fun _ _ _ _ => rfl
  have hmm := m_letter_may
  have H1 : Hid (Has B w (RdR (wr.heap.size + 1) S 0 :: BlockR wr.heap.size [.nilIface] :: rs) ((wr.alloc (.cells #[.nilIface] 52)).alloc (.cells #[.string S, .int .i64 0] 65))) := by
    have x := (h.box [.nilIface] 52).box [.string S, .int .i64 0] 65
    rw [World.size_alloc] at x
    exact x
  have D1 : Hid (Calls Try.prog 25 #[.pointer (some ⟨wr.heap.size + 1, 0, none⟩)] ((wr.alloc (.cells #[.nilIface] 52)).alloc (.cells #[.string S, .int .i64 0] 65)) fun e w' => ∃ ao cap, e = .returned (.iface 49 (.agg (vL k p i s o (.slice ao xs.length cap)).toArray)) ∧ Hid (Has B w (RdR (wr.heap.size + 1) S L :: TR (.slice ao xs.length cap) xs :: BlockR wr.heap.size [.nilIface] :: rs) w')) := by
    have x := valueL_any (k := k) (p := p) (i := i) (s := s) (o := o) (xs := xs) (r := []) hS (by omega) (by omega) (by omega) (by omega) (by omega) (by omega : xs.length ≤ 4000) (fun x hx => by have := f5 x hx; omega) (fun hk => by have := f6 (by omega); exact ⟨this.1, by omega⟩) (fun hk => by have := f7 (by omega); omega) (by rw [List.append_nil]; exact he) H1.out
    rw [hL] at x
    exact x
  have CM : Hid (∀ ao cap wq, Below B w wq → B ≤ wq.heap.size → SRow wq (.slice ao xs.length cap) xs → Calls Try.prog 62 #[.agg #[.int .i64 (k : Int), .int .i64 (p : Int), .int .i64 (i : Int), .int .i64 (s : Int), .int .i64 (o : Int), .slice ao xs.length cap]] wq fun e w' => e = .returned (.bool true) ∧ Below wq.heap.size wq w') := fun ao cap wq hb hz hS2 => by
    have x := ltMay_any t (k : Int) p i s o (.slice ao xs.length cap) xs (by omega) (fun x hx => by have := f5 x hx; omega) wq (hT.out.below hb hlow.out) ⟨Nat.lt_of_lt_of_le hlow.out.1 hz, Nat.lt_of_lt_of_le hlow.out.2 hz⟩ hS2
    rw [hm] at x
    exact x
  clear h H1 he hm hT f1 f2 f2b f3 f3b f4 f5 f6 f7 hl hL
  go_enter_defers Try.func19, Try.ntmps19
  go_wp2_with fail
  refine D1.out.mono ?_
  rintro e w2 ⟨ao, cap, rfl, H2⟩
  clear D1
  have hvn : (vL k p i s o (.slice ao xs.length cap)).toArray = #[.int .i64 (k : Int), .int .i64 (p : Int), .int .i64 (i : Int), .int .i64 (s : Int), .int .i64 (o : Int), .slice ao xs.length cap] := rfl
  rw [hvn]
  clear hvn
  have H2p := H2.out.perm (List.perm_middle (l₁ := [_, _]) (a := BlockR wr.heap.size [.nilIface]))
  obtain ⟨c0, f0⟩ := H2p.bcell (q := wr.heap.size) (vs := [.nilIface]) (by simp) 0 _ rfl
  have HP : Hid (Has B w (BlockR wr.heap.size [(.iface 49 (.agg #[.int .i64 (k : Int), .int .i64 (p : Int), .int .i64 (i : Int), .int .i64 (s : Int), .int .i64 (o : Int), .slice ao xs.length cap]))] :: RdR (wr.heap.size + 1) S L :: TR (.slice ao xs.length cap) xs :: rs) (w2.setCell ⟨wr.heap.size, 0, none⟩ (.iface 49 (.agg #[.int .i64 (k : Int), .int .i64 (p : Int), .int .i64 (i : Int), .int .i64 (s : Int), .int .i64 (o : Int), .slice ao xs.length cap])))) := H2p.put 0 (by simp) _
  obtain ⟨x0, _⟩ := HP.out.bcell (q := wr.heap.size) (vs := [(.iface 49 (.agg #[.int .i64 (k : Int), .int .i64 (p : Int), .int .i64 (i : Int), .int .i64 (s : Int), .int .i64 (o : Int), .slice ao xs.length cap]))]) (by simp) 0 _ rfl
  clear H2 H2p
  go_wp2_with fail
  refine (CM.out _ _ _ HP.out.bel HP.out.size (HP.out.srowT (by simp))).mono ?_
  rintro e w3 ⟨rfl, hb⟩
  have HQ : Hid (Has B w (BlockR wr.heap.size [(.iface 49 (.agg #[.int .i64 (k : Int), .int .i64 (p : Int), .int .i64 (i : Int), .int .i64 (s : Int), .int .i64 (o : Int), .slice ao xs.length cap]))] :: RdR (wr.heap.size + 1) S L :: TR (.slice ao xs.length cap) xs :: rs) w3) := HP.out.below hb
  clear HP hb x0 c0 f0 CM
  obtain ⟨y0, g0⟩ := HQ.out.bcell (q := wr.heap.size) (vs := [(.iface 49 (.agg #[.int .i64 (k : Int), .int .i64 (p : Int), .int .i64 (i : Int), .int .i64 (s : Int), .int .i64 (o : Int), .slice ao xs.length cap]))]) (by simp) 0 _ rfl
  obtain ⟨y1, _⟩ := HQ.out.bcell (q := wr.heap.size + 1) (vs := [.string S, .int .i64 (L : Int)]) (List.mem_cons_of_mem _ List.mem_cons_self) 1 (.int .i64 (L : Int)) rfl
  have y2 : (w3.setCell ⟨wr.heap.size, 0, none⟩ (.iface 49 (.agg #[.int .i64 (k : Int), .int .i64 (p : Int), .int .i64 (i : Int), .int .i64 (s : Int), .int .i64 (o : Int), .slice ao xs.length cap]))).cell? ⟨wr.heap.size, 0, none⟩ = some (.iface 49 (.agg #[.int .i64 (k : Int), .int .i64 (p : Int), .int .i64 (i : Int), .int .i64 (s : Int), .int .i64 (o : Int), .slice ao xs.length cap])) := World.cell?_setCell_same _ _ _ y0
  have HZ : Hid (Has B w (TR (.slice ao xs.length cap) xs :: rs) (w3.setCell ⟨wr.heap.size, 0, none⟩ (.iface 49 (.agg #[.int .i64 (k : Int), .int .i64 (p : Int), .int .i64 (i : Int), .int .i64 (s : Int), .int .i64 (o : Int), .slice ao xs.length cap])))) := (HQ.out.put 0 (by simp) (.iface 49 (.agg #[.int .i64 (k : Int), .int .i64 (p : Int), .int .i64 (i : Int), .int .i64 (s : Int), .int .i64 (o : Int), .slice ao xs.length cap]))).drop.drop
  clear HQ
  subst hLS
  go_wp2_with fail
  refine leaves_cons (f := 24) (args := #[.pointer (some ⟨wr.heap.size, 0, none⟩)]) (by simp) (by simp [go_sem]) ?_
  refine (catch_idle ⟨wr.heap.size, 0, none⟩ _).mono ?_
  rintro e u' w'' ⟨rfl, rfl, rfl⟩
  simp [Leaves, settle, results, Try.results19, go_sem, y2]
  exact ⟨_, _, ⟨rfl, rfl⟩, HZ⟩
set_option maxHeartbeats 2000000 in
theorem readL_more (t : Tb) {k p i s o : Nat} {S : ByteArray} {xs : List (List UInt8)} {r : List UInt8} (hS : S.size ≤ 4611686018427387904) (hT : Hid (TabX t w)) (hlow : Hid (0 < B ∧ 1 < B)) (hm : ltMay t k p i s o xs = true) (hr : r ≠ []) (he : S.data.toList = ltL k p i s o xs ++ r) (h : Has B w rs wr) :
    Calls Try.prog 19 #[.string S] wr fun e w' => e = .returned .nilIface ∧ Hid (Has B w rs w') := by
  obtain ⟨f1, f2, f2b, f3, f3b, f4, f5, f6, f7⟩ := ltMay_facts hm
  have hl : S.data.toList.length = S.size := Array.length_toList
  obtain ⟨L, hL⟩ : ∃ L, (ltL k p i s o xs).length = L := ⟨_, rfl⟩
  have hLS : ((L : Int) == (S.size : Int)) = false := beq_eq_false_iff_ne.2 (by
    have h1 : S.size = L + r.length := by
      have h0 := congrArg List.length he
      rw [List.length_append, hL, hl] at h0
      exact h0
    have h2 : 0 < r.length := by cases r with | nil => exact absurd rfl hr | cons _ _ => simp
    omega)
  have hmf : ∀ (fn : Fn) (first cap : Array Value) (w : World), (Instr.makeFunc fn first cap).run Try.prog w = .ok (.func fn first cap) w := fun _ _ _ _ => rfl
  have hmm := m_letter_may
  have H1 : Hid (Has B w (RdR (wr.heap.size + 1) S 0 :: BlockR wr.heap.size [.nilIface] :: rs) ((wr.alloc (.cells #[.nilIface] 52)).alloc (.cells #[.string S, .int .i64 0] 65))) := by
    have x := (h.box [.nilIface] 52).box [.string S, .int .i64 0] 65
    rw [World.size_alloc] at x
    exact x
  have D1 : Hid (Calls Try.prog 25 #[.pointer (some ⟨wr.heap.size + 1, 0, none⟩)] ((wr.alloc (.cells #[.nilIface] 52)).alloc (.cells #[.string S, .int .i64 0] 65)) fun e w' => ∃ ao cap, e = .returned (.iface 49 (.agg (vL k p i s o (.slice ao xs.length cap)).toArray)) ∧ Hid (Has B w (RdR (wr.heap.size + 1) S L :: TR (.slice ao xs.length cap) xs :: BlockR wr.heap.size [.nilIface] :: rs) w')) := by
    have x := valueL_any (k := k) (p := p) (i := i) (s := s) (o := o) (xs := xs) (r := r) hS (by omega) (by omega) (by omega) (by omega) (by omega) (by omega : xs.length ≤ 4000) (fun x hx => by have := f5 x hx; omega) (fun hk => by have := f6 (by omega); exact ⟨this.1, by omega⟩) (fun hk => by have := f7 (by omega); omega) (by exact he) H1.out
    rw [hL] at x
    exact x
  have CM : Hid (∀ ao cap wq, Below B w wq → B ≤ wq.heap.size → SRow wq (.slice ao xs.length cap) xs → Calls Try.prog 62 #[.agg #[.int .i64 (k : Int), .int .i64 (p : Int), .int .i64 (i : Int), .int .i64 (s : Int), .int .i64 (o : Int), .slice ao xs.length cap]] wq fun e w' => e = .returned (.bool true) ∧ Below wq.heap.size wq w') := fun ao cap wq hb hz hS2 => by
    have x := ltMay_any t (k : Int) p i s o (.slice ao xs.length cap) xs (by omega) (fun x hx => by have := f5 x hx; omega) wq (hT.out.below hb hlow.out) ⟨Nat.lt_of_lt_of_le hlow.out.1 hz, Nat.lt_of_lt_of_le hlow.out.2 hz⟩ hS2
    rw [hm] at x
    exact x
  clear h H1 he hm hT f1 f2 f2b f3 f3b f4 f5 f6 f7 hl hL
  go_enter_defers Try.func19, Try.ntmps19
  go_wp2_with fail
  refine D1.out.mono ?_
  rintro e w2 ⟨ao, cap, rfl, H2⟩
  clear D1
  have hvn : (vL k p i s o (.slice ao xs.length cap)).toArray = #[.int .i64 (k : Int), .int .i64 (p : Int), .int .i64 (i : Int), .int .i64 (s : Int), .int .i64 (o : Int), .slice ao xs.length cap] := rfl
  rw [hvn]
  clear hvn
  have H2p := H2.out.perm (List.perm_middle (l₁ := [_, _]) (a := BlockR wr.heap.size [.nilIface]))
  obtain ⟨c0, f0⟩ := H2p.bcell (q := wr.heap.size) (vs := [.nilIface]) (by simp) 0 _ rfl
  have HP : Hid (Has B w (BlockR wr.heap.size [(.iface 49 (.agg #[.int .i64 (k : Int), .int .i64 (p : Int), .int .i64 (i : Int), .int .i64 (s : Int), .int .i64 (o : Int), .slice ao xs.length cap]))] :: RdR (wr.heap.size + 1) S L :: TR (.slice ao xs.length cap) xs :: rs) (w2.setCell ⟨wr.heap.size, 0, none⟩ (.iface 49 (.agg #[.int .i64 (k : Int), .int .i64 (p : Int), .int .i64 (i : Int), .int .i64 (s : Int), .int .i64 (o : Int), .slice ao xs.length cap])))) := H2p.put 0 (by simp) _
  obtain ⟨x0, _⟩ := HP.out.bcell (q := wr.heap.size) (vs := [(.iface 49 (.agg #[.int .i64 (k : Int), .int .i64 (p : Int), .int .i64 (i : Int), .int .i64 (s : Int), .int .i64 (o : Int), .slice ao xs.length cap]))]) (by simp) 0 _ rfl
  clear H2 H2p
  go_wp2_with fail
  refine (CM.out _ _ _ HP.out.bel HP.out.size (HP.out.srowT (by simp))).mono ?_
  rintro e w3 ⟨rfl, hb⟩
  have HQ : Hid (Has B w (BlockR wr.heap.size [(.iface 49 (.agg #[.int .i64 (k : Int), .int .i64 (p : Int), .int .i64 (i : Int), .int .i64 (s : Int), .int .i64 (o : Int), .slice ao xs.length cap]))] :: RdR (wr.heap.size + 1) S L :: TR (.slice ao xs.length cap) xs :: rs) w3) := HP.out.below hb
  clear HP hb x0 c0 f0 CM
  obtain ⟨y0, g0⟩ := HQ.out.bcell (q := wr.heap.size) (vs := [(.iface 49 (.agg #[.int .i64 (k : Int), .int .i64 (p : Int), .int .i64 (i : Int), .int .i64 (s : Int), .int .i64 (o : Int), .slice ao xs.length cap]))]) (by simp) 0 _ rfl
  obtain ⟨y1, _⟩ := HQ.out.bcell (q := wr.heap.size + 1) (vs := [.string S, .int .i64 (L : Int)]) (List.mem_cons_of_mem _ List.mem_cons_self) 1 (.int .i64 (L : Int)) rfl
  have y2 : (w3.setCell ⟨wr.heap.size, 0, none⟩ .nilIface).cell? ⟨wr.heap.size, 0, none⟩ = some .nilIface := World.cell?_setCell_same _ _ _ y0
  have HZ : Hid (Has B w rs (w3.setCell ⟨wr.heap.size, 0, none⟩ .nilIface)) := (HQ.out.put 0 (by simp) .nilIface).drop.drop.drop
  clear HQ
  go_wp2_with fail
  refine (giveUp_any _).mono ?_
  rintro e w4 ⟨rfl, hw4⟩
  rw [hw4]
  clear hw4
  go_wp2_with fail
  refine leaves_cons (f := 24) (args := #[.pointer (some ⟨wr.heap.size, 0, none⟩)]) (by simp) (by simp [go_sem]) ?_
  refine (catch_finds ⟨wr.heap.size, 0, none⟩ _ _ y0 g0).mono ?_
  rintro e u' w'' ⟨rfl, rfl, rfl⟩
  simp [Leaves, settle, results, Try.results19, go_sem, y2]
  exact HZ
end
end Go.Proofs.Ytbgankldnjeohaa.Pl

/- read of an event's form, and of one with something behind it. -/
set_option linter.unusedVariables false
set_option linter.unusedSimpArgs false
set_option maxRecDepth 100000
namespace Go.Proofs.Ytbgankldnjeohaa.Pl
open Go.RowKit Go.Proofs.Ytbgankldnjeohaa

section
variable {B : Nat} {w wr : World} {rs : List Res}
set_option maxHeartbeats 2000000 in
theorem readE_ok (t : Tb) {k i s : Nat} {S : ByteArray} {xs : List (List UInt8)} (hS : S.size ≤ 4611686018427387904) (hT : Hid (TabX t w)) (hlow : Hid (0 < B ∧ 1 < B)) (hm : evMay t k i s xs = true) (he : S.data.toList = evL k i s xs) (h : Has B w rs wr) :
    Calls Try.prog 19 #[.string S] wr fun e w' => ∃ ao cap, e = .returned (.iface 55 (.agg #[.int .i64 (k : Int), .int .i64 (i : Int), .int .i64 (s : Int), .slice ao xs.length cap])) ∧ Hid (Has B w (TR (.slice ao xs.length cap) xs :: rs) w') := by
  obtain ⟨f1, f2, f3, f4, f5, f6, f7, f8⟩ := evMay_facts hm
  have hl : S.data.toList.length = S.size := Array.length_toList
  obtain ⟨L, hL⟩ : ∃ L, (evL k i s xs).length = L := ⟨_, rfl⟩
  have hLS : S.size = L := by rw [← hl, he, hL]
  have hmf : ∀ (fn : Fn) (first cap : Array Value) (w : World), (Instr.makeFunc fn first cap).run Try.prog w = .ok (.func fn first cap) w := fun _ _ _ _ => rfl
  have hmm := m_event_may
  have H1 : Hid (Has B w (RdR (wr.heap.size + 1) S 0 :: BlockR wr.heap.size [.nilIface] :: rs) ((wr.alloc (.cells #[.nilIface] 52)).alloc (.cells #[.string S, .int .i64 0] 65))) := by
    have x := (h.box [.nilIface] 52).box [.string S, .int .i64 0] 65
    rw [World.size_alloc] at x
    exact x
  have D1 : Hid (Calls Try.prog 25 #[.pointer (some ⟨wr.heap.size + 1, 0, none⟩)] ((wr.alloc (.cells #[.nilIface] 52)).alloc (.cells #[.string S, .int .i64 0] 65)) fun e w' => ∃ ao cap, e = .returned (.iface 55 (.agg (vV k i s (.slice ao xs.length cap)).toArray)) ∧ Hid (Has B w (RdR (wr.heap.size + 1) S L :: TR (.slice ao xs.length cap) xs :: BlockR wr.heap.size [.nilIface] :: rs) w')) := by
    have x := valueE_any (k := k) (i := i) (s := s) (xs := xs) (r := []) hS (by omega) (by omega) (by omega) (by omega : xs.length ≤ 4000) (fun x hx => by have := f5 x hx; omega) (fun hk => f6 (by omega)) (fun hk => by have := f7 (by omega); omega) (by rw [List.append_nil]; exact he) H1.out
    rw [hL] at x
    exact x
  have CM : Hid (∀ ao cap wq, Below B w wq → B ≤ wq.heap.size → SRow wq (.slice ao xs.length cap) xs → Calls Try.prog 89 #[.agg #[.int .i64 (k : Int), .int .i64 (i : Int), .int .i64 (s : Int), .slice ao xs.length cap]] wq fun e w' => e = .returned (.bool true) ∧ Below wq.heap.size wq w') := fun ao cap wq hb hz hS2 => by
    have x := evMay_any t (k : Int) i s (.slice ao xs.length cap) xs (by omega) (fun x hx => by have := f5 x hx; omega) wq (hT.out.below hb hlow.out) ⟨Nat.lt_of_lt_of_le hlow.out.1 hz, Nat.lt_of_lt_of_le hlow.out.2 hz⟩ hS2
    rw [hm] at x
    exact x
  clear h H1 he hm hT f1 f2 f3 f4 f5 f6 f7 f8 hl hL
  go_enter_defers Try.func19, Try.ntmps19
  go_wp2_with fail
  refine D1.out.mono ?_
  rintro e w2 ⟨ao, cap, rfl, H2⟩
  clear D1
  have hvn : (vV k i s (.slice ao xs.length cap)).toArray = #[.int .i64 (k : Int), .int .i64 (i : Int), .int .i64 (s : Int), .slice ao xs.length cap] := rfl
  rw [hvn]
  clear hvn
  have H2p := H2.out.perm (List.perm_middle (l₁ := [_, _]) (a := BlockR wr.heap.size [.nilIface]))
  obtain ⟨c0, f0⟩ := H2p.bcell (q := wr.heap.size) (vs := [.nilIface]) (by simp) 0 _ rfl
  have HP : Hid (Has B w (BlockR wr.heap.size [(.iface 55 (.agg #[.int .i64 (k : Int), .int .i64 (i : Int), .int .i64 (s : Int), .slice ao xs.length cap]))] :: RdR (wr.heap.size + 1) S L :: TR (.slice ao xs.length cap) xs :: rs) (w2.setCell ⟨wr.heap.size, 0, none⟩ (.iface 55 (.agg #[.int .i64 (k : Int), .int .i64 (i : Int), .int .i64 (s : Int), .slice ao xs.length cap])))) := H2p.put 0 (by simp) _
  obtain ⟨x0, _⟩ := HP.out.bcell (q := wr.heap.size) (vs := [(.iface 55 (.agg #[.int .i64 (k : Int), .int .i64 (i : Int), .int .i64 (s : Int), .slice ao xs.length cap]))]) (by simp) 0 _ rfl
  clear H2 H2p
  go_wp2_with fail
  refine (CM.out _ _ _ HP.out.bel HP.out.size (HP.out.srowT (by simp))).mono ?_
  rintro e w3 ⟨rfl, hb⟩
  have HQ : Hid (Has B w (BlockR wr.heap.size [(.iface 55 (.agg #[.int .i64 (k : Int), .int .i64 (i : Int), .int .i64 (s : Int), .slice ao xs.length cap]))] :: RdR (wr.heap.size + 1) S L :: TR (.slice ao xs.length cap) xs :: rs) w3) := HP.out.below hb
  clear HP hb x0 c0 f0 CM
  obtain ⟨y0, g0⟩ := HQ.out.bcell (q := wr.heap.size) (vs := [(.iface 55 (.agg #[.int .i64 (k : Int), .int .i64 (i : Int), .int .i64 (s : Int), .slice ao xs.length cap]))]) (by simp) 0 _ rfl
  obtain ⟨y1, _⟩ := HQ.out.bcell (q := wr.heap.size + 1) (vs := [.string S, .int .i64 (L : Int)]) (List.mem_cons_of_mem _ List.mem_cons_self) 1 (.int .i64 (L : Int)) rfl
  have y2 : (w3.setCell ⟨wr.heap.size, 0, none⟩ (.iface 55 (.agg #[.int .i64 (k : Int), .int .i64 (i : Int), .int .i64 (s : Int), .slice ao xs.length cap]))).cell? ⟨wr.heap.size, 0, none⟩ = some (.iface 55 (.agg #[.int .i64 (k : Int), .int .i64 (i : Int), .int .i64 (s : Int), .slice ao xs.length cap])) := World.cell?_setCell_same _ _ _ y0
  have HZ : Hid (Has B w (TR (.slice ao xs.length cap) xs :: rs) (w3.setCell ⟨wr.heap.size, 0, none⟩ (.iface 55 (.agg #[.int .i64 (k : Int), .int .i64 (i : Int), .int .i64 (s : Int), .slice ao xs.length cap])))) := (HQ.out.put 0 (by simp) (.iface 55 (.agg #[.int .i64 (k : Int), .int .i64 (i : Int), .int .i64 (s : Int), .slice ao xs.length cap]))).drop.drop
  clear HQ
  subst hLS
  go_wp2_with fail
  refine leaves_cons (f := 24) (args := #[.pointer (some ⟨wr.heap.size, 0, none⟩)]) (by simp) (by simp [go_sem]) ?_
  refine (catch_idle ⟨wr.heap.size, 0, none⟩ _).mono ?_
  rintro e u' w'' ⟨rfl, rfl, rfl⟩
  simp [Leaves, settle, results, Try.results19, go_sem, y2]
  exact ⟨_, _, ⟨rfl, rfl⟩, HZ⟩
set_option maxHeartbeats 2000000 in
theorem readE_more (t : Tb) {k i s : Nat} {S : ByteArray} {xs : List (List UInt8)} {r : List UInt8} (hS : S.size ≤ 4611686018427387904) (hT : Hid (TabX t w)) (hlow : Hid (0 < B ∧ 1 < B)) (hm : evMay t k i s xs = true) (hr : r ≠ []) (he : S.data.toList = evL k i s xs ++ r) (h : Has B w rs wr) :
    Calls Try.prog 19 #[.string S] wr fun e w' => e = .returned .nilIface ∧ Hid (Has B w rs w') := by
  obtain ⟨f1, f2, f3, f4, f5, f6, f7, f8⟩ := evMay_facts hm
  have hl : S.data.toList.length = S.size := Array.length_toList
  obtain ⟨L, hL⟩ : ∃ L, (evL k i s xs).length = L := ⟨_, rfl⟩
  have hLS : ((L : Int) == (S.size : Int)) = false := beq_eq_false_iff_ne.2 (by
    have h1 : S.size = L + r.length := by
      have h0 := congrArg List.length he
      rw [List.length_append, hL, hl] at h0
      exact h0
    have h2 : 0 < r.length := by cases r with | nil => exact absurd rfl hr | cons _ _ => simp
    omega)
  have hmf : ∀ (fn : Fn) (first cap : Array Value) (w : World), (Instr.makeFunc fn first cap).run Try.prog w = .ok (.func fn first cap) w := fun _ _ _ _ => rfl
  have hmm := m_event_may
  have H1 : Hid (Has B w (RdR (wr.heap.size + 1) S 0 :: BlockR wr.heap.size [.nilIface] :: rs) ((wr.alloc (.cells #[.nilIface] 52)).alloc (.cells #[.string S, .int .i64 0] 65))) := by
    have x := (h.box [.nilIface] 52).box [.string S, .int .i64 0] 65
    rw [World.size_alloc] at x
    exact x
  have D1 : Hid (Calls Try.prog 25 #[.pointer (some ⟨wr.heap.size + 1, 0, none⟩)] ((wr.alloc (.cells #[.nilIface] 52)).alloc (.cells #[.string S, .int .i64 0] 65)) fun e w' => ∃ ao cap, e = .returned (.iface 55 (.agg (vV k i s (.slice ao xs.length cap)).toArray)) ∧ Hid (Has B w (RdR (wr.heap.size + 1) S L :: TR (.slice ao xs.length cap) xs :: BlockR wr.heap.size [.nilIface] :: rs) w')) := by
    have x := valueE_any (k := k) (i := i) (s := s) (xs := xs) (r := r) hS (by omega) (by omega) (by omega) (by omega : xs.length ≤ 4000) (fun x hx => by have := f5 x hx; omega) (fun hk => f6 (by omega)) (fun hk => by have := f7 (by omega); omega) (by exact he) H1.out
    rw [hL] at x
    exact x
  have CM : Hid (∀ ao cap wq, Below B w wq → B ≤ wq.heap.size → SRow wq (.slice ao xs.length cap) xs → Calls Try.prog 89 #[.agg #[.int .i64 (k : Int), .int .i64 (i : Int), .int .i64 (s : Int), .slice ao xs.length cap]] wq fun e w' => e = .returned (.bool true) ∧ Below wq.heap.size wq w') := fun ao cap wq hb hz hS2 => by
    have x := evMay_any t (k : Int) i s (.slice ao xs.length cap) xs (by omega) (fun x hx => by have := f5 x hx; omega) wq (hT.out.below hb hlow.out) ⟨Nat.lt_of_lt_of_le hlow.out.1 hz, Nat.lt_of_lt_of_le hlow.out.2 hz⟩ hS2
    rw [hm] at x
    exact x
  clear h H1 he hm hT f1 f2 f3 f4 f5 f6 f7 f8 hl hL
  go_enter_defers Try.func19, Try.ntmps19
  go_wp2_with fail
  refine D1.out.mono ?_
  rintro e w2 ⟨ao, cap, rfl, H2⟩
  clear D1
  have hvn : (vV k i s (.slice ao xs.length cap)).toArray = #[.int .i64 (k : Int), .int .i64 (i : Int), .int .i64 (s : Int), .slice ao xs.length cap] := rfl
  rw [hvn]
  clear hvn
  have H2p := H2.out.perm (List.perm_middle (l₁ := [_, _]) (a := BlockR wr.heap.size [.nilIface]))
  obtain ⟨c0, f0⟩ := H2p.bcell (q := wr.heap.size) (vs := [.nilIface]) (by simp) 0 _ rfl
  have HP : Hid (Has B w (BlockR wr.heap.size [(.iface 55 (.agg #[.int .i64 (k : Int), .int .i64 (i : Int), .int .i64 (s : Int), .slice ao xs.length cap]))] :: RdR (wr.heap.size + 1) S L :: TR (.slice ao xs.length cap) xs :: rs) (w2.setCell ⟨wr.heap.size, 0, none⟩ (.iface 55 (.agg #[.int .i64 (k : Int), .int .i64 (i : Int), .int .i64 (s : Int), .slice ao xs.length cap])))) := H2p.put 0 (by simp) _
  obtain ⟨x0, _⟩ := HP.out.bcell (q := wr.heap.size) (vs := [(.iface 55 (.agg #[.int .i64 (k : Int), .int .i64 (i : Int), .int .i64 (s : Int), .slice ao xs.length cap]))]) (by simp) 0 _ rfl
  clear H2 H2p
  go_wp2_with fail
  refine (CM.out _ _ _ HP.out.bel HP.out.size (HP.out.srowT (by simp))).mono ?_
  rintro e w3 ⟨rfl, hb⟩
  have HQ : Hid (Has B w (BlockR wr.heap.size [(.iface 55 (.agg #[.int .i64 (k : Int), .int .i64 (i : Int), .int .i64 (s : Int), .slice ao xs.length cap]))] :: RdR (wr.heap.size + 1) S L :: TR (.slice ao xs.length cap) xs :: rs) w3) := HP.out.below hb
  clear HP hb x0 c0 f0 CM
  obtain ⟨y0, g0⟩ := HQ.out.bcell (q := wr.heap.size) (vs := [(.iface 55 (.agg #[.int .i64 (k : Int), .int .i64 (i : Int), .int .i64 (s : Int), .slice ao xs.length cap]))]) (by simp) 0 _ rfl
  obtain ⟨y1, _⟩ := HQ.out.bcell (q := wr.heap.size + 1) (vs := [.string S, .int .i64 (L : Int)]) (List.mem_cons_of_mem _ List.mem_cons_self) 1 (.int .i64 (L : Int)) rfl
  have y2 : (w3.setCell ⟨wr.heap.size, 0, none⟩ .nilIface).cell? ⟨wr.heap.size, 0, none⟩ = some .nilIface := World.cell?_setCell_same _ _ _ y0
  have HZ : Hid (Has B w rs (w3.setCell ⟨wr.heap.size, 0, none⟩ .nilIface)) := (HQ.out.put 0 (by simp) .nilIface).drop.drop.drop
  clear HQ
  go_wp2_with fail
  refine (giveUp_any _).mono ?_
  rintro e w4 ⟨rfl, hw4⟩
  rw [hw4]
  clear hw4
  go_wp2_with fail
  refine leaves_cons (f := 24) (args := #[.pointer (some ⟨wr.heap.size, 0, none⟩)]) (by simp) (by simp [go_sem]) ?_
  refine (catch_finds ⟨wr.heap.size, 0, none⟩ _ _ y0 g0).mono ?_
  rintro e u' w'' ⟨rfl, rfl, rfl⟩
  simp [Leaves, settle, results, Try.results19, go_sem, y2]
  exact HZ
end
end Go.Proofs.Ytbgankldnjeohaa.Pl

/- ReadEvent and What of an event's form; What of what is none. -/
set_option linter.unusedVariables false
set_option linter.unusedSimpArgs false
set_option maxRecDepth 100000
namespace Go.Proofs.Ytbgankldnjeohaa.Pl
open Go.RowKit Go.Proofs.Ytbgankldnjeohaa

theorem ta_nil_letter (w : World) : (Instr.typeAssert .nilIface 52 49 true).run Try.prog w = .ok (.tuple #[.agg #[.int .i64 0, .int .i64 0, .int .i64 0, .int .i64 0, .int .i64 0, .slice none 0 0], .bool false]) w := by kernel_rfl
theorem ta_nil_event (w : World) : (Instr.typeAssert .nilIface 52 55 true).run Try.prog w = .ok (.tuple #[.agg #[.int .i64 0, .int .i64 0, .int .i64 0, .slice none 0 0], .bool false]) w := by kernel_rfl
theorem ta_nil_note (w : World) : (Instr.typeAssert .nilIface 52 56 true).run Try.prog w = .ok (.tuple #[.agg #[.int .i64 0, .int .i64 0, .int .i64 0, .int .i64 0, .int .i64 0, .int .i64 0, .string ⟨#[]⟩, .string ⟨#[]⟩, .int .i64 0, .string ⟨#[]⟩], .bool false]) w := by kernel_rfl
section
variable {B : Nat} {w wr : World} {rs : List Res}
theorem what_nil {S : ByteArray} (D1 : Hid (Calls Try.prog 19 #[.string S] wr fun e w' => e = .returned .nilIface ∧ Hid (Has B w rs w'))) :
    Calls Try.prog 11 #[.string S] wr fun e w' => e = .returned (.int .i64 0) ∧ Hid (Has B w rs w') := by
  have hta := ta_nil_letter
  have hte := ta_nil_event
  have htn := ta_nil_note
  go_enter Try.func11, Try.ntmps11
  go_wp2_with fail
  refine D1.out.mono ?_
  rintro e w2 ⟨rfl, H2⟩
  clear D1
  go_wp2_with fail
  go_ret
  exact ⟨rfl, H2⟩
theorem what_ev {S : ByteArray} {x : Array Value} {R : World → Prop} (D1 : Hid (Calls Try.prog 19 #[.string S] wr fun e w' => e = .returned (.iface 55 (.agg x)) ∧ Hid (R w'))) :
    Calls Try.prog 11 #[.string S] wr fun e w' => e = .returned (.int .i64 2) ∧ Hid (R w') := by
  have hta := ta_event
  have htl := ta_letter
  go_enter Try.func11, Try.ntmps11
  go_wp2_with fail
  refine D1.out.mono ?_
  rintro e w2 ⟨rfl, H2⟩
  clear D1
  go_wp2_with fail
  go_ret
  exact ⟨rfl, H2⟩
theorem whatE_ok (t : Tb) {k i s : Nat} {S : ByteArray} {xs : List (List UInt8)} (hS : S.size ≤ 4611686018427387904) (hT : Hid (TabX t w)) (hlow : Hid (0 < B ∧ 1 < B)) (hm : evMay t k i s xs = true) (he : S.data.toList = evL k i s xs) (h : Has B w rs wr) :
    Calls Try.prog 11 #[.string S] wr fun e w' => e = .returned (.int .i64 2) ∧ Hid (Has B w rs w') := by
  have D1 : Hid (Calls Try.prog 19 #[.string S] wr fun e w' => ∃ ao cap, e = .returned (.iface 55 (.agg #[.int .i64 (k : Int), .int .i64 (i : Int), .int .i64 (s : Int), .slice ao xs.length cap])) ∧ Hid (Has B w (TR (.slice ao xs.length cap) xs :: rs) w')) := readE_ok t hS hT hlow hm he h
  have hta := ta_event
  have htl := ta_letter
  clear h he hm
  go_enter Try.func11, Try.ntmps11
  go_wp2_with fail
  refine D1.out.mono ?_
  rintro e w2 ⟨ao, cap, rfl, H2⟩
  clear D1
  go_wp2_with fail
  go_ret
  exact ⟨rfl, H2.out.drop⟩
set_option maxHeartbeats 2000000 in
theorem readEvent_ok (t : Tb) {k i s : Nat} {S : ByteArray} {xs : List (List UInt8)} (hS : S.size ≤ 4611686018427387904) (hT : Hid (TabX t w)) (hlow : Hid (0 < B ∧ 1 < B)) (hm : evMay t k i s xs = true) (he : S.data.toList = evL k i s xs) (h : Has B w rs wr) :
    Calls Try.prog 15 #[.string S] wr fun e w' => ∃ ao cap, e = .returned (.tuple #[.agg #[.int .i64 (k : Int), .int .i64 (i : Int), .int .i64 (s : Int), .slice ao xs.length cap], .int .i64 0]) ∧ Hid (Has B w (TR (.slice ao xs.length cap) xs :: rs) w') := by
  have H0 : Hid (Has B w (BlockR wr.heap.size (vV 0 0 0 nilS) :: rs) (wr.alloc (.cells #[.int .i64 0, .int .i64 0, .int .i64 0, .slice none 0 0] 39))) := h.box (vV 0 0 0 nilS) 39
  have D1 : Hid (Calls Try.prog 19 #[.string S] (wr.alloc (.cells #[.int .i64 0, .int .i64 0, .int .i64 0, .slice none 0 0] 39)) fun e w' => ∃ ao cap, e = .returned (.iface 55 (.agg #[.int .i64 (k : Int), .int .i64 (i : Int), .int .i64 (s : Int), .slice ao xs.length cap])) ∧ Hid (Has B w (TR (.slice ao xs.length cap) xs :: BlockR wr.heap.size (vV 0 0 0 nilS) :: rs) w')) := readE_ok t hS hT hlow hm he H0.out
  obtain ⟨rb, hrb⟩ : ∃ rb, wr.heap.size = rb := ⟨_, rfl⟩
  rw [hrb] at D1
  clear h H0 he hm hT
  have hta := ta_event
  go_enter Try.func15, Try.ntmps15
  go_wp2_with fail
  refine D1.out.mono ?_
  rintro e w2 ⟨ao, cap, rfl, h2⟩
  clear hrb D1
  have H2 : Hid (Has B w (BlockR rb (vV 0 0 0 nilS) :: BlockR w2.heap.size (vV k i s (.slice ao xs.length cap)) :: TR (.slice ao xs.length cap) xs :: rs) (w2.alloc (.cells #[.int .i64 (k : Int), .int .i64 (i : Int), .int .i64 (s : Int), .slice ao xs.length cap] 55))) := (h2.out.box (vV k i s (.slice ao xs.length cap)) 55).perm (List.perm_middle (l₁ := [_, _]) (l₂ := rs))
  clear h2
  go_upto_region 4 with fail
  generalize (w2.alloc (.cells #[.int .i64 (k : Int), .int .i64 (i : Int), .int .i64 (s : Int), .slice ao xs.length cap] 55)) = w3 at *
  generalize w2.heap.size = nb at *
  obtain ⟨x0, _⟩ := H2.out.bcell (q := nb) (vs := (vV k i s (.slice ao xs.length cap))) (by simp) 0 _ rfl
  obtain ⟨x1, _⟩ := H2.out.bcell (q := nb) (vs := (vV k i s (.slice ao xs.length cap))) (by simp) 1 _ rfl
  obtain ⟨x2, _⟩ := H2.out.bcell (q := nb) (vs := (vV k i s (.slice ao xs.length cap))) (by simp) 2 _ rfl
  obtain ⟨x3, _⟩ := H2.out.bcell (q := nb) (vs := (vV k i s (.slice ao xs.length cap))) (by simp) 3 _ rfl
  obtain ⟨y0, g0⟩ := H2.out.bcell (q := rb) (vs := vV 0 0 0 nilS) (by simp) 0 _ rfl
  obtain ⟨y1, g1⟩ := H2.out.bcell (q := rb) (vs := vV 0 0 0 nilS) (by simp) 1 _ rfl
  obtain ⟨y2, g2⟩ := H2.out.bcell (q := rb) (vs := vV 0 0 0 nilS) (by simp) 2 _ rfl
  obtain ⟨y3, g3⟩ := H2.out.bcell (q := rb) (vs := vV 0 0 0 nilS) (by simp) 3 _ rfl
  have HQ : Hid (Has B w (BlockR rb (vV k i s (.slice ao xs.length cap)) :: BlockR nb (vV k i s (.slice ao xs.length cap)) :: TR (.slice ao xs.length cap) xs :: rs) (setAll rb 0 (vV k i s (.slice ao xs.length cap)) w3)) := Has.puts (vV k i s (.slice ao xs.length cap)) [] (vV 0 0 0 nilS) H2.out rfl
  clear H2 hta
  go_wp2_with fail
  have HC : Hid (∀ j v, (vV k i s (.slice ao xs.length cap))[j]? = some v → (setAll rb 0 (vV k i s (.slice ao xs.length cap)) w3).cell? ⟨rb, j, none⟩ = some v) := fun j v hv => (HQ.out.bcell (q := rb) (vs := (vV k i s (.slice ao xs.length cap))) (by simp) j v hv).1
  refine bodyPost_ret (results_row_tmp rfl _ _ rb (vV k i s (.slice ao xs.length cap)) _ rfl HC.out Try.underlying39 rfl (by kernel_rfl)) rfl ⟨_, _, rfl, ?_⟩
  exact HQ.out.drop.drop
end
end Go.Proofs.Ytbgankldnjeohaa.Pl

/- ReadLetter and What of a letter's form; ReadLetter of what is none. -/
set_option linter.unusedVariables false
set_option linter.unusedSimpArgs false
set_option maxRecDepth 100000
namespace Go.Proofs.Ytbgankldnjeohaa.Pl
open Go.RowKit Go.Proofs.Ytbgankldnjeohaa

theorem ta_letter2 (x : Array Value) (w : World) : (Instr.typeAssert (.iface 49 (.agg x)) 52 49 true).run Try.prog w = .ok (.tuple #[.agg x, .bool true]) w := by kernel_rfl
section
variable {B : Nat} {w wr : World} {rs : List Res}
theorem whatL_ok (t : Tb) {k p i s o : Nat} {S : ByteArray} {xs : List (List UInt8)} (hS : S.size ≤ 4611686018427387904) (hT : Hid (TabX t w)) (hlow : Hid (0 < B ∧ 1 < B)) (hm : ltMay t k p i s o xs = true) (he : S.data.toList = ltL k p i s o xs) (h : Has B w rs wr) :
    Calls Try.prog 11 #[.string S] wr fun e w' => e = .returned (.int .i64 1) ∧ Hid (Has B w rs w') := by
  have D1 : Hid (Calls Try.prog 19 #[.string S] wr fun e w' => ∃ ao cap, e = .returned (.iface 49 (.agg #[.int .i64 (k : Int), .int .i64 (p : Int), .int .i64 (i : Int), .int .i64 (s : Int), .int .i64 (o : Int), .slice ao xs.length cap])) ∧ Hid (Has B w (TR (.slice ao xs.length cap) xs :: rs) w')) := readL_ok t hS hT hlow hm he h
  have hta := ta_letter2
  clear h he hm
  go_enter Try.func11, Try.ntmps11
  go_wp2_with fail
  refine D1.out.mono ?_
  rintro e w2 ⟨ao, cap, rfl, H2⟩
  clear D1
  go_wp2_with fail
  go_ret
  exact ⟨rfl, H2.out.drop⟩
set_option maxHeartbeats 2000000 in
theorem readLetter_ok (t : Tb) {k p i s o : Nat} {S : ByteArray} {xs : List (List UInt8)} (hS : S.size ≤ 4611686018427387904) (hT : Hid (TabX t w)) (hlow : Hid (0 < B ∧ 1 < B)) (hm : ltMay t k p i s o xs = true) (he : S.data.toList = ltL k p i s o xs) (h : Has B w rs wr) :
    Calls Try.prog 9 #[.string S] wr fun e w' => ∃ ao cap, e = .returned (.tuple #[.agg #[.int .i64 (k : Int), .int .i64 (p : Int), .int .i64 (i : Int), .int .i64 (s : Int), .int .i64 (o : Int), .slice ao xs.length cap], .int .i64 0]) ∧ Hid (Has B w (TR (.slice ao xs.length cap) xs :: rs) w') := by
  have H0 : Hid (Has B w (BlockR wr.heap.size (vL 0 0 0 0 0 nilS) :: rs) (wr.alloc (.cells #[.int .i64 0, .int .i64 0, .int .i64 0, .int .i64 0, .int .i64 0, .slice none 0 0] 24))) := h.box (vL 0 0 0 0 0 nilS) 24
  have D1 : Hid (Calls Try.prog 19 #[.string S] (wr.alloc (.cells #[.int .i64 0, .int .i64 0, .int .i64 0, .int .i64 0, .int .i64 0, .slice none 0 0] 24)) fun e w' => ∃ ao cap, e = .returned (.iface 49 (.agg #[.int .i64 (k : Int), .int .i64 (p : Int), .int .i64 (i : Int), .int .i64 (s : Int), .int .i64 (o : Int), .slice ao xs.length cap])) ∧ Hid (Has B w (TR (.slice ao xs.length cap) xs :: BlockR wr.heap.size (vL 0 0 0 0 0 nilS) :: rs) w')) := readL_ok t hS hT hlow hm he H0.out
  obtain ⟨rb, hrb⟩ : ∃ rb, wr.heap.size = rb := ⟨_, rfl⟩
  rw [hrb] at D1
  clear h H0 he hm hT
  have hta := ta_letter2
  go_enter Try.func9, Try.ntmps9
  go_wp2_with fail
  refine D1.out.mono ?_
  rintro e w2 ⟨ao, cap, rfl, h2⟩
  clear hrb D1
  have H2 : Hid (Has B w (BlockR rb (vL 0 0 0 0 0 nilS) :: BlockR w2.heap.size (vL k p i s o (.slice ao xs.length cap)) :: TR (.slice ao xs.length cap) xs :: rs) (w2.alloc (.cells #[.int .i64 (k : Int), .int .i64 (p : Int), .int .i64 (i : Int), .int .i64 (s : Int), .int .i64 (o : Int), .slice ao xs.length cap] 49))) := (h2.out.box (vL k p i s o (.slice ao xs.length cap)) 49).perm (List.perm_middle (l₁ := [_, _]) (l₂ := rs))
  clear h2
  go_upto_region 4 with fail
  generalize (w2.alloc (.cells #[.int .i64 (k : Int), .int .i64 (p : Int), .int .i64 (i : Int), .int .i64 (s : Int), .int .i64 (o : Int), .slice ao xs.length cap] 49)) = w3 at *
  generalize w2.heap.size = nb at *
  obtain ⟨x0, _⟩ := H2.out.bcell (q := nb) (vs := (vL k p i s o (.slice ao xs.length cap))) (by simp) 0 _ rfl
  obtain ⟨x1, _⟩ := H2.out.bcell (q := nb) (vs := (vL k p i s o (.slice ao xs.length cap))) (by simp) 1 _ rfl
  obtain ⟨x2, _⟩ := H2.out.bcell (q := nb) (vs := (vL k p i s o (.slice ao xs.length cap))) (by simp) 2 _ rfl
  obtain ⟨x3, _⟩ := H2.out.bcell (q := nb) (vs := (vL k p i s o (.slice ao xs.length cap))) (by simp) 3 _ rfl
  obtain ⟨x4, _⟩ := H2.out.bcell (q := nb) (vs := (vL k p i s o (.slice ao xs.length cap))) (by simp) 4 _ rfl
  obtain ⟨x5, _⟩ := H2.out.bcell (q := nb) (vs := (vL k p i s o (.slice ao xs.length cap))) (by simp) 5 _ rfl
  obtain ⟨y0, g0⟩ := H2.out.bcell (q := rb) (vs := (vL 0 0 0 0 0 nilS)) (by simp) 0 _ rfl
  obtain ⟨y1, g1⟩ := H2.out.bcell (q := rb) (vs := (vL 0 0 0 0 0 nilS)) (by simp) 1 _ rfl
  obtain ⟨y2, g2⟩ := H2.out.bcell (q := rb) (vs := (vL 0 0 0 0 0 nilS)) (by simp) 2 _ rfl
  obtain ⟨y3, g3⟩ := H2.out.bcell (q := rb) (vs := (vL 0 0 0 0 0 nilS)) (by simp) 3 _ rfl
  obtain ⟨y4, g4⟩ := H2.out.bcell (q := rb) (vs := (vL 0 0 0 0 0 nilS)) (by simp) 4 _ rfl
  obtain ⟨y5, g5⟩ := H2.out.bcell (q := rb) (vs := (vL 0 0 0 0 0 nilS)) (by simp) 5 _ rfl
  have HQ : Hid (Has B w (BlockR rb (vL k p i s o (.slice ao xs.length cap)) :: BlockR nb (vL k p i s o (.slice ao xs.length cap)) :: TR (.slice ao xs.length cap) xs :: rs) (setAll rb 0 (vL k p i s o (.slice ao xs.length cap)) w3)) := Has.puts (vL k p i s o (.slice ao xs.length cap)) [] (vL 0 0 0 0 0 nilS) H2.out rfl
  clear H2 hta
  go_wp2_with fail
  have HC : Hid (∀ j u, (vL k p i s o (.slice ao xs.length cap))[j]? = some u → (setAll rb 0 (vL k p i s o (.slice ao xs.length cap)) w3).cell? ⟨rb, j, none⟩ = some u) := fun j u hu => (HQ.out.bcell (q := rb) (vs := (vL k p i s o (.slice ao xs.length cap))) (by simp) j u hu).1
  refine bodyPost_ret (results_row_tmp rfl _ _ rb (vL k p i s o (.slice ao xs.length cap)) _ rfl HC.out Try.underlying24 rfl (by kernel_rfl)) rfl ⟨_, _, rfl, ?_⟩
  exact HQ.out.drop.drop
set_option maxHeartbeats 2000000 in
theorem readLetter_none {S : ByteArray} (C : ∀ (rs : List Res) (wr : World), Hid (Has B w rs wr) → Calls Try.prog 19 #[.string S] wr fun e w' => e = .returned .nilIface ∧ Hid (Has B w rs w')) (h : Has B w rs wr) :
    Calls Try.prog 9 #[.string S] wr fun e w' => e = .returned (.tuple #[.agg #[.int .i64 0, .int .i64 0, .int .i64 0, .int .i64 0, .int .i64 0, .slice none 0 0], .int .i64 70]) ∧ Hid (Has B w rs w') := by
  have H0 : Hid (Has B w (BlockR wr.heap.size (vL 0 0 0 0 0 nilS) :: rs) (wr.alloc (.cells #[.int .i64 0, .int .i64 0, .int .i64 0, .int .i64 0, .int .i64 0, .slice none 0 0] 24))) := h.box (vL 0 0 0 0 0 nilS) 24
  have D1 : Hid (Calls Try.prog 19 #[.string S] (wr.alloc (.cells #[.int .i64 0, .int .i64 0, .int .i64 0, .int .i64 0, .int .i64 0, .slice none 0 0] 24)) fun e w' => e = .returned .nilIface ∧ Hid (Has B w (BlockR wr.heap.size (vL 0 0 0 0 0 nilS) :: rs) w')) := C _ _ H0
  obtain ⟨rb, hrb⟩ : ∃ rb, wr.heap.size = rb := ⟨_, rfl⟩
  rw [hrb] at D1
  clear h H0 C
  have hta := ta_nil_letter
  go_enter Try.func9, Try.ntmps9
  go_wp2_with fail
  refine D1.out.mono ?_
  rintro e w2 ⟨rfl, h2⟩
  clear hrb D1
  have H2 : Hid (Has B w (BlockR rb (vL 0 0 0 0 0 nilS) :: rs) (w2.alloc (.cells #[.int .i64 0, .int .i64 0, .int .i64 0, .int .i64 0, .int .i64 0, .slice none 0 0] 49))) := h2.out.below (by go_grown)
  clear h2
  go_upto_region 3 with fail
  generalize (w2.alloc (.cells #[.int .i64 0, .int .i64 0, .int .i64 0, .int .i64 0, .int .i64 0, .slice none 0 0] 49)) = w3 at *
  obtain ⟨y0, g0⟩ := H2.out.bcell (q := rb) (vs := (vL 0 0 0 0 0 nilS)) (by simp) 0 _ rfl
  obtain ⟨y1, g1⟩ := H2.out.bcell (q := rb) (vs := (vL 0 0 0 0 0 nilS)) (by simp) 1 _ rfl
  obtain ⟨y2, g2⟩ := H2.out.bcell (q := rb) (vs := (vL 0 0 0 0 0 nilS)) (by simp) 2 _ rfl
  obtain ⟨y3, g3⟩ := H2.out.bcell (q := rb) (vs := (vL 0 0 0 0 0 nilS)) (by simp) 3 _ rfl
  obtain ⟨y4, g4⟩ := H2.out.bcell (q := rb) (vs := (vL 0 0 0 0 0 nilS)) (by simp) 4 _ rfl
  obtain ⟨y5, g5⟩ := H2.out.bcell (q := rb) (vs := (vL 0 0 0 0 0 nilS)) (by simp) 5 _ rfl
  have HQ : Hid (Has B w (BlockR rb (vL 0 0 0 0 0 nilS) :: rs) (setAll rb 0 (vL 0 0 0 0 0 nilS) w3)) := Has.puts (vL 0 0 0 0 0 nilS) [] (vL 0 0 0 0 0 nilS) H2.out rfl
  clear H2 hta
  go_wp2_with fail
  have HC : Hid (∀ j u, (vL 0 0 0 0 0 nilS)[j]? = some u → (setAll rb 0 (vL 0 0 0 0 0 nilS) w3).cell? ⟨rb, j, none⟩ = some u) := fun j u hu => (HQ.out.bcell (q := rb) (vs := (vL 0 0 0 0 0 nilS)) (by simp) j u hu).1
  refine bodyPost_ret (results_row_tmp rfl _ _ rb (vL 0 0 0 0 0 nilS) _ rfl HC.out Try.underlying24 rfl (by kernel_rfl)) rfl ⟨rfl, ?_⟩
  exact HQ.out.drop
end
end Go.Proofs.Ytbgankldnjeohaa.Pl

/- A letter's form cut short by its last byte: whoever reads it gives up. -/
set_option linter.unusedVariables false
set_option linter.unusedSimpArgs false
set_option maxRecDepth 100000
namespace Go.Proofs.Ytbgankldnjeohaa.Pl
open Go.RowKit Go.Proofs.Ytbgankldnjeohaa

section
variable {B : Nat} {w wr : World} {rs : List Res}
theorem pass_no {q : Nat} {x e : Int} (he : e ≠ 0) (wr : World) : Calls Try.prog 43 #[.pointer (some ⟨q, 0, none⟩), .int .i64 x, .int .i64 e] wr fun en w' => en = gave ∧ w' = wr := by
  have he' : (e == 0) = false := beq_eq_false_iff_ne.2 he
  go_enter Try.func43, Try.ntmps43
  go_wp2_with fail
  refine (giveUp_any _).mono ?_
  rintro en w2 ⟨rfl, hw⟩
  rw [hw]
  go_wp2
  exact bodyPost_dies rfl ⟨rfl, rfl⟩
set_option maxHeartbeats 1000000 in
theorem numR_no {q a n c e : Nat} {S : ByteArray} (hS : S.size ≤ 4611686018427387904) (ha : a ≤ S.size) (h : Has B w (RdR q S a :: rs) wr) (ht : PackMath.tn (S.data.toList.drop a) = (n, c, e)) (he : e ≠ 0) :
    Calls Try.prog 37 #[.pointer (some ⟨q, 0, none⟩)] wr fun en w' => en = gave ∧ Hid (Has B w (RdR q S a :: rs) w') := by
  have HD : Hid (∀ m, Has B w (RdR q S a :: rs) (wr.drewN m)) := fun m => h.below (below_drewN (Below.refl _ _) m)
  have HT : Hid (∀ w, Calls Try.prog 42 #[.string S, .int .i64 (a : Int)] w fun en w' => en = .returned (.tuple #[.int .i64 (n : Int), .int .i64 0, .int .i64 (e : Int)]) ∧ w' = w) := fun w => by
    have x := Pk.takeNum_any S a hS ha w
    rw [Pk.tnV_of ht, if_neg he] at x
    exact x
  have CP : Hid (∀ wq, Calls Try.prog 43 #[.pointer (some ⟨q, 0, none⟩), .int .i64 0, .int .i64 (e : Int)] wq fun en w' => en = gave ∧ w' = wq) := fun wq => pass_no (by omega) wq
  obtain ⟨c0, f0⟩ := h.bcell (q := q) (vs := [.string S, .int .i64 (a : Int)]) List.mem_cons_self 0 _ rfl
  obtain ⟨c1, f1⟩ := h.bcell (q := q) (vs := [.string S, .int .i64 (a : Int)]) List.mem_cons_self 1 _ rfl
  clear h ht hS ha he
  go_enter Try.func37, Try.ntmps37
  go_wp2_with fail
  go_quiet ((go_at_call 42; exact Calls.quiet_of_same (HT.out _)))
  go_wp2_with fail
  refine (CP.out _).mono ?_
  rintro en w2 ⟨rfl, hw2⟩
  rw [hw2]
  go_wp2_with fail
  exact bodyPost_dies rfl ⟨rfl, HD.out _⟩
set_option maxHeartbeats 2000000 in
theorem keysR_no {q a c e : Nat} {S : ByteArray} {xs : List (List UInt8)} (hS : S.size ≤ 4611686018427387904) (ha : a ≤ S.size) (h : Has B w (RdR q S a :: rs) wr) (ht : PackMath.tl (S.data.toList.drop a) = (xs, c, e)) (he : e ≠ 0) :
    Calls Try.prog 38 #[.pointer (some ⟨q, 0, none⟩)] wr fun en w' => en = gave ∧ Hid (Has B w (RdR q S a :: rs) w') := by
  have HT : Hid (∀ wq, Hid (Has B w (RdR q S a :: rs) wq) → Calls Try.prog 44 #[.string S, .int .i64 (a : Int)] wq fun en w' => ∃ ao cap, en = .returned (.tuple #[.slice ao xs.length cap, .int .i64 0, .int .i64 (e : Int)]) ∧
      w'.cell? ⟨q, 0, none⟩ = some (.string S) ∧ w'.cell? ⟨q, 1, none⟩ = some (.int .i64 (a : Int)) ∧ Hid (Has B w (RdR q S a :: rs) w')) := fun wq hq => by
    refine (Pk.takeList_any S a hS ha wq).mono ?_
    rintro en w' ⟨v, xs', c', e', h1, h2, h3, h4, h5⟩
    rw [ht] at h1
    obtain ⟨rfl, rfl, rfl⟩ : xs = xs' ∧ c = c' ∧ e = e' := by simpa using h1
    obtain ⟨ao, cap, rfl, _⟩ := own_form h4
    have y : Has B w (RdR q S a :: rs) w' := hq.out.below h5
    rw [if_neg he] at h2
    exact ⟨ao, cap, h2, (y.bcell (q := q) (vs := [.string S, .int .i64 (a : Int)]) List.mem_cons_self 0 _ rfl).1, (y.bcell (q := q) (vs := [.string S, .int .i64 (a : Int)]) List.mem_cons_self 1 _ rfl).1, y⟩
  have CP : Hid (∀ wq, Calls Try.prog 43 #[.pointer (some ⟨q, 0, none⟩), .int .i64 0, .int .i64 (e : Int)] wq fun en w' => en = gave ∧ w' = wq) := fun wq => pass_no (by omega) wq
  have HD : Hid (∀ m, Hid (Has B w (RdR q S a :: rs) (wr.drewN m))) := fun m => h.below (below_drewN (Below.refl _ _) m)
  have H1 : Hid (Has B w (RdR q S a :: rs) wr.drew) := h.below (by go_grown)
  have H0 : Hid (Has B w (RdR q S a :: rs) wr) := h
  obtain ⟨c0, f0⟩ := h.bcell (q := q) (vs := [.string S, .int .i64 (a : Int)]) List.mem_cons_self 0 _ rfl
  obtain ⟨c1, f1⟩ := h.bcell (q := q) (vs := [.string S, .int .i64 (a : Int)]) List.mem_cons_self 1 _ rfl
  clear h ht hS ha he
  go_enter Try.func38, Try.ntmps38
  go_wp2_with fail
  go_region_held3 (fun w' => w'.cell? ⟨q, 0, none⟩ = some (.string S) ∧ w'.cell? ⟨q, 1, none⟩ = some (.int .i64 (a : Int))) (go_keep) (first | (go_at_call 44; refine (HT.out _ (by first | exact H1 | exact H0 | exact HD.out _)).mono ?_; rintro en w2 ⟨ao, cap, rfl, m0, m1, H2⟩))
  all_goals go_wp2_with fail
  all_goals refine (CP.out _).mono ?_
  all_goals rintro en w3 ⟨rfl, hw3⟩
  all_goals rw [hw3]
  all_goals go_wp2_with fail
  all_goals exact bodyPost_dies rfl ⟨rfl, by first | exact H2 | exact H2.out.below (by go_grown)⟩
set_option maxHeartbeats 2000000 in
theorem ltC3 {q p c e n : Nat} {S : ByteArray} (hS : S.size ≤ 4611686018427387904) (hS3 : 3 ≤ S.size) (h : Has B w (RdR q S 1 :: rs) wr) (tk : PackMath.tn (S.data.toList.drop 1) = (3, 1, 0)) (t0 : PackMath.tn (S.data.toList.drop 2) = (p, 1, 0)) (tq : PackMath.tn (S.data.toList.drop 3) = (n, c, e)) (he : e ≠ 0) :
    Calls Try.prog 32 #[.pointer (some ⟨q, 0, none⟩)] wr fun en w' => en = gave ∧ Hid (Has B w rs w') := by
  have CN : Hid (∀ (a n : Nat) (rs : List Res) (wq : World), a ≤ S.size → PackMath.tn (S.data.toList.drop a) = (n, 1, 0) → Has B w (RdR q S a :: rs) wq → Calls Try.prog 37 #[.pointer (some ⟨q, 0, none⟩)] wq fun e w' => e = .returned (.int .i64 (n : Int)) ∧ Hid (Has B w (RdR q S (a + 1) :: rs) w')) := fun a n rs wq ha ht hq => numR_ok hS ha hq ht
  have CX : Hid (∀ (rs : List Res) (wq : World), Has B w (RdR q S 3 :: rs) wq → Calls Try.prog 37 #[.pointer (some ⟨q, 0, none⟩)] wq fun en w' => en = gave ∧ Hid (Has B w (RdR q S 3 :: rs) w')) := fun rs wq hq => numR_no hS hS3 hq tq he
  have H0 : Hid (Has B w (RdR q S 1 :: BlockR (wr.heap.size + 1) (vL 0 0 0 0 0 nilS) :: BlockR wr.heap.size (vL 0 0 0 0 0 nilS) :: rs) ((wr.alloc (.cells #[.int .i64 0, .int .i64 0, .int .i64 0, .int .i64 0, .int .i64 0, .slice none 0 0] 49)).alloc (.cells #[.int .i64 0, .int .i64 0, .int .i64 0, .int .i64 0, .int .i64 0, .slice none 0 0] 49))) := by
    have x := ((h.box (vL 0 0 0 0 0 nilS) 49).box (vL 0 0 0 0 0 nilS) 49)
    rw [World.size_alloc] at x
    exact x.perm ((List.perm_middle (l₁ := [_, _]) (l₂ := rs)))
  have E := CN.out 1 3 _ _ (by omega) tk H0.out
  obtain ⟨rb, hrb⟩ : ∃ rb, wr.heap.size = rb := ⟨_, rfl⟩
  clear h H0
  rw [hrb] at E
  go_enter Try.func32, Try.ntmps32
  go_wp2_with fail
  refine E.mono ?_
  rintro e v0 ⟨rfl, G0⟩
  obtain ⟨nb, hnb⟩ : ∃ nb, rb + 1 = nb := ⟨_, rfl⟩
  rw [hnb] at G0
  have P0 : Hid (Has B w (RdR q S 2 :: BlockR nb (vL 3 0 0 0 0 nilS) :: BlockR rb (vL 0 0 0 0 0 nilS) :: rs) (v0.setCell ⟨nb, 0, none⟩ (.int .i64 3))) := ((G0.out.perm (List.Perm.swap _ _ _)).put 0 (by simp [vL]) (.int .i64 3)).perm (List.Perm.swap _ _ _)
  obtain ⟨e1, f1⟩ := G0.out.bcell (q := nb) (vs := (vL 0 0 0 0 0 nilS)) (by simp) 0 _ rfl
  obtain ⟨e0, _⟩ := P0.out.bcell (q := nb) (vs := (vL 3 0 0 0 0 nilS)) (by simp) 0 _ rfl
  clear E G0 hrb
  have E := CN.out 2 p _ _ (by omega) t0 P0.out
  go_wp2_with fail
  refine E.mono ?_
  rintro e v1 ⟨rfl, G1⟩
  have P1 : Hid (Has B w (RdR q S 3 :: BlockR nb (vL 3 (p : Int) 0 0 0 nilS) :: BlockR rb (vL 0 0 0 0 0 nilS) :: rs) (v1.setCell ⟨nb, 1, none⟩ (.int .i64 (p : Int)))) := ((G1.out.perm (List.Perm.swap _ _ _)).put 1 (by simp [vL]) (.int .i64 (p : Int))).perm (List.Perm.swap _ _ _)
  clear e0 e1 f1
  obtain ⟨e1, f1⟩ := G1.out.bcell (q := nb) (vs := (vL 3 0 0 0 0 nilS)) (by simp) 1 _ rfl
  obtain ⟨e0, _⟩ := P1.out.bcell (q := nb) (vs := (vL 3 (p : Int) 0 0 0 nilS)) (by simp) 0 _ rfl
  clear E G1 P0
  have E := CX.out _ _ P1.out
  clear CX CN tq
  go_wp2_with fail
  refine E.mono ?_
  rintro en w4 ⟨rfl, H4⟩
  have HZ : Hid (Has B w rs w4) := H4.out.drop.drop.drop
  clear E H4 P1
  go_wp2_with fail
  exact bodyPost_dies rfl ⟨rfl, HZ⟩
set_option maxHeartbeats 2000000 in
theorem ltC9 {q p c e n : Nat} {S : ByteArray} (hS : S.size ≤ 4611686018427387904) (hS3 : 3 ≤ S.size) (h : Has B w (RdR q S 1 :: rs) wr) (tk : PackMath.tn (S.data.toList.drop 1) = (9, 1, 0)) (t0 : PackMath.tn (S.data.toList.drop 2) = (p, 1, 0)) (tq : PackMath.tn (S.data.toList.drop 3) = (n, c, e)) (he : e ≠ 0) :
    Calls Try.prog 32 #[.pointer (some ⟨q, 0, none⟩)] wr fun en w' => en = gave ∧ Hid (Has B w rs w') := by
  have CN : Hid (∀ (a n : Nat) (rs : List Res) (wq : World), a ≤ S.size → PackMath.tn (S.data.toList.drop a) = (n, 1, 0) → Has B w (RdR q S a :: rs) wq → Calls Try.prog 37 #[.pointer (some ⟨q, 0, none⟩)] wq fun e w' => e = .returned (.int .i64 (n : Int)) ∧ Hid (Has B w (RdR q S (a + 1) :: rs) w')) := fun a n rs wq ha ht hq => numR_ok hS ha hq ht
  have CX : Hid (∀ (rs : List Res) (wq : World), Has B w (RdR q S 3 :: rs) wq → Calls Try.prog 37 #[.pointer (some ⟨q, 0, none⟩)] wq fun en w' => en = gave ∧ Hid (Has B w (RdR q S 3 :: rs) w')) := fun rs wq hq => numR_no hS hS3 hq tq he
  have H0 : Hid (Has B w (RdR q S 1 :: BlockR (wr.heap.size + 1) (vL 0 0 0 0 0 nilS) :: BlockR wr.heap.size (vL 0 0 0 0 0 nilS) :: rs) ((wr.alloc (.cells #[.int .i64 0, .int .i64 0, .int .i64 0, .int .i64 0, .int .i64 0, .slice none 0 0] 49)).alloc (.cells #[.int .i64 0, .int .i64 0, .int .i64 0, .int .i64 0, .int .i64 0, .slice none 0 0] 49))) := by
    have x := ((h.box (vL 0 0 0 0 0 nilS) 49).box (vL 0 0 0 0 0 nilS) 49)
    rw [World.size_alloc] at x
    exact x.perm ((List.perm_middle (l₁ := [_, _]) (l₂ := rs)))
  have E := CN.out 1 9 _ _ (by omega) tk H0.out
  obtain ⟨rb, hrb⟩ : ∃ rb, wr.heap.size = rb := ⟨_, rfl⟩
  clear h H0
  rw [hrb] at E
  go_enter Try.func32, Try.ntmps32
  go_wp2_with fail
  refine E.mono ?_
  rintro e v0 ⟨rfl, G0⟩
  obtain ⟨nb, hnb⟩ : ∃ nb, rb + 1 = nb := ⟨_, rfl⟩
  rw [hnb] at G0
  have P0 : Hid (Has B w (RdR q S 2 :: BlockR nb (vL 9 0 0 0 0 nilS) :: BlockR rb (vL 0 0 0 0 0 nilS) :: rs) (v0.setCell ⟨nb, 0, none⟩ (.int .i64 9))) := ((G0.out.perm (List.Perm.swap _ _ _)).put 0 (by simp [vL]) (.int .i64 9)).perm (List.Perm.swap _ _ _)
  obtain ⟨e1, f1⟩ := G0.out.bcell (q := nb) (vs := (vL 0 0 0 0 0 nilS)) (by simp) 0 _ rfl
  obtain ⟨e0, _⟩ := P0.out.bcell (q := nb) (vs := (vL 9 0 0 0 0 nilS)) (by simp) 0 _ rfl
  clear E G0 hrb
  have E := CN.out 2 p _ _ (by omega) t0 P0.out
  go_wp2_with fail
  refine E.mono ?_
  rintro e v1 ⟨rfl, G1⟩
  have P1 : Hid (Has B w (RdR q S 3 :: BlockR nb (vL 9 (p : Int) 0 0 0 nilS) :: BlockR rb (vL 0 0 0 0 0 nilS) :: rs) (v1.setCell ⟨nb, 1, none⟩ (.int .i64 (p : Int)))) := ((G1.out.perm (List.Perm.swap _ _ _)).put 1 (by simp [vL]) (.int .i64 (p : Int))).perm (List.Perm.swap _ _ _)
  clear e0 e1 f1
  obtain ⟨e1, f1⟩ := G1.out.bcell (q := nb) (vs := (vL 9 0 0 0 0 nilS)) (by simp) 1 _ rfl
  obtain ⟨e0, _⟩ := P1.out.bcell (q := nb) (vs := (vL 9 (p : Int) 0 0 0 nilS)) (by simp) 0 _ rfl
  clear E G1 P0
  have E := CX.out _ _ P1.out
  clear CX CN tq
  go_wp2_with fail
  refine E.mono ?_
  rintro en w4 ⟨rfl, H4⟩
  have HZ : Hid (Has B w rs w4) := H4.out.drop.drop.drop
  clear E H4 P1
  go_wp2_with fail
  exact bodyPost_dies rfl ⟨rfl, HZ⟩
set_option maxHeartbeats 2000000 in
theorem ltCK {q k p i c e n : Nat} {S : ByteArray} (hS : S.size ≤ 4611686018427387904) (hS3 : 4 ≤ S.size) (h : Has B w (RdR q S 1 :: rs) wr) (tk : PackMath.tn (S.data.toList.drop 1) = (k, 1, 0)) (t0 : PackMath.tn (S.data.toList.drop 2) = (p, 1, 0)) (t1 : PackMath.tn (S.data.toList.drop 3) = (i, 1, 0)) (tq : PackMath.tn (S.data.toList.drop 4) = (n, c, e)) (he : e ≠ 0) (k1 : k ≠ 1) (k3 : k ≠ 3) (k9 : k ≠ 9) :
    Calls Try.prog 32 #[.pointer (some ⟨q, 0, none⟩)] wr fun en w' => en = gave ∧ Hid (Has B w rs w') := by
  have CN : Hid (∀ (a n : Nat) (rs : List Res) (wq : World), a ≤ S.size → PackMath.tn (S.data.toList.drop a) = (n, 1, 0) → Has B w (RdR q S a :: rs) wq → Calls Try.prog 37 #[.pointer (some ⟨q, 0, none⟩)] wq fun e w' => e = .returned (.int .i64 (n : Int)) ∧ Hid (Has B w (RdR q S (a + 1) :: rs) w')) := fun a n rs wq ha ht hq => numR_ok hS ha hq ht
  have k1' : ((k : Int) == 1) = false := beq_eq_false_iff_ne.2 (by omega)
  have k3' : ((k : Int) == 3) = false := beq_eq_false_iff_ne.2 (by omega)
  have k9' : ((k : Int) == 9) = false := beq_eq_false_iff_ne.2 (by omega)
  have k3n : ((k : Int) != 3) = true := by simp [bne, k3']
  have k9n : ((k : Int) != 9) = true := by simp [bne, k9']
  have k3m : ¬ (k : Int) = 3 := by omega
  have k9m : ¬ (k : Int) = 9 := by omega
  have CX : Hid (∀ (rs : List Res) (wq : World), Has B w (RdR q S 4 :: rs) wq → Calls Try.prog 37 #[.pointer (some ⟨q, 0, none⟩)] wq fun en w' => en = gave ∧ Hid (Has B w (RdR q S 4 :: rs) w')) := fun rs wq hq => numR_no hS hS3 hq tq he
  have H0 : Hid (Has B w (RdR q S 1 :: BlockR (wr.heap.size + 1) (vL 0 0 0 0 0 nilS) :: BlockR wr.heap.size (vL 0 0 0 0 0 nilS) :: rs) ((wr.alloc (.cells #[.int .i64 0, .int .i64 0, .int .i64 0, .int .i64 0, .int .i64 0, .slice none 0 0] 49)).alloc (.cells #[.int .i64 0, .int .i64 0, .int .i64 0, .int .i64 0, .int .i64 0, .slice none 0 0] 49))) := by
    have x := ((h.box (vL 0 0 0 0 0 nilS) 49).box (vL 0 0 0 0 0 nilS) 49)
    rw [World.size_alloc] at x
    exact x.perm ((List.perm_middle (l₁ := [_, _]) (l₂ := rs)))
  have E := CN.out 1 k _ _ (by omega) tk H0.out
  obtain ⟨rb, hrb⟩ : ∃ rb, wr.heap.size = rb := ⟨_, rfl⟩
  clear h H0
  rw [hrb] at E
  go_enter Try.func32, Try.ntmps32
  go_wp2_with fail
  refine E.mono ?_
  rintro e v0 ⟨rfl, G0⟩
  obtain ⟨nb, hnb⟩ : ∃ nb, rb + 1 = nb := ⟨_, rfl⟩
  rw [hnb] at G0
  have P0 : Hid (Has B w (RdR q S 2 :: BlockR nb (vL (k : Int) 0 0 0 0 nilS) :: BlockR rb (vL 0 0 0 0 0 nilS) :: rs) (v0.setCell ⟨nb, 0, none⟩ (.int .i64 (k : Int)))) := ((G0.out.perm (List.Perm.swap _ _ _)).put 0 (by simp [vL]) (.int .i64 (k : Int))).perm (List.Perm.swap _ _ _)
  obtain ⟨e1, f1⟩ := G0.out.bcell (q := nb) (vs := (vL 0 0 0 0 0 nilS)) (by simp) 0 _ rfl
  obtain ⟨e0, _⟩ := P0.out.bcell (q := nb) (vs := (vL (k : Int) 0 0 0 0 nilS)) (by simp) 0 _ rfl
  clear E G0 hrb
  have E := CN.out 2 p _ _ (by omega) t0 P0.out
  go_wp2_with fail
  refine E.mono ?_
  rintro e v1 ⟨rfl, G1⟩
  have P1 : Hid (Has B w (RdR q S 3 :: BlockR nb (vL (k : Int) (p : Int) 0 0 0 nilS) :: BlockR rb (vL 0 0 0 0 0 nilS) :: rs) (v1.setCell ⟨nb, 1, none⟩ (.int .i64 (p : Int)))) := ((G1.out.perm (List.Perm.swap _ _ _)).put 1 (by simp [vL]) (.int .i64 (p : Int))).perm (List.Perm.swap _ _ _)
  clear e0 e1 f1
  obtain ⟨e1, f1⟩ := G1.out.bcell (q := nb) (vs := (vL (k : Int) 0 0 0 0 nilS)) (by simp) 1 _ rfl
  obtain ⟨e0, _⟩ := P1.out.bcell (q := nb) (vs := (vL (k : Int) (p : Int) 0 0 0 nilS)) (by simp) 0 _ rfl
  clear E G1 P0
  have E := CN.out 3 i _ _ (by omega) t1 P1.out
  go_wp2_with fail
  refine E.mono ?_
  rintro e v2 ⟨rfl, G2⟩
  have P2 : Hid (Has B w (RdR q S 4 :: BlockR nb (vL (k : Int) (p : Int) (i : Int) 0 0 nilS) :: BlockR rb (vL 0 0 0 0 0 nilS) :: rs) (v2.setCell ⟨nb, 2, none⟩ (.int .i64 (i : Int)))) := ((G2.out.perm (List.Perm.swap _ _ _)).put 2 (by simp [vL]) (.int .i64 (i : Int))).perm (List.Perm.swap _ _ _)
  clear e0 e1 f1
  obtain ⟨e1, f1⟩ := G2.out.bcell (q := nb) (vs := (vL (k : Int) (p : Int) 0 0 0 nilS)) (by simp) 2 _ rfl
  obtain ⟨e0, _⟩ := P2.out.bcell (q := nb) (vs := (vL (k : Int) (p : Int) (i : Int) 0 0 nilS)) (by simp) 0 _ rfl
  clear E G2 P1
  have E := CX.out _ _ P2.out
  clear CX CN tq
  go_wp2_with fail
  refine E.mono ?_
  rintro en w4 ⟨rfl, H4⟩
  have HZ : Hid (Has B w rs w4) := H4.out.drop.drop.drop
  clear E H4 P2
  go_wp2_with fail
  exact bodyPost_dies rfl ⟨rfl, HZ⟩
set_option maxHeartbeats 2000000 in
theorem ltC1 {q p i s o c e : Nat} {xs : List (List UInt8)} {S : ByteArray} (hS : S.size ≤ 4611686018427387904) (hS3 : 6 ≤ S.size) (h : Has B w (RdR q S 1 :: rs) wr) (tk : PackMath.tn (S.data.toList.drop 1) = (1, 1, 0)) (t0 : PackMath.tn (S.data.toList.drop 2) = (p, 1, 0)) (t1 : PackMath.tn (S.data.toList.drop 3) = (i, 1, 0)) (t2 : PackMath.tn (S.data.toList.drop 4) = (s, 1, 0)) (t3 : PackMath.tn (S.data.toList.drop 5) = (o, 1, 0)) (tq : PackMath.tl (S.data.toList.drop 6) = (xs, c, e)) (he : e ≠ 0) :
    Calls Try.prog 32 #[.pointer (some ⟨q, 0, none⟩)] wr fun en w' => en = gave ∧ Hid (Has B w rs w') := by
  have CN : Hid (∀ (a n : Nat) (rs : List Res) (wq : World), a ≤ S.size → PackMath.tn (S.data.toList.drop a) = (n, 1, 0) → Has B w (RdR q S a :: rs) wq → Calls Try.prog 37 #[.pointer (some ⟨q, 0, none⟩)] wq fun e w' => e = .returned (.int .i64 (n : Int)) ∧ Hid (Has B w (RdR q S (a + 1) :: rs) w')) := fun a n rs wq ha ht hq => numR_ok hS ha hq ht
  have CX : Hid (∀ (rs : List Res) (wq : World), Has B w (RdR q S 6 :: rs) wq → Calls Try.prog 38 #[.pointer (some ⟨q, 0, none⟩)] wq fun en w' => en = gave ∧ Hid (Has B w (RdR q S 6 :: rs) w')) := fun rs wq hq => keysR_no hS hS3 hq tq he
  have H0 : Hid (Has B w (RdR q S 1 :: BlockR (wr.heap.size + 1) (vL 0 0 0 0 0 nilS) :: BlockR wr.heap.size (vL 0 0 0 0 0 nilS) :: rs) ((wr.alloc (.cells #[.int .i64 0, .int .i64 0, .int .i64 0, .int .i64 0, .int .i64 0, .slice none 0 0] 49)).alloc (.cells #[.int .i64 0, .int .i64 0, .int .i64 0, .int .i64 0, .int .i64 0, .slice none 0 0] 49))) := by
    have x := ((h.box (vL 0 0 0 0 0 nilS) 49).box (vL 0 0 0 0 0 nilS) 49)
    rw [World.size_alloc] at x
    exact x.perm ((List.perm_middle (l₁ := [_, _]) (l₂ := rs)))
  have E := CN.out 1 1 _ _ (by omega) tk H0.out
  obtain ⟨rb, hrb⟩ : ∃ rb, wr.heap.size = rb := ⟨_, rfl⟩
  clear h H0
  rw [hrb] at E
  go_enter Try.func32, Try.ntmps32
  go_wp2_with fail
  refine E.mono ?_
  rintro e v0 ⟨rfl, G0⟩
  obtain ⟨nb, hnb⟩ : ∃ nb, rb + 1 = nb := ⟨_, rfl⟩
  rw [hnb] at G0
  have P0 : Hid (Has B w (RdR q S 2 :: BlockR nb (vL 1 0 0 0 0 nilS) :: BlockR rb (vL 0 0 0 0 0 nilS) :: rs) (v0.setCell ⟨nb, 0, none⟩ (.int .i64 1))) := ((G0.out.perm (List.Perm.swap _ _ _)).put 0 (by simp [vL]) (.int .i64 1)).perm (List.Perm.swap _ _ _)
  obtain ⟨e1, f1⟩ := G0.out.bcell (q := nb) (vs := (vL 0 0 0 0 0 nilS)) (by simp) 0 _ rfl
  obtain ⟨e0, _⟩ := P0.out.bcell (q := nb) (vs := (vL 1 0 0 0 0 nilS)) (by simp) 0 _ rfl
  clear E G0 hrb
  have E := CN.out 2 p _ _ (by omega) t0 P0.out
  go_wp2_with fail
  refine E.mono ?_
  rintro e v1 ⟨rfl, G1⟩
  have P1 : Hid (Has B w (RdR q S 3 :: BlockR nb (vL 1 (p : Int) 0 0 0 nilS) :: BlockR rb (vL 0 0 0 0 0 nilS) :: rs) (v1.setCell ⟨nb, 1, none⟩ (.int .i64 (p : Int)))) := ((G1.out.perm (List.Perm.swap _ _ _)).put 1 (by simp [vL]) (.int .i64 (p : Int))).perm (List.Perm.swap _ _ _)
  clear e0 e1 f1
  obtain ⟨e1, f1⟩ := G1.out.bcell (q := nb) (vs := (vL 1 0 0 0 0 nilS)) (by simp) 1 _ rfl
  obtain ⟨e0, _⟩ := P1.out.bcell (q := nb) (vs := (vL 1 (p : Int) 0 0 0 nilS)) (by simp) 0 _ rfl
  clear E G1 P0
  have E := CN.out 3 i _ _ (by omega) t1 P1.out
  go_wp2_with fail
  refine E.mono ?_
  rintro e v2 ⟨rfl, G2⟩
  have P2 : Hid (Has B w (RdR q S 4 :: BlockR nb (vL 1 (p : Int) (i : Int) 0 0 nilS) :: BlockR rb (vL 0 0 0 0 0 nilS) :: rs) (v2.setCell ⟨nb, 2, none⟩ (.int .i64 (i : Int)))) := ((G2.out.perm (List.Perm.swap _ _ _)).put 2 (by simp [vL]) (.int .i64 (i : Int))).perm (List.Perm.swap _ _ _)
  clear e0 e1 f1
  obtain ⟨e1, f1⟩ := G2.out.bcell (q := nb) (vs := (vL 1 (p : Int) 0 0 0 nilS)) (by simp) 2 _ rfl
  obtain ⟨e0, _⟩ := P2.out.bcell (q := nb) (vs := (vL 1 (p : Int) (i : Int) 0 0 nilS)) (by simp) 0 _ rfl
  clear E G2 P1
  have E := CN.out 4 s _ _ (by omega) t2 P2.out
  go_wp2_with fail
  refine E.mono ?_
  rintro e v3 ⟨rfl, G3⟩
  have P3 : Hid (Has B w (RdR q S 5 :: BlockR nb (vL 1 (p : Int) (i : Int) (s : Int) 0 nilS) :: BlockR rb (vL 0 0 0 0 0 nilS) :: rs) (v3.setCell ⟨nb, 3, none⟩ (.int .i64 (s : Int)))) := ((G3.out.perm (List.Perm.swap _ _ _)).put 3 (by simp [vL]) (.int .i64 (s : Int))).perm (List.Perm.swap _ _ _)
  clear e0 e1 f1
  obtain ⟨e1, f1⟩ := G3.out.bcell (q := nb) (vs := (vL 1 (p : Int) (i : Int) 0 0 nilS)) (by simp) 3 _ rfl
  obtain ⟨e0, _⟩ := P3.out.bcell (q := nb) (vs := (vL 1 (p : Int) (i : Int) (s : Int) 0 nilS)) (by simp) 0 _ rfl
  clear E G3 P2
  have E := CN.out 5 o _ _ (by omega) t3 P3.out
  go_wp2_with fail
  refine E.mono ?_
  rintro e v4 ⟨rfl, G4⟩
  have P4 : Hid (Has B w (RdR q S 6 :: BlockR nb (vL 1 (p : Int) (i : Int) (s : Int) (o : Int) nilS) :: BlockR rb (vL 0 0 0 0 0 nilS) :: rs) (v4.setCell ⟨nb, 4, none⟩ (.int .i64 (o : Int)))) := ((G4.out.perm (List.Perm.swap _ _ _)).put 4 (by simp [vL]) (.int .i64 (o : Int))).perm (List.Perm.swap _ _ _)
  clear e0 e1 f1
  obtain ⟨e1, f1⟩ := G4.out.bcell (q := nb) (vs := (vL 1 (p : Int) (i : Int) (s : Int) 0 nilS)) (by simp) 4 _ rfl
  obtain ⟨e0, _⟩ := P4.out.bcell (q := nb) (vs := (vL 1 (p : Int) (i : Int) (s : Int) (o : Int) nilS)) (by simp) 0 _ rfl
  clear E G4 P3
  have E := CX.out _ _ P4.out
  clear CX CN tq
  go_wp2_with fail
  refine E.mono ?_
  rintro en w4 ⟨rfl, H4⟩
  have HZ : Hid (Has B w rs w4) := H4.out.drop.drop.drop
  clear E H4 P4
  go_wp2_with fail
  exact bodyPost_dies rfl ⟨rfl, HZ⟩
end
end Go.Proofs.Ytbgankldnjeohaa.Pl

/- read of a letter's form cut short, of one with more behind it. -/
set_option linter.unusedVariables false
set_option linter.unusedSimpArgs false
set_option maxRecDepth 100000
namespace Go.Proofs.Ytbgankldnjeohaa.Pl
open Go.RowKit Go.Proofs.Ytbgankldnjeohaa

theorem tn_nil : PackMath.tn [] = (0, 0, 31) := by decide +kernel
theorem lst_pos (xs : List (List UInt8)) : 1 ≤ (PackMath.lst xs).length := by
  have := PackMath.num_pos xs.length
  unfold PackMath.lst
  rw [List.length_append]
  omega
theorem tl_cut (xs : List (List UInt8)) (h : xs.length ≤ 4000) (hs : ∀ s ∈ xs, s.length ≤ 2000) : PackMath.tl ((PackMath.lst xs).take ((PackMath.lst xs).length - 1)) = ([], 0, 31) := by
  have x := PackMath.tl_lst xs [] h hs
  rw [List.append_nil] at x
  have hp := lst_pos xs
  obtain ⟨_, _, _, _, _, _, hc⟩ := PackMath.tl_ok x
  exact hc _ (by omega)
section
variable {B : Nat} {w wr : World} {rs : List Res}
theorem letterR_cut {q k p i s o : Nat} {S : ByteArray} {xs : List (List UInt8)} (hS : S.size ≤ 4611686018427387904) (hk : 1 ≤ k ∧ k ≤ 9) (hp : p ≤ 3) (hi : i ≤ 60) (hs : s ≤ 7) (ho : o ≤ 3) (hx : xs.length ≤ 4000) (hxs : ∀ x ∈ xs, x.length ≤ 2000) (hn : k ≠ 1 → xs = [] ∧ o = 0)
    (he : S.data.toList = (ltL k p i s o xs).take ((ltL k p i s o xs).length - 1)) (h : Has B w (RdR q S 1 :: rs) wr) :
    Calls Try.prog 32 #[.pointer (some ⟨q, 0, none⟩)] wr fun en w' => en = gave ∧ Hid (Has B w rs w') := by
  have hl : S.data.toList.length = S.size := Array.length_toList
  unfold ltL at he
  by_cases k1 : k = 1
  · subst k1
    rw [if_pos rfl, nums_5 (by omega) (by omega) (by omega) (by omega) (by omega)] at he
    have hL := lst_pos xs
    have e1 : S.data.toList = 76 :: UInt8.ofNat 1 :: UInt8.ofNat p :: UInt8.ofNat i :: UInt8.ofNat s :: UInt8.ofNat o :: ((PackMath.lst xs).take ((PackMath.lst xs).length - 1)) := by
      rw [he]
      have e2 : (76 :: ([UInt8.ofNat 1, UInt8.ofNat p, UInt8.ofNat i, UInt8.ofNat s, UInt8.ofNat o] ++ PackMath.lst xs)).length - 1 = ((PackMath.lst xs).length - 1) + 6 := by simp; omega
      rw [e2]
      rfl
    have h4 : 6 ≤ S.size := by rw [← hl, e1]; simp
    exact ltC1 (c := 0) (e := 31) (xs := []) hS h4 h (by rw [e1]; exact tn_one (by omega) _) (by rw [e1]; exact tn_one (by omega) _) (by rw [e1]; exact tn_one (by omega) _) (by rw [e1]; exact tn_one (by omega) _) (by rw [e1]; exact tn_one (by omega) _) (by rw [e1]; exact tl_cut xs hx hxs) (by decide)
  · obtain ⟨rfl, rfl⟩ := hn k1
    by_cases k3 : k = 3
    · subst k3
      rw [if_neg (by decide), if_pos rfl, nums_three (by omega) (by omega) (by omega)] at he
      have e1 : S.data.toList = [76, UInt8.ofNat 3, UInt8.ofNat p] := he
      have h4 : 3 ≤ S.size := by rw [← hl, e1]; simp
      exact ltC3 (c := 0) (e := 31) (n := 0) hS h4 h (by rw [e1]; exact tn_one (by omega) _) (by rw [e1]; exact tn_one (by omega) _) (by rw [e1]; exact tn_nil) (by decide)
    · by_cases k9 : k = 9
      · subst k9
        rw [if_neg (by decide), if_neg (by decide), if_pos rfl, nums_three (by omega) (by omega) (by omega)] at he
        have e1 : S.data.toList = [76, UInt8.ofNat 9, UInt8.ofNat p] := he
        have h4 : 3 ≤ S.size := by rw [← hl, e1]; simp
        exact ltC9 (c := 0) (e := 31) (n := 0) hS h4 h (by rw [e1]; exact tn_one (by omega) _) (by rw [e1]; exact tn_one (by omega) _) (by rw [e1]; exact tn_nil) (by decide)
      · rw [if_neg k1, if_neg k3, if_neg k9, nums_4 (by omega) (by omega) (by omega) (by omega)] at he
        have e1 : S.data.toList = [76, UInt8.ofNat k, UInt8.ofNat p, UInt8.ofNat i] := he
        have h4 : 4 ≤ S.size := by rw [← hl, e1]; simp
        exact ltCK (c := 0) (e := 31) (n := 0) hS h4 h (by rw [e1]; exact tn_one (by omega) _) (by rw [e1]; exact tn_one (by omega) _) (by rw [e1]; exact tn_one (by omega) _) (by rw [e1]; exact tn_nil) (by decide) k1 k3 k9
theorem ltL_two {k p i s o : Nat} {xs : List (List UInt8)} : ∃ a m, ltL k p i s o xs = 76 :: a :: m := by
  have hz : ∀ (x : Nat) (l : List Nat), ∃ a m, numsL (x :: l) = a :: m := fun x l => by
    have := PackMath.num_pos x
    cases e : PackMath.num x with
    | nil => rw [e] at this; simp at this
    | cons a m => exact ⟨a, m ++ numsL l, by unfold numsL; simp [e]⟩
  unfold ltL
  split
  · obtain ⟨a, m, e⟩ := hz 1 [p, i, s, o]
    rw [e]
    exact ⟨a, _, rfl⟩
  · split
    · obtain ⟨a, m, e⟩ := hz 3 [p, i]
      rw [e]
      exact ⟨a, _, rfl⟩
    · split
      · obtain ⟨a, m, e⟩ := hz 9 [p, i]
        rw [e]
        exact ⟨a, _, rfl⟩
      · obtain ⟨a, m, e⟩ := hz k [p, i, s]
        rw [e]
        exact ⟨a, _, rfl⟩
set_option maxHeartbeats 2000000 in
theorem valueL_cut {q : Nat} {S : ByteArray} {m : List UInt8} (hc : S.data.toList = 76 :: m) (C : ∀ wr, Hid (Has B w (RdR q S 1 :: rs) wr) → Calls Try.prog 32 #[.pointer (some ⟨q, 0, none⟩)] wr fun en w' => en = gave ∧ Hid (Has B w rs w')) (h : Has B w (RdR q S 0 :: rs) wr) :
    Calls Try.prog 25 #[.pointer (some ⟨q, 0, none⟩)] wr fun en w' => en = gave ∧ Hid (Has B w rs w') := by
  have hl : S.data.toList.length = S.size := Array.length_toList
  have hz : S.size ≠ 0 := by rw [← hl, hc]; simp
  have hz1 : (1 : Int) ≤ (S.size : Int) := by omega
  have hem := emp_no S hz
  have k1 := head_is hc 76
  rw [show ((76 : UInt8) == 76) = true from by decide] at k1
  have H1 : Hid (Has B w (RdR q S 1 :: rs) (wr.setCell ⟨q, 1, none⟩ (.int .i64 1))) := h.put 1 (by simp) (.int .i64 1)
  have D1 := C _ H1
  obtain ⟨c0, _⟩ := h.bcell (q := q) (vs := [.string S, .int .i64 0]) List.mem_cons_self 0 _ rfl
  obtain ⟨c1, f1⟩ := h.bcell (q := q) (vs := [.string S, .int .i64 0]) List.mem_cons_self 1 _ rfl
  clear h H1 hc hl C
  go_enter Try.func25, Try.ntmps25
  go_wp2_with fail
  refine D1.mono ?_
  rintro en w2 ⟨rfl, H2⟩
  clear D1
  go_wp2_with fail
  exact bodyPost_dies rfl ⟨rfl, H2⟩
set_option maxHeartbeats 2000000 in
theorem read_cut {S : ByteArray} (C : ∀ (rs : List Res) (q : Nat) (wr : World), Hid (Has B w (RdR q S 0 :: rs) wr) → Calls Try.prog 25 #[.pointer (some ⟨q, 0, none⟩)] wr fun en w' => en = gave ∧ Hid (Has B w rs w')) (h : Has B w rs wr) :
    Calls Try.prog 19 #[.string S] wr fun e w' => e = .returned .nilIface ∧ Hid (Has B w rs w') := by
  have hmf : ∀ (fn : Fn) (first cap : Array Value) (w : World), (Instr.makeFunc fn first cap).run Try.prog w = .ok (.func fn first cap) w := fun _ _ _ _ => rfl
  have H1 : Hid (Has B w (RdR (wr.heap.size + 1) S 0 :: BlockR wr.heap.size [.nilIface] :: rs) ((wr.alloc (.cells #[.nilIface] 52)).alloc (.cells #[.string S, .int .i64 0] 65))) := by
    have x := (h.box [.nilIface] 52).box [.string S, .int .i64 0] 65
    rw [World.size_alloc] at x
    exact x
  have D1 := C _ _ _ H1
  clear h H1 C
  go_enter_defers Try.func19, Try.ntmps19
  go_wp2_with fail
  refine D1.mono ?_
  rintro e w3 ⟨rfl, H2⟩
  clear D1
  obtain ⟨y0, g0⟩ := H2.out.bcell (q := wr.heap.size) (vs := [.nilIface]) (by simp) 0 _ rfl
  have y2 : (w3.setCell ⟨wr.heap.size, 0, none⟩ .nilIface).cell? ⟨wr.heap.size, 0, none⟩ = some .nilIface := World.cell?_setCell_same _ _ _ y0
  have HZ : Hid (Has B w rs (w3.setCell ⟨wr.heap.size, 0, none⟩ .nilIface)) := (H2.out.put 0 (by simp) .nilIface).drop
  clear H2
  go_wp2_with fail
  refine leaves_cons (f := 24) (args := #[.pointer (some ⟨wr.heap.size, 0, none⟩)]) (by simp) (by simp [go_sem]) ?_
  refine (catch_finds ⟨wr.heap.size, 0, none⟩ _ _ y0 g0).mono ?_
  rintro e u' w'' ⟨rfl, rfl, rfl⟩
  simp [Leaves, settle, results, Try.results19, go_sem, y2]
  exact HZ
theorem readL_cut (t : Tb) {k p i s o : Nat} {S : ByteArray} {xs : List (List UInt8)} (hS : S.size ≤ 4611686018427387904) (hm : ltMay t k p i s o xs = true) (he : S.data.toList = (ltL k p i s o xs).take ((ltL k p i s o xs).length - 1)) (h : Has B w rs wr) :
    Calls Try.prog 19 #[.string S] wr fun e w' => e = .returned .nilIface ∧ Hid (Has B w rs w') := by
  obtain ⟨f1, f2, f2b, f3, f3b, f4, f5, f6, f7⟩ := ltMay_facts hm
  obtain ⟨a, m, e2⟩ := ltL_two (k := k) (p := p) (i := i) (s := s) (o := o) (xs := xs)
  have hc : S.data.toList = 76 :: (a :: m).take m.length := by rw [he, e2]; simp
  refine read_cut (fun rs q wr hq => valueL_cut hc (fun wr hq => ?_) hq.out) h
  exact letterR_cut hS (by omega) (by omega) (by omega) (by omega) (by omega) (by omega : xs.length ≤ 4000) (fun x hx => by have := f5 x hx; omega) (fun hk => by have := f6 (by omega); exact ⟨this.1, by omega⟩) he hq.out
end
end Go.Proofs.Ytbgankldnjeohaa.Pl

/- Reading a note, by kinds. -/
set_option linter.unusedVariables false
set_option maxRecDepth 100000
namespace Go.Proofs.Ytbgankldnjeohaa.Pl
open Go.RowKit Go.Proofs.Ytbgankldnjeohaa

def vF (k i s t p c : Int) (K M : ByteArray) (v : Int) (X : ByteArray) : List Value := [.int .i64 k, .int .i64 i, .int .i64 s, .int .i64 t, .int .i64 p, .int .i64 c, .string K, .string M, .int .i64 v, .string X]
theorem strV_data (X : ByteArray) : strV X.data.toList = .string X := by unfold strV; cases X; simp
section
variable {B : Nat} {w wr : World} {rs : List Res}
set_option maxHeartbeats 2000000 in
theorem noteR1 {q nX : Nat} {S : ByteArray} {X : ByteArray} (hS : S.size ≤ 4611686018427387904) (h : Has B w (RdR q S 1 :: rs) wr) (tk : PackMath.tn (S.data.toList.drop 1) = (1, 1, 0)) (lk : 1 ≤ S.size) (t0 : PackMath.tt (S.data.toList.drop (2)) = (X.data.toList, nX, 0)) (l0 : 2 ≤ S.size) :
    Calls Try.prog 34 #[.pointer (some ⟨q, 0, none⟩)] wr fun e w' => e = .returned (.agg (vF 1 0 0 0 0 0 ⟨#[]⟩ ⟨#[]⟩ 0 X).toArray) ∧ Has B w (RdR q S (2 + nX) :: rs) w' := by
  have CN : Hid (∀ (a n : Nat) (rs : List Res) (wq : World), a ≤ S.size → PackMath.tn (S.data.toList.drop a) = (n, 1, 0) → Has B w (RdR q S a :: rs) wq → Calls Try.prog 37 #[.pointer (some ⟨q, 0, none⟩)] wq fun e w' => e = .returned (.int .i64 (n : Int)) ∧ Hid (Has B w (RdR q S (a + 1) :: rs) w')) := fun a n rs wq ha ht hq => numR_ok hS ha hq ht
  have CW : Hid (∀ (a c : Nat) (Y : ByteArray) (rs : List Res) (wq : World), a ≤ S.size → PackMath.tt (S.data.toList.drop a) = (Y.data.toList, c, 0) → Has B w (RdR q S a :: rs) wq → Calls Try.prog 39 #[.pointer (some ⟨q, 0, none⟩)] wq fun e w' => e = .returned (.string Y) ∧ Hid (Has B w (RdR q S (a + c) :: rs) w')) := fun a c Y rs wq ha ht hq => by
    have x := wordR_ok hS ha hq ht
    rw [strV_data] at x
    exact x
  have H0 : Hid (Has B w (RdR q S 1 :: BlockR wr.heap.size zN :: rs) (wr.alloc (.cells #[.int .i64 0, .int .i64 0, .int .i64 0, .int .i64 0, .int .i64 0, .int .i64 0, .string ⟨#[]⟩, .string ⟨#[]⟩, .int .i64 0, .string ⟨#[]⟩] 56))) := (h.box zN 56).perm (List.Perm.swap _ _ _)
  have D1 := CN.out 1 1 _ _ lk tk H0.out
  obtain ⟨rb, hrb⟩ : ∃ rb, wr.heap.size = rb := ⟨_, rfl⟩
  clear h H0
  rw [hrb] at D1
  go_enter Try.func34, Try.ntmps34
  go_wp2_with fail
  refine D1.mono ?_
  rintro e w1 ⟨rfl, H1⟩
  clear hrb
  have HB : Hid (Has B w (RdR q S 2 :: BlockR w1.heap.size (vF 1 0 0 0 0 0 ⟨#[]⟩ ⟨#[]⟩ 0 ⟨#[]⟩) :: BlockR rb zN :: rs) (w1.alloc (.cells #[.int .i64 1, .int .i64 0, .int .i64 0, .int .i64 0, .int .i64 0, .int .i64 0, .string ⟨#[]⟩, .string ⟨#[]⟩, .int .i64 0, .string ⟨#[]⟩] 56))) := (H1.out.box (vF 1 0 0 0 0 0 ⟨#[]⟩ ⟨#[]⟩ 0 ⟨#[]⟩) 56).perm (List.Perm.swap _ _ _)
  have E0 := CW.out (2) nX X _ _ l0 t0 HB.out
  go_wp2_with fail
  refine E0.mono ?_
  rintro e v0 ⟨rfl, G0⟩
  generalize w1.heap.size = nb at *
  clear E0 HB H1 D1
  have G0' : Hid (Has B w (RdR q S (2 + nX) :: BlockR nb (vF 1 0 0 0 0 0 ⟨#[]⟩ ⟨#[]⟩ 0 ⟨#[]⟩) :: BlockR rb zN :: rs) v0) := G0
  clear G0
  obtain ⟨e1, f1⟩ := G0'.out.bcell (q := nb) (vs := (vF 1 0 0 0 0 0 ⟨#[]⟩ ⟨#[]⟩ 0 ⟨#[]⟩)) (by simp) 9 _ rfl
  have P0 : Hid (Has B w (RdR q S (2 + nX) :: BlockR nb (vF 1 0 0 0 0 0 ⟨#[]⟩ ⟨#[]⟩ 0 X) :: BlockR rb zN :: rs) (v0.setCell ⟨nb, 9, none⟩ (.string X))) := ((G0'.out.perm (List.Perm.swap _ _ _)).put 9 (by simp [vF]) (.string X)).perm (List.Perm.swap _ _ _)
  obtain ⟨e0, _⟩ := P0.out.bcell (q := nb) (vs := (vF 1 0 0 0 0 0 ⟨#[]⟩ ⟨#[]⟩ 0 X)) (by simp) 0 _ rfl
  clear G0'
  have HPZ : Hid (Has B w (BlockR rb zN :: RdR q S (2 + nX) :: BlockR nb (vF 1 0 0 0 0 0 ⟨#[]⟩ ⟨#[]⟩ 0 X) :: rs) (v0.setCell ⟨nb, 9, none⟩ (.string X))) := P0.out.perm (List.perm_middle (l₁ := [_, _]) (l₂ := rs))
  clear P0 CN CW
  obtain ⟨x1, _⟩ := HPZ.out.bcell (q := nb) (vs := (vF 1 0 0 0 0 0 ⟨#[]⟩ ⟨#[]⟩ 0 X)) (by simp) 1 _ rfl
  obtain ⟨x2, _⟩ := HPZ.out.bcell (q := nb) (vs := (vF 1 0 0 0 0 0 ⟨#[]⟩ ⟨#[]⟩ 0 X)) (by simp) 2 _ rfl
  obtain ⟨x3, _⟩ := HPZ.out.bcell (q := nb) (vs := (vF 1 0 0 0 0 0 ⟨#[]⟩ ⟨#[]⟩ 0 X)) (by simp) 3 _ rfl
  obtain ⟨x4, _⟩ := HPZ.out.bcell (q := nb) (vs := (vF 1 0 0 0 0 0 ⟨#[]⟩ ⟨#[]⟩ 0 X)) (by simp) 4 _ rfl
  obtain ⟨x5, _⟩ := HPZ.out.bcell (q := nb) (vs := (vF 1 0 0 0 0 0 ⟨#[]⟩ ⟨#[]⟩ 0 X)) (by simp) 5 _ rfl
  obtain ⟨x6, _⟩ := HPZ.out.bcell (q := nb) (vs := (vF 1 0 0 0 0 0 ⟨#[]⟩ ⟨#[]⟩ 0 X)) (by simp) 6 _ rfl
  obtain ⟨x7, _⟩ := HPZ.out.bcell (q := nb) (vs := (vF 1 0 0 0 0 0 ⟨#[]⟩ ⟨#[]⟩ 0 X)) (by simp) 7 _ rfl
  obtain ⟨x8, _⟩ := HPZ.out.bcell (q := nb) (vs := (vF 1 0 0 0 0 0 ⟨#[]⟩ ⟨#[]⟩ 0 X)) (by simp) 8 _ rfl
  obtain ⟨x9, _⟩ := HPZ.out.bcell (q := nb) (vs := (vF 1 0 0 0 0 0 ⟨#[]⟩ ⟨#[]⟩ 0 X)) (by simp) 9 _ rfl
  obtain ⟨y0, g0⟩ := HPZ.out.bcell (q := rb) (vs := zN) (by simp) 0 _ rfl
  obtain ⟨y1, g1⟩ := HPZ.out.bcell (q := rb) (vs := zN) (by simp) 1 _ rfl
  obtain ⟨y2, g2⟩ := HPZ.out.bcell (q := rb) (vs := zN) (by simp) 2 _ rfl
  obtain ⟨y3, g3⟩ := HPZ.out.bcell (q := rb) (vs := zN) (by simp) 3 _ rfl
  obtain ⟨y4, g4⟩ := HPZ.out.bcell (q := rb) (vs := zN) (by simp) 4 _ rfl
  obtain ⟨y5, g5⟩ := HPZ.out.bcell (q := rb) (vs := zN) (by simp) 5 _ rfl
  obtain ⟨y6, g6⟩ := HPZ.out.bcell (q := rb) (vs := zN) (by simp) 6 _ rfl
  obtain ⟨y7, g7⟩ := HPZ.out.bcell (q := rb) (vs := zN) (by simp) 7 _ rfl
  obtain ⟨y8, g8⟩ := HPZ.out.bcell (q := rb) (vs := zN) (by simp) 8 _ rfl
  obtain ⟨y9, g9⟩ := HPZ.out.bcell (q := rb) (vs := zN) (by simp) 9 _ rfl
  have HQ : Hid (Has B w (BlockR rb (vF 1 0 0 0 0 0 ⟨#[]⟩ ⟨#[]⟩ 0 X) :: RdR q S (2 + nX) :: BlockR nb (vF 1 0 0 0 0 0 ⟨#[]⟩ ⟨#[]⟩ 0 X) :: rs) (setAll rb 0 (vF 1 0 0 0 0 0 ⟨#[]⟩ ⟨#[]⟩ 0 X) (v0.setCell ⟨nb, 9, none⟩ (.string X)))) := Has.puts (vF 1 0 0 0 0 0 ⟨#[]⟩ ⟨#[]⟩ 0 X) [] zN HPZ.out rfl
  clear HPZ
  go_wp2_with fail
  have HC : Hid (∀ j u, (vF 1 0 0 0 0 0 ⟨#[]⟩ ⟨#[]⟩ 0 X)[j]? = some u → (setAll rb 0 (vF 1 0 0 0 0 0 ⟨#[]⟩ ⟨#[]⟩ 0 X) (v0.setCell ⟨nb, 9, none⟩ (.string X))).cell? ⟨rb, j, none⟩ = some u) := fun j u hu => (HQ.out.bcell (q := rb) (vs := (vF 1 0 0 0 0 0 ⟨#[]⟩ ⟨#[]⟩ 0 X)) (by simp) j u hu).1
  refine bodyPost_ret (results_row rfl _ _ rb (vF 1 0 0 0 0 0 ⟨#[]⟩ ⟨#[]⟩ 0 X) _ rfl HC.out Try.underlying56 rfl (by kernel_rfl)) rfl ⟨rfl, ?_⟩
  exact (HQ.out.drop.perm (List.Perm.swap _ _ _)).drop
set_option maxHeartbeats 2000000 in
theorem noteR2 {q i v nK nM : Nat} {S : ByteArray} {K M : ByteArray} (hS : S.size ≤ 4611686018427387904) (h : Has B w (RdR q S 1 :: rs) wr) (tk : PackMath.tn (S.data.toList.drop 1) = (2, 1, 0)) (lk : 1 ≤ S.size) (t0 : PackMath.tn (S.data.toList.drop (2)) = (i, 1, 0)) (l0 : 2 ≤ S.size) (t1 : PackMath.tt (S.data.toList.drop (3)) = (K.data.toList, nK, 0)) (l1 : 3 ≤ S.size) (t2 : PackMath.tt (S.data.toList.drop (3 + nK)) = (M.data.toList, nM, 0)) (l2 : 3 + nK ≤ S.size) (t3 : PackMath.tn (S.data.toList.drop (3 + nK + nM)) = (v, 1, 0)) (l3 : 3 + nK + nM ≤ S.size) :
    Calls Try.prog 34 #[.pointer (some ⟨q, 0, none⟩)] wr fun e w' => e = .returned (.agg (vF 2 (i : Int) 0 0 0 0 K M (v : Int) ⟨#[]⟩).toArray) ∧ Has B w (RdR q S (3 + nK + nM + 1) :: rs) w' := by
  have CN : Hid (∀ (a n : Nat) (rs : List Res) (wq : World), a ≤ S.size → PackMath.tn (S.data.toList.drop a) = (n, 1, 0) → Has B w (RdR q S a :: rs) wq → Calls Try.prog 37 #[.pointer (some ⟨q, 0, none⟩)] wq fun e w' => e = .returned (.int .i64 (n : Int)) ∧ Hid (Has B w (RdR q S (a + 1) :: rs) w')) := fun a n rs wq ha ht hq => numR_ok hS ha hq ht
  have CW : Hid (∀ (a c : Nat) (Y : ByteArray) (rs : List Res) (wq : World), a ≤ S.size → PackMath.tt (S.data.toList.drop a) = (Y.data.toList, c, 0) → Has B w (RdR q S a :: rs) wq → Calls Try.prog 39 #[.pointer (some ⟨q, 0, none⟩)] wq fun e w' => e = .returned (.string Y) ∧ Hid (Has B w (RdR q S (a + c) :: rs) w')) := fun a c Y rs wq ha ht hq => by
    have x := wordR_ok hS ha hq ht
    rw [strV_data] at x
    exact x
  have H0 : Hid (Has B w (RdR q S 1 :: BlockR wr.heap.size zN :: rs) (wr.alloc (.cells #[.int .i64 0, .int .i64 0, .int .i64 0, .int .i64 0, .int .i64 0, .int .i64 0, .string ⟨#[]⟩, .string ⟨#[]⟩, .int .i64 0, .string ⟨#[]⟩] 56))) := (h.box zN 56).perm (List.Perm.swap _ _ _)
  have D1 := CN.out 1 2 _ _ lk tk H0.out
  obtain ⟨rb, hrb⟩ : ∃ rb, wr.heap.size = rb := ⟨_, rfl⟩
  clear h H0
  rw [hrb] at D1
  go_enter Try.func34, Try.ntmps34
  go_wp2_with fail
  refine D1.mono ?_
  rintro e w1 ⟨rfl, H1⟩
  clear hrb
  have HB : Hid (Has B w (RdR q S 2 :: BlockR w1.heap.size (vF 2 0 0 0 0 0 ⟨#[]⟩ ⟨#[]⟩ 0 ⟨#[]⟩) :: BlockR rb zN :: rs) (w1.alloc (.cells #[.int .i64 2, .int .i64 0, .int .i64 0, .int .i64 0, .int .i64 0, .int .i64 0, .string ⟨#[]⟩, .string ⟨#[]⟩, .int .i64 0, .string ⟨#[]⟩] 56))) := (H1.out.box (vF 2 0 0 0 0 0 ⟨#[]⟩ ⟨#[]⟩ 0 ⟨#[]⟩) 56).perm (List.Perm.swap _ _ _)
  have E0 := CN.out (2) i _ _ l0 t0 HB.out
  go_wp2_with fail
  refine E0.mono ?_
  rintro e v0 ⟨rfl, G0⟩
  generalize w1.heap.size = nb at *
  clear E0 HB H1 D1
  have G0' : Hid (Has B w (RdR q S (3) :: BlockR nb (vF 2 0 0 0 0 0 ⟨#[]⟩ ⟨#[]⟩ 0 ⟨#[]⟩) :: BlockR rb zN :: rs) v0) := G0
  clear G0
  obtain ⟨e1, f1⟩ := G0'.out.bcell (q := nb) (vs := (vF 2 0 0 0 0 0 ⟨#[]⟩ ⟨#[]⟩ 0 ⟨#[]⟩)) (by simp) 1 _ rfl
  have P0 : Hid (Has B w (RdR q S (3) :: BlockR nb (vF 2 (i : Int) 0 0 0 0 ⟨#[]⟩ ⟨#[]⟩ 0 ⟨#[]⟩) :: BlockR rb zN :: rs) (v0.setCell ⟨nb, 1, none⟩ (.int .i64 (i : Int)))) := ((G0'.out.perm (List.Perm.swap _ _ _)).put 1 (by simp [vF]) (.int .i64 (i : Int))).perm (List.Perm.swap _ _ _)
  obtain ⟨e0, _⟩ := P0.out.bcell (q := nb) (vs := (vF 2 (i : Int) 0 0 0 0 ⟨#[]⟩ ⟨#[]⟩ 0 ⟨#[]⟩)) (by simp) 0 _ rfl
  clear G0'
  have E1 := CW.out (3) nK K _ _ l1 t1 P0.out
  go_wp2_with fail
  refine E1.mono ?_
  rintro e v1 ⟨rfl, G1⟩
  clear E1 P0 e0 e1 f1
  have G1' : Hid (Has B w (RdR q S (3 + nK) :: BlockR nb (vF 2 (i : Int) 0 0 0 0 ⟨#[]⟩ ⟨#[]⟩ 0 ⟨#[]⟩) :: BlockR rb zN :: rs) v1) := G1
  clear G1
  obtain ⟨e1, f1⟩ := G1'.out.bcell (q := nb) (vs := (vF 2 (i : Int) 0 0 0 0 ⟨#[]⟩ ⟨#[]⟩ 0 ⟨#[]⟩)) (by simp) 6 _ rfl
  have P1 : Hid (Has B w (RdR q S (3 + nK) :: BlockR nb (vF 2 (i : Int) 0 0 0 0 K ⟨#[]⟩ 0 ⟨#[]⟩) :: BlockR rb zN :: rs) (v1.setCell ⟨nb, 6, none⟩ (.string K))) := ((G1'.out.perm (List.Perm.swap _ _ _)).put 6 (by simp [vF]) (.string K)).perm (List.Perm.swap _ _ _)
  obtain ⟨e0, _⟩ := P1.out.bcell (q := nb) (vs := (vF 2 (i : Int) 0 0 0 0 K ⟨#[]⟩ 0 ⟨#[]⟩)) (by simp) 0 _ rfl
  clear G1'
  have E2 := CW.out (3 + nK) nM M _ _ l2 t2 P1.out
  go_wp2_with fail
  refine E2.mono ?_
  rintro e v2 ⟨rfl, G2⟩
  clear E2 P1 e0 e1 f1
  have G2' : Hid (Has B w (RdR q S (3 + nK + nM) :: BlockR nb (vF 2 (i : Int) 0 0 0 0 K ⟨#[]⟩ 0 ⟨#[]⟩) :: BlockR rb zN :: rs) v2) := G2
  clear G2
  obtain ⟨e1, f1⟩ := G2'.out.bcell (q := nb) (vs := (vF 2 (i : Int) 0 0 0 0 K ⟨#[]⟩ 0 ⟨#[]⟩)) (by simp) 7 _ rfl
  have P2 : Hid (Has B w (RdR q S (3 + nK + nM) :: BlockR nb (vF 2 (i : Int) 0 0 0 0 K M 0 ⟨#[]⟩) :: BlockR rb zN :: rs) (v2.setCell ⟨nb, 7, none⟩ (.string M))) := ((G2'.out.perm (List.Perm.swap _ _ _)).put 7 (by simp [vF]) (.string M)).perm (List.Perm.swap _ _ _)
  obtain ⟨e0, _⟩ := P2.out.bcell (q := nb) (vs := (vF 2 (i : Int) 0 0 0 0 K M 0 ⟨#[]⟩)) (by simp) 0 _ rfl
  clear G2'
  have E3 := CN.out (3 + nK + nM) v _ _ l3 t3 P2.out
  go_wp2_with fail
  refine E3.mono ?_
  rintro e v3 ⟨rfl, G3⟩
  clear E3 P2 e0 e1 f1
  have G3' : Hid (Has B w (RdR q S (3 + nK + nM + 1) :: BlockR nb (vF 2 (i : Int) 0 0 0 0 K M 0 ⟨#[]⟩) :: BlockR rb zN :: rs) v3) := G3
  clear G3
  obtain ⟨e1, f1⟩ := G3'.out.bcell (q := nb) (vs := (vF 2 (i : Int) 0 0 0 0 K M 0 ⟨#[]⟩)) (by simp) 8 _ rfl
  have P3 : Hid (Has B w (RdR q S (3 + nK + nM + 1) :: BlockR nb (vF 2 (i : Int) 0 0 0 0 K M (v : Int) ⟨#[]⟩) :: BlockR rb zN :: rs) (v3.setCell ⟨nb, 8, none⟩ (.int .i64 (v : Int)))) := ((G3'.out.perm (List.Perm.swap _ _ _)).put 8 (by simp [vF]) (.int .i64 (v : Int))).perm (List.Perm.swap _ _ _)
  obtain ⟨e0, _⟩ := P3.out.bcell (q := nb) (vs := (vF 2 (i : Int) 0 0 0 0 K M (v : Int) ⟨#[]⟩)) (by simp) 0 _ rfl
  clear G3'
  have HPZ : Hid (Has B w (BlockR rb zN :: RdR q S (3 + nK + nM + 1) :: BlockR nb (vF 2 (i : Int) 0 0 0 0 K M (v : Int) ⟨#[]⟩) :: rs) (v3.setCell ⟨nb, 8, none⟩ (.int .i64 (v : Int)))) := P3.out.perm (List.perm_middle (l₁ := [_, _]) (l₂ := rs))
  clear P3 CN CW
  obtain ⟨x1, _⟩ := HPZ.out.bcell (q := nb) (vs := (vF 2 (i : Int) 0 0 0 0 K M (v : Int) ⟨#[]⟩)) (by simp) 1 _ rfl
  obtain ⟨x2, _⟩ := HPZ.out.bcell (q := nb) (vs := (vF 2 (i : Int) 0 0 0 0 K M (v : Int) ⟨#[]⟩)) (by simp) 2 _ rfl
  obtain ⟨x3, _⟩ := HPZ.out.bcell (q := nb) (vs := (vF 2 (i : Int) 0 0 0 0 K M (v : Int) ⟨#[]⟩)) (by simp) 3 _ rfl
  obtain ⟨x4, _⟩ := HPZ.out.bcell (q := nb) (vs := (vF 2 (i : Int) 0 0 0 0 K M (v : Int) ⟨#[]⟩)) (by simp) 4 _ rfl
  obtain ⟨x5, _⟩ := HPZ.out.bcell (q := nb) (vs := (vF 2 (i : Int) 0 0 0 0 K M (v : Int) ⟨#[]⟩)) (by simp) 5 _ rfl
  obtain ⟨x6, _⟩ := HPZ.out.bcell (q := nb) (vs := (vF 2 (i : Int) 0 0 0 0 K M (v : Int) ⟨#[]⟩)) (by simp) 6 _ rfl
  obtain ⟨x7, _⟩ := HPZ.out.bcell (q := nb) (vs := (vF 2 (i : Int) 0 0 0 0 K M (v : Int) ⟨#[]⟩)) (by simp) 7 _ rfl
  obtain ⟨x8, _⟩ := HPZ.out.bcell (q := nb) (vs := (vF 2 (i : Int) 0 0 0 0 K M (v : Int) ⟨#[]⟩)) (by simp) 8 _ rfl
  obtain ⟨x9, _⟩ := HPZ.out.bcell (q := nb) (vs := (vF 2 (i : Int) 0 0 0 0 K M (v : Int) ⟨#[]⟩)) (by simp) 9 _ rfl
  obtain ⟨y0, g0⟩ := HPZ.out.bcell (q := rb) (vs := zN) (by simp) 0 _ rfl
  obtain ⟨y1, g1⟩ := HPZ.out.bcell (q := rb) (vs := zN) (by simp) 1 _ rfl
  obtain ⟨y2, g2⟩ := HPZ.out.bcell (q := rb) (vs := zN) (by simp) 2 _ rfl
  obtain ⟨y3, g3⟩ := HPZ.out.bcell (q := rb) (vs := zN) (by simp) 3 _ rfl
  obtain ⟨y4, g4⟩ := HPZ.out.bcell (q := rb) (vs := zN) (by simp) 4 _ rfl
  obtain ⟨y5, g5⟩ := HPZ.out.bcell (q := rb) (vs := zN) (by simp) 5 _ rfl
  obtain ⟨y6, g6⟩ := HPZ.out.bcell (q := rb) (vs := zN) (by simp) 6 _ rfl
  obtain ⟨y7, g7⟩ := HPZ.out.bcell (q := rb) (vs := zN) (by simp) 7 _ rfl
  obtain ⟨y8, g8⟩ := HPZ.out.bcell (q := rb) (vs := zN) (by simp) 8 _ rfl
  obtain ⟨y9, g9⟩ := HPZ.out.bcell (q := rb) (vs := zN) (by simp) 9 _ rfl
  have HQ : Hid (Has B w (BlockR rb (vF 2 (i : Int) 0 0 0 0 K M (v : Int) ⟨#[]⟩) :: RdR q S (3 + nK + nM + 1) :: BlockR nb (vF 2 (i : Int) 0 0 0 0 K M (v : Int) ⟨#[]⟩) :: rs) (setAll rb 0 (vF 2 (i : Int) 0 0 0 0 K M (v : Int) ⟨#[]⟩) (v3.setCell ⟨nb, 8, none⟩ (.int .i64 (v : Int))))) := Has.puts (vF 2 (i : Int) 0 0 0 0 K M (v : Int) ⟨#[]⟩) [] zN HPZ.out rfl
  clear HPZ
  go_wp2_with fail
  have HC : Hid (∀ j u, (vF 2 (i : Int) 0 0 0 0 K M (v : Int) ⟨#[]⟩)[j]? = some u → (setAll rb 0 (vF 2 (i : Int) 0 0 0 0 K M (v : Int) ⟨#[]⟩) (v3.setCell ⟨nb, 8, none⟩ (.int .i64 (v : Int)))).cell? ⟨rb, j, none⟩ = some u) := fun j u hu => (HQ.out.bcell (q := rb) (vs := (vF 2 (i : Int) 0 0 0 0 K M (v : Int) ⟨#[]⟩)) (by simp) j u hu).1
  refine bodyPost_ret (results_row rfl _ _ rb (vF 2 (i : Int) 0 0 0 0 K M (v : Int) ⟨#[]⟩) _ rfl HC.out Try.underlying56 rfl (by kernel_rfl)) rfl ⟨rfl, ?_⟩
  exact (HQ.out.drop.perm (List.Perm.swap _ _ _)).drop
set_option maxHeartbeats 2000000 in
theorem noteR3 {q i : Nat} {S : ByteArray} (hS : S.size ≤ 4611686018427387904) (h : Has B w (RdR q S 1 :: rs) wr) (tk : PackMath.tn (S.data.toList.drop 1) = (3, 1, 0)) (lk : 1 ≤ S.size) (t0 : PackMath.tn (S.data.toList.drop (2)) = (i, 1, 0)) (l0 : 2 ≤ S.size) :
    Calls Try.prog 34 #[.pointer (some ⟨q, 0, none⟩)] wr fun e w' => e = .returned (.agg (vF 3 (i : Int) 0 0 0 0 ⟨#[]⟩ ⟨#[]⟩ 0 ⟨#[]⟩).toArray) ∧ Has B w (RdR q S (3) :: rs) w' := by
  have CN : Hid (∀ (a n : Nat) (rs : List Res) (wq : World), a ≤ S.size → PackMath.tn (S.data.toList.drop a) = (n, 1, 0) → Has B w (RdR q S a :: rs) wq → Calls Try.prog 37 #[.pointer (some ⟨q, 0, none⟩)] wq fun e w' => e = .returned (.int .i64 (n : Int)) ∧ Hid (Has B w (RdR q S (a + 1) :: rs) w')) := fun a n rs wq ha ht hq => numR_ok hS ha hq ht
  have H0 : Hid (Has B w (RdR q S 1 :: BlockR wr.heap.size zN :: rs) (wr.alloc (.cells #[.int .i64 0, .int .i64 0, .int .i64 0, .int .i64 0, .int .i64 0, .int .i64 0, .string ⟨#[]⟩, .string ⟨#[]⟩, .int .i64 0, .string ⟨#[]⟩] 56))) := (h.box zN 56).perm (List.Perm.swap _ _ _)
  have D1 := CN.out 1 3 _ _ lk tk H0.out
  obtain ⟨rb, hrb⟩ : ∃ rb, wr.heap.size = rb := ⟨_, rfl⟩
  clear h H0
  rw [hrb] at D1
  go_enter Try.func34, Try.ntmps34
  go_wp2_with fail
  refine D1.mono ?_
  rintro e w1 ⟨rfl, H1⟩
  clear hrb
  have HB : Hid (Has B w (RdR q S 2 :: BlockR w1.heap.size (vF 3 0 0 0 0 0 ⟨#[]⟩ ⟨#[]⟩ 0 ⟨#[]⟩) :: BlockR rb zN :: rs) (w1.alloc (.cells #[.int .i64 3, .int .i64 0, .int .i64 0, .int .i64 0, .int .i64 0, .int .i64 0, .string ⟨#[]⟩, .string ⟨#[]⟩, .int .i64 0, .string ⟨#[]⟩] 56))) := (H1.out.box (vF 3 0 0 0 0 0 ⟨#[]⟩ ⟨#[]⟩ 0 ⟨#[]⟩) 56).perm (List.Perm.swap _ _ _)
  have E0 := CN.out (2) i _ _ l0 t0 HB.out
  go_wp2_with fail
  refine E0.mono ?_
  rintro e v0 ⟨rfl, G0⟩
  generalize w1.heap.size = nb at *
  clear E0 HB H1 D1
  have G0' : Hid (Has B w (RdR q S (3) :: BlockR nb (vF 3 0 0 0 0 0 ⟨#[]⟩ ⟨#[]⟩ 0 ⟨#[]⟩) :: BlockR rb zN :: rs) v0) := G0
  clear G0
  obtain ⟨e1, f1⟩ := G0'.out.bcell (q := nb) (vs := (vF 3 0 0 0 0 0 ⟨#[]⟩ ⟨#[]⟩ 0 ⟨#[]⟩)) (by simp) 1 _ rfl
  have P0 : Hid (Has B w (RdR q S (3) :: BlockR nb (vF 3 (i : Int) 0 0 0 0 ⟨#[]⟩ ⟨#[]⟩ 0 ⟨#[]⟩) :: BlockR rb zN :: rs) (v0.setCell ⟨nb, 1, none⟩ (.int .i64 (i : Int)))) := ((G0'.out.perm (List.Perm.swap _ _ _)).put 1 (by simp [vF]) (.int .i64 (i : Int))).perm (List.Perm.swap _ _ _)
  obtain ⟨e0, _⟩ := P0.out.bcell (q := nb) (vs := (vF 3 (i : Int) 0 0 0 0 ⟨#[]⟩ ⟨#[]⟩ 0 ⟨#[]⟩)) (by simp) 0 _ rfl
  clear G0'
  have HPZ : Hid (Has B w (BlockR rb zN :: RdR q S (3) :: BlockR nb (vF 3 (i : Int) 0 0 0 0 ⟨#[]⟩ ⟨#[]⟩ 0 ⟨#[]⟩) :: rs) (v0.setCell ⟨nb, 1, none⟩ (.int .i64 (i : Int)))) := P0.out.perm (List.perm_middle (l₁ := [_, _]) (l₂ := rs))
  clear P0 CN
  obtain ⟨x1, _⟩ := HPZ.out.bcell (q := nb) (vs := (vF 3 (i : Int) 0 0 0 0 ⟨#[]⟩ ⟨#[]⟩ 0 ⟨#[]⟩)) (by simp) 1 _ rfl
  obtain ⟨x2, _⟩ := HPZ.out.bcell (q := nb) (vs := (vF 3 (i : Int) 0 0 0 0 ⟨#[]⟩ ⟨#[]⟩ 0 ⟨#[]⟩)) (by simp) 2 _ rfl
  obtain ⟨x3, _⟩ := HPZ.out.bcell (q := nb) (vs := (vF 3 (i : Int) 0 0 0 0 ⟨#[]⟩ ⟨#[]⟩ 0 ⟨#[]⟩)) (by simp) 3 _ rfl
  obtain ⟨x4, _⟩ := HPZ.out.bcell (q := nb) (vs := (vF 3 (i : Int) 0 0 0 0 ⟨#[]⟩ ⟨#[]⟩ 0 ⟨#[]⟩)) (by simp) 4 _ rfl
  obtain ⟨x5, _⟩ := HPZ.out.bcell (q := nb) (vs := (vF 3 (i : Int) 0 0 0 0 ⟨#[]⟩ ⟨#[]⟩ 0 ⟨#[]⟩)) (by simp) 5 _ rfl
  obtain ⟨x6, _⟩ := HPZ.out.bcell (q := nb) (vs := (vF 3 (i : Int) 0 0 0 0 ⟨#[]⟩ ⟨#[]⟩ 0 ⟨#[]⟩)) (by simp) 6 _ rfl
  obtain ⟨x7, _⟩ := HPZ.out.bcell (q := nb) (vs := (vF 3 (i : Int) 0 0 0 0 ⟨#[]⟩ ⟨#[]⟩ 0 ⟨#[]⟩)) (by simp) 7 _ rfl
  obtain ⟨x8, _⟩ := HPZ.out.bcell (q := nb) (vs := (vF 3 (i : Int) 0 0 0 0 ⟨#[]⟩ ⟨#[]⟩ 0 ⟨#[]⟩)) (by simp) 8 _ rfl
  obtain ⟨x9, _⟩ := HPZ.out.bcell (q := nb) (vs := (vF 3 (i : Int) 0 0 0 0 ⟨#[]⟩ ⟨#[]⟩ 0 ⟨#[]⟩)) (by simp) 9 _ rfl
  obtain ⟨y0, g0⟩ := HPZ.out.bcell (q := rb) (vs := zN) (by simp) 0 _ rfl
  obtain ⟨y1, g1⟩ := HPZ.out.bcell (q := rb) (vs := zN) (by simp) 1 _ rfl
  obtain ⟨y2, g2⟩ := HPZ.out.bcell (q := rb) (vs := zN) (by simp) 2 _ rfl
  obtain ⟨y3, g3⟩ := HPZ.out.bcell (q := rb) (vs := zN) (by simp) 3 _ rfl
  obtain ⟨y4, g4⟩ := HPZ.out.bcell (q := rb) (vs := zN) (by simp) 4 _ rfl
  obtain ⟨y5, g5⟩ := HPZ.out.bcell (q := rb) (vs := zN) (by simp) 5 _ rfl
  obtain ⟨y6, g6⟩ := HPZ.out.bcell (q := rb) (vs := zN) (by simp) 6 _ rfl
  obtain ⟨y7, g7⟩ := HPZ.out.bcell (q := rb) (vs := zN) (by simp) 7 _ rfl
  obtain ⟨y8, g8⟩ := HPZ.out.bcell (q := rb) (vs := zN) (by simp) 8 _ rfl
  obtain ⟨y9, g9⟩ := HPZ.out.bcell (q := rb) (vs := zN) (by simp) 9 _ rfl
  have HQ : Hid (Has B w (BlockR rb (vF 3 (i : Int) 0 0 0 0 ⟨#[]⟩ ⟨#[]⟩ 0 ⟨#[]⟩) :: RdR q S (3) :: BlockR nb (vF 3 (i : Int) 0 0 0 0 ⟨#[]⟩ ⟨#[]⟩ 0 ⟨#[]⟩) :: rs) (setAll rb 0 (vF 3 (i : Int) 0 0 0 0 ⟨#[]⟩ ⟨#[]⟩ 0 ⟨#[]⟩) (v0.setCell ⟨nb, 1, none⟩ (.int .i64 (i : Int))))) := Has.puts (vF 3 (i : Int) 0 0 0 0 ⟨#[]⟩ ⟨#[]⟩ 0 ⟨#[]⟩) [] zN HPZ.out rfl
  clear HPZ
  go_wp2_with fail
  have HC : Hid (∀ j u, (vF 3 (i : Int) 0 0 0 0 ⟨#[]⟩ ⟨#[]⟩ 0 ⟨#[]⟩)[j]? = some u → (setAll rb 0 (vF 3 (i : Int) 0 0 0 0 ⟨#[]⟩ ⟨#[]⟩ 0 ⟨#[]⟩) (v0.setCell ⟨nb, 1, none⟩ (.int .i64 (i : Int)))).cell? ⟨rb, j, none⟩ = some u) := fun j u hu => (HQ.out.bcell (q := rb) (vs := (vF 3 (i : Int) 0 0 0 0 ⟨#[]⟩ ⟨#[]⟩ 0 ⟨#[]⟩)) (by simp) j u hu).1
  refine bodyPost_ret (results_row rfl _ _ rb (vF 3 (i : Int) 0 0 0 0 ⟨#[]⟩ ⟨#[]⟩ 0 ⟨#[]⟩) _ rfl HC.out Try.underlying56 rfl (by kernel_rfl)) rfl ⟨rfl, ?_⟩
  exact (HQ.out.drop.perm (List.Perm.swap _ _ _)).drop
set_option maxHeartbeats 2000000 in
theorem noteR4 {q i : Nat} {S : ByteArray} (hS : S.size ≤ 4611686018427387904) (h : Has B w (RdR q S 1 :: rs) wr) (tk : PackMath.tn (S.data.toList.drop 1) = (4, 1, 0)) (lk : 1 ≤ S.size) (t0 : PackMath.tn (S.data.toList.drop (2)) = (i, 1, 0)) (l0 : 2 ≤ S.size) :
    Calls Try.prog 34 #[.pointer (some ⟨q, 0, none⟩)] wr fun e w' => e = .returned (.agg (vF 4 (i : Int) 0 0 0 0 ⟨#[]⟩ ⟨#[]⟩ 0 ⟨#[]⟩).toArray) ∧ Has B w (RdR q S (3) :: rs) w' := by
  have CN : Hid (∀ (a n : Nat) (rs : List Res) (wq : World), a ≤ S.size → PackMath.tn (S.data.toList.drop a) = (n, 1, 0) → Has B w (RdR q S a :: rs) wq → Calls Try.prog 37 #[.pointer (some ⟨q, 0, none⟩)] wq fun e w' => e = .returned (.int .i64 (n : Int)) ∧ Hid (Has B w (RdR q S (a + 1) :: rs) w')) := fun a n rs wq ha ht hq => numR_ok hS ha hq ht
  have H0 : Hid (Has B w (RdR q S 1 :: BlockR wr.heap.size zN :: rs) (wr.alloc (.cells #[.int .i64 0, .int .i64 0, .int .i64 0, .int .i64 0, .int .i64 0, .int .i64 0, .string ⟨#[]⟩, .string ⟨#[]⟩, .int .i64 0, .string ⟨#[]⟩] 56))) := (h.box zN 56).perm (List.Perm.swap _ _ _)
  have D1 := CN.out 1 4 _ _ lk tk H0.out
  obtain ⟨rb, hrb⟩ : ∃ rb, wr.heap.size = rb := ⟨_, rfl⟩
  clear h H0
  rw [hrb] at D1
  go_enter Try.func34, Try.ntmps34
  go_wp2_with fail
  refine D1.mono ?_
  rintro e w1 ⟨rfl, H1⟩
  clear hrb
  have HB : Hid (Has B w (RdR q S 2 :: BlockR w1.heap.size (vF 4 0 0 0 0 0 ⟨#[]⟩ ⟨#[]⟩ 0 ⟨#[]⟩) :: BlockR rb zN :: rs) (w1.alloc (.cells #[.int .i64 4, .int .i64 0, .int .i64 0, .int .i64 0, .int .i64 0, .int .i64 0, .string ⟨#[]⟩, .string ⟨#[]⟩, .int .i64 0, .string ⟨#[]⟩] 56))) := (H1.out.box (vF 4 0 0 0 0 0 ⟨#[]⟩ ⟨#[]⟩ 0 ⟨#[]⟩) 56).perm (List.Perm.swap _ _ _)
  have E0 := CN.out (2) i _ _ l0 t0 HB.out
  go_wp2_with fail
  refine E0.mono ?_
  rintro e v0 ⟨rfl, G0⟩
  generalize w1.heap.size = nb at *
  clear E0 HB H1 D1
  have G0' : Hid (Has B w (RdR q S (3) :: BlockR nb (vF 4 0 0 0 0 0 ⟨#[]⟩ ⟨#[]⟩ 0 ⟨#[]⟩) :: BlockR rb zN :: rs) v0) := G0
  clear G0
  obtain ⟨e1, f1⟩ := G0'.out.bcell (q := nb) (vs := (vF 4 0 0 0 0 0 ⟨#[]⟩ ⟨#[]⟩ 0 ⟨#[]⟩)) (by simp) 1 _ rfl
  have P0 : Hid (Has B w (RdR q S (3) :: BlockR nb (vF 4 (i : Int) 0 0 0 0 ⟨#[]⟩ ⟨#[]⟩ 0 ⟨#[]⟩) :: BlockR rb zN :: rs) (v0.setCell ⟨nb, 1, none⟩ (.int .i64 (i : Int)))) := ((G0'.out.perm (List.Perm.swap _ _ _)).put 1 (by simp [vF]) (.int .i64 (i : Int))).perm (List.Perm.swap _ _ _)
  obtain ⟨e0, _⟩ := P0.out.bcell (q := nb) (vs := (vF 4 (i : Int) 0 0 0 0 ⟨#[]⟩ ⟨#[]⟩ 0 ⟨#[]⟩)) (by simp) 0 _ rfl
  clear G0'
  have HPZ : Hid (Has B w (BlockR rb zN :: RdR q S (3) :: BlockR nb (vF 4 (i : Int) 0 0 0 0 ⟨#[]⟩ ⟨#[]⟩ 0 ⟨#[]⟩) :: rs) (v0.setCell ⟨nb, 1, none⟩ (.int .i64 (i : Int)))) := P0.out.perm (List.perm_middle (l₁ := [_, _]) (l₂ := rs))
  clear P0 CN
  obtain ⟨x1, _⟩ := HPZ.out.bcell (q := nb) (vs := (vF 4 (i : Int) 0 0 0 0 ⟨#[]⟩ ⟨#[]⟩ 0 ⟨#[]⟩)) (by simp) 1 _ rfl
  obtain ⟨x2, _⟩ := HPZ.out.bcell (q := nb) (vs := (vF 4 (i : Int) 0 0 0 0 ⟨#[]⟩ ⟨#[]⟩ 0 ⟨#[]⟩)) (by simp) 2 _ rfl
  obtain ⟨x3, _⟩ := HPZ.out.bcell (q := nb) (vs := (vF 4 (i : Int) 0 0 0 0 ⟨#[]⟩ ⟨#[]⟩ 0 ⟨#[]⟩)) (by simp) 3 _ rfl
  obtain ⟨x4, _⟩ := HPZ.out.bcell (q := nb) (vs := (vF 4 (i : Int) 0 0 0 0 ⟨#[]⟩ ⟨#[]⟩ 0 ⟨#[]⟩)) (by simp) 4 _ rfl
  obtain ⟨x5, _⟩ := HPZ.out.bcell (q := nb) (vs := (vF 4 (i : Int) 0 0 0 0 ⟨#[]⟩ ⟨#[]⟩ 0 ⟨#[]⟩)) (by simp) 5 _ rfl
  obtain ⟨x6, _⟩ := HPZ.out.bcell (q := nb) (vs := (vF 4 (i : Int) 0 0 0 0 ⟨#[]⟩ ⟨#[]⟩ 0 ⟨#[]⟩)) (by simp) 6 _ rfl
  obtain ⟨x7, _⟩ := HPZ.out.bcell (q := nb) (vs := (vF 4 (i : Int) 0 0 0 0 ⟨#[]⟩ ⟨#[]⟩ 0 ⟨#[]⟩)) (by simp) 7 _ rfl
  obtain ⟨x8, _⟩ := HPZ.out.bcell (q := nb) (vs := (vF 4 (i : Int) 0 0 0 0 ⟨#[]⟩ ⟨#[]⟩ 0 ⟨#[]⟩)) (by simp) 8 _ rfl
  obtain ⟨x9, _⟩ := HPZ.out.bcell (q := nb) (vs := (vF 4 (i : Int) 0 0 0 0 ⟨#[]⟩ ⟨#[]⟩ 0 ⟨#[]⟩)) (by simp) 9 _ rfl
  obtain ⟨y0, g0⟩ := HPZ.out.bcell (q := rb) (vs := zN) (by simp) 0 _ rfl
  obtain ⟨y1, g1⟩ := HPZ.out.bcell (q := rb) (vs := zN) (by simp) 1 _ rfl
  obtain ⟨y2, g2⟩ := HPZ.out.bcell (q := rb) (vs := zN) (by simp) 2 _ rfl
  obtain ⟨y3, g3⟩ := HPZ.out.bcell (q := rb) (vs := zN) (by simp) 3 _ rfl
  obtain ⟨y4, g4⟩ := HPZ.out.bcell (q := rb) (vs := zN) (by simp) 4 _ rfl
  obtain ⟨y5, g5⟩ := HPZ.out.bcell (q := rb) (vs := zN) (by simp) 5 _ rfl
  obtain ⟨y6, g6⟩ := HPZ.out.bcell (q := rb) (vs := zN) (by simp) 6 _ rfl
  obtain ⟨y7, g7⟩ := HPZ.out.bcell (q := rb) (vs := zN) (by simp) 7 _ rfl
  obtain ⟨y8, g8⟩ := HPZ.out.bcell (q := rb) (vs := zN) (by simp) 8 _ rfl
  obtain ⟨y9, g9⟩ := HPZ.out.bcell (q := rb) (vs := zN) (by simp) 9 _ rfl
  have HQ : Hid (Has B w (BlockR rb (vF 4 (i : Int) 0 0 0 0 ⟨#[]⟩ ⟨#[]⟩ 0 ⟨#[]⟩) :: RdR q S (3) :: BlockR nb (vF 4 (i : Int) 0 0 0 0 ⟨#[]⟩ ⟨#[]⟩ 0 ⟨#[]⟩) :: rs) (setAll rb 0 (vF 4 (i : Int) 0 0 0 0 ⟨#[]⟩ ⟨#[]⟩ 0 ⟨#[]⟩) (v0.setCell ⟨nb, 1, none⟩ (.int .i64 (i : Int))))) := Has.puts (vF 4 (i : Int) 0 0 0 0 ⟨#[]⟩ ⟨#[]⟩ 0 ⟨#[]⟩) [] zN HPZ.out rfl
  clear HPZ
  go_wp2_with fail
  have HC : Hid (∀ j u, (vF 4 (i : Int) 0 0 0 0 ⟨#[]⟩ ⟨#[]⟩ 0 ⟨#[]⟩)[j]? = some u → (setAll rb 0 (vF 4 (i : Int) 0 0 0 0 ⟨#[]⟩ ⟨#[]⟩ 0 ⟨#[]⟩) (v0.setCell ⟨nb, 1, none⟩ (.int .i64 (i : Int)))).cell? ⟨rb, j, none⟩ = some u) := fun j u hu => (HQ.out.bcell (q := rb) (vs := (vF 4 (i : Int) 0 0 0 0 ⟨#[]⟩ ⟨#[]⟩ 0 ⟨#[]⟩)) (by simp) j u hu).1
  refine bodyPost_ret (results_row rfl _ _ rb (vF 4 (i : Int) 0 0 0 0 ⟨#[]⟩ ⟨#[]⟩ 0 ⟨#[]⟩) _ rfl HC.out Try.underlying56 rfl (by kernel_rfl)) rfl ⟨rfl, ?_⟩
  exact (HQ.out.drop.perm (List.Perm.swap _ _ _)).drop
set_option maxHeartbeats 2000000 in
theorem noteR5 {q i s : Nat} {S : ByteArray} (hS : S.size ≤ 4611686018427387904) (h : Has B w (RdR q S 1 :: rs) wr) (tk : PackMath.tn (S.data.toList.drop 1) = (5, 1, 0)) (lk : 1 ≤ S.size) (t0 : PackMath.tn (S.data.toList.drop (2)) = (i, 1, 0)) (l0 : 2 ≤ S.size) (t1 : PackMath.tn (S.data.toList.drop (3)) = (s, 1, 0)) (l1 : 3 ≤ S.size) :
    Calls Try.prog 34 #[.pointer (some ⟨q, 0, none⟩)] wr fun e w' => e = .returned (.agg (vF 5 (i : Int) (s : Int) 0 0 0 ⟨#[]⟩ ⟨#[]⟩ 0 ⟨#[]⟩).toArray) ∧ Has B w (RdR q S (4) :: rs) w' := by
  have CN : Hid (∀ (a n : Nat) (rs : List Res) (wq : World), a ≤ S.size → PackMath.tn (S.data.toList.drop a) = (n, 1, 0) → Has B w (RdR q S a :: rs) wq → Calls Try.prog 37 #[.pointer (some ⟨q, 0, none⟩)] wq fun e w' => e = .returned (.int .i64 (n : Int)) ∧ Hid (Has B w (RdR q S (a + 1) :: rs) w')) := fun a n rs wq ha ht hq => numR_ok hS ha hq ht
  have H0 : Hid (Has B w (RdR q S 1 :: BlockR wr.heap.size zN :: rs) (wr.alloc (.cells #[.int .i64 0, .int .i64 0, .int .i64 0, .int .i64 0, .int .i64 0, .int .i64 0, .string ⟨#[]⟩, .string ⟨#[]⟩, .int .i64 0, .string ⟨#[]⟩] 56))) := (h.box zN 56).perm (List.Perm.swap _ _ _)
  have D1 := CN.out 1 5 _ _ lk tk H0.out
  obtain ⟨rb, hrb⟩ : ∃ rb, wr.heap.size = rb := ⟨_, rfl⟩
  clear h H0
  rw [hrb] at D1
  go_enter Try.func34, Try.ntmps34
  go_wp2_with fail
  refine D1.mono ?_
  rintro e w1 ⟨rfl, H1⟩
  clear hrb
  have HB : Hid (Has B w (RdR q S 2 :: BlockR w1.heap.size (vF 5 0 0 0 0 0 ⟨#[]⟩ ⟨#[]⟩ 0 ⟨#[]⟩) :: BlockR rb zN :: rs) (w1.alloc (.cells #[.int .i64 5, .int .i64 0, .int .i64 0, .int .i64 0, .int .i64 0, .int .i64 0, .string ⟨#[]⟩, .string ⟨#[]⟩, .int .i64 0, .string ⟨#[]⟩] 56))) := (H1.out.box (vF 5 0 0 0 0 0 ⟨#[]⟩ ⟨#[]⟩ 0 ⟨#[]⟩) 56).perm (List.Perm.swap _ _ _)
  have E0 := CN.out (2) i _ _ l0 t0 HB.out
  go_wp2_with fail
  refine E0.mono ?_
  rintro e v0 ⟨rfl, G0⟩
  generalize w1.heap.size = nb at *
  clear E0 HB H1 D1
  have G0' : Hid (Has B w (RdR q S (3) :: BlockR nb (vF 5 0 0 0 0 0 ⟨#[]⟩ ⟨#[]⟩ 0 ⟨#[]⟩) :: BlockR rb zN :: rs) v0) := G0
  clear G0
  obtain ⟨e1, f1⟩ := G0'.out.bcell (q := nb) (vs := (vF 5 0 0 0 0 0 ⟨#[]⟩ ⟨#[]⟩ 0 ⟨#[]⟩)) (by simp) 1 _ rfl
  have P0 : Hid (Has B w (RdR q S (3) :: BlockR nb (vF 5 (i : Int) 0 0 0 0 ⟨#[]⟩ ⟨#[]⟩ 0 ⟨#[]⟩) :: BlockR rb zN :: rs) (v0.setCell ⟨nb, 1, none⟩ (.int .i64 (i : Int)))) := ((G0'.out.perm (List.Perm.swap _ _ _)).put 1 (by simp [vF]) (.int .i64 (i : Int))).perm (List.Perm.swap _ _ _)
  obtain ⟨e0, _⟩ := P0.out.bcell (q := nb) (vs := (vF 5 (i : Int) 0 0 0 0 ⟨#[]⟩ ⟨#[]⟩ 0 ⟨#[]⟩)) (by simp) 0 _ rfl
  clear G0'
  have E1 := CN.out (3) s _ _ l1 t1 P0.out
  go_wp2_with fail
  refine E1.mono ?_
  rintro e v1 ⟨rfl, G1⟩
  clear E1 P0 e0 e1 f1
  have G1' : Hid (Has B w (RdR q S (4) :: BlockR nb (vF 5 (i : Int) 0 0 0 0 ⟨#[]⟩ ⟨#[]⟩ 0 ⟨#[]⟩) :: BlockR rb zN :: rs) v1) := G1
  clear G1
  obtain ⟨e1, f1⟩ := G1'.out.bcell (q := nb) (vs := (vF 5 (i : Int) 0 0 0 0 ⟨#[]⟩ ⟨#[]⟩ 0 ⟨#[]⟩)) (by simp) 2 _ rfl
  have P1 : Hid (Has B w (RdR q S (4) :: BlockR nb (vF 5 (i : Int) (s : Int) 0 0 0 ⟨#[]⟩ ⟨#[]⟩ 0 ⟨#[]⟩) :: BlockR rb zN :: rs) (v1.setCell ⟨nb, 2, none⟩ (.int .i64 (s : Int)))) := ((G1'.out.perm (List.Perm.swap _ _ _)).put 2 (by simp [vF]) (.int .i64 (s : Int))).perm (List.Perm.swap _ _ _)
  obtain ⟨e0, _⟩ := P1.out.bcell (q := nb) (vs := (vF 5 (i : Int) (s : Int) 0 0 0 ⟨#[]⟩ ⟨#[]⟩ 0 ⟨#[]⟩)) (by simp) 0 _ rfl
  clear G1'
  have HPZ : Hid (Has B w (BlockR rb zN :: RdR q S (4) :: BlockR nb (vF 5 (i : Int) (s : Int) 0 0 0 ⟨#[]⟩ ⟨#[]⟩ 0 ⟨#[]⟩) :: rs) (v1.setCell ⟨nb, 2, none⟩ (.int .i64 (s : Int)))) := P1.out.perm (List.perm_middle (l₁ := [_, _]) (l₂ := rs))
  clear P1 CN
  obtain ⟨x1, _⟩ := HPZ.out.bcell (q := nb) (vs := (vF 5 (i : Int) (s : Int) 0 0 0 ⟨#[]⟩ ⟨#[]⟩ 0 ⟨#[]⟩)) (by simp) 1 _ rfl
  obtain ⟨x2, _⟩ := HPZ.out.bcell (q := nb) (vs := (vF 5 (i : Int) (s : Int) 0 0 0 ⟨#[]⟩ ⟨#[]⟩ 0 ⟨#[]⟩)) (by simp) 2 _ rfl
  obtain ⟨x3, _⟩ := HPZ.out.bcell (q := nb) (vs := (vF 5 (i : Int) (s : Int) 0 0 0 ⟨#[]⟩ ⟨#[]⟩ 0 ⟨#[]⟩)) (by simp) 3 _ rfl
  obtain ⟨x4, _⟩ := HPZ.out.bcell (q := nb) (vs := (vF 5 (i : Int) (s : Int) 0 0 0 ⟨#[]⟩ ⟨#[]⟩ 0 ⟨#[]⟩)) (by simp) 4 _ rfl
  obtain ⟨x5, _⟩ := HPZ.out.bcell (q := nb) (vs := (vF 5 (i : Int) (s : Int) 0 0 0 ⟨#[]⟩ ⟨#[]⟩ 0 ⟨#[]⟩)) (by simp) 5 _ rfl
  obtain ⟨x6, _⟩ := HPZ.out.bcell (q := nb) (vs := (vF 5 (i : Int) (s : Int) 0 0 0 ⟨#[]⟩ ⟨#[]⟩ 0 ⟨#[]⟩)) (by simp) 6 _ rfl
  obtain ⟨x7, _⟩ := HPZ.out.bcell (q := nb) (vs := (vF 5 (i : Int) (s : Int) 0 0 0 ⟨#[]⟩ ⟨#[]⟩ 0 ⟨#[]⟩)) (by simp) 7 _ rfl
  obtain ⟨x8, _⟩ := HPZ.out.bcell (q := nb) (vs := (vF 5 (i : Int) (s : Int) 0 0 0 ⟨#[]⟩ ⟨#[]⟩ 0 ⟨#[]⟩)) (by simp) 8 _ rfl
  obtain ⟨x9, _⟩ := HPZ.out.bcell (q := nb) (vs := (vF 5 (i : Int) (s : Int) 0 0 0 ⟨#[]⟩ ⟨#[]⟩ 0 ⟨#[]⟩)) (by simp) 9 _ rfl
  obtain ⟨y0, g0⟩ := HPZ.out.bcell (q := rb) (vs := zN) (by simp) 0 _ rfl
  obtain ⟨y1, g1⟩ := HPZ.out.bcell (q := rb) (vs := zN) (by simp) 1 _ rfl
  obtain ⟨y2, g2⟩ := HPZ.out.bcell (q := rb) (vs := zN) (by simp) 2 _ rfl
  obtain ⟨y3, g3⟩ := HPZ.out.bcell (q := rb) (vs := zN) (by simp) 3 _ rfl
  obtain ⟨y4, g4⟩ := HPZ.out.bcell (q := rb) (vs := zN) (by simp) 4 _ rfl
  obtain ⟨y5, g5⟩ := HPZ.out.bcell (q := rb) (vs := zN) (by simp) 5 _ rfl
  obtain ⟨y6, g6⟩ := HPZ.out.bcell (q := rb) (vs := zN) (by simp) 6 _ rfl
  obtain ⟨y7, g7⟩ := HPZ.out.bcell (q := rb) (vs := zN) (by simp) 7 _ rfl
  obtain ⟨y8, g8⟩ := HPZ.out.bcell (q := rb) (vs := zN) (by simp) 8 _ rfl
  obtain ⟨y9, g9⟩ := HPZ.out.bcell (q := rb) (vs := zN) (by simp) 9 _ rfl
  have HQ : Hid (Has B w (BlockR rb (vF 5 (i : Int) (s : Int) 0 0 0 ⟨#[]⟩ ⟨#[]⟩ 0 ⟨#[]⟩) :: RdR q S (4) :: BlockR nb (vF 5 (i : Int) (s : Int) 0 0 0 ⟨#[]⟩ ⟨#[]⟩ 0 ⟨#[]⟩) :: rs) (setAll rb 0 (vF 5 (i : Int) (s : Int) 0 0 0 ⟨#[]⟩ ⟨#[]⟩ 0 ⟨#[]⟩) (v1.setCell ⟨nb, 2, none⟩ (.int .i64 (s : Int))))) := Has.puts (vF 5 (i : Int) (s : Int) 0 0 0 ⟨#[]⟩ ⟨#[]⟩ 0 ⟨#[]⟩) [] zN HPZ.out rfl
  clear HPZ
  go_wp2_with fail
  have HC : Hid (∀ j u, (vF 5 (i : Int) (s : Int) 0 0 0 ⟨#[]⟩ ⟨#[]⟩ 0 ⟨#[]⟩)[j]? = some u → (setAll rb 0 (vF 5 (i : Int) (s : Int) 0 0 0 ⟨#[]⟩ ⟨#[]⟩ 0 ⟨#[]⟩) (v1.setCell ⟨nb, 2, none⟩ (.int .i64 (s : Int)))).cell? ⟨rb, j, none⟩ = some u) := fun j u hu => (HQ.out.bcell (q := rb) (vs := (vF 5 (i : Int) (s : Int) 0 0 0 ⟨#[]⟩ ⟨#[]⟩ 0 ⟨#[]⟩)) (by simp) j u hu).1
  refine bodyPost_ret (results_row rfl _ _ rb (vF 5 (i : Int) (s : Int) 0 0 0 ⟨#[]⟩ ⟨#[]⟩ 0 ⟨#[]⟩) _ rfl HC.out Try.underlying56 rfl (by kernel_rfl)) rfl ⟨rfl, ?_⟩
  exact (HQ.out.drop.perm (List.Perm.swap _ _ _)).drop
set_option maxHeartbeats 2000000 in
theorem noteR6 {q i s t : Nat} {S : ByteArray} (hS : S.size ≤ 4611686018427387904) (h : Has B w (RdR q S 1 :: rs) wr) (tk : PackMath.tn (S.data.toList.drop 1) = (6, 1, 0)) (lk : 1 ≤ S.size) (t0 : PackMath.tn (S.data.toList.drop (2)) = (i, 1, 0)) (l0 : 2 ≤ S.size) (t1 : PackMath.tn (S.data.toList.drop (3)) = (s, 1, 0)) (l1 : 3 ≤ S.size) (t2 : PackMath.tn (S.data.toList.drop (4)) = (t, 1, 0)) (l2 : 4 ≤ S.size) :
    Calls Try.prog 34 #[.pointer (some ⟨q, 0, none⟩)] wr fun e w' => e = .returned (.agg (vF 6 (i : Int) (s : Int) (t : Int) 0 0 ⟨#[]⟩ ⟨#[]⟩ 0 ⟨#[]⟩).toArray) ∧ Has B w (RdR q S (5) :: rs) w' := by
  have CN : Hid (∀ (a n : Nat) (rs : List Res) (wq : World), a ≤ S.size → PackMath.tn (S.data.toList.drop a) = (n, 1, 0) → Has B w (RdR q S a :: rs) wq → Calls Try.prog 37 #[.pointer (some ⟨q, 0, none⟩)] wq fun e w' => e = .returned (.int .i64 (n : Int)) ∧ Hid (Has B w (RdR q S (a + 1) :: rs) w')) := fun a n rs wq ha ht hq => numR_ok hS ha hq ht
  have H0 : Hid (Has B w (RdR q S 1 :: BlockR wr.heap.size zN :: rs) (wr.alloc (.cells #[.int .i64 0, .int .i64 0, .int .i64 0, .int .i64 0, .int .i64 0, .int .i64 0, .string ⟨#[]⟩, .string ⟨#[]⟩, .int .i64 0, .string ⟨#[]⟩] 56))) := (h.box zN 56).perm (List.Perm.swap _ _ _)
  have D1 := CN.out 1 6 _ _ lk tk H0.out
  obtain ⟨rb, hrb⟩ : ∃ rb, wr.heap.size = rb := ⟨_, rfl⟩
  clear h H0
  rw [hrb] at D1
  go_enter Try.func34, Try.ntmps34
  go_wp2_with fail
  refine D1.mono ?_
  rintro e w1 ⟨rfl, H1⟩
  clear hrb
  have HB : Hid (Has B w (RdR q S 2 :: BlockR w1.heap.size (vF 6 0 0 0 0 0 ⟨#[]⟩ ⟨#[]⟩ 0 ⟨#[]⟩) :: BlockR rb zN :: rs) (w1.alloc (.cells #[.int .i64 6, .int .i64 0, .int .i64 0, .int .i64 0, .int .i64 0, .int .i64 0, .string ⟨#[]⟩, .string ⟨#[]⟩, .int .i64 0, .string ⟨#[]⟩] 56))) := (H1.out.box (vF 6 0 0 0 0 0 ⟨#[]⟩ ⟨#[]⟩ 0 ⟨#[]⟩) 56).perm (List.Perm.swap _ _ _)
  have E0 := CN.out (2) i _ _ l0 t0 HB.out
  go_wp2_with fail
  refine E0.mono ?_
  rintro e v0 ⟨rfl, G0⟩
  generalize w1.heap.size = nb at *
  clear E0 HB H1 D1
  have G0' : Hid (Has B w (RdR q S (3) :: BlockR nb (vF 6 0 0 0 0 0 ⟨#[]⟩ ⟨#[]⟩ 0 ⟨#[]⟩) :: BlockR rb zN :: rs) v0) := G0
  clear G0
  obtain ⟨e1, f1⟩ := G0'.out.bcell (q := nb) (vs := (vF 6 0 0 0 0 0 ⟨#[]⟩ ⟨#[]⟩ 0 ⟨#[]⟩)) (by simp) 1 _ rfl
  have P0 : Hid (Has B w (RdR q S (3) :: BlockR nb (vF 6 (i : Int) 0 0 0 0 ⟨#[]⟩ ⟨#[]⟩ 0 ⟨#[]⟩) :: BlockR rb zN :: rs) (v0.setCell ⟨nb, 1, none⟩ (.int .i64 (i : Int)))) := ((G0'.out.perm (List.Perm.swap _ _ _)).put 1 (by simp [vF]) (.int .i64 (i : Int))).perm (List.Perm.swap _ _ _)
  obtain ⟨e0, _⟩ := P0.out.bcell (q := nb) (vs := (vF 6 (i : Int) 0 0 0 0 ⟨#[]⟩ ⟨#[]⟩ 0 ⟨#[]⟩)) (by simp) 0 _ rfl
  clear G0'
  have E1 := CN.out (3) s _ _ l1 t1 P0.out
  go_wp2_with fail
  refine E1.mono ?_
  rintro e v1 ⟨rfl, G1⟩
  clear E1 P0 e0 e1 f1
  have G1' : Hid (Has B w (RdR q S (4) :: BlockR nb (vF 6 (i : Int) 0 0 0 0 ⟨#[]⟩ ⟨#[]⟩ 0 ⟨#[]⟩) :: BlockR rb zN :: rs) v1) := G1
  clear G1
  obtain ⟨e1, f1⟩ := G1'.out.bcell (q := nb) (vs := (vF 6 (i : Int) 0 0 0 0 ⟨#[]⟩ ⟨#[]⟩ 0 ⟨#[]⟩)) (by simp) 2 _ rfl
  have P1 : Hid (Has B w (RdR q S (4) :: BlockR nb (vF 6 (i : Int) (s : Int) 0 0 0 ⟨#[]⟩ ⟨#[]⟩ 0 ⟨#[]⟩) :: BlockR rb zN :: rs) (v1.setCell ⟨nb, 2, none⟩ (.int .i64 (s : Int)))) := ((G1'.out.perm (List.Perm.swap _ _ _)).put 2 (by simp [vF]) (.int .i64 (s : Int))).perm (List.Perm.swap _ _ _)
  obtain ⟨e0, _⟩ := P1.out.bcell (q := nb) (vs := (vF 6 (i : Int) (s : Int) 0 0 0 ⟨#[]⟩ ⟨#[]⟩ 0 ⟨#[]⟩)) (by simp) 0 _ rfl
  clear G1'
  have E2 := CN.out (4) t _ _ l2 t2 P1.out
  go_wp2_with fail
  refine E2.mono ?_
  rintro e v2 ⟨rfl, G2⟩
  clear E2 P1 e0 e1 f1
  have G2' : Hid (Has B w (RdR q S (5) :: BlockR nb (vF 6 (i : Int) (s : Int) 0 0 0 ⟨#[]⟩ ⟨#[]⟩ 0 ⟨#[]⟩) :: BlockR rb zN :: rs) v2) := G2
  clear G2
  obtain ⟨e1, f1⟩ := G2'.out.bcell (q := nb) (vs := (vF 6 (i : Int) (s : Int) 0 0 0 ⟨#[]⟩ ⟨#[]⟩ 0 ⟨#[]⟩)) (by simp) 3 _ rfl
  have P2 : Hid (Has B w (RdR q S (5) :: BlockR nb (vF 6 (i : Int) (s : Int) (t : Int) 0 0 ⟨#[]⟩ ⟨#[]⟩ 0 ⟨#[]⟩) :: BlockR rb zN :: rs) (v2.setCell ⟨nb, 3, none⟩ (.int .i64 (t : Int)))) := ((G2'.out.perm (List.Perm.swap _ _ _)).put 3 (by simp [vF]) (.int .i64 (t : Int))).perm (List.Perm.swap _ _ _)
  obtain ⟨e0, _⟩ := P2.out.bcell (q := nb) (vs := (vF 6 (i : Int) (s : Int) (t : Int) 0 0 ⟨#[]⟩ ⟨#[]⟩ 0 ⟨#[]⟩)) (by simp) 0 _ rfl
  clear G2'
  have HPZ : Hid (Has B w (BlockR rb zN :: RdR q S (5) :: BlockR nb (vF 6 (i : Int) (s : Int) (t : Int) 0 0 ⟨#[]⟩ ⟨#[]⟩ 0 ⟨#[]⟩) :: rs) (v2.setCell ⟨nb, 3, none⟩ (.int .i64 (t : Int)))) := P2.out.perm (List.perm_middle (l₁ := [_, _]) (l₂ := rs))
  clear P2 CN
  obtain ⟨x1, _⟩ := HPZ.out.bcell (q := nb) (vs := (vF 6 (i : Int) (s : Int) (t : Int) 0 0 ⟨#[]⟩ ⟨#[]⟩ 0 ⟨#[]⟩)) (by simp) 1 _ rfl
  obtain ⟨x2, _⟩ := HPZ.out.bcell (q := nb) (vs := (vF 6 (i : Int) (s : Int) (t : Int) 0 0 ⟨#[]⟩ ⟨#[]⟩ 0 ⟨#[]⟩)) (by simp) 2 _ rfl
  obtain ⟨x3, _⟩ := HPZ.out.bcell (q := nb) (vs := (vF 6 (i : Int) (s : Int) (t : Int) 0 0 ⟨#[]⟩ ⟨#[]⟩ 0 ⟨#[]⟩)) (by simp) 3 _ rfl
  obtain ⟨x4, _⟩ := HPZ.out.bcell (q := nb) (vs := (vF 6 (i : Int) (s : Int) (t : Int) 0 0 ⟨#[]⟩ ⟨#[]⟩ 0 ⟨#[]⟩)) (by simp) 4 _ rfl
  obtain ⟨x5, _⟩ := HPZ.out.bcell (q := nb) (vs := (vF 6 (i : Int) (s : Int) (t : Int) 0 0 ⟨#[]⟩ ⟨#[]⟩ 0 ⟨#[]⟩)) (by simp) 5 _ rfl
  obtain ⟨x6, _⟩ := HPZ.out.bcell (q := nb) (vs := (vF 6 (i : Int) (s : Int) (t : Int) 0 0 ⟨#[]⟩ ⟨#[]⟩ 0 ⟨#[]⟩)) (by simp) 6 _ rfl
  obtain ⟨x7, _⟩ := HPZ.out.bcell (q := nb) (vs := (vF 6 (i : Int) (s : Int) (t : Int) 0 0 ⟨#[]⟩ ⟨#[]⟩ 0 ⟨#[]⟩)) (by simp) 7 _ rfl
  obtain ⟨x8, _⟩ := HPZ.out.bcell (q := nb) (vs := (vF 6 (i : Int) (s : Int) (t : Int) 0 0 ⟨#[]⟩ ⟨#[]⟩ 0 ⟨#[]⟩)) (by simp) 8 _ rfl
  obtain ⟨x9, _⟩ := HPZ.out.bcell (q := nb) (vs := (vF 6 (i : Int) (s : Int) (t : Int) 0 0 ⟨#[]⟩ ⟨#[]⟩ 0 ⟨#[]⟩)) (by simp) 9 _ rfl
  obtain ⟨y0, g0⟩ := HPZ.out.bcell (q := rb) (vs := zN) (by simp) 0 _ rfl
  obtain ⟨y1, g1⟩ := HPZ.out.bcell (q := rb) (vs := zN) (by simp) 1 _ rfl
  obtain ⟨y2, g2⟩ := HPZ.out.bcell (q := rb) (vs := zN) (by simp) 2 _ rfl
  obtain ⟨y3, g3⟩ := HPZ.out.bcell (q := rb) (vs := zN) (by simp) 3 _ rfl
  obtain ⟨y4, g4⟩ := HPZ.out.bcell (q := rb) (vs := zN) (by simp) 4 _ rfl
  obtain ⟨y5, g5⟩ := HPZ.out.bcell (q := rb) (vs := zN) (by simp) 5 _ rfl
  obtain ⟨y6, g6⟩ := HPZ.out.bcell (q := rb) (vs := zN) (by simp) 6 _ rfl
  obtain ⟨y7, g7⟩ := HPZ.out.bcell (q := rb) (vs := zN) (by simp) 7 _ rfl
  obtain ⟨y8, g8⟩ := HPZ.out.bcell (q := rb) (vs := zN) (by simp) 8 _ rfl
  obtain ⟨y9, g9⟩ := HPZ.out.bcell (q := rb) (vs := zN) (by simp) 9 _ rfl
  have HQ : Hid (Has B w (BlockR rb (vF 6 (i : Int) (s : Int) (t : Int) 0 0 ⟨#[]⟩ ⟨#[]⟩ 0 ⟨#[]⟩) :: RdR q S (5) :: BlockR nb (vF 6 (i : Int) (s : Int) (t : Int) 0 0 ⟨#[]⟩ ⟨#[]⟩ 0 ⟨#[]⟩) :: rs) (setAll rb 0 (vF 6 (i : Int) (s : Int) (t : Int) 0 0 ⟨#[]⟩ ⟨#[]⟩ 0 ⟨#[]⟩) (v2.setCell ⟨nb, 3, none⟩ (.int .i64 (t : Int))))) := Has.puts (vF 6 (i : Int) (s : Int) (t : Int) 0 0 ⟨#[]⟩ ⟨#[]⟩ 0 ⟨#[]⟩) [] zN HPZ.out rfl
  clear HPZ
  go_wp2_with fail
  have HC : Hid (∀ j u, (vF 6 (i : Int) (s : Int) (t : Int) 0 0 ⟨#[]⟩ ⟨#[]⟩ 0 ⟨#[]⟩)[j]? = some u → (setAll rb 0 (vF 6 (i : Int) (s : Int) (t : Int) 0 0 ⟨#[]⟩ ⟨#[]⟩ 0 ⟨#[]⟩) (v2.setCell ⟨nb, 3, none⟩ (.int .i64 (t : Int)))).cell? ⟨rb, j, none⟩ = some u) := fun j u hu => (HQ.out.bcell (q := rb) (vs := (vF 6 (i : Int) (s : Int) (t : Int) 0 0 ⟨#[]⟩ ⟨#[]⟩ 0 ⟨#[]⟩)) (by simp) j u hu).1
  refine bodyPost_ret (results_row rfl _ _ rb (vF 6 (i : Int) (s : Int) (t : Int) 0 0 ⟨#[]⟩ ⟨#[]⟩ 0 ⟨#[]⟩) _ rfl HC.out Try.underlying56 rfl (by kernel_rfl)) rfl ⟨rfl, ?_⟩
  exact (HQ.out.drop.perm (List.Perm.swap _ _ _)).drop
set_option maxHeartbeats 2000000 in
theorem noteR7 {q i : Nat} {S : ByteArray} (hS : S.size ≤ 4611686018427387904) (h : Has B w (RdR q S 1 :: rs) wr) (tk : PackMath.tn (S.data.toList.drop 1) = (7, 1, 0)) (lk : 1 ≤ S.size) (t0 : PackMath.tn (S.data.toList.drop (2)) = (i, 1, 0)) (l0 : 2 ≤ S.size) :
    Calls Try.prog 34 #[.pointer (some ⟨q, 0, none⟩)] wr fun e w' => e = .returned (.agg (vF 7 (i : Int) 0 0 0 0 ⟨#[]⟩ ⟨#[]⟩ 0 ⟨#[]⟩).toArray) ∧ Has B w (RdR q S (3) :: rs) w' := by
  have CN : Hid (∀ (a n : Nat) (rs : List Res) (wq : World), a ≤ S.size → PackMath.tn (S.data.toList.drop a) = (n, 1, 0) → Has B w (RdR q S a :: rs) wq → Calls Try.prog 37 #[.pointer (some ⟨q, 0, none⟩)] wq fun e w' => e = .returned (.int .i64 (n : Int)) ∧ Hid (Has B w (RdR q S (a + 1) :: rs) w')) := fun a n rs wq ha ht hq => numR_ok hS ha hq ht
  have H0 : Hid (Has B w (RdR q S 1 :: BlockR wr.heap.size zN :: rs) (wr.alloc (.cells #[.int .i64 0, .int .i64 0, .int .i64 0, .int .i64 0, .int .i64 0, .int .i64 0, .string ⟨#[]⟩, .string ⟨#[]⟩, .int .i64 0, .string ⟨#[]⟩] 56))) := (h.box zN 56).perm (List.Perm.swap _ _ _)
  have D1 := CN.out 1 7 _ _ lk tk H0.out
  obtain ⟨rb, hrb⟩ : ∃ rb, wr.heap.size = rb := ⟨_, rfl⟩
  clear h H0
  rw [hrb] at D1
  go_enter Try.func34, Try.ntmps34
  go_wp2_with fail
  refine D1.mono ?_
  rintro e w1 ⟨rfl, H1⟩
  clear hrb
  have HB : Hid (Has B w (RdR q S 2 :: BlockR w1.heap.size (vF 7 0 0 0 0 0 ⟨#[]⟩ ⟨#[]⟩ 0 ⟨#[]⟩) :: BlockR rb zN :: rs) (w1.alloc (.cells #[.int .i64 7, .int .i64 0, .int .i64 0, .int .i64 0, .int .i64 0, .int .i64 0, .string ⟨#[]⟩, .string ⟨#[]⟩, .int .i64 0, .string ⟨#[]⟩] 56))) := (H1.out.box (vF 7 0 0 0 0 0 ⟨#[]⟩ ⟨#[]⟩ 0 ⟨#[]⟩) 56).perm (List.Perm.swap _ _ _)
  have E0 := CN.out (2) i _ _ l0 t0 HB.out
  go_wp2_with fail
  refine E0.mono ?_
  rintro e v0 ⟨rfl, G0⟩
  generalize w1.heap.size = nb at *
  clear E0 HB H1 D1
  have G0' : Hid (Has B w (RdR q S (3) :: BlockR nb (vF 7 0 0 0 0 0 ⟨#[]⟩ ⟨#[]⟩ 0 ⟨#[]⟩) :: BlockR rb zN :: rs) v0) := G0
  clear G0
  obtain ⟨e1, f1⟩ := G0'.out.bcell (q := nb) (vs := (vF 7 0 0 0 0 0 ⟨#[]⟩ ⟨#[]⟩ 0 ⟨#[]⟩)) (by simp) 1 _ rfl
  have P0 : Hid (Has B w (RdR q S (3) :: BlockR nb (vF 7 (i : Int) 0 0 0 0 ⟨#[]⟩ ⟨#[]⟩ 0 ⟨#[]⟩) :: BlockR rb zN :: rs) (v0.setCell ⟨nb, 1, none⟩ (.int .i64 (i : Int)))) := ((G0'.out.perm (List.Perm.swap _ _ _)).put 1 (by simp [vF]) (.int .i64 (i : Int))).perm (List.Perm.swap _ _ _)
  obtain ⟨e0, _⟩ := P0.out.bcell (q := nb) (vs := (vF 7 (i : Int) 0 0 0 0 ⟨#[]⟩ ⟨#[]⟩ 0 ⟨#[]⟩)) (by simp) 0 _ rfl
  clear G0'
  have HPZ : Hid (Has B w (BlockR rb zN :: RdR q S (3) :: BlockR nb (vF 7 (i : Int) 0 0 0 0 ⟨#[]⟩ ⟨#[]⟩ 0 ⟨#[]⟩) :: rs) (v0.setCell ⟨nb, 1, none⟩ (.int .i64 (i : Int)))) := P0.out.perm (List.perm_middle (l₁ := [_, _]) (l₂ := rs))
  clear P0 CN
  obtain ⟨x1, _⟩ := HPZ.out.bcell (q := nb) (vs := (vF 7 (i : Int) 0 0 0 0 ⟨#[]⟩ ⟨#[]⟩ 0 ⟨#[]⟩)) (by simp) 1 _ rfl
  obtain ⟨x2, _⟩ := HPZ.out.bcell (q := nb) (vs := (vF 7 (i : Int) 0 0 0 0 ⟨#[]⟩ ⟨#[]⟩ 0 ⟨#[]⟩)) (by simp) 2 _ rfl
  obtain ⟨x3, _⟩ := HPZ.out.bcell (q := nb) (vs := (vF 7 (i : Int) 0 0 0 0 ⟨#[]⟩ ⟨#[]⟩ 0 ⟨#[]⟩)) (by simp) 3 _ rfl
  obtain ⟨x4, _⟩ := HPZ.out.bcell (q := nb) (vs := (vF 7 (i : Int) 0 0 0 0 ⟨#[]⟩ ⟨#[]⟩ 0 ⟨#[]⟩)) (by simp) 4 _ rfl
  obtain ⟨x5, _⟩ := HPZ.out.bcell (q := nb) (vs := (vF 7 (i : Int) 0 0 0 0 ⟨#[]⟩ ⟨#[]⟩ 0 ⟨#[]⟩)) (by simp) 5 _ rfl
  obtain ⟨x6, _⟩ := HPZ.out.bcell (q := nb) (vs := (vF 7 (i : Int) 0 0 0 0 ⟨#[]⟩ ⟨#[]⟩ 0 ⟨#[]⟩)) (by simp) 6 _ rfl
  obtain ⟨x7, _⟩ := HPZ.out.bcell (q := nb) (vs := (vF 7 (i : Int) 0 0 0 0 ⟨#[]⟩ ⟨#[]⟩ 0 ⟨#[]⟩)) (by simp) 7 _ rfl
  obtain ⟨x8, _⟩ := HPZ.out.bcell (q := nb) (vs := (vF 7 (i : Int) 0 0 0 0 ⟨#[]⟩ ⟨#[]⟩ 0 ⟨#[]⟩)) (by simp) 8 _ rfl
  obtain ⟨x9, _⟩ := HPZ.out.bcell (q := nb) (vs := (vF 7 (i : Int) 0 0 0 0 ⟨#[]⟩ ⟨#[]⟩ 0 ⟨#[]⟩)) (by simp) 9 _ rfl
  obtain ⟨y0, g0⟩ := HPZ.out.bcell (q := rb) (vs := zN) (by simp) 0 _ rfl
  obtain ⟨y1, g1⟩ := HPZ.out.bcell (q := rb) (vs := zN) (by simp) 1 _ rfl
  obtain ⟨y2, g2⟩ := HPZ.out.bcell (q := rb) (vs := zN) (by simp) 2 _ rfl
  obtain ⟨y3, g3⟩ := HPZ.out.bcell (q := rb) (vs := zN) (by simp) 3 _ rfl
  obtain ⟨y4, g4⟩ := HPZ.out.bcell (q := rb) (vs := zN) (by simp) 4 _ rfl
  obtain ⟨y5, g5⟩ := HPZ.out.bcell (q := rb) (vs := zN) (by simp) 5 _ rfl
  obtain ⟨y6, g6⟩ := HPZ.out.bcell (q := rb) (vs := zN) (by simp) 6 _ rfl
  obtain ⟨y7, g7⟩ := HPZ.out.bcell (q := rb) (vs := zN) (by simp) 7 _ rfl
  obtain ⟨y8, g8⟩ := HPZ.out.bcell (q := rb) (vs := zN) (by simp) 8 _ rfl
  obtain ⟨y9, g9⟩ := HPZ.out.bcell (q := rb) (vs := zN) (by simp) 9 _ rfl
  have HQ : Hid (Has B w (BlockR rb (vF 7 (i : Int) 0 0 0 0 ⟨#[]⟩ ⟨#[]⟩ 0 ⟨#[]⟩) :: RdR q S (3) :: BlockR nb (vF 7 (i : Int) 0 0 0 0 ⟨#[]⟩ ⟨#[]⟩ 0 ⟨#[]⟩) :: rs) (setAll rb 0 (vF 7 (i : Int) 0 0 0 0 ⟨#[]⟩ ⟨#[]⟩ 0 ⟨#[]⟩) (v0.setCell ⟨nb, 1, none⟩ (.int .i64 (i : Int))))) := Has.puts (vF 7 (i : Int) 0 0 0 0 ⟨#[]⟩ ⟨#[]⟩ 0 ⟨#[]⟩) [] zN HPZ.out rfl
  clear HPZ
  go_wp2_with fail
  have HC : Hid (∀ j u, (vF 7 (i : Int) 0 0 0 0 ⟨#[]⟩ ⟨#[]⟩ 0 ⟨#[]⟩)[j]? = some u → (setAll rb 0 (vF 7 (i : Int) 0 0 0 0 ⟨#[]⟩ ⟨#[]⟩ 0 ⟨#[]⟩) (v0.setCell ⟨nb, 1, none⟩ (.int .i64 (i : Int)))).cell? ⟨rb, j, none⟩ = some u) := fun j u hu => (HQ.out.bcell (q := rb) (vs := (vF 7 (i : Int) 0 0 0 0 ⟨#[]⟩ ⟨#[]⟩ 0 ⟨#[]⟩)) (by simp) j u hu).1
  refine bodyPost_ret (results_row rfl _ _ rb (vF 7 (i : Int) 0 0 0 0 ⟨#[]⟩ ⟨#[]⟩ 0 ⟨#[]⟩) _ rfl HC.out Try.underlying56 rfl (by kernel_rfl)) rfl ⟨rfl, ?_⟩
  exact (HQ.out.drop.perm (List.Perm.swap _ _ _)).drop
set_option maxHeartbeats 2000000 in
theorem noteR8 {q i p : Nat} {S : ByteArray} (hS : S.size ≤ 4611686018427387904) (h : Has B w (RdR q S 1 :: rs) wr) (tk : PackMath.tn (S.data.toList.drop 1) = (8, 1, 0)) (lk : 1 ≤ S.size) (t0 : PackMath.tn (S.data.toList.drop (2)) = (i, 1, 0)) (l0 : 2 ≤ S.size) (t1 : PackMath.tn (S.data.toList.drop (3)) = (p, 1, 0)) (l1 : 3 ≤ S.size) :
    Calls Try.prog 34 #[.pointer (some ⟨q, 0, none⟩)] wr fun e w' => e = .returned (.agg (vF 8 (i : Int) 0 0 (p : Int) 0 ⟨#[]⟩ ⟨#[]⟩ 0 ⟨#[]⟩).toArray) ∧ Has B w (RdR q S (4) :: rs) w' := by
  have CN : Hid (∀ (a n : Nat) (rs : List Res) (wq : World), a ≤ S.size → PackMath.tn (S.data.toList.drop a) = (n, 1, 0) → Has B w (RdR q S a :: rs) wq → Calls Try.prog 37 #[.pointer (some ⟨q, 0, none⟩)] wq fun e w' => e = .returned (.int .i64 (n : Int)) ∧ Hid (Has B w (RdR q S (a + 1) :: rs) w')) := fun a n rs wq ha ht hq => numR_ok hS ha hq ht
  have H0 : Hid (Has B w (RdR q S 1 :: BlockR wr.heap.size zN :: rs) (wr.alloc (.cells #[.int .i64 0, .int .i64 0, .int .i64 0, .int .i64 0, .int .i64 0, .int .i64 0, .string ⟨#[]⟩, .string ⟨#[]⟩, .int .i64 0, .string ⟨#[]⟩] 56))) := (h.box zN 56).perm (List.Perm.swap _ _ _)
  have D1 := CN.out 1 8 _ _ lk tk H0.out
  obtain ⟨rb, hrb⟩ : ∃ rb, wr.heap.size = rb := ⟨_, rfl⟩
  clear h H0
  rw [hrb] at D1
  go_enter Try.func34, Try.ntmps34
  go_wp2_with fail
  refine D1.mono ?_
  rintro e w1 ⟨rfl, H1⟩
  clear hrb
  have HB : Hid (Has B w (RdR q S 2 :: BlockR w1.heap.size (vF 8 0 0 0 0 0 ⟨#[]⟩ ⟨#[]⟩ 0 ⟨#[]⟩) :: BlockR rb zN :: rs) (w1.alloc (.cells #[.int .i64 8, .int .i64 0, .int .i64 0, .int .i64 0, .int .i64 0, .int .i64 0, .string ⟨#[]⟩, .string ⟨#[]⟩, .int .i64 0, .string ⟨#[]⟩] 56))) := (H1.out.box (vF 8 0 0 0 0 0 ⟨#[]⟩ ⟨#[]⟩ 0 ⟨#[]⟩) 56).perm (List.Perm.swap _ _ _)
  have E0 := CN.out (2) i _ _ l0 t0 HB.out
  go_wp2_with fail
  refine E0.mono ?_
  rintro e v0 ⟨rfl, G0⟩
  generalize w1.heap.size = nb at *
  clear E0 HB H1 D1
  have G0' : Hid (Has B w (RdR q S (3) :: BlockR nb (vF 8 0 0 0 0 0 ⟨#[]⟩ ⟨#[]⟩ 0 ⟨#[]⟩) :: BlockR rb zN :: rs) v0) := G0
  clear G0
  obtain ⟨e1, f1⟩ := G0'.out.bcell (q := nb) (vs := (vF 8 0 0 0 0 0 ⟨#[]⟩ ⟨#[]⟩ 0 ⟨#[]⟩)) (by simp) 1 _ rfl
  have P0 : Hid (Has B w (RdR q S (3) :: BlockR nb (vF 8 (i : Int) 0 0 0 0 ⟨#[]⟩ ⟨#[]⟩ 0 ⟨#[]⟩) :: BlockR rb zN :: rs) (v0.setCell ⟨nb, 1, none⟩ (.int .i64 (i : Int)))) := ((G0'.out.perm (List.Perm.swap _ _ _)).put 1 (by simp [vF]) (.int .i64 (i : Int))).perm (List.Perm.swap _ _ _)
  obtain ⟨e0, _⟩ := P0.out.bcell (q := nb) (vs := (vF 8 (i : Int) 0 0 0 0 ⟨#[]⟩ ⟨#[]⟩ 0 ⟨#[]⟩)) (by simp) 0 _ rfl
  clear G0'
  have E1 := CN.out (3) p _ _ l1 t1 P0.out
  go_wp2_with fail
  refine E1.mono ?_
  rintro e v1 ⟨rfl, G1⟩
  clear E1 P0 e0 e1 f1
  have G1' : Hid (Has B w (RdR q S (4) :: BlockR nb (vF 8 (i : Int) 0 0 0 0 ⟨#[]⟩ ⟨#[]⟩ 0 ⟨#[]⟩) :: BlockR rb zN :: rs) v1) := G1
  clear G1
  obtain ⟨e1, f1⟩ := G1'.out.bcell (q := nb) (vs := (vF 8 (i : Int) 0 0 0 0 ⟨#[]⟩ ⟨#[]⟩ 0 ⟨#[]⟩)) (by simp) 4 _ rfl
  have P1 : Hid (Has B w (RdR q S (4) :: BlockR nb (vF 8 (i : Int) 0 0 (p : Int) 0 ⟨#[]⟩ ⟨#[]⟩ 0 ⟨#[]⟩) :: BlockR rb zN :: rs) (v1.setCell ⟨nb, 4, none⟩ (.int .i64 (p : Int)))) := ((G1'.out.perm (List.Perm.swap _ _ _)).put 4 (by simp [vF]) (.int .i64 (p : Int))).perm (List.Perm.swap _ _ _)
  obtain ⟨e0, _⟩ := P1.out.bcell (q := nb) (vs := (vF 8 (i : Int) 0 0 (p : Int) 0 ⟨#[]⟩ ⟨#[]⟩ 0 ⟨#[]⟩)) (by simp) 0 _ rfl
  clear G1'
  have HPZ : Hid (Has B w (BlockR rb zN :: RdR q S (4) :: BlockR nb (vF 8 (i : Int) 0 0 (p : Int) 0 ⟨#[]⟩ ⟨#[]⟩ 0 ⟨#[]⟩) :: rs) (v1.setCell ⟨nb, 4, none⟩ (.int .i64 (p : Int)))) := P1.out.perm (List.perm_middle (l₁ := [_, _]) (l₂ := rs))
  clear P1 CN
  obtain ⟨x1, _⟩ := HPZ.out.bcell (q := nb) (vs := (vF 8 (i : Int) 0 0 (p : Int) 0 ⟨#[]⟩ ⟨#[]⟩ 0 ⟨#[]⟩)) (by simp) 1 _ rfl
  obtain ⟨x2, _⟩ := HPZ.out.bcell (q := nb) (vs := (vF 8 (i : Int) 0 0 (p : Int) 0 ⟨#[]⟩ ⟨#[]⟩ 0 ⟨#[]⟩)) (by simp) 2 _ rfl
  obtain ⟨x3, _⟩ := HPZ.out.bcell (q := nb) (vs := (vF 8 (i : Int) 0 0 (p : Int) 0 ⟨#[]⟩ ⟨#[]⟩ 0 ⟨#[]⟩)) (by simp) 3 _ rfl
  obtain ⟨x4, _⟩ := HPZ.out.bcell (q := nb) (vs := (vF 8 (i : Int) 0 0 (p : Int) 0 ⟨#[]⟩ ⟨#[]⟩ 0 ⟨#[]⟩)) (by simp) 4 _ rfl
  obtain ⟨x5, _⟩ := HPZ.out.bcell (q := nb) (vs := (vF 8 (i : Int) 0 0 (p : Int) 0 ⟨#[]⟩ ⟨#[]⟩ 0 ⟨#[]⟩)) (by simp) 5 _ rfl
  obtain ⟨x6, _⟩ := HPZ.out.bcell (q := nb) (vs := (vF 8 (i : Int) 0 0 (p : Int) 0 ⟨#[]⟩ ⟨#[]⟩ 0 ⟨#[]⟩)) (by simp) 6 _ rfl
  obtain ⟨x7, _⟩ := HPZ.out.bcell (q := nb) (vs := (vF 8 (i : Int) 0 0 (p : Int) 0 ⟨#[]⟩ ⟨#[]⟩ 0 ⟨#[]⟩)) (by simp) 7 _ rfl
  obtain ⟨x8, _⟩ := HPZ.out.bcell (q := nb) (vs := (vF 8 (i : Int) 0 0 (p : Int) 0 ⟨#[]⟩ ⟨#[]⟩ 0 ⟨#[]⟩)) (by simp) 8 _ rfl
  obtain ⟨x9, _⟩ := HPZ.out.bcell (q := nb) (vs := (vF 8 (i : Int) 0 0 (p : Int) 0 ⟨#[]⟩ ⟨#[]⟩ 0 ⟨#[]⟩)) (by simp) 9 _ rfl
  obtain ⟨y0, g0⟩ := HPZ.out.bcell (q := rb) (vs := zN) (by simp) 0 _ rfl
  obtain ⟨y1, g1⟩ := HPZ.out.bcell (q := rb) (vs := zN) (by simp) 1 _ rfl
  obtain ⟨y2, g2⟩ := HPZ.out.bcell (q := rb) (vs := zN) (by simp) 2 _ rfl
  obtain ⟨y3, g3⟩ := HPZ.out.bcell (q := rb) (vs := zN) (by simp) 3 _ rfl
  obtain ⟨y4, g4⟩ := HPZ.out.bcell (q := rb) (vs := zN) (by simp) 4 _ rfl
  obtain ⟨y5, g5⟩ := HPZ.out.bcell (q := rb) (vs := zN) (by simp) 5 _ rfl
  obtain ⟨y6, g6⟩ := HPZ.out.bcell (q := rb) (vs := zN) (by simp) 6 _ rfl
  obtain ⟨y7, g7⟩ := HPZ.out.bcell (q := rb) (vs := zN) (by simp) 7 _ rfl
  obtain ⟨y8, g8⟩ := HPZ.out.bcell (q := rb) (vs := zN) (by simp) 8 _ rfl
  obtain ⟨y9, g9⟩ := HPZ.out.bcell (q := rb) (vs := zN) (by simp) 9 _ rfl
  have HQ : Hid (Has B w (BlockR rb (vF 8 (i : Int) 0 0 (p : Int) 0 ⟨#[]⟩ ⟨#[]⟩ 0 ⟨#[]⟩) :: RdR q S (4) :: BlockR nb (vF 8 (i : Int) 0 0 (p : Int) 0 ⟨#[]⟩ ⟨#[]⟩ 0 ⟨#[]⟩) :: rs) (setAll rb 0 (vF 8 (i : Int) 0 0 (p : Int) 0 ⟨#[]⟩ ⟨#[]⟩ 0 ⟨#[]⟩) (v1.setCell ⟨nb, 4, none⟩ (.int .i64 (p : Int))))) := Has.puts (vF 8 (i : Int) 0 0 (p : Int) 0 ⟨#[]⟩ ⟨#[]⟩ 0 ⟨#[]⟩) [] zN HPZ.out rfl
  clear HPZ
  go_wp2_with fail
  have HC : Hid (∀ j u, (vF 8 (i : Int) 0 0 (p : Int) 0 ⟨#[]⟩ ⟨#[]⟩ 0 ⟨#[]⟩)[j]? = some u → (setAll rb 0 (vF 8 (i : Int) 0 0 (p : Int) 0 ⟨#[]⟩ ⟨#[]⟩ 0 ⟨#[]⟩) (v1.setCell ⟨nb, 4, none⟩ (.int .i64 (p : Int)))).cell? ⟨rb, j, none⟩ = some u) := fun j u hu => (HQ.out.bcell (q := rb) (vs := (vF 8 (i : Int) 0 0 (p : Int) 0 ⟨#[]⟩ ⟨#[]⟩ 0 ⟨#[]⟩)) (by simp) j u hu).1
  refine bodyPost_ret (results_row rfl _ _ rb (vF 8 (i : Int) 0 0 (p : Int) 0 ⟨#[]⟩ ⟨#[]⟩ 0 ⟨#[]⟩) _ rfl HC.out Try.underlying56 rfl (by kernel_rfl)) rfl ⟨rfl, ?_⟩
  exact (HQ.out.drop.perm (List.Perm.swap _ _ _)).drop
set_option maxHeartbeats 2000000 in
theorem noteR9 {q i t c : Nat} {S : ByteArray} (hS : S.size ≤ 4611686018427387904) (h : Has B w (RdR q S 1 :: rs) wr) (tk : PackMath.tn (S.data.toList.drop 1) = (9, 1, 0)) (lk : 1 ≤ S.size) (t0 : PackMath.tn (S.data.toList.drop (2)) = (i, 1, 0)) (l0 : 2 ≤ S.size) (t1 : PackMath.tn (S.data.toList.drop (3)) = (t, 1, 0)) (l1 : 3 ≤ S.size) (t2 : PackMath.tn (S.data.toList.drop (4)) = (c, 1, 0)) (l2 : 4 ≤ S.size) :
    Calls Try.prog 34 #[.pointer (some ⟨q, 0, none⟩)] wr fun e w' => e = .returned (.agg (vF 9 (i : Int) 0 (t : Int) 0 (c : Int) ⟨#[]⟩ ⟨#[]⟩ 0 ⟨#[]⟩).toArray) ∧ Has B w (RdR q S (5) :: rs) w' := by
  have CN : Hid (∀ (a n : Nat) (rs : List Res) (wq : World), a ≤ S.size → PackMath.tn (S.data.toList.drop a) = (n, 1, 0) → Has B w (RdR q S a :: rs) wq → Calls Try.prog 37 #[.pointer (some ⟨q, 0, none⟩)] wq fun e w' => e = .returned (.int .i64 (n : Int)) ∧ Hid (Has B w (RdR q S (a + 1) :: rs) w')) := fun a n rs wq ha ht hq => numR_ok hS ha hq ht
  have H0 : Hid (Has B w (RdR q S 1 :: BlockR wr.heap.size zN :: rs) (wr.alloc (.cells #[.int .i64 0, .int .i64 0, .int .i64 0, .int .i64 0, .int .i64 0, .int .i64 0, .string ⟨#[]⟩, .string ⟨#[]⟩, .int .i64 0, .string ⟨#[]⟩] 56))) := (h.box zN 56).perm (List.Perm.swap _ _ _)
  have D1 := CN.out 1 9 _ _ lk tk H0.out
  obtain ⟨rb, hrb⟩ : ∃ rb, wr.heap.size = rb := ⟨_, rfl⟩
  clear h H0
  rw [hrb] at D1
  go_enter Try.func34, Try.ntmps34
  go_wp2_with fail
  refine D1.mono ?_
  rintro e w1 ⟨rfl, H1⟩
  clear hrb
  have HB : Hid (Has B w (RdR q S 2 :: BlockR w1.heap.size (vF 9 0 0 0 0 0 ⟨#[]⟩ ⟨#[]⟩ 0 ⟨#[]⟩) :: BlockR rb zN :: rs) (w1.alloc (.cells #[.int .i64 9, .int .i64 0, .int .i64 0, .int .i64 0, .int .i64 0, .int .i64 0, .string ⟨#[]⟩, .string ⟨#[]⟩, .int .i64 0, .string ⟨#[]⟩] 56))) := (H1.out.box (vF 9 0 0 0 0 0 ⟨#[]⟩ ⟨#[]⟩ 0 ⟨#[]⟩) 56).perm (List.Perm.swap _ _ _)
  have E0 := CN.out (2) i _ _ l0 t0 HB.out
  go_wp2_with fail
  refine E0.mono ?_
  rintro e v0 ⟨rfl, G0⟩
  generalize w1.heap.size = nb at *
  clear E0 HB H1 D1
  have G0' : Hid (Has B w (RdR q S (3) :: BlockR nb (vF 9 0 0 0 0 0 ⟨#[]⟩ ⟨#[]⟩ 0 ⟨#[]⟩) :: BlockR rb zN :: rs) v0) := G0
  clear G0
  obtain ⟨e1, f1⟩ := G0'.out.bcell (q := nb) (vs := (vF 9 0 0 0 0 0 ⟨#[]⟩ ⟨#[]⟩ 0 ⟨#[]⟩)) (by simp) 1 _ rfl
  have P0 : Hid (Has B w (RdR q S (3) :: BlockR nb (vF 9 (i : Int) 0 0 0 0 ⟨#[]⟩ ⟨#[]⟩ 0 ⟨#[]⟩) :: BlockR rb zN :: rs) (v0.setCell ⟨nb, 1, none⟩ (.int .i64 (i : Int)))) := ((G0'.out.perm (List.Perm.swap _ _ _)).put 1 (by simp [vF]) (.int .i64 (i : Int))).perm (List.Perm.swap _ _ _)
  obtain ⟨e0, _⟩ := P0.out.bcell (q := nb) (vs := (vF 9 (i : Int) 0 0 0 0 ⟨#[]⟩ ⟨#[]⟩ 0 ⟨#[]⟩)) (by simp) 0 _ rfl
  clear G0'
  have E1 := CN.out (3) t _ _ l1 t1 P0.out
  go_wp2_with fail
  refine E1.mono ?_
  rintro e v1 ⟨rfl, G1⟩
  clear E1 P0 e0 e1 f1
  have G1' : Hid (Has B w (RdR q S (4) :: BlockR nb (vF 9 (i : Int) 0 0 0 0 ⟨#[]⟩ ⟨#[]⟩ 0 ⟨#[]⟩) :: BlockR rb zN :: rs) v1) := G1
  clear G1
  obtain ⟨e1, f1⟩ := G1'.out.bcell (q := nb) (vs := (vF 9 (i : Int) 0 0 0 0 ⟨#[]⟩ ⟨#[]⟩ 0 ⟨#[]⟩)) (by simp) 3 _ rfl
  have P1 : Hid (Has B w (RdR q S (4) :: BlockR nb (vF 9 (i : Int) 0 (t : Int) 0 0 ⟨#[]⟩ ⟨#[]⟩ 0 ⟨#[]⟩) :: BlockR rb zN :: rs) (v1.setCell ⟨nb, 3, none⟩ (.int .i64 (t : Int)))) := ((G1'.out.perm (List.Perm.swap _ _ _)).put 3 (by simp [vF]) (.int .i64 (t : Int))).perm (List.Perm.swap _ _ _)
  obtain ⟨e0, _⟩ := P1.out.bcell (q := nb) (vs := (vF 9 (i : Int) 0 (t : Int) 0 0 ⟨#[]⟩ ⟨#[]⟩ 0 ⟨#[]⟩)) (by simp) 0 _ rfl
  clear G1'
  have E2 := CN.out (4) c _ _ l2 t2 P1.out
  go_wp2_with fail
  refine E2.mono ?_
  rintro e v2 ⟨rfl, G2⟩
  clear E2 P1 e0 e1 f1
  have G2' : Hid (Has B w (RdR q S (5) :: BlockR nb (vF 9 (i : Int) 0 (t : Int) 0 0 ⟨#[]⟩ ⟨#[]⟩ 0 ⟨#[]⟩) :: BlockR rb zN :: rs) v2) := G2
  clear G2
  obtain ⟨e1, f1⟩ := G2'.out.bcell (q := nb) (vs := (vF 9 (i : Int) 0 (t : Int) 0 0 ⟨#[]⟩ ⟨#[]⟩ 0 ⟨#[]⟩)) (by simp) 5 _ rfl
  have P2 : Hid (Has B w (RdR q S (5) :: BlockR nb (vF 9 (i : Int) 0 (t : Int) 0 (c : Int) ⟨#[]⟩ ⟨#[]⟩ 0 ⟨#[]⟩) :: BlockR rb zN :: rs) (v2.setCell ⟨nb, 5, none⟩ (.int .i64 (c : Int)))) := ((G2'.out.perm (List.Perm.swap _ _ _)).put 5 (by simp [vF]) (.int .i64 (c : Int))).perm (List.Perm.swap _ _ _)
  obtain ⟨e0, _⟩ := P2.out.bcell (q := nb) (vs := (vF 9 (i : Int) 0 (t : Int) 0 (c : Int) ⟨#[]⟩ ⟨#[]⟩ 0 ⟨#[]⟩)) (by simp) 0 _ rfl
  clear G2'
  have HPZ : Hid (Has B w (BlockR rb zN :: RdR q S (5) :: BlockR nb (vF 9 (i : Int) 0 (t : Int) 0 (c : Int) ⟨#[]⟩ ⟨#[]⟩ 0 ⟨#[]⟩) :: rs) (v2.setCell ⟨nb, 5, none⟩ (.int .i64 (c : Int)))) := P2.out.perm (List.perm_middle (l₁ := [_, _]) (l₂ := rs))
  clear P2 CN
  obtain ⟨x1, _⟩ := HPZ.out.bcell (q := nb) (vs := (vF 9 (i : Int) 0 (t : Int) 0 (c : Int) ⟨#[]⟩ ⟨#[]⟩ 0 ⟨#[]⟩)) (by simp) 1 _ rfl
  obtain ⟨x2, _⟩ := HPZ.out.bcell (q := nb) (vs := (vF 9 (i : Int) 0 (t : Int) 0 (c : Int) ⟨#[]⟩ ⟨#[]⟩ 0 ⟨#[]⟩)) (by simp) 2 _ rfl
  obtain ⟨x3, _⟩ := HPZ.out.bcell (q := nb) (vs := (vF 9 (i : Int) 0 (t : Int) 0 (c : Int) ⟨#[]⟩ ⟨#[]⟩ 0 ⟨#[]⟩)) (by simp) 3 _ rfl
  obtain ⟨x4, _⟩ := HPZ.out.bcell (q := nb) (vs := (vF 9 (i : Int) 0 (t : Int) 0 (c : Int) ⟨#[]⟩ ⟨#[]⟩ 0 ⟨#[]⟩)) (by simp) 4 _ rfl
  obtain ⟨x5, _⟩ := HPZ.out.bcell (q := nb) (vs := (vF 9 (i : Int) 0 (t : Int) 0 (c : Int) ⟨#[]⟩ ⟨#[]⟩ 0 ⟨#[]⟩)) (by simp) 5 _ rfl
  obtain ⟨x6, _⟩ := HPZ.out.bcell (q := nb) (vs := (vF 9 (i : Int) 0 (t : Int) 0 (c : Int) ⟨#[]⟩ ⟨#[]⟩ 0 ⟨#[]⟩)) (by simp) 6 _ rfl
  obtain ⟨x7, _⟩ := HPZ.out.bcell (q := nb) (vs := (vF 9 (i : Int) 0 (t : Int) 0 (c : Int) ⟨#[]⟩ ⟨#[]⟩ 0 ⟨#[]⟩)) (by simp) 7 _ rfl
  obtain ⟨x8, _⟩ := HPZ.out.bcell (q := nb) (vs := (vF 9 (i : Int) 0 (t : Int) 0 (c : Int) ⟨#[]⟩ ⟨#[]⟩ 0 ⟨#[]⟩)) (by simp) 8 _ rfl
  obtain ⟨x9, _⟩ := HPZ.out.bcell (q := nb) (vs := (vF 9 (i : Int) 0 (t : Int) 0 (c : Int) ⟨#[]⟩ ⟨#[]⟩ 0 ⟨#[]⟩)) (by simp) 9 _ rfl
  obtain ⟨y0, g0⟩ := HPZ.out.bcell (q := rb) (vs := zN) (by simp) 0 _ rfl
  obtain ⟨y1, g1⟩ := HPZ.out.bcell (q := rb) (vs := zN) (by simp) 1 _ rfl
  obtain ⟨y2, g2⟩ := HPZ.out.bcell (q := rb) (vs := zN) (by simp) 2 _ rfl
  obtain ⟨y3, g3⟩ := HPZ.out.bcell (q := rb) (vs := zN) (by simp) 3 _ rfl
  obtain ⟨y4, g4⟩ := HPZ.out.bcell (q := rb) (vs := zN) (by simp) 4 _ rfl
  obtain ⟨y5, g5⟩ := HPZ.out.bcell (q := rb) (vs := zN) (by simp) 5 _ rfl
  obtain ⟨y6, g6⟩ := HPZ.out.bcell (q := rb) (vs := zN) (by simp) 6 _ rfl
  obtain ⟨y7, g7⟩ := HPZ.out.bcell (q := rb) (vs := zN) (by simp) 7 _ rfl
  obtain ⟨y8, g8⟩ := HPZ.out.bcell (q := rb) (vs := zN) (by simp) 8 _ rfl
  obtain ⟨y9, g9⟩ := HPZ.out.bcell (q := rb) (vs := zN) (by simp) 9 _ rfl
  have HQ : Hid (Has B w (BlockR rb (vF 9 (i : Int) 0 (t : Int) 0 (c : Int) ⟨#[]⟩ ⟨#[]⟩ 0 ⟨#[]⟩) :: RdR q S (5) :: BlockR nb (vF 9 (i : Int) 0 (t : Int) 0 (c : Int) ⟨#[]⟩ ⟨#[]⟩ 0 ⟨#[]⟩) :: rs) (setAll rb 0 (vF 9 (i : Int) 0 (t : Int) 0 (c : Int) ⟨#[]⟩ ⟨#[]⟩ 0 ⟨#[]⟩) (v2.setCell ⟨nb, 5, none⟩ (.int .i64 (c : Int))))) := Has.puts (vF 9 (i : Int) 0 (t : Int) 0 (c : Int) ⟨#[]⟩ ⟨#[]⟩ 0 ⟨#[]⟩) [] zN HPZ.out rfl
  clear HPZ
  go_wp2_with fail
  have HC : Hid (∀ j u, (vF 9 (i : Int) 0 (t : Int) 0 (c : Int) ⟨#[]⟩ ⟨#[]⟩ 0 ⟨#[]⟩)[j]? = some u → (setAll rb 0 (vF 9 (i : Int) 0 (t : Int) 0 (c : Int) ⟨#[]⟩ ⟨#[]⟩ 0 ⟨#[]⟩) (v2.setCell ⟨nb, 5, none⟩ (.int .i64 (c : Int)))).cell? ⟨rb, j, none⟩ = some u) := fun j u hu => (HQ.out.bcell (q := rb) (vs := (vF 9 (i : Int) 0 (t : Int) 0 (c : Int) ⟨#[]⟩ ⟨#[]⟩ 0 ⟨#[]⟩)) (by simp) j u hu).1
  refine bodyPost_ret (results_row rfl _ _ rb (vF 9 (i : Int) 0 (t : Int) 0 (c : Int) ⟨#[]⟩ ⟨#[]⟩ 0 ⟨#[]⟩) _ rfl HC.out Try.underlying56 rfl (by kernel_rfl)) rfl ⟨rfl, ?_⟩
  exact (HQ.out.drop.perm (List.Perm.swap _ _ _)).drop
end
end Go.Proofs.Ytbgankldnjeohaa.Pl

/- A note that may be: its form, and that it is read back. -/
set_option linter.unusedVariables false
set_option linter.unusedSimpArgs false
set_option maxRecDepth 100000
namespace Go.Proofs.Ytbgankldnjeohaa.Pl
open Go.RowKit Go.Proofs.Ytbgankldnjeohaa

/-- A text that begins with l is read as this note, up to the end of l. -/
def RdN (l : List UInt8) (vals : List Value) : Prop := ∀ (S : ByteArray) (r : List UInt8), S.size ≤ 4611686018427387904 → S.data.toList = l ++ r → ∀ (B : Nat) (w : World) (rs : List Res) (wr : World) (q : Nat), Has B w (RdR q S 1 :: rs) wr →
  Calls Try.prog 34 #[.pointer (some ⟨q, 0, none⟩)] wr fun e w' => e = .returned (.agg vals.toArray) ∧ Has B w (RdR q S l.length :: rs) w'
theorem nums_one {a : Nat} (ha : a < 128) : numsL [a] = [UInt8.ofNat a] := by unfold numsL; simp [PackMath.num_lt a ha]
theorem nums_four {a b c d : Nat} (ha : a < 128) (hb : b < 128) (hc : c < 128) (hd : d < 128) : numsL [a, b, c, d] = [UInt8.ofNat a, UInt8.ofNat b, UInt8.ofNat c, UInt8.ofNat d] := by
  unfold numsL
  simp [PackMath.num_lt a ha, PackMath.num_lt b hb, PackMath.num_lt c hc, PackMath.num_lt d hd]
theorem size_len (S : ByteArray) : S.size = S.data.toList.length := (Array.length_toList).symm
theorem rdN1 (X : ByteArray) (hX : X.size ≤ 2000) : RdN (78 :: (numsL [1] ++ PackMath.txt X.data.toList)) (vF 1 0 0 0 0 0 ⟨#[]⟩ ⟨#[]⟩ 0 X) := by
  intro S r hS he B w rs wr q h
  rw [nums_one (by omega)] at he ⊢
  have e1 : S.data.toList = 78 :: UInt8.ofNat 1 :: (PackMath.txt X.data.toList ++ r) := by rw [he]; simp
  have hz := size_len S
  rw [e1] at hz
  simp only [List.length_cons, List.length_append] at hz
  have x := noteR1 (nX := (PackMath.txt X.data.toList).length) (X := X) hS h (by rw [e1]; exact tn_one (by omega) _) (by omega) (by rw [e1]; exact PackMath.tt_txt _ r (by rw [size_data]; exact hX)) (by omega)
  have e2 : (78 :: ([UInt8.ofNat 1] ++ PackMath.txt X.data.toList)).length = 2 + (PackMath.txt X.data.toList).length := by simp; omega
  rw [e2]
  exact x
theorem rdN2 (i v : Nat) (K M : ByteArray) (hi : i < 128) (hv : v < 128) (hK : K.size ≤ 2000) (hM : M.size ≤ 2000) : RdN (78 :: (numsL [2, i] ++ (PackMath.txt K.data.toList ++ (PackMath.txt M.data.toList ++ numsL [v])))) (vF 2 i 0 0 0 0 K M v ⟨#[]⟩) := by
  intro S r hS he B w rs wr q h
  rw [nums_one hv, nums_two (by omega) hi] at he ⊢
  have e1 : S.data.toList = 78 :: UInt8.ofNat 2 :: UInt8.ofNat i :: (PackMath.txt K.data.toList ++ (PackMath.txt M.data.toList ++ (UInt8.ofNat v :: r))) := by rw [he]; simp
  have hz := size_len S
  rw [e1] at hz
  simp only [List.length_cons, List.length_append] at hz
  have d1 : S.data.toList.drop (3 + (PackMath.txt K.data.toList).length) = PackMath.txt M.data.toList ++ (UInt8.ofNat v :: r) := by
    rw [← List.drop_drop, e1]
    show List.drop _ (PackMath.txt K.data.toList ++ _) = _
    rw [List.drop_left]
  have d2 : S.data.toList.drop (3 + (PackMath.txt K.data.toList).length + (PackMath.txt M.data.toList).length) = UInt8.ofNat v :: r := by
    rw [← List.drop_drop, d1, List.drop_left]
  have x := noteR2 (i := i) (v := v) (nK := (PackMath.txt K.data.toList).length) (nM := (PackMath.txt M.data.toList).length) (K := K) (M := M) hS h (by rw [e1]; exact tn_one (by omega) _) (by omega) (by rw [e1]; exact tn_one hi _) (by omega) (by rw [e1]; exact PackMath.tt_txt _ _ (by rw [size_data]; exact hK)) (by omega)
    (by rw [d1]; exact PackMath.tt_txt _ _ (by rw [size_data]; exact hM)) (by omega) (by rw [d2]; exact tn_one hv _) (by omega)
  have e2 : (78 :: ([UInt8.ofNat 2, UInt8.ofNat i] ++ (PackMath.txt K.data.toList ++ (PackMath.txt M.data.toList ++ [UInt8.ofNat v])))).length = 3 + (PackMath.txt K.data.toList).length + (PackMath.txt M.data.toList).length + 1 := by simp; omega
  rw [e2]
  exact x
theorem rdN3 (i : Nat) (hi : i < 128) : RdN (78 :: numsL [3, i]) (vF 3 i 0 0 0 0 ⟨#[]⟩ ⟨#[]⟩ 0 ⟨#[]⟩) := by
  intro S r hS he B w rs wr q h
  rw [nums_two (by omega) hi] at he ⊢
  have e1 : S.data.toList = 78 :: UInt8.ofNat 3 :: UInt8.ofNat i :: r := by rw [he]; simp
  have hz := size_len S
  rw [e1] at hz
  simp only [List.length_cons] at hz
  exact noteR3 (i := i) hS h (by rw [e1]; exact tn_one (by omega) _) (by omega) (by rw [e1]; exact tn_one hi _) (by omega)
theorem rdN4 (i : Nat) (hi : i < 128) : RdN (78 :: numsL [4, i]) (vF 4 i 0 0 0 0 ⟨#[]⟩ ⟨#[]⟩ 0 ⟨#[]⟩) := by
  intro S r hS he B w rs wr q h
  rw [nums_two (by omega) hi] at he ⊢
  have e1 : S.data.toList = 78 :: UInt8.ofNat 4 :: UInt8.ofNat i :: r := by rw [he]; simp
  have hz := size_len S
  rw [e1] at hz
  simp only [List.length_cons] at hz
  exact noteR4 (i := i) hS h (by rw [e1]; exact tn_one (by omega) _) (by omega) (by rw [e1]; exact tn_one hi _) (by omega)
theorem rdN5 (i s : Nat) (hi : i < 128) (hs : s < 128) : RdN (78 :: numsL [5, i, s]) (vF 5 i s 0 0 0 ⟨#[]⟩ ⟨#[]⟩ 0 ⟨#[]⟩) := by
  intro S r hS he B w rs wr q h
  rw [nums_three (by omega) hi hs] at he ⊢
  have e1 : S.data.toList = 78 :: UInt8.ofNat 5 :: UInt8.ofNat i :: UInt8.ofNat s :: r := by rw [he]; simp
  have hz := size_len S
  rw [e1] at hz
  simp only [List.length_cons] at hz
  exact noteR5 (i := i) (s := s) hS h (by rw [e1]; exact tn_one (by omega) _) (by omega) (by rw [e1]; exact tn_one hi _) (by omega) (by rw [e1]; exact tn_one hs _) (by omega)
theorem rdN6 (i s t : Nat) (hi : i < 128) (hs : s < 128) (ht : t < 128) : RdN (78 :: numsL [6, i, s, t]) (vF 6 i s t 0 0 ⟨#[]⟩ ⟨#[]⟩ 0 ⟨#[]⟩) := by
  intro S r hS he B w rs wr q h
  rw [nums_four (by omega) hi hs ht] at he ⊢
  have e1 : S.data.toList = 78 :: UInt8.ofNat 6 :: UInt8.ofNat i :: UInt8.ofNat s :: UInt8.ofNat t :: r := by rw [he]; simp
  have hz := size_len S
  rw [e1] at hz
  simp only [List.length_cons] at hz
  exact noteR6 (i := i) (s := s) (t := t) hS h (by rw [e1]; exact tn_one (by omega) _) (by omega) (by rw [e1]; exact tn_one hi _) (by omega) (by rw [e1]; exact tn_one hs _) (by omega) (by rw [e1]; exact tn_one ht _) (by omega)
theorem rdN7 (i : Nat) (hi : i < 128) : RdN (78 :: numsL [7, i]) (vF 7 i 0 0 0 0 ⟨#[]⟩ ⟨#[]⟩ 0 ⟨#[]⟩) := by
  intro S r hS he B w rs wr q h
  rw [nums_two (by omega) hi] at he ⊢
  have e1 : S.data.toList = 78 :: UInt8.ofNat 7 :: UInt8.ofNat i :: r := by rw [he]; simp
  have hz := size_len S
  rw [e1] at hz
  simp only [List.length_cons] at hz
  exact noteR7 (i := i) hS h (by rw [e1]; exact tn_one (by omega) _) (by omega) (by rw [e1]; exact tn_one hi _) (by omega)
theorem rdN8 (i p : Nat) (hi : i < 128) (hp : p < 128) : RdN (78 :: numsL [8, i, p]) (vF 8 i 0 0 p 0 ⟨#[]⟩ ⟨#[]⟩ 0 ⟨#[]⟩) := by
  intro S r hS he B w rs wr q h
  rw [nums_three (by omega) hi hp] at he ⊢
  have e1 : S.data.toList = 78 :: UInt8.ofNat 8 :: UInt8.ofNat i :: UInt8.ofNat p :: r := by rw [he]; simp
  have hz := size_len S
  rw [e1] at hz
  simp only [List.length_cons] at hz
  exact noteR8 (i := i) (p := p) hS h (by rw [e1]; exact tn_one (by omega) _) (by omega) (by rw [e1]; exact tn_one hi _) (by omega) (by rw [e1]; exact tn_one hp _) (by omega)
theorem rdN9 (i t c : Nat) (hi : i < 128) (ht : t < 128) (hc : c < 128) : RdN (78 :: numsL [9, i, t, c]) (vF 9 i 0 t 0 c ⟨#[]⟩ ⟨#[]⟩ 0 ⟨#[]⟩) := by
  intro S r hS he B w rs wr q h
  rw [nums_four (by omega) hi ht hc] at he ⊢
  have e1 : S.data.toList = 78 :: UInt8.ofNat 9 :: UInt8.ofNat i :: UInt8.ofNat t :: UInt8.ofNat c :: r := by rw [he]; simp
  have hz := size_len S
  rw [e1] at hz
  simp only [List.length_cons] at hz
  exact noteR9 (i := i) (t := t) (c := c) hS h (by rw [e1]; exact tn_one (by omega) _) (by omega) (by rw [e1]; exact tn_one hi _) (by omega) (by rw [e1]; exact tn_one ht _) (by omega) (by rw [e1]; exact tn_one hc _) (by omega)
/-- What a note that may be is: its form l, and that it is read back. -/
def GoodN (k i s t p c : Int) (K M : ByteArray) (v : Int) (X : ByteArray) (l : List UInt8) : Prop :=
  (∀ w, Calls Try.prog 12 #[.agg #[.int .i64 k, .int .i64 i, .int .i64 s, .int .i64 t, .int .i64 p, .int .i64 c, .string K, .string M, .int .i64 v, .string X]] w fun e w' => e = .returned (.tuple #[bstr l, .int .i64 0]) ∧ Below w.heap.size w w') ∧
  (∀ w, Calls Try.prog 91 #[.agg #[.int .i64 k, .int .i64 i, .int .i64 s, .int .i64 t, .int .i64 p, .int .i64 c, .string K, .string M, .int .i64 v, .string X]] w fun e w' => e = .returned (.bool true) ∧ Below w.heap.size w w') ∧
  RdN l (vF k i s t p c K M v X) ∧ (∃ l', l = 78 :: l') ∧ l.length ≤ 10000
theorem goodN_of {k i s t p c : Int} {K M : ByteArray} {v : Int} {X : ByteArray} {l : List UInt8}
    (C1 : ∀ w, Calls Try.prog 91 #[.agg #[.int .i64 k, .int .i64 i, .int .i64 s, .int .i64 t, .int .i64 p, .int .i64 c, .string K, .string M, .int .i64 v, .string X]] w fun e w' => e = .returned (.bool (Nt.may ⟨k, i, s, t, p, c, K, M, v, X⟩)) ∧ Below w.heap.size w w')
    (hm : Nt.may ⟨k, i, s, t, p, c, K, M, v, X⟩ = true)
    (C2 : ∀ w, Calls Try.prog 90 #[.agg #[.int .i64 k, .int .i64 i, .int .i64 s, .int .i64 t, .int .i64 p, .int .i64 c, .string K, .string M, .int .i64 v, .string X]] w fun e w' => e = .returned (bstr (78 :: l)) ∧ Below w.heap.size w w')
    (hr : RdN (78 :: l) (vF k i s t p c K M v X)) (hl : l.length < 10000) : ∃ l, GoodN k i s t p c K M v X l := by
  rw [hm] at C1
  exact ⟨78 :: l, fun w => note_call (fun w => write_yes _ _ _ _ _ w (m_note_may _) (m_note_form _) e_note_may e_note_form C1 C2), C1, hr, ⟨l, rfl⟩, hl⟩
theorem bad_note {k i s t p c : Int} {K M : ByteArray} {v : Int} {X : ByteArray}
    (C1 : ∀ w, Calls Try.prog 91 #[.agg #[.int .i64 k, .int .i64 i, .int .i64 s, .int .i64 t, .int .i64 p, .int .i64 c, .string K, .string M, .int .i64 v, .string X]] w fun e w' => e = .returned (.bool (Nt.may ⟨k, i, s, t, p, c, K, M, v, X⟩)) ∧ Below w.heap.size w w')
    (hm : Nt.may ⟨k, i, s, t, p, c, K, M, v, X⟩ = false) (w : World) :
    Calls Try.prog 12 #[.agg #[.int .i64 k, .int .i64 i, .int .i64 s, .int .i64 t, .int .i64 p, .int .i64 c, .string K, .string M, .int .i64 v, .string X]] w fun e w' => e = .returned (.tuple #[.string ⟨#[]⟩, .int .i64 1]) ∧ Below w.heap.size w w' := by
  rw [hm] at C1
  exact note_call (fun w => write_no _ _ _ w (m_note_may _) e_note_may C1)
theorem nums_le {xs : List Nat} (hs : Small xs) (h : xs.length ≤ 8) : (numsL xs).length < 10000 := by have := nums_len xs hs; omega
theorem txt_le (s : ByteArray) (hs : s.size ≤ 2000) : (PackMath.txt s.data.toList).length ≤ 2008 := txt_len s hs
theorem good1 (i s t p c : Int) (K M : ByteArray) (v : Int) (X : ByteArray) (hX : X.size ≤ 140737488351232) (hm : Nt.may ⟨1, i, s, t, p, c, K, M, v, X⟩ = true) : ∃ l, GoodN 1 i s t p c K M v X l := by
  have bX : X.size ≤ 2000 := by
    have h := hm
    simp [Nt.may, btw] at h
    omega
  have zi : i = 0 := by
    have h := hm
    simp [Nt.may, em] at h
    simp [h]
  have zs : s = 0 := by
    have h := hm
    simp [Nt.may, em] at h
    simp [h]
  have zt : t = 0 := by
    have h := hm
    simp [Nt.may, em] at h
    simp [h]
  have zp : p = 0 := by
    have h := hm
    simp [Nt.may, em] at h
    simp [h]
  have zc : c = 0 := by
    have h := hm
    simp [Nt.may, em] at h
    simp [h]
  have zK : K = ⟨#[]⟩ := by
    have h := hm
    simp [Nt.may, em] at h
    simp [h]
  have zM : M = ⟨#[]⟩ := by
    have h := hm
    simp [Nt.may, em] at h
    simp [h]
  have zv : v = 0 := by
    have h := hm
    simp [Nt.may, em] at h
    simp [h]
  subst zi zs zt zp zc zK zM zv
  refine goodN_of (may1 0 0 0 0 0 ⟨#[]⟩ ⟨#[]⟩ 0 X hX) hm (formN1 0 0 0 0 0 ⟨#[]⟩ ⟨#[]⟩ 0 X bX) (rdN1 X bX) ?_
  rw [List.length_append]
  have h1 := nums_le (xs := [1]) (fun x hx => by simp at hx; omega) (by simp)
  have h2 := txt_le X bX
  have h3 : (numsL [1]).length ≤ 8 := by have := nums_len [1] (fun x hx => by simp at hx; omega); simpa using this
  omega
theorem good2 (i s t p c : Int) (K M : ByteArray) (v : Int) (X : ByteArray) (hm : Nt.may ⟨2, i, s, t, p, c, K, M, v, X⟩ = true) : ∃ l, GoodN 2 i s t p c K M v X l := by
  have bi : 0 ≤ i ∧ i ≤ 60 := by
    have h := hm
    simp [Nt.may, btw] at h
    omega
  have bv : 0 ≤ v ∧ v ≤ 16 := by
    have h := hm
    simp [Nt.may, btw] at h
    omega
  have h := hm
  simp [Nt.may, btw] at h
  have bK : K.size ≤ 32 := isNm_size (by simp [h])
  have bM : M.size ≤ 32 := isNm_size (by simp [h])
  clear h
  have zs : s = 0 := by
    have h := hm
    simp [Nt.may, em] at h
    simp [h]
  have zt : t = 0 := by
    have h := hm
    simp [Nt.may, em] at h
    simp [h]
  have zp : p = 0 := by
    have h := hm
    simp [Nt.may, em] at h
    simp [h]
  have zc : c = 0 := by
    have h := hm
    simp [Nt.may, em] at h
    simp [h]
  have zX : X = ⟨#[]⟩ := by
    have h := hm
    simp [Nt.may, em] at h
    simp [h]
  subst zs zt zp zc zX
  obtain ⟨i, rfl⟩ := Int.eq_ofNat_of_zero_le bi.1
  obtain ⟨v, rfl⟩ := Int.eq_ofNat_of_zero_le bv.1
  refine goodN_of (may2 (i : Int) 0 0 0 0 K M (v : Int) ⟨#[]⟩) hm (formN2 i v (by omega) (by omega) 0 0 0 0 K M ⟨#[]⟩ (by omega) (by omega)) (rdN2 i v K M (by omega) (by omega) (by omega) (by omega)) ?_
  simp only [List.length_append]
  have h2 := txt_le K (by omega)
  have h3 := txt_le M (by omega)
  have h4 : (numsL [2, i]).length ≤ 16 := by have := nums_len [2, i] (fun x hx => by simp at hx; omega); simpa using this
  have h5 : (numsL [v]).length ≤ 8 := by have := nums_len [v] (fun x hx => by simp at hx; omega); simpa using this
  omega
theorem good3 (i s t p c : Int) (K M : ByteArray) (v : Int) (X : ByteArray) (hX : X.size ≤ 140737488351232) (hm : Nt.may ⟨3, i, s, t, p, c, K, M, v, X⟩ = true) : ∃ l, GoodN 3 i s t p c K M v X l := by
  have bi : 0 ≤ i ∧ i ≤ 60 := by
    have h := hm
    simp [Nt.may, btw] at h
    omega
  have zs : s = 0 := by
    have h := hm
    simp [Nt.may, em] at h
    simp [h]
  have zt : t = 0 := by
    have h := hm
    simp [Nt.may, em] at h
    simp [h]
  have zp : p = 0 := by
    have h := hm
    simp [Nt.may, em] at h
    simp [h]
  have zc : c = 0 := by
    have h := hm
    simp [Nt.may, em] at h
    simp [h]
  have zK : K = ⟨#[]⟩ := by
    have h := hm
    simp [Nt.may, em] at h
    simp [h]
  have zM : M = ⟨#[]⟩ := by
    have h := hm
    simp [Nt.may, em] at h
    simp [h]
  have zv : v = 0 := by
    have h := hm
    simp [Nt.may, em] at h
    simp [h]
  have zX : X = ⟨#[]⟩ := by
    have h := hm
    simp [Nt.may, em] at h
    simp [h]
  subst zs zt zp zc zK zM zv zX
  obtain ⟨i, rfl⟩ := Int.eq_ofNat_of_zero_le bi.1
  exact goodN_of (may3 (i : Int) 0 0 0 0 ⟨#[]⟩ ⟨#[]⟩ 0 ⟨#[]⟩ (by decide)) hm (formN3 i (by omega) 0 0 0 0 ⟨#[]⟩ ⟨#[]⟩ 0 ⟨#[]⟩) (rdN3 i (by omega)) (nums_le (fun x hx => by simp at hx; omega) (by simp))
theorem good4 (i s t p c : Int) (K M : ByteArray) (v : Int) (X : ByteArray) (hX : X.size ≤ 140737488351232) (hm : Nt.may ⟨4, i, s, t, p, c, K, M, v, X⟩ = true) : ∃ l, GoodN 4 i s t p c K M v X l := by
  have bi : 0 ≤ i ∧ i ≤ 60 := by
    have h := hm
    simp [Nt.may, btw] at h
    omega
  have zs : s = 0 := by
    have h := hm
    simp [Nt.may, em] at h
    simp [h]
  have zt : t = 0 := by
    have h := hm
    simp [Nt.may, em] at h
    simp [h]
  have zp : p = 0 := by
    have h := hm
    simp [Nt.may, em] at h
    simp [h]
  have zc : c = 0 := by
    have h := hm
    simp [Nt.may, em] at h
    simp [h]
  have zK : K = ⟨#[]⟩ := by
    have h := hm
    simp [Nt.may, em] at h
    simp [h]
  have zM : M = ⟨#[]⟩ := by
    have h := hm
    simp [Nt.may, em] at h
    simp [h]
  have zv : v = 0 := by
    have h := hm
    simp [Nt.may, em] at h
    simp [h]
  have zX : X = ⟨#[]⟩ := by
    have h := hm
    simp [Nt.may, em] at h
    simp [h]
  subst zs zt zp zc zK zM zv zX
  obtain ⟨i, rfl⟩ := Int.eq_ofNat_of_zero_le bi.1
  exact goodN_of (may4 (i : Int) 0 0 0 0 ⟨#[]⟩ ⟨#[]⟩ 0 ⟨#[]⟩ (by decide)) hm (formN4 i (by omega) 0 0 0 0 ⟨#[]⟩ ⟨#[]⟩ 0 ⟨#[]⟩) (rdN4 i (by omega)) (nums_le (fun x hx => by simp at hx; omega) (by simp))
theorem good5 (i s t p c : Int) (K M : ByteArray) (v : Int) (X : ByteArray) (hX : X.size ≤ 140737488351232) (hm : Nt.may ⟨5, i, s, t, p, c, K, M, v, X⟩ = true) : ∃ l, GoodN 5 i s t p c K M v X l := by
  have bi : 0 ≤ i ∧ i ≤ 60 := by
    have h := hm
    simp [Nt.may, btw] at h
    omega
  have bs : 0 ≤ s ∧ s ≤ 7 := by
    have h := hm
    simp [Nt.may, btw] at h
    omega
  have zt : t = 0 := by
    have h := hm
    simp [Nt.may, em] at h
    simp [h]
  have zp : p = 0 := by
    have h := hm
    simp [Nt.may, em] at h
    simp [h]
  have zc : c = 0 := by
    have h := hm
    simp [Nt.may, em] at h
    simp [h]
  have zK : K = ⟨#[]⟩ := by
    have h := hm
    simp [Nt.may, em] at h
    simp [h]
  have zM : M = ⟨#[]⟩ := by
    have h := hm
    simp [Nt.may, em] at h
    simp [h]
  have zv : v = 0 := by
    have h := hm
    simp [Nt.may, em] at h
    simp [h]
  have zX : X = ⟨#[]⟩ := by
    have h := hm
    simp [Nt.may, em] at h
    simp [h]
  subst zt zp zc zK zM zv zX
  obtain ⟨i, rfl⟩ := Int.eq_ofNat_of_zero_le bi.1
  obtain ⟨s, rfl⟩ := Int.eq_ofNat_of_zero_le bs.1
  exact goodN_of (may5 (i : Int) (s : Int) 0 0 0 ⟨#[]⟩ ⟨#[]⟩ 0 ⟨#[]⟩ (by decide)) hm (formN5 i s (by omega) (by omega) 0 0 0 ⟨#[]⟩ ⟨#[]⟩ 0 ⟨#[]⟩) (rdN5 i s (by omega) (by omega)) (nums_le (fun x hx => by simp at hx; omega) (by simp))
theorem good6 (i s t p c : Int) (K M : ByteArray) (v : Int) (X : ByteArray) (hX : X.size ≤ 140737488351232) (hm : Nt.may ⟨6, i, s, t, p, c, K, M, v, X⟩ = true) : ∃ l, GoodN 6 i s t p c K M v X l := by
  have bi : 0 ≤ i ∧ i ≤ 60 := by
    have h := hm
    simp [Nt.may, btw] at h
    omega
  have bs : 0 ≤ s ∧ s ≤ 7 := by
    have h := hm
    simp [Nt.may, btw] at h
    omega
  have bt : 0 ≤ t ∧ t ≤ 5 := by
    have h := hm
    simp [Nt.may, btw] at h
    omega
  have zp : p = 0 := by
    have h := hm
    simp [Nt.may, em] at h
    simp [h]
  have zc : c = 0 := by
    have h := hm
    simp [Nt.may, em] at h
    simp [h]
  have zK : K = ⟨#[]⟩ := by
    have h := hm
    simp [Nt.may, em] at h
    simp [h]
  have zM : M = ⟨#[]⟩ := by
    have h := hm
    simp [Nt.may, em] at h
    simp [h]
  have zv : v = 0 := by
    have h := hm
    simp [Nt.may, em] at h
    simp [h]
  have zX : X = ⟨#[]⟩ := by
    have h := hm
    simp [Nt.may, em] at h
    simp [h]
  subst zp zc zK zM zv zX
  obtain ⟨i, rfl⟩ := Int.eq_ofNat_of_zero_le bi.1
  obtain ⟨s, rfl⟩ := Int.eq_ofNat_of_zero_le bs.1
  obtain ⟨t, rfl⟩ := Int.eq_ofNat_of_zero_le bt.1
  exact goodN_of (may6 (i : Int) (s : Int) (t : Int) 0 0 ⟨#[]⟩ ⟨#[]⟩ 0 ⟨#[]⟩ (by decide)) hm (formN6 i s t (by omega) (by omega) (by omega) 0 0 ⟨#[]⟩ ⟨#[]⟩ 0 ⟨#[]⟩) (rdN6 i s t (by omega) (by omega) (by omega)) (nums_le (fun x hx => by simp at hx; omega) (by simp))
theorem good7 (i s t p c : Int) (K M : ByteArray) (v : Int) (X : ByteArray) (hX : X.size ≤ 140737488351232) (hm : Nt.may ⟨7, i, s, t, p, c, K, M, v, X⟩ = true) : ∃ l, GoodN 7 i s t p c K M v X l := by
  have bi : 0 ≤ i ∧ i ≤ 60 := by
    have h := hm
    simp [Nt.may, btw] at h
    omega
  have zs : s = 0 := by
    have h := hm
    simp [Nt.may, em] at h
    simp [h]
  have zt : t = 0 := by
    have h := hm
    simp [Nt.may, em] at h
    simp [h]
  have zp : p = 0 := by
    have h := hm
    simp [Nt.may, em] at h
    simp [h]
  have zc : c = 0 := by
    have h := hm
    simp [Nt.may, em] at h
    simp [h]
  have zK : K = ⟨#[]⟩ := by
    have h := hm
    simp [Nt.may, em] at h
    simp [h]
  have zM : M = ⟨#[]⟩ := by
    have h := hm
    simp [Nt.may, em] at h
    simp [h]
  have zv : v = 0 := by
    have h := hm
    simp [Nt.may, em] at h
    simp [h]
  have zX : X = ⟨#[]⟩ := by
    have h := hm
    simp [Nt.may, em] at h
    simp [h]
  subst zs zt zp zc zK zM zv zX
  obtain ⟨i, rfl⟩ := Int.eq_ofNat_of_zero_le bi.1
  exact goodN_of (may7 (i : Int) 0 0 0 0 ⟨#[]⟩ ⟨#[]⟩ 0 ⟨#[]⟩ (by decide)) hm (formN7 i (by omega) 0 0 0 0 ⟨#[]⟩ ⟨#[]⟩ 0 ⟨#[]⟩) (rdN7 i (by omega)) (nums_le (fun x hx => by simp at hx; omega) (by simp))
theorem good8 (i s t p c : Int) (K M : ByteArray) (v : Int) (X : ByteArray) (hX : X.size ≤ 140737488351232) (hm : Nt.may ⟨8, i, s, t, p, c, K, M, v, X⟩ = true) : ∃ l, GoodN 8 i s t p c K M v X l := by
  have bi : 0 ≤ i ∧ i ≤ 60 := by
    have h := hm
    simp [Nt.may, btw] at h
    omega
  have bp : 0 ≤ p ∧ p ≤ 3 := by
    have h := hm
    simp [Nt.may, btw] at h
    omega
  have zs : s = 0 := by
    have h := hm
    simp [Nt.may, em] at h
    simp [h]
  have zt : t = 0 := by
    have h := hm
    simp [Nt.may, em] at h
    simp [h]
  have zc : c = 0 := by
    have h := hm
    simp [Nt.may, em] at h
    simp [h]
  have zK : K = ⟨#[]⟩ := by
    have h := hm
    simp [Nt.may, em] at h
    simp [h]
  have zM : M = ⟨#[]⟩ := by
    have h := hm
    simp [Nt.may, em] at h
    simp [h]
  have zv : v = 0 := by
    have h := hm
    simp [Nt.may, em] at h
    simp [h]
  have zX : X = ⟨#[]⟩ := by
    have h := hm
    simp [Nt.may, em] at h
    simp [h]
  subst zs zt zc zK zM zv zX
  obtain ⟨i, rfl⟩ := Int.eq_ofNat_of_zero_le bi.1
  obtain ⟨p, rfl⟩ := Int.eq_ofNat_of_zero_le bp.1
  exact goodN_of (may8 (i : Int) 0 0 (p : Int) 0 ⟨#[]⟩ ⟨#[]⟩ 0 ⟨#[]⟩ (by decide)) hm (formN8 i p (by omega) (by omega) 0 0 0 ⟨#[]⟩ ⟨#[]⟩ 0 ⟨#[]⟩) (rdN8 i p (by omega) (by omega)) (nums_le (fun x hx => by simp at hx; omega) (by simp))
theorem good9 (i s t p c : Int) (K M : ByteArray) (v : Int) (X : ByteArray) (hX : X.size ≤ 140737488351232) (hm : Nt.may ⟨9, i, s, t, p, c, K, M, v, X⟩ = true) : ∃ l, GoodN 9 i s t p c K M v X l := by
  have bi : 0 ≤ i ∧ i ≤ 60 := by
    have h := hm
    simp [Nt.may, btw] at h
    omega
  have he : (0 ≤ t ∧ t ≤ 6) ∧ (0 ≤ c ∧ c ≤ 4) := by
    have h := hm
    simp [Nt.may, btw] at h
    have h9 := h.1.2
    unfold endB btw at h9
    split at h9
    · simp at h9; omega
    · split at h9
      · simp at h9; omega
      · cases h9
  obtain ⟨bt, bc⟩ := he
  have zs : s = 0 := by
    have h := hm
    simp [Nt.may, em] at h
    simp [h]
  have zp : p = 0 := by
    have h := hm
    simp [Nt.may, em] at h
    simp [h]
  have zK : K = ⟨#[]⟩ := by
    have h := hm
    simp [Nt.may, em] at h
    simp [h]
  have zM : M = ⟨#[]⟩ := by
    have h := hm
    simp [Nt.may, em] at h
    simp [h]
  have zv : v = 0 := by
    have h := hm
    simp [Nt.may, em] at h
    simp [h]
  have zX : X = ⟨#[]⟩ := by
    have h := hm
    simp [Nt.may, em] at h
    simp [h]
  subst zs zp zK zM zv zX
  obtain ⟨i, rfl⟩ := Int.eq_ofNat_of_zero_le bi.1
  obtain ⟨t, rfl⟩ := Int.eq_ofNat_of_zero_le bt.1
  obtain ⟨c, rfl⟩ := Int.eq_ofNat_of_zero_le bc.1
  exact goodN_of (may9 (i : Int) 0 (t : Int) 0 (c : Int) ⟨#[]⟩ ⟨#[]⟩ 0 ⟨#[]⟩ (by decide)) hm (formN9 i t c (by omega) (by omega) (by omega) 0 0 ⟨#[]⟩ ⟨#[]⟩ 0 ⟨#[]⟩) (rdN9 i t c (by omega) (by omega) (by omega)) (nums_le (fun x hx => by simp at hx; omega) (by simp))
/-- codec.Note of any note: it is refused, or its form is read back. -/
theorem note_any (k i s t p c : Int) (K M : ByteArray) (v : Int) (X : ByteArray) (hX : X.size ≤ 140737488351232) :
    (∃ l, GoodN k i s t p c K M v X l) ∨ ∀ w, Calls Try.prog 12 #[.agg #[.int .i64 k, .int .i64 i, .int .i64 s, .int .i64 t, .int .i64 p, .int .i64 c, .string K, .string M, .int .i64 v, .string X]] w fun e w' => e = .returned (.tuple #[.string ⟨#[]⟩, .int .i64 1]) ∧ Below w.heap.size w w' := by
  by_cases k1 : k = 1
  · subst k1
    cases hm : Nt.may ⟨1, i, s, t, p, c, K, M, v, X⟩ with
    | true => exact Or.inl (good1 i s t p c K M v X hX hm)
    | false => exact Or.inr (bad_note (may1 i s t p c K M v X hX) hm)
  by_cases k2 : k = 2
  · subst k2
    cases hm : Nt.may ⟨2, i, s, t, p, c, K, M, v, X⟩ with
    | true => exact Or.inl (good2 i s t p c K M v X hm)
    | false => exact Or.inr (bad_note (may2 i s t p c K M v X) hm)
  by_cases k3 : k = 3
  · subst k3
    cases hm : Nt.may ⟨3, i, s, t, p, c, K, M, v, X⟩ with
    | true => exact Or.inl (good3 i s t p c K M v X hX hm)
    | false => exact Or.inr (bad_note (may3 i s t p c K M v X hX) hm)
  by_cases k4 : k = 4
  · subst k4
    cases hm : Nt.may ⟨4, i, s, t, p, c, K, M, v, X⟩ with
    | true => exact Or.inl (good4 i s t p c K M v X hX hm)
    | false => exact Or.inr (bad_note (may4 i s t p c K M v X hX) hm)
  by_cases k5 : k = 5
  · subst k5
    cases hm : Nt.may ⟨5, i, s, t, p, c, K, M, v, X⟩ with
    | true => exact Or.inl (good5 i s t p c K M v X hX hm)
    | false => exact Or.inr (bad_note (may5 i s t p c K M v X hX) hm)
  by_cases k6 : k = 6
  · subst k6
    cases hm : Nt.may ⟨6, i, s, t, p, c, K, M, v, X⟩ with
    | true => exact Or.inl (good6 i s t p c K M v X hX hm)
    | false => exact Or.inr (bad_note (may6 i s t p c K M v X hX) hm)
  by_cases k7 : k = 7
  · subst k7
    cases hm : Nt.may ⟨7, i, s, t, p, c, K, M, v, X⟩ with
    | true => exact Or.inl (good7 i s t p c K M v X hX hm)
    | false => exact Or.inr (bad_note (may7 i s t p c K M v X hX) hm)
  by_cases k8 : k = 8
  · subst k8
    cases hm : Nt.may ⟨8, i, s, t, p, c, K, M, v, X⟩ with
    | true => exact Or.inl (good8 i s t p c K M v X hX hm)
    | false => exact Or.inr (bad_note (may8 i s t p c K M v X hX) hm)
  by_cases k9 : k = 9
  · subst k9
    cases hm : Nt.may ⟨9, i, s, t, p, c, K, M, v, X⟩ with
    | true => exact Or.inl (good9 i s t p c K M v X hX hm)
    | false => exact Or.inr (bad_note (may9 i s t p c K M v X hX) hm)
  exact Or.inr (bad_note (may0 k i s t p c K M v X hX k1 k2 k3 k4 k5 k6 k7 k8 k9) (by simp [Nt.may, k1, k2, k3, k4, k5, k6, k7, k8, k9]))
end Go.Proofs.Ytbgankldnjeohaa.Pl
