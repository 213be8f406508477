/- Note of both sides, any note; the walk of the law CodecNotes. -/
import Derived.Test.YtbgankldnjeohaaBothW
import Derived.Test.YtbgankldnjeohaaLiveG
set_option linter.unusedVariables false
set_option linter.unusedSimpArgs false
set_option maxRecDepth 100000
namespace Go.Proofs.Ytbgankldnjeohaa
open Go.RowKit

/-- Both sides answer the same text and error. -/
def Both (k i s t p c : Int) (K M : ByteArray) (v : Int) (X : ByteArray) : Prop := ∃ (b : ByteArray) (j : Int),
  (∀ w, Calls Try.prog 12 #[.agg #[.int .i64 k, .int .i64 i, .int .i64 s, .int .i64 t, .int .i64 p, .int .i64 c, .string K, .string M, .int .i64 v, .string X]] w fun e w' => e = .returned (.tuple #[.string b, .int .i64 j]) ∧ Below w.heap.size w w') ∧
  ∀ w, Calls Try.prog 13 #[.agg #[.int .i64 k, .int .i64 i, .int .i64 s, .int .i64 t, .int .i64 p, .int .i64 c, .string K, .string M, .int .i64 v, .string X]] w fun e w' => e = .returned (.tuple #[.string b, .int .i64 j]) ∧ Below w.heap.size w w'
theorem both_no {k i s t p c : Int} {K M : ByteArray} {v : Int} {X : ByteArray} (hm : Nt.may ⟨k, i, s, t, p, c, K, M, v, X⟩ = false)
    (C1 : ∀ w, Calls Try.prog 91 #[.agg #[.int .i64 k, .int .i64 i, .int .i64 s, .int .i64 t, .int .i64 p, .int .i64 c, .string K, .string M, .int .i64 v, .string X]] w fun e w' => e = .returned (.bool (Nt.may ⟨k, i, s, t, p, c, K, M, v, X⟩)) ∧ Below w.heap.size w w')
    (C2 : ∀ w, Calls Try.prog 21 #[.agg #[.int .i64 k, .int .i64 i, .int .i64 s, .int .i64 t, .int .i64 p, .int .i64 c, .string K, .string M, .int .i64 v, .string X]] w fun e w' => e = .returned (.bool (Nt.may ⟨k, i, s, t, p, c, K, M, v, X⟩)) ∧ Below w.heap.size w w') : Both k i s t p c K M v X := by
  rw [hm] at C1 C2
  exact ⟨⟨#[]⟩, 1, fun w => note_call (fun w => write_no _ _ _ w (m_note_may _) e_note_may C1), fun w => rnoteNo k i s t p c K M v X w C2⟩
theorem both_yes {k i s t p c : Int} {K M : ByteArray} {v : Int} {X : ByteArray} {l : List UInt8} (hm : Nt.may ⟨k, i, s, t, p, c, K, M, v, X⟩ = true)
    (C1 : ∀ w, Calls Try.prog 91 #[.agg #[.int .i64 k, .int .i64 i, .int .i64 s, .int .i64 t, .int .i64 p, .int .i64 c, .string K, .string M, .int .i64 v, .string X]] w fun e w' => e = .returned (.bool (Nt.may ⟨k, i, s, t, p, c, K, M, v, X⟩)) ∧ Below w.heap.size w w')
    (C2 : ∀ w, Calls Try.prog 90 #[.agg #[.int .i64 k, .int .i64 i, .int .i64 s, .int .i64 t, .int .i64 p, .int .i64 c, .string K, .string M, .int .i64 v, .string X]] w fun e w' => e = .returned (bstr l) ∧ Below w.heap.size w w')
    (C3 : ∀ w, Calls Try.prog 13 #[.agg #[.int .i64 k, .int .i64 i, .int .i64 s, .int .i64 t, .int .i64 p, .int .i64 c, .string K, .string M, .int .i64 v, .string X]] w fun e w' => e = .returned (.tuple #[bstr l, .int .i64 0]) ∧ Below w.heap.size w w') : Both k i s t p c K M v X := by
  rw [hm] at C1
  exact ⟨⟨l.toArray⟩, 0, fun w => note_call (fun w => write_yes _ _ _ _ _ w (m_note_may _) (m_note_form _) e_note_may e_note_form C1 C2), C3⟩

theorem both_any (k i s t p c : Int) (K M : ByteArray) (v : Int) (X : ByteArray) (hK : K.size ≤ 140737488351232) (hM : M.size ≤ 140737488351232) (hX : X.size ≤ 140737488351232) : Both k i s t p c K M v X := by
  by_cases k1 : k = 1
  · subst k1
    have A1 := may1 i s t p c K M v X hX
    have A2 := rmay1 i s t p c K M v X hK hM hX
    cases hm : Nt.may ⟨1, i, s, t, p, c, K, M, v, X⟩ with
    | false => exact both_no hm A1 A2
    | true =>
      have h := hm
      simp [Nt.may, btw] at h
      have hx : X.size ≤ 2000 := by omega
      exact both_yes hm A1 (formN1 i s t p c K M v X hx) (refN1 i s t p c K M v X hK hM hx hm)
  by_cases k2 : k = 2
  · subst k2
    have A1 := may2 i s t p c K M v X
    have A2 := rmay2 i s t p c K M v X hK hM hX
    cases hm : Nt.may ⟨2, i, s, t, p, c, K, M, v, X⟩ with
    | false => exact both_no hm A1 A2
    | true =>
      have h := hm
      simp [Nt.may, btw] at h
      have hKs : K.size ≤ 32 := isNm_size (by simp [h])
      have hMs : M.size ≤ 32 := isNm_size (by simp [h])
      obtain ⟨i, rfl⟩ := Int.eq_ofNat_of_zero_le (show 0 ≤ i by omega)
      obtain ⟨v, rfl⟩ := Int.eq_ofNat_of_zero_le (show 0 ≤ v by omega)
      exact both_yes hm A1 (formN2 i v (by omega) (by omega) s t p c K M X (by omega) (by omega)) (refN2 i v (by omega) (by omega) s t p c K M X (by omega) (by omega) hX hm)
  by_cases k3 : k = 3
  · subst k3
    have A1 := may3 i s t p c K M v X hX
    have A2 := rmay3 i s t p c K M v X hK hM hX
    cases hm : Nt.may ⟨3, i, s, t, p, c, K, M, v, X⟩ with
    | false => exact both_no hm A1 A2
    | true =>
      have h := hm
      simp [Nt.may, btw] at h
      obtain ⟨i, rfl⟩ := Int.eq_ofNat_of_zero_le (show 0 ≤ i by omega)
      exact both_yes hm A1 (formN3 i (by omega) s t p c K M v X) (refN3 i (by omega) s t p c K M v X hK hM hX hm)
  by_cases k4 : k = 4
  · subst k4
    have A1 := may4 i s t p c K M v X hX
    have A2 := rmay4 i s t p c K M v X hK hM hX
    cases hm : Nt.may ⟨4, i, s, t, p, c, K, M, v, X⟩ with
    | false => exact both_no hm A1 A2
    | true =>
      have h := hm
      simp [Nt.may, btw] at h
      obtain ⟨i, rfl⟩ := Int.eq_ofNat_of_zero_le (show 0 ≤ i by omega)
      exact both_yes hm A1 (formN4 i (by omega) s t p c K M v X) (refN4 i (by omega) s t p c K M v X hK hM hX hm)
  by_cases k5 : k = 5
  · subst k5
    have A1 := may5 i s t p c K M v X hX
    have A2 := rmay5 i s t p c K M v X hK hM hX
    cases hm : Nt.may ⟨5, i, s, t, p, c, K, M, v, X⟩ with
    | false => exact both_no hm A1 A2
    | true =>
      have h := hm
      simp [Nt.may, btw] at h
      obtain ⟨i, rfl⟩ := Int.eq_ofNat_of_zero_le (show 0 ≤ i by omega)
      obtain ⟨s, rfl⟩ := Int.eq_ofNat_of_zero_le (show 0 ≤ s by omega)
      exact both_yes hm A1 (formN5 i s (by omega) (by omega) t p c K M v X) (refN5 i s (by omega) (by omega) t p c K M v X hK hM hX hm)
  by_cases k6 : k = 6
  · subst k6
    have A1 := may6 i s t p c K M v X hX
    have A2 := rmay6 i s t p c K M v X hK hM hX
    cases hm : Nt.may ⟨6, i, s, t, p, c, K, M, v, X⟩ with
    | false => exact both_no hm A1 A2
    | true =>
      have h := hm
      simp [Nt.may, btw] at h
      obtain ⟨i, rfl⟩ := Int.eq_ofNat_of_zero_le (show 0 ≤ i by omega)
      obtain ⟨s, rfl⟩ := Int.eq_ofNat_of_zero_le (show 0 ≤ s by omega)
      obtain ⟨t, rfl⟩ := Int.eq_ofNat_of_zero_le (show 0 ≤ t by omega)
      exact both_yes hm A1 (formN6 i s t (by omega) (by omega) (by omega) p c K M v X) (refN6 i s t (by omega) (by omega) (by omega) p c K M v X hK hM hX hm)
  by_cases k7 : k = 7
  · subst k7
    have A1 := may7 i s t p c K M v X hX
    have A2 := rmay7 i s t p c K M v X hK hM hX
    cases hm : Nt.may ⟨7, i, s, t, p, c, K, M, v, X⟩ with
    | false => exact both_no hm A1 A2
    | true =>
      have h := hm
      simp [Nt.may, btw] at h
      obtain ⟨i, rfl⟩ := Int.eq_ofNat_of_zero_le (show 0 ≤ i by omega)
      exact both_yes hm A1 (formN7 i (by omega) s t p c K M v X) (refN7 i (by omega) s t p c K M v X hK hM hX hm)
  by_cases k8 : k = 8
  · subst k8
    have A1 := may8 i s t p c K M v X hX
    have A2 := rmay8 i s t p c K M v X hK hM hX
    cases hm : Nt.may ⟨8, i, s, t, p, c, K, M, v, X⟩ with
    | false => exact both_no hm A1 A2
    | true =>
      have h := hm
      simp [Nt.may, btw] at h
      obtain ⟨i, rfl⟩ := Int.eq_ofNat_of_zero_le (show 0 ≤ i by omega)
      obtain ⟨p, rfl⟩ := Int.eq_ofNat_of_zero_le (show 0 ≤ p by omega)
      exact both_yes hm A1 (formN8 i p (by omega) (by omega) s t c K M v X) (refN8 i p (by omega) (by omega) s t c K M v X hK hM hX hm)
  by_cases k9 : k = 9
  · subst k9
    have A1 := may9 i s t p c K M v X hX
    have A2 := rmay9 i s t p c K M v X hK hM hX
    cases hm : Nt.may ⟨9, i, s, t, p, c, K, M, v, X⟩ with
    | false => exact both_no hm A1 A2
    | true =>
      have h := hm
      simp [Nt.may, btw] at h
      have he : 0 ≤ t ∧ t ≤ 6 ∧ 0 ≤ c ∧ c ≤ 4 := by
        have h9 := h.1.2
        unfold endB btw at h9
        split at h9
        · simp at h9; omega
        · split at h9
          · simp at h9; omega
          · cases h9
      obtain ⟨i, rfl⟩ := Int.eq_ofNat_of_zero_le (show 0 ≤ i by omega)
      obtain ⟨t, rfl⟩ := Int.eq_ofNat_of_zero_le (show 0 ≤ t by omega)
      obtain ⟨c, rfl⟩ := Int.eq_ofNat_of_zero_le (show 0 ≤ c by omega)
      exact both_yes hm A1 (formN9 i t c (by omega) (by omega) (by omega) s p K M v X) (refN9 i t c (by omega) (by omega) (by omega) s p K M v X hK hM hX hm)
  have A1 := may0 k i s t p c K M v X hX k1 k2 k3 k4 k5 k6 k7 k8 k9
  have A2 := rmay0 k i s t p c K M v X hK hM hX k1 k2 k3 k4 k5 k6 k7 k8 k9
  exact both_no (by simp [Nt.may, k1, k2, k3, k4, k5, k6, k7, k8, k9]) A1 A2
theorem codecNotes_walk (k i s t p c : Int) (K M : ByteArray) (v : Int) (X : ByteArray) (hK : K.size ≤ 140737488351232) (hM : M.size ≤ 140737488351232) (hX : X.size ≤ 140737488351232) (w : World) :
    Calls Try.prog 4 #[.agg #[.int .i64 k, .int .i64 i, .int .i64 s, .int .i64 t, .int .i64 p, .int .i64 c, .string K, .string M, .int .i64 v, .string X]] w fun e w' => e = .returned (.bool true) ∧ Below w.heap.size w w' := by
  obtain ⟨b, j, hP, hR⟩ := both_any k i s t p c K M v X hK hM hX
  have HP : Hid (∀ w, Calls Try.prog 12 #[.agg #[.int .i64 k, .int .i64 i, .int .i64 s, .int .i64 t, .int .i64 p, .int .i64 c, .string K, .string M, .int .i64 v, .string X]] w fun e w' => e = .returned (.tuple #[.string b, .int .i64 j]) ∧ Below w.heap.size w w') := hP
  have HR : Hid (∀ w, Calls Try.prog 13 #[.agg #[.int .i64 k, .int .i64 i, .int .i64 s, .int .i64 t, .int .i64 p, .int .i64 c, .string K, .string M, .int .i64 v, .string X]] w fun e w' => e = .returned (.tuple #[.string b, .int .i64 j]) ∧ Below w.heap.size w w') := hR
  have HF : Hid (Left w [(0, .int .i64 k), (1, .int .i64 i), (2, .int .i64 s), (3, .int .i64 t), (4, .int .i64 p), (5, .int .i64 c), (6, .string K), (7, .string M), (8, .int .i64 v), (9, .string X)] (w.alloc (.cells #[.int .i64 k, .int .i64 i, .int .i64 s, .int .i64 t, .int .i64 p, .int .i64 c, .string K, .string M, .int .i64 v, .string X] 35))) := Left.first _ _ _ _ (by simp)
  clear hP hR
  go_enter Try.func4, Try.ntmps4
  go_wp2_with fail
  refine (HP.out _).mono ?_
  rintro e w1 ⟨rfl, hb1⟩
  have HF1 : Hid (Left w _ w1) := HF.out.call hb1
  have z0 := HF1.out.2.2 (0, .int .i64 k) (by simp)
  have z1 := HF1.out.2.2 (1, .int .i64 i) (by simp)
  have z2 := HF1.out.2.2 (2, .int .i64 s) (by simp)
  have z3 := HF1.out.2.2 (3, .int .i64 t) (by simp)
  have z4 := HF1.out.2.2 (4, .int .i64 p) (by simp)
  have z5 := HF1.out.2.2 (5, .int .i64 c) (by simp)
  have z6 := HF1.out.2.2 (6, .string K) (by simp)
  have z7 := HF1.out.2.2 (7, .string M) (by simp)
  have z8 := HF1.out.2.2 (8, .int .i64 v) (by simp)
  have z9 := HF1.out.2.2 (9, .string X) (by simp)
  dsimp only at z0 z1 z2 z3 z4 z5 z6 z7 z8 z9
  clear HF hb1 HP
  go_wp2_with fail
  refine (HR.out _).mono ?_
  rintro e w2 ⟨rfl, hb2⟩
  have HF2 : Hid (Left w _ w2) := HF1.out.call hb2
  clear HF1 hb2 HR z0 z1 z2 z3 z4 z5 z6 z7 z8 z9
  go_wp2_with fail
  refine (Pl.live_any _).mono ?_
  rintro e w3 ⟨rfl, hb3⟩
  have HB : Hid (Below w.heap.size w w3) := (HF2.out.call hb3).2.1
  clear HF2 hb3
  go_wp2_with fail
  go_ret
  exact ⟨rfl, HB.out⟩
end Go.Proofs.Ytbgankldnjeohaa
