/- The walk of the document's Is. -/
import Derived.Test.YtbgankldnjeohaaNmRefL
set_option linter.unusedVariables false
set_option maxRecDepth 100000
namespace Go.Proofs.Ytbgankldnjeohaa.Nm
open Go.RowKit

/-- What the document's reading of a rune is good for, at a place of a text. -/
theorem next_use (s : ByteArray) (pos : Nat) (hlt : pos < s.size) {r k : Nat} (hdec : NameMath.dec (s.data.toList.drop pos) = (r, k)) : r ≤ 1114111 ∧ 1 ≤ k ∧ pos + k ≤ s.size ∧
    NameMath.runes (s.data.toList.drop pos) = r :: NameMath.runes (s.data.toList.drop (pos + k)) ∧ NameMath.cut (s.data.toList.drop pos) = (r, (s.data.toList.drop pos).take k) :: NameMath.cut (s.data.toList.drop (pos + k)) ∧ s.data.toList.drop pos ≠ [] := by
  obtain ⟨r', k', hr, hk1, hk2, hdec', hne, hrun, hcut, hd1, hd2⟩ := next_at s pos hlt
  rw [hdec] at hdec'
  obtain ⟨rfl, rfl⟩ : r = r' ∧ k = k' := by simpa using hdec'
  exact ⟨hr, hk1, hk2, hrun, hcut, hne⟩
theorem small_not (r : Nat) (h : NameMath.small r = true ∨ NameMath.dig r = true) : r ≠ 65533 := by
  intro e; subst e; rcases h with h | h <;> exact absurd h (by decide)
theorem dig_true (r : Nat) (h : NameMath.dig r = true) : (48 ≤ r ∧ r ≤ 57) ∨ r = 45 := by simpa [NameMath.dig] using h
theorem dig_false (r : Nat) (h : NameMath.dig r = false) : r ≠ 45 ∧ (r < 48 ∨ 57 < r) := by
  have : ¬ ((48 ≤ r ∧ r ≤ 57) ∨ r = 45) := by simpa [NameMath.dig] using h
  omega

set_option maxHeartbeats 2000000 in
theorem refIs_any (s : ByteArray) (hs : s.size ≤ 140737488351232) (w : World) :
    Calls Try.prog 29 #[.string s] w fun e w' => e = .returned (.bool (NameMath.isGo (NameMath.runes s.data.toList) 0)) ∧ w' = w := by
  rw [← NameMath.isRef_go _ 0 (by omega)]
  go_enter Try.func29, Try.ntmps29
  go_wp2
  go_loop [3, 4] (fun n t => ∃ pos m : Nat, pos ≤ s.size ∧ t = .int .i64 pos ∧ n = .int .i64 m ∧ m ≤ pos ∧ Hid (NameMath.isRef (NameMath.runes s.data.toList) 0 = NameMath.isRef (NameMath.runes (s.data.toList.drop pos)) m)) (fun _ t => s.size - (intOf t).toNat)
  case atStart => exact ⟨0, 0, Nat.zero_le _, rfl, rfl, Nat.le_refl _, rfl⟩
  case round =>
    obtain ⟨pos, m, hpos, rfl, rfl, hm, HI⟩ := hrel
    by_cases hlt : pos < s.size
    · go_wp2_with fail
      refine (next_any s pos hlt hs _).mono ?_
      rintro e w1 ⟨r, k, ok, rfl, rfl, hdec, hok⟩
      obtain ⟨hr, hk1, hk2, hrun, hcut, hne⟩ := next_use s pos hlt hdec
      rw [hrun] at HI
      clear hrun hcut hne hdec
      by_cases hbad : NameMath.small r = false ∧ (m = 0 ∨ NameMath.dig r = false)
      · have HE : Hid (NameMath.isRef (NameMath.runes s.data.toList) 0 = false) := by show _ = _; rw [HI.out, NameMath.isRef, if_pos hbad]
        clear HI hok
        obtain ⟨h1, h2⟩ := hbad
        rcases h2 with h2 | h2
        · subst h2
          cases ok
          all_goals
            go_wp2_with (go_at_call 36; refine (letter_any r hr _).mono ?_; rintro e w' ⟨rfl, hw'⟩; rw [hw']; clear hw' w')
            go_ret
            exact ⟨ret_bool HE.out.symm, rfl⟩
        · obtain ⟨d1, d2⟩ := dig_false r h2
          have d1' : ((r : Int) == 45) = false := beq_eq_false_iff_ne.2 (by omega)
          by_cases hm0 : m = 0
          · subst hm0
            cases ok
            all_goals
              go_wp2_with (go_at_call 36; refine (letter_any r hr _).mono ?_; rintro e w' ⟨rfl, hw'⟩; rw [hw']; clear hw' w')
              go_ret
              exact ⟨ret_bool HE.out.symm, rfl⟩
          · rcases d2 with d2 | d2
            case' inr => have d57 : decide ((r : Int) ≤ 57) = false := by simp; omega
            all_goals
              cases ok
              all_goals
                go_wp2_with (go_at_call 36; refine (letter_any r hr _).mono ?_; rintro e w' ⟨rfl, hw'⟩; rw [hw']; clear hw' w')
                go_ret
                exact ⟨ret_bool HE.out.symm, rfl⟩
      · have hgood : NameMath.small r = true ∨ NameMath.dig r = true := by
          cases h1 : NameMath.small r with
          | true => exact .inl rfl
          | false =>
            cases h2 : NameMath.dig r with
            | true => exact .inr rfl
            | false => exact absurd ⟨h1, .inr h2⟩ hbad
        have hok' : ok = true := by
          cases ok with
          | true => rfl
          | false => exact absurd (hok rfl) (small_not r hgood)
        subst hok'
        have HE : Hid (NameMath.isRef (NameMath.runes s.data.toList) 0 = NameMath.isRef (NameMath.runes (s.data.toList.drop (pos + k))) (m + 1)) := by show _ = _; rw [HI.out, NameMath.isRef, if_neg hbad]
        clear HI hok hgood
        cases h1 : NameMath.small r with
        | true =>
          go_wp2_with (go_at_call 36; refine (letter_any r hr _).mono ?_; rintro e w' ⟨rfl, hw'⟩; rw [hw']; clear hw' w')
          exact ⟨⟨pos + k, m + 1, hk2, by go_num, by go_num, by omega, HE⟩, by simp [intOf]; omega⟩
        | false =>
          have hm0 : m ≠ 0 := fun h => hbad ⟨h1, .inl h⟩
          have hdg : NameMath.dig r = true := by
            cases h2 : NameMath.dig r with
            | true => rfl
            | false => exact absurd ⟨h1, .inr h2⟩ hbad
          clear hbad
          rcases dig_true r hdg with ⟨d1, d2⟩ | d1
          · have d3 : ((r : Int) == 45) = false := beq_eq_false_iff_ne.2 (by omega)
            have d57 : decide ((r : Int) ≤ 57) = true := by simp; omega
            clear hdg
            go_wp2_with (go_at_call 36; refine (letter_any r hr _).mono ?_; rintro e w' ⟨rfl, hw'⟩; rw [hw']; clear hw' w')
            exact ⟨⟨pos + k, m + 1, hk2, by go_num, by go_num, by omega, HE⟩, by simp [intOf]; omega⟩
          · have d3 : ((r : Int) == 45) = true := beq_iff_eq.2 (by omega)
            have HD1 : Hid _ := d1
            clear hdg d1
            go_wp2_with (go_at_call 36; refine (letter_any r hr _).mono ?_; rintro e w' ⟨rfl, hw'⟩; rw [hw']; clear hw' w')
            exact ⟨⟨pos + k, m + 1, hk2, by go_num, by go_num, by omega, HE⟩, by simp [intOf]; omega⟩
    · rw [drop_end s pos hlt] at HI
      have HE : Hid (NameMath.isRef (NameMath.runes s.data.toList) 0 = decide (1 ≤ m ∧ m ≤ 8)) := by show _ = _; rw [HI.out]; rfl
      clear HI
      go_wp2
      all_goals go_ret
      all_goals refine ⟨ret_bool ?_, rfl⟩
      all_goals rw [HE.out, Bool.eq_iff_iff]
      all_goals first | (simp; omega) | (simp; done)
end Go.Proofs.Ytbgankldnjeohaa.Nm