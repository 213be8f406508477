/- The walks of Is, Owner and what they call, in package name. -/
import Derived.Test.YtbgankldnjeohaaNmSmall
import Derived.Laws.RangeAny
import Derived.Below
import Derived.LoopTactic
set_option linter.unusedVariables false
set_option maxRecDepth 100000
namespace Go.Proofs.Ytbgankldnjeohaa.Nm
open Go.RowKit

/-- What a range over a text gives at a place: the rune, and the place behind it. -/
theorem next_at (s : ByteArray) (pos : Nat) (h : pos < s.size) : ∃ r k : Nat, r ≤ 1114111 ∧ 1 ≤ k ∧ pos + k ≤ s.size ∧
    NameMath.dec (s.data.toList.drop pos) = (r, k) ∧ s.data.toList.drop pos ≠ [] ∧ NameMath.runes (s.data.toList.drop pos) = r :: NameMath.runes (s.data.toList.drop (pos + k)) ∧
    NameMath.cut (s.data.toList.drop pos) = (r, (s.data.toList.drop pos).take k) :: NameMath.cut (s.data.toList.drop (pos + k)) ∧
    (Utf8.decode s pos).1 = r ∧ (Utf8.decode s pos).2 = k := by
  have hl : s.data.toList.length = s.size := Array.length_toList
  have hne : s.data.toList.drop pos ≠ [] := by
    intro e
    have := congrArg List.length e
    simp at this
    omega
  have hle := NameMath.dec_le _ hne
  rw [List.length_drop] at hle
  have hd := NameMath.decode_dec s pos
  refine ⟨(NameMath.dec (s.data.toList.drop pos)).1, (NameMath.dec (s.data.toList.drop pos)).2, NameMath.dec_max _, NameMath.dec_pos _, by omega, rfl, hne, ?_, ?_, by rw [hd], by rw [hd]⟩
  · rw [NameMath.runes_cons _ hne, List.drop_drop]
  · rw [NameMath.cut_cons _ hne, List.drop_drop]
theorem drop_end (s : ByteArray) (pos : Nat) (h : ¬ pos < s.size) : s.data.toList.drop pos = [] := by
  have hl : s.data.toList.length = s.size := Array.length_toList
  exact List.drop_of_length_le (by omega)
theorem below_iter (w : World) (s : ByteArray) (p : Nat) : Below w.heap.size w (w.iter s p) := (Below.refl _ w).alloc (Nat.le_refl _) _

set_option maxHeartbeats 1000000 in
theorem is_any (s : ByteArray) (w : World) :
    Calls Try.prog 72 #[.string s] w fun e w' => e = .returned (.bool (NameMath.isGo (NameMath.runes s.data.toList) 0)) ∧ Below w.heap.size w w' := by
  go_enter Try.func72, Try.ntmps72
  go_wp2
  go_loopw [3] (fun n wr => ∃ pos m : Nat, wr = w.iter s pos ∧ pos ≤ s.size ∧ n = .int .i64 m ∧ m ≤ 8 ∧ Hid (NameMath.isGo (NameMath.runes s.data.toList) 0 = NameMath.isGo (NameMath.runes (s.data.toList.drop pos)) m)) (fun _ wr => s.size - wr.iterPos w.heap.size)
  case atStart => exact ⟨0, 0, rfl, Nat.zero_le _, rfl, by omega, rfl⟩
  case round =>
    obtain ⟨pos, m, rfl, hpos, rfl, hm, HI⟩ := hrel
    by_cases hlt : pos < s.size
    · obtain ⟨r, k, hr, hk1, hk2, hdec, hne, hrun, hcut, hd1, hd2⟩ := next_at s pos hlt
      have hnx := fun ty => run_next_any (P := Try.prog) w s pos ty hlt
      rw [hd1, hd2] at hnx
      rw [hrun] at HI
      clear hrun hcut hdec hd1 hd2
      by_cases hs1 : NameMath.small r = true
      · have HE : Hid (m < 8 → NameMath.isGo (NameMath.runes s.data.toList) 0 = NameMath.isGo (NameMath.runes (s.data.toList.drop (pos + k))) (m + 1)) := fun hm8 => by
          rw [HI.out, NameMath.isGo, if_neg (by rw [hs1]; simp), if_neg (by omega)]
        have HF : Hid (¬ m < 8 → NameMath.isGo (NameMath.runes s.data.toList) 0 = false) := fun hm8 => by
          rw [HI.out, NameMath.isGo, if_neg (by rw [hs1]; simp), if_pos (by omega)]
        clear HI
        by_cases hm8 : m < 8
        · go_wp2_with (go_at_call 76; refine (smallLetter_any r hr _).mono ?_; rintro e w' ⟨rfl, rfl⟩)
          exact ⟨⟨pos + k, m + 1, rfl, hk2, by go_num, by omega, HE.out hm8⟩, by simp; omega⟩
        · go_wp2_with (go_at_call 76; refine (smallLetter_any r hr _).mono ?_; rintro e w' ⟨rfl, rfl⟩)
          go_ret
          exact ⟨ret_bool (HF.out hm8).symm, below_iter _ _ _⟩
      · have hs0 : NameMath.small r = false := by simpa using hs1
        by_cases hbad : m = 0 ∨ NameMath.dig r = false
        · have HE : Hid (NameMath.isGo (NameMath.runes s.data.toList) 0 = false) := by show _ = _; rw [HI.out, NameMath.isGo, if_pos ⟨hs0, hbad⟩]
          clear HI hs1
          rcases hbad with h2 | h2
          · subst h2
            go_wp2_with (go_at_call 76; refine (smallLetter_any r hr _).mono ?_; rintro e w' ⟨rfl, rfl⟩)
            go_ret
            exact ⟨ret_bool HE.out.symm, below_iter _ _ _⟩
          · by_cases hm0 : m = 0
            · subst hm0
              go_wp2_with (first | (go_at_call 76; refine (smallLetter_any r hr _).mono ?_; rintro e w' ⟨rfl, rfl⟩) | (go_at_call 77; refine (digitOrHyphen_any r hr _).mono ?_; rintro e w' ⟨rfl, rfl⟩))
              go_ret
              exact ⟨ret_bool HE.out.symm, below_iter _ _ _⟩
            · have hm0' : ((m : Int) == 0) = false := beq_eq_false_iff_ne.2 (by omega)
              go_wp2_with (first | (go_at_call 76; refine (smallLetter_any r hr _).mono ?_; rintro e w' ⟨rfl, rfl⟩) | (go_at_call 77; refine (digitOrHyphen_any r hr _).mono ?_; rintro e w' ⟨rfl, rfl⟩))
              go_ret
              exact ⟨ret_bool HE.out.symm, below_iter _ _ _⟩
        · have hm0 : m ≠ 0 := fun h => hbad (.inl h)
          have hdg : NameMath.dig r = true := by
            cases h : NameMath.dig r with
            | true => rfl
            | false => exact absurd (.inr h) hbad
          have HE : Hid (m < 8 → NameMath.isGo (NameMath.runes s.data.toList) 0 = NameMath.isGo (NameMath.runes (s.data.toList.drop (pos + k))) (m + 1)) := fun hm8 => by
            rw [HI.out, NameMath.isGo, if_neg (fun h => hbad h.2), if_neg (by omega)]
          have HF : Hid (¬ m < 8 → NameMath.isGo (NameMath.runes s.data.toList) 0 = false) := fun hm8 => by
            rw [HI.out, NameMath.isGo, if_neg (fun h => hbad h.2), if_pos (by omega)]
          have hm0' : ((m : Int) == 0) = false := beq_eq_false_iff_ne.2 (by omega)
          clear HI hbad hs1
          by_cases hm8 : m < 8
          · go_wp2_with (first | (go_at_call 76; refine (smallLetter_any r hr _).mono ?_; rintro e w' ⟨rfl, rfl⟩) | (go_at_call 77; refine (digitOrHyphen_any r hr _).mono ?_; rintro e w' ⟨rfl, rfl⟩))
            exact ⟨⟨pos + k, m + 1, rfl, hk2, by go_num, by omega, HE.out hm8⟩, by simp; omega⟩
          · go_wp2_with (first | (go_at_call 76; refine (smallLetter_any r hr _).mono ?_; rintro e w' ⟨rfl, rfl⟩) | (go_at_call 77; refine (digitOrHyphen_any r hr _).mono ?_; rintro e w' ⟨rfl, rfl⟩))
            go_ret
            exact ⟨ret_bool (HF.out hm8).symm, below_iter _ _ _⟩
    · have hnx := fun ty => run_next_end (P := Try.prog) w s pos ty hlt
      rw [drop_end s pos hlt] at HI
      go_wp2
      go_ret
      refine ⟨ret_bool ?_, below_iter _ _ _⟩
      rw [HI.out]
      simp [NameMath.isGo, NameMath.runes_nil]

end Go.Proofs.Ytbgankldnjeohaa.Nm