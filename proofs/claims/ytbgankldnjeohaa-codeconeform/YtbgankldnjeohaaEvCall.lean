/- codec.Event of any event, at tables of any content. -/
import Derived.Test.YtbgankldnjeohaaEvForm
set_option linter.unusedVariables false
set_option linter.unusedSimpArgs false
set_option maxRecDepth 100000
namespace Go.Proofs.Ytbgankldnjeohaa
open Go.RowKit Go.Lib Go.Shelf

theorem event_call {k i s j : Int} {v e1 : Value} {w : World} (hv : ∃ ao n cap, v = .slice ao n cap)
    (C : Hid (∀ w1, Below w.heap.size w w1 → Calls Try.prog 18 #[.iface 55 (.agg #[.int .i64 k, .int .i64 i, .int .i64 s, v])] w1 fun e w' => e = .returned (.tuple #[e1, .int .i64 j]) ∧ Below w1.heap.size w1 w')) :
    Calls Try.prog 14 #[.agg #[.int .i64 k, .int .i64 i, .int .i64 s, v]] w fun e w' => e = .returned (.tuple #[e1, .int .i64 j]) ∧ Below w.heap.size w w' := by
  obtain ⟨ao, n, cap, rfl⟩ := hv
  go_enter Try.func14, Try.ntmps14
  go_wp2_with fail
  refine (C.out _ (by go_grown)).mono ?_
  rintro e w1 ⟨rfl, hb1⟩
  have HB1 : Hid (Below w.heap.size w w1) := ((Below.refl _ _).alloc (Nat.le_refl _) _).trans (hb1.mono (by rw [World.size_alloc]; omega))
  clear C hb1
  go_wp2_with fail
  go_ret2
  exact ⟨rfl, HB1.out⟩
/-- What an event that may be is like. -/
theorem evMay_facts {t : Tb} {k i s : Int} {xs : List (List UInt8)} (h : evMay t k i s xs = true) : (1 ≤ k ∧ k ≤ 6) ∧ (1 ≤ i ∧ i ≤ 60) ∧ (0 ≤ s ∧ s ≤ 7) ∧ xs.length ≤ 2 ∧ (∀ x ∈ xs, x.length ≤ 32) ∧ (k ≠ 1 → xs = []) ∧ (k = 6 → s = 0) ∧ (k = 1 → keysX t xs = true) := by
  unfold evMay btw at h
  rw [Bool.and_eq_true, Bool.and_eq_true] at h
  obtain ⟨⟨h1, h2⟩, h3⟩ := h
  simp only [Bool.and_eq_true, decide_eq_true_eq] at h1 h2
  split at h3
  · rename_i k1
    rw [Bool.and_eq_true] at h3
    simp only [Bool.and_eq_true, decide_eq_true_eq] at h3
    refine ⟨h1, h2, h3.1, keysX_len h3.2, fun x hx => ?_, fun hn => absurd k1 hn, fun h6 => by omega, fun _ => h3.2⟩
    obtain ⟨j, hj, rfl⟩ := List.getElem_of_mem hx
    have ho := keysX_at h3.2 hj
    unfold okAt at ho
    rw [Bool.and_eq_true] at ho
    have hz := isNm_size ho.1
    have e : (tx xs j).size = xs[j].length := by unfold tx; simp [ByteArray.size, hj]
    omega
  · rename_i k1
    split at h3
    · simp only [Bool.and_eq_true, decide_eq_true_eq] at h3
      have hx : xs = [] := List.eq_nil_of_length_eq_zero h3.2
      subst hx
      exact ⟨h1, h2, by omega, by simp, by simp, fun _ => rfl, fun _ => h3.1, fun hn => absurd hn k1⟩
    · rename_i k6
      simp only [Bool.and_eq_true, decide_eq_true_eq] at h3
      have hx : xs = [] := List.eq_nil_of_length_eq_zero h3.2
      subst hx
      exact ⟨h1, h2, h3.1, by simp, by simp, fun _ => rfl, fun hn => absurd hn k6, fun hn => absurd hn k1⟩
theorem lst_small {xs : List (List UInt8)} (h : xs.length ≤ 2) (h2 : ∀ x ∈ xs, x.length ≤ 32) : (PackMath.lst xs).length ≤ 88 := by
  have hn : (PackMath.num xs.length).length ≤ 8 := PackMath.num_len8 _ (by omega)
  have ht : ∀ x ∈ xs, (PackMath.txt x).length ≤ 40 := fun x hx => by
    have h1 := h2 x hx
    have := PackMath.num_len8 x.length (by omega)
    unfold PackMath.txt
    rw [List.length_append]
    omega
  unfold PackMath.lst PackMath.txts
  rw [List.length_append]
  match xs, h, ht, hn with
  | [], _, _, hn =>
    have h0 : (PackMath.num 0).length ≤ 8 := PackMath.num_len8 0 (by omega)
    simp
    omega
  | [a], _, ht, hn =>
    have ha := ht a (by simp)
    simp only [List.flatMap_cons, List.flatMap_nil, List.length_append, List.length_nil]
    omega
  | [a, b], _, ht, hn =>
    have ha := ht a (by simp)
    have hb := ht b (by simp)
    simp only [List.flatMap_cons, List.flatMap_nil, List.length_append, List.length_nil]
    omega
  | _ :: _ :: _ :: _, h, _, _ => simp at h
theorem event_yes (t : Tb) (k i s : Nat) (v : Value) (xs : List (List UInt8)) (w : World) (hT : Hid (TabX t w)) (hlow : Hid (0 < w.heap.size ∧ 1 < w.heap.size)) (hS : SRow w v xs) (hm : evMay t k i s xs = true) :
    Calls Try.prog 14 #[.agg #[.int .i64 (k : Int), .int .i64 (i : Int), .int .i64 (s : Int), v]] w fun e w' => e = .returned (.tuple #[bstr (evL k i s xs), .int .i64 0]) ∧ Below w.heap.size w w' := by
  obtain ⟨f1, f2, f3, f4, f5, _⟩ := evMay_facts hm
  refine event_call (by obtain ⟨ao, cap, rfl, _⟩ := hS; exact ⟨_, _, _, rfl⟩) (fun w1 hb1 => write_yesW _ _ _ _ _ w1 (m_event_may _) (m_event_form _) e_event_may e_event_form ?_ (fun w2 hb2 => ?_))
  · have x := evMay_any t (k : Int) i s v xs (by omega) (fun x hx => by have := f5 x hx; omega) w1 (hT.out.below hb1 hlow.out) ⟨Nat.lt_of_lt_of_le hlow.out.1 hb1.size, Nat.lt_of_lt_of_le hlow.out.2 hb1.size⟩ (srow_below hS hb1)
    rw [hm] at x
    exact x
  · exact evForm_any k i s (by omega) (by omega) (by omega) v xs f4 (fun x hx => by have := f5 x hx; omega) (by have := lst_small f4 f5; omega) w2 (srow_below (srow_below hS hb1) hb2)
theorem event_no (t : Tb) (k i s : Int) (v : Value) (xs : List (List UInt8)) (hx : xs.length ≤ 140737488355328) (hxs : ∀ s ∈ xs, s.length ≤ 140737488351232) (w : World) (hT : Hid (TabX t w)) (hlow : Hid (0 < w.heap.size ∧ 1 < w.heap.size)) (hS : SRow w v xs) (hm : evMay t k i s xs = false) :
    Calls Try.prog 14 #[.agg #[.int .i64 k, .int .i64 i, .int .i64 s, v]] w fun e w' => e = .returned (.tuple #[.string ⟨#[]⟩, .int .i64 1]) ∧ Below w.heap.size w w' := by
  refine event_call (by obtain ⟨ao, cap, rfl, _⟩ := hS; exact ⟨_, _, _, rfl⟩) (fun w1 hb1 => write_noW _ _ _ w1 (m_event_may _) e_event_may ?_)
  have x := evMay_any t k i s v xs hx hxs w1 (hT.out.below hb1 hlow.out) ⟨Nat.lt_of_lt_of_le hlow.out.1 hb1.size, Nat.lt_of_lt_of_le hlow.out.2 hb1.size⟩ (srow_below hS hb1)
  rw [hm] at x
  exact x
end Go.Proofs.Ytbgankldnjeohaa
