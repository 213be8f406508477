/- The calls on pools, beside other things; the laws' own pick and live. -/
import Derived.Test.YtlhbkbjpdpofnaaRefW
set_option linter.unusedVariables false
set_option maxRecDepth 100000
namespace Go.Proofs.Ytlhbkbjpdpofnaa
open Go.RowKit

theorem aAdd_len {room : Int} {l : List Txt} (h : (l.length : Int) ≤ room) (s : Txt) : ((aAdd room l s).1.length : Int) ≤ room := by
  unfold aAdd
  split
  · exact h
  · simp; omega
theorem aSend_len {room : Int} {l : List Txt} (h : (l.length : Int) ≤ room) (s : Txt) : ((aSend room l s).1.length : Int) ≤ room := by
  unfold aSend
  split
  · exact h
  · exact aAdd_len h s
theorem aTake_len {room : Int} {l : List Txt} (h : (l.length : Int) ≤ room) (i : Int) : ((aTake l i).1.length : Int) ≤ room := by
  unfold aTake
  split
  · exact h
  · have := List.length_eraseIdx_le l i.toNat
    simp only
    omega
theorem aDouble_len {room : Int} {l : List Txt} (h : (l.length : Int) ≤ room) (i : Int) : ((aDouble room l i).1.length : Int) ≤ room := by
  unfold aDouble
  split
  · exact h
  · exact aAdd_len h _

section
variable {B : Nat} {w wr : World} {b : Nat} {room : Int} {l : List Txt} {rs : List Res}
theorem Has.send (h : Has B w (PoolR b room l :: rs) wr) (hr : room ≤ 200) (hl : (l.length : Int) ≤ room) (s : Txt) :
    Calls Try.prog 17 #[.pointer (some ⟨b, 0, none⟩), .string s] wr fun e w' => e = .returned (.int .i64 (aSend room l s).2) ∧ Has B w (PoolR b room (aSend room l s).1 :: rs) w' := by
  refine (h.call (Q := fun e new => e = .returned (.int .i64 (aSend room l s).2) ∧ new = [PoolR b room (aSend room l s).1]) ?_).mono fun e w' ⟨new, ⟨h1, h2⟩, h3⟩ => ⟨h1, by rw [h2] at h3; exact h3⟩
  rintro w F ⟨v, hP, rfl⟩
  refine (send_any w b room v l hP hr hl s).mono fun e w' ⟨k1, k2⟩ => ?_
  obtain ⟨Fn, n1, n2, n3⟩ := k2.hold
  exact ⟨_, Fn, ⟨k1, rfl⟩, n1, n2, n3⟩
theorem Has.take (h : Has B w (PoolR b room l :: rs) wr) (hl : l.length ≤ 200) (i : Int) :
    Calls Try.prog 18 #[.pointer (some ⟨b, 0, none⟩), .int .i64 i] wr fun e w' => e = .returned (.tuple #[.string (aTake l i).2.1, .int .i64 (aTake l i).2.2]) ∧ Has B w (PoolR b room (aTake l i).1 :: rs) w' := by
  refine (h.call (Q := fun e new => e = .returned (.tuple #[.string (aTake l i).2.1, .int .i64 (aTake l i).2.2]) ∧ new = [PoolR b room (aTake l i).1]) ?_).mono fun e w' ⟨new, ⟨h1, h2⟩, h3⟩ => ⟨h1, by rw [h2] at h3; exact h3⟩
  rintro w F ⟨v, hP, rfl⟩
  refine (take_any w b room v l hP hl i).mono fun e w' ⟨k1, k2⟩ => ?_
  obtain ⟨Fn, n1, n2, n3⟩ := k2.hold
  exact ⟨_, Fn, ⟨k1, rfl⟩, n1, n2, n3⟩
theorem Has.double (h : Has B w (PoolR b room l :: rs) wr) (hr : room ≤ 200) (hl : (l.length : Int) ≤ room) (i : Int) :
    Calls Try.prog 19 #[.pointer (some ⟨b, 0, none⟩), .int .i64 i] wr fun e w' => e = .returned (.int .i64 (aDouble room l i).2) ∧ Has B w (PoolR b room (aDouble room l i).1 :: rs) w' := by
  refine (h.call (Q := fun e new => e = .returned (.int .i64 (aDouble room l i).2) ∧ new = [PoolR b room (aDouble room l i).1]) ?_).mono fun e w' ⟨new, ⟨h1, h2⟩, h3⟩ => ⟨h1, by rw [h2] at h3; exact h3⟩
  rintro w F ⟨v, hP, rfl⟩
  refine (double_any w b room v l hP hr hl i).mono fun e w' ⟨k1, k2⟩ => ?_
  obtain ⟨Fn, n1, n2, n3⟩ := k2.hold
  exact ⟨_, Fn, ⟨k1, rfl⟩, n1, n2, n3⟩
theorem Has.refSend (h : Has B w (PoolR b room l :: rs) wr) (hr : room ≤ 200) (hl : (l.length : Int) ≤ room) (s : Txt) :
    Calls Try.prog 23 #[.pointer (some ⟨b, 0, none⟩), .string s] wr fun e w' => e = .returned (.int .i64 (aSend room l s).2) ∧ Has B w (PoolR b room (aSend room l s).1 :: rs) w' := by
  refine (h.call (Q := fun e new => e = .returned (.int .i64 (aSend room l s).2) ∧ new = [PoolR b room (aSend room l s).1]) ?_).mono fun e w' ⟨new, ⟨h1, h2⟩, h3⟩ => ⟨h1, by rw [h2] at h3; exact h3⟩
  rintro w F ⟨v, hP, rfl⟩
  refine (refSend_any w b room v l hP hr hl s).mono fun e w' ⟨k1, k2⟩ => ?_
  obtain ⟨Fn, n1, n2, n3⟩ := k2.hold
  exact ⟨_, Fn, ⟨k1, rfl⟩, n1, n2, n3⟩
theorem Has.refTake (h : Has B w (PoolR b room l :: rs) wr) (hl : l.length ≤ 200) (i : Int) :
    Calls Try.prog 24 #[.pointer (some ⟨b, 0, none⟩), .int .i64 i] wr fun e w' => e = .returned (.tuple #[.string (aTake l i).2.1, .int .i64 (aTake l i).2.2]) ∧ Has B w (PoolR b room (aTake l i).1 :: rs) w' := by
  refine (h.call (Q := fun e new => e = .returned (.tuple #[.string (aTake l i).2.1, .int .i64 (aTake l i).2.2]) ∧ new = [PoolR b room (aTake l i).1]) ?_).mono fun e w' ⟨new, ⟨h1, h2⟩, h3⟩ => ⟨h1, by rw [h2] at h3; exact h3⟩
  rintro w F ⟨v, hP, rfl⟩
  refine (refTake_any w b room v l hP hl i).mono fun e w' ⟨k1, k2⟩ => ?_
  obtain ⟨Fn, n1, n2, n3⟩ := k2.hold
  exact ⟨_, Fn, ⟨k1, rfl⟩, n1, n2, n3⟩
theorem Has.refDouble (h : Has B w (PoolR b room l :: rs) wr) (hr : room ≤ 200) (hl : (l.length : Int) ≤ room) (i : Int) :
    Calls Try.prog 25 #[.pointer (some ⟨b, 0, none⟩), .int .i64 i] wr fun e w' => e = .returned (.int .i64 (aDouble room l i).2) ∧ Has B w (PoolR b room (aDouble room l i).1 :: rs) w' := by
  refine (h.call (Q := fun e new => e = .returned (.int .i64 (aDouble room l i).2) ∧ new = [PoolR b room (aDouble room l i).1]) ?_).mono fun e w' ⟨new, ⟨h1, h2⟩, h3⟩ => ⟨h1, by rw [h2] at h3; exact h3⟩
  rintro w F ⟨v, hP, rfl⟩
  refine (refDouble_any w b room v l hP hr hl i).mono fun e w' ⟨k1, k2⟩ => ?_
  obtain ⟨Fn, n1, n2, n3⟩ := k2.hold
  exact ⟨_, Fn, ⟨k1, rfl⟩, n1, n2, n3⟩
theorem Has.allOk {e : Ending} {w' : World} (h : Has B w rs wr) (ha : AllOk wr l e w') : ∃ v, e = .returned v ∧ Has B w (RowR v l :: rs) w' := by
  obtain ⟨v, h1, h2, h3⟩ := ha
  exact ⟨v, h1, h.add (new := [RowR v l]) h3 (Hold.one ⟨own_base h2 (Nat.zero_le _), rfl⟩) (fun k hk => (h2.lt k hk).1)⟩
theorem Has.all (h : Has B w (PoolR b room l :: rs) wr) (hl : l.length ≤ 200) :
    Calls Try.prog 10 #[.pointer (some ⟨b, 0, none⟩)] wr fun e w' => ∃ v, e = .returned v ∧ Has B w (RowR v l :: PoolR b room l :: rs) w' := by
  obtain ⟨F, ⟨v, hP, _⟩, _⟩ := h.get (r := PoolR b room l) (by simp)
  exact (all_any wr b room v l hP hl).mono fun e w' ha => h.allOk ha
theorem Has.refAll (h : Has B w (PoolR b room l :: rs) wr) (hl : l.length ≤ 200) :
    Calls Try.prog 15 #[.pointer (some ⟨b, 0, none⟩)] wr fun e w' => ∃ v, e = .returned v ∧ Has B w (RowR v l :: PoolR b room l :: rs) w' := by
  obtain ⟨F, ⟨v, hP, _⟩, _⟩ := h.get (r := PoolR b room l) (by simp)
  exact (refAll_any wr b room v l hP hl).mono fun e w' ha => h.allOk ha
theorem Has.len (h : Has B w rs wr) (hm : PoolR b room l ∈ rs) :
    Calls Try.prog 9 #[.pointer (some ⟨b, 0, none⟩)] wr fun e w' => e = .returned (.int .i64 (l.length : Int)) ∧ w' = wr := by
  obtain ⟨F, ⟨v, hP, _⟩, _⟩ := h.get hm
  exact len_any wr b room v l hP
theorem Has.refLen (h : Has B w rs wr) (hm : PoolR b room l ∈ rs) :
    Calls Try.prog 16 #[.pointer (some ⟨b, 0, none⟩)] wr fun e w' => e = .returned (.int .i64 (l.length : Int)) ∧ w' = wr := by
  obtain ⟨F, ⟨v, hP, _⟩, _⟩ := h.get hm
  exact refLen_any wr b room v l hP
theorem Has.fresh {w' : World} (h : Has B w rs wr) (hP : PP w' wr.heap.size room (.slice none 0 0) []) (hb : Below wr.heap.size wr w') : Has B w (PoolR wr.heap.size room [] :: rs) w' :=
  h.add (new := [PoolR wr.heap.size room []]) hb (Hold.one ⟨_, hP, rfl⟩) (fun k hk => by
    rcases hk with rfl | hk
    · exact Nat.le_refl _
    · cases hk)
theorem Has.new (h : Has B w rs wr) (h1 : 1 ≤ room) (h2 : room ≤ 200) :
    Calls Try.prog 7 #[.int .i64 room] wr fun e w' => ∃ b, e = .returned (.tuple #[.pointer (some ⟨b, 0, none⟩), .int .i64 0]) ∧ Has B w (PoolR b room [] :: rs) w' :=
  (new_yes wr room h1 h2).mono fun e w' ⟨k1, k2, k3⟩ => ⟨_, k1, h.fresh k2 k3⟩
theorem Has.refNew (h : Has B w rs wr) (h1 : 1 ≤ room) (h2 : room ≤ 200) :
    Calls Try.prog 8 #[.int .i64 room] wr fun e w' => ∃ b, e = .returned (.tuple #[.pointer (some ⟨b, 0, none⟩), .int .i64 0]) ∧ Has B w (PoolR b room [] :: rs) w' :=
  (refNew_yes wr room h1 h2).mono fun e w' ⟨k1, k2, k3⟩ => ⟨_, k1, h.fresh k2 k3⟩
end
/-- A number made one of 0 to n - 1. -/
def pick (c : Int) (n : Nat) : Nat := if c < 0 then (-(c + 1)).toNat % n else c.toNat % n
theorem pick_lt (c : Int) (n : Nat) (h : 1 ≤ n) : pick c n < n := by unfold pick; split <;> exact Nat.mod_lt _ h
theorem pick_any (c : Int) (n : Nat) (h1 : 1 ≤ n) (h2 : n ≤ 4194304) (hc : -9223372036854775808 ≤ c ∧ c ≤ 9223372036854775807) (w : World) :
    Calls Try.prog 12 #[.int .i64 c, .int .i64 (n : Int)] w fun e w' => e = .returned (.int .i64 (pick c n : Int)) ∧ w' = w := by
  by_cases h : c < 0
  · obtain ⟨m, hm⟩ := Int.eq_ofNat_of_zero_le (show 0 ≤ -(c + 1) by omega)
    have hp : Hid ((pick c n : Int) = -(c + 1).tmod (n : Int)) := by
      show _ = _
      unfold pick
      rw [if_pos h, ← Int.neg_tmod, hm, Int.tmod_eq_emod_of_nonneg (by omega), Int.toNat_natCast]
      rfl
    clear hm
    have n0 : ¬ n = 0 := by omega
    go_enter Try.func12, Try.ntmps12
    go_wp2
    go_ret
    rw [hp.out]
    exact ⟨rfl, rfl⟩
  · obtain ⟨m, rfl⟩ := Int.eq_ofNat_of_zero_le (show 0 ≤ c by omega)
    have hp : Hid ((pick (m : Int) n : Int) = (m : Int) % (n : Int)) := by
      show _ = _
      unfold pick
      rw [if_neg h, Int.toNat_natCast]
      rfl
    have n0 : ¬ n = 0 := by omega
    go_enter Try.func12, Try.ntmps12
    go_wp2
    go_ret
    rw [hp.out]
    exact ⟨rfl, rfl⟩
/-- What live does, told apart. -/
theorem live_math : aSend 1 [] ⟨#[97]⟩ = ([⟨#[97]⟩], 0) ∧ aSend 1 [⟨#[97]⟩] ⟨#[98]⟩ = ([⟨#[97]⟩], 90) ∧ aTake [⟨#[97]⟩] 0 = ([], ⟨#[97]⟩, 0) := by
  refine ⟨?_, ?_, ?_⟩ <;> decide
set_option maxHeartbeats 1000000 in
theorem live_any (w : World) : Calls Try.prog 11 #[] w fun e w' => e = .returned (.bool true) ∧ Below w.heap.size w w' := by
  have C0 : Hid (Calls Try.prog 7 #[.int .i64 1] w fun e w' => ∃ b, e = .returned (.tuple #[.pointer (some ⟨b, 0, none⟩), .int .i64 0]) ∧ Hid (Has w.heap.size w [PoolR b 1 []] w')) := (Has.start w).new (by decide) (by decide)
  have C1 : Hid (∀ b w1, Hid (Has w.heap.size w [PoolR b 1 []] w1) → Calls Try.prog 17 #[.pointer (some ⟨b, 0, none⟩), .string ⟨#[97]⟩] w1 fun e w' => e = .returned (.int .i64 0) ∧ Hid (Has w.heap.size w [PoolR b 1 [⟨#[97]⟩]] w')) := fun b w1 h => by
    have := h.out.send (by decide) (by decide) ⟨#[97]⟩
    rw [live_math.1] at this
    exact this
  have C2 : Hid (∀ b w1, Hid (Has w.heap.size w [PoolR b 1 [⟨#[97]⟩]] w1) → Calls Try.prog 17 #[.pointer (some ⟨b, 0, none⟩), .string ⟨#[98]⟩] w1 fun e w' => e = .returned (.int .i64 90) ∧ Hid (Has w.heap.size w [PoolR b 1 [⟨#[97]⟩]] w')) := fun b w1 h => by
    have := h.out.send (by decide) (by decide) ⟨#[98]⟩
    rw [live_math.2.1] at this
    exact this
  have C3 : Hid (∀ b w1, Hid (Has w.heap.size w [PoolR b 1 [⟨#[97]⟩]] w1) → Calls Try.prog 9 #[.pointer (some ⟨b, 0, none⟩)] w1 fun e w' => e = .returned (.int .i64 1) ∧ w' = w1) := fun b w1 h => h.out.len (room := 1) (l := [⟨#[97]⟩]) (by simp)
  have C4 : Hid (∀ b w1, Hid (Has w.heap.size w [PoolR b 1 [⟨#[97]⟩]] w1) → Calls Try.prog 18 #[.pointer (some ⟨b, 0, none⟩), .int .i64 0] w1 fun e w' => e = .returned (.tuple #[.string ⟨#[97]⟩, .int .i64 0]) ∧ Hid (Has w.heap.size w [PoolR b 1 []] w')) := fun b w1 h => by
    have := h.out.take (by decide) 0
    rw [live_math.2.2] at this
    exact this
  have C5 : Hid (∀ b w1, Hid (Has w.heap.size w [PoolR b 1 []] w1) → Calls Try.prog 9 #[.pointer (some ⟨b, 0, none⟩)] w1 fun e w' => e = .returned (.int .i64 0) ∧ w' = w1) := fun b w1 h => h.out.len (room := 1) (l := []) (by simp)
  have HB : Hid (∀ b w1, Hid (Has w.heap.size w [PoolR b 1 []] w1) → Below w.heap.size w w1) := fun b w1 h => h.out.bel
  go_enter Try.func11, Try.ntmps11
  go_wp2_with fail
  refine C0.out.mono ?_
  rintro e w1 ⟨b, rfl, d1⟩
  go_wp2_with fail
  refine (C1.out _ _ d1).mono ?_
  rintro e w2 ⟨rfl, d2⟩
  clear d1
  go_wp2_with fail
  refine (C2.out _ _ d2).mono ?_
  rintro e w3 ⟨rfl, d3⟩
  clear d2
  go_wp2_with fail
  refine (C3.out _ _ d3).mono ?_
  rintro e w4 ⟨rfl, hw⟩
  rw [hw]; clear hw w4
  go_wp2_with fail
  refine (C4.out _ _ d3).mono ?_
  rintro e w4 ⟨rfl, d4⟩
  clear d3
  go_wp2_with fail
  refine (C5.out _ _ d4).mono ?_
  rintro e w5 ⟨rfl, hw⟩
  rw [hw]; clear hw w5
  go_wp2
  go_ret
  exact ⟨rfl, HB.out _ _ d4⟩
end Go.Proofs.Ytlhbkbjpdpofnaa
