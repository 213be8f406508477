/- The walks of the laws' own same and does. -/
import Derived.Test.YtlhbkbjpdpofnaaCountW
import Derived.Deep.RegionHeld3
set_option linter.unusedVariables false
set_option maxRecDepth 100000
namespace Go.Proofs.Ytlhbkbjpdpofnaa
open Go.RowKit

set_option maxHeartbeats 1600000 in
theorem same_true (xs : List Txt) (hx : xs.length ≤ 140737488355328) (v v2 : Value) (w : World) (h1 : SRow w v xs) (h2 : SRow w v2 xs) :
    Calls Try.prog 14 #[v, v2] w fun e w' => e = .returned (.bool true) ∧ Below w.heap.size w w' := by
  obtain ⟨ao, cap, rfl, hca, _, hrow⟩ := h1
  obtain ⟨bo, cap2, rfl, hcb, _, hrow2⟩ := h2
  have HR : Hid (∀ j, (h : j < xs.length) → ∃ g o, ao = some ⟨g, o, none⟩ ∧ g < w.heap.size ∧ w.cell? ⟨g, o + j, none⟩ = some (.string xs[j])) := hrow
  have HR2 : Hid (∀ j, (h : j < xs.length) → ∃ g o, bo = some ⟨g, o, none⟩ ∧ g < w.heap.size ∧ w.cell? ⟨g, o + j, none⟩ = some (.string xs[j])) := hrow2
  clear hrow hrow2
  go_enter Try.func14, Try.ntmps14
  go_wp2
  go_loopw [5] (fun i wr => ∃ k q : Nat, wr = w.drewN q ∧ k ≤ xs.length ∧ i = .int .i64 k) (fun i _ => xs.length - (intOf i).toNat)
  case atStart => exact ⟨0, 0, rfl, Nat.zero_le _, rfl⟩
  case round =>
    obtain ⟨k, q, rfl, hk, rfl⟩ := hrel
    by_cases hlt : k < xs.length
    · obtain ⟨g, o, rfl, _, hc1⟩ := HR.out k hlt
      obtain ⟨g2, o2, rfl, _, hc2⟩ := HR2.out k hlt
      generalize xs[k] = x at *
      clear HR HR2
      have i1 : (k : Int) < (xs.length : Int) := by omega
      go_wp2
      go_quiet (fail)
      go_wp2
      exact ⟨⟨k + 1, _, rfl, by omega, by go_num⟩, by simp [intOf]; omega⟩
    · clear HR HR2
      go_wp2
      go_ret
      exact ⟨rfl, below_drewN (Below.refl _ _) q⟩

/-- Both pools, and the block that holds the call. -/
abbrev Both (b q : Nat) (room : Int) (l m : List Txt) (Q : Nat) (D N : Int) (s : Txt) (rs : List Res) : List Res := PoolR b room l :: PoolR q room m :: BlockR Q [.int .i64 D, .int .i64 N, .string s] :: rs
theorem Has.opCells {B : Nat} {w wr : World} {Q : Nat} {D N : Int} {s : Txt} {rs : List Res} (h : Has B w rs wr) (hm : BlockR Q [.int .i64 D, .int .i64 N, .string s] ∈ rs) : wr.cell? ⟨Q, 0, none⟩ = some (.int .i64 D) ∧ wr.cell? ⟨Q, 1, none⟩ = some (.int .i64 N) ∧ wr.cell? ⟨Q, 2, none⟩ = some (.string s) := by
  obtain ⟨F, ⟨h1, _⟩, _⟩ := h.get hm
  exact ⟨(h1 0 _ rfl).1, (h1 1 _ rfl).1, (h1 2 _ rfl).1⟩
theorem Has.opB {B : Nat} {w wr : World} {b q Q : Nat} {room : Int} {l m : List Txt} {D N : Int} {s : Txt} {rs : List Res} (h : Has B w (Both b q room l m Q D N s rs) wr) : wr.cell? ⟨Q, 0, none⟩ = some (.int .i64 D) ∧ wr.cell? ⟨Q, 1, none⟩ = some (.int .i64 N) ∧ wr.cell? ⟨Q, 2, none⟩ = some (.string s) := h.opCells (Q := Q) (D := D) (N := N) (s := s) (by simp)
/-- The call is laid into a block. -/
theorem Has.laidOp {B : Nat} {w wr : World} {b q : Nat} {room : Int} {l : List Txt} {rs : List Res} (h : Has B w (PoolR b room l :: PoolR q room l :: rs) wr) (D N : Int) (s : Txt) : Has B w (Both b q room l l wr.heap.size D N s rs) (wr.alloc (.cells #[.int .i64 D, .int .i64 N, .string s] 38)) := by
  have h1 := h.add (new := [BlockR wr.heap.size [.int .i64 D, .int .i64 N, .string s]]) ((Below.refl _ _).alloc (Nat.le_refl _) _) (Hold.one (block_new wr [.int .i64 D, .int .i64 N, .string s] 38)) (fun k hk => by rw [hk]; exact Nat.le_refl _)
  exact h1.perm ((List.Perm.swap _ _ _).trans ((List.Perm.swap _ _ _).cons _))
theorem Has.unlaid {B : Nat} {w wr : World} {b q Q : Nat} {room : Int} {l m : List Txt} {D N : Int} {s : Txt} {rs : List Res} (h : Has B w (Both b q room l m Q D N s rs) wr) : Has B w (PoolR b room l :: PoolR q room m :: rs) wr :=
  (h.perm (((List.Perm.swap _ _ _).cons _).trans (List.Perm.swap _ _ _))).drop
section
variable {B : Nat} {w : World} {b q Q : Nat} {room : Int} {l m : List Txt} {rs : List Res}

theorem Has.send2 {wr : World} {D N : Int} {s : Txt} (h : Has B w (Both b q room l m Q D N s rs) wr) (hr : room ≤ 200) (hl : (m.length : Int) ≤ room) : Calls Try.prog 23 #[.pointer (some ⟨q, 0, none⟩), .string s] wr fun e w' => e = .returned (.int .i64 (aSend room m s).2) ∧ Has B w (Both b q room l (aSend room m s).1 Q D N s rs) w' := by
  have h1 := h.perm (List.Perm.swap _ _ _)
  exact (h1.refSend hr hl s).mono fun e w' ⟨k1, k2⟩ => ⟨k1, k2.perm (List.Perm.swap _ _ _)⟩
set_option maxHeartbeats 2000000 in
theorem does_send {wr : World} (h : Has B w (PoolR b room l :: PoolR q room l :: rs) wr) (hr : room ≤ 200) (hl : (l.length : Int) ≤ room) (N : Int) (s : Txt) :
    Calls Try.prog 13 #[.pointer (some ⟨b, 0, none⟩), .pointer (some ⟨q, 0, none⟩), .agg #[.int .i64 0, .int .i64 N, .string s]] wr fun e w' => e = .returned (.bool true) ∧ ∃ l' : List Txt, (l'.length : Int) ≤ room ∧ Has B w (PoolR b room l' :: PoolR q room l' :: rs) w' := by
  have h0 := h.laidOp 0 N s
  obtain ⟨w0, hw0⟩ : ∃ w0, w0 = wr.alloc (.cells #[.int .i64 0, .int .i64 N, .string s] 38) := ⟨_, rfl⟩
  have HW0 : Hid (w0 = wr.alloc (.cells #[.int .i64 0, .int .i64 N, .string s] 38)) := hw0
  rw [← hw0] at h0
  clear hw0
  obtain ⟨Q, hQ⟩ : ∃ Q, Q = wr.heap.size := ⟨_, rfl⟩
  have HQ : Hid (Q = wr.heap.size) := hQ
  rw [← hQ] at h0
  clear hQ
  obtain ⟨c0, c1, c2⟩ := h0.opB
  have H1 : Hid (Has B w (Both b q room l l Q 0 N s rs) w0.drew) := h0.below ((Below.refl _ _).drew)
  have C1 : Hid (Calls Try.prog 17 #[.pointer (some ⟨b, 0, none⟩), .string s] w0.drew fun e w' => e = .returned (.int .i64 (aSend room l s).2) ∧ w'.cell? ⟨Q, 2, none⟩ = some (.string s) ∧ Hid (Has B w (Both b q room (aSend room l s).1 l Q 0 N s rs) w')) := (H1.out.send hr hl s).mono fun e w' ⟨k1, k2⟩ => ⟨k1, (k2.opB).2.2, k2⟩
  have C2 : Hid (∀ w1, Hid (Has B w (Both b q room (aSend room l s).1 l Q 0 N s rs) w1) → Calls Try.prog 23 #[.pointer (some ⟨q, 0, none⟩), .string s] w1 fun e w' => e = .returned (.int .i64 (aSend room l s).2) ∧ w'.cell? ⟨Q, 2, none⟩ = some (.string s) ∧ Hid (Has B w (Both b q room (aSend room l s).1 (aSend room l s).1 Q 0 N s rs) w')) := fun w1 h => (h.out.send2 hr hl).mono fun e w' ⟨k1, k2⟩ => ⟨k1, (k2.opB).2.2, k2⟩
  have HL : Hid ((((aSend room l s).1.length : Nat) : Int) ≤ room) := aSend_len hl s
  have HEND : Hid (∀ w1, Hid (Has B w (Both b q room (aSend room l s).1 (aSend room l s).1 Q 0 N s rs) w1) → Has B w (PoolR b room (aSend room l s).1 :: PoolR q room (aSend room l s).1 :: rs) w1) := fun w1 h => h.out.unlaid
  generalize (aSend room l s).1 = l2 at *
  generalize (aSend room l s).2 = er at *
  clear h h0
  go_enter Try.func13, Try.ntmps13
  go_wp2_with fail
  rw [← HW0.out, ← HQ.out]
  clear HW0 HQ
  go_wp2_with fail
  go_region_held3 (fun w' => w'.cell? ⟨Q, 2, none⟩ = some (.string s)) (go_keep) (first | (go_at_call 17; refine C1.out.mono ?_; rintro e w1 ⟨rfl, m1, HT1⟩) | (go_at_call 23; refine (C2.out _ (by assumption)).mono ?_; rintro e w2 ⟨rfl, m2, HT2⟩))
  all_goals go_wp2
  all_goals go_ret
  all_goals exact ⟨rfl, l2, HL.out, HEND.out _ (by assumption)⟩

theorem Has.double2 {wr : World} {D N : Int} {s : Txt} (h : Has B w (Both b q room l m Q D N s rs) wr) (hr : room ≤ 200) (hl : (m.length : Int) ≤ room) : Calls Try.prog 25 #[.pointer (some ⟨q, 0, none⟩), .int .i64 N] wr fun e w' => e = .returned (.int .i64 (aDouble room m N).2) ∧ Has B w (Both b q room l (aDouble room m N).1 Q D N s rs) w' := by
  have h1 := h.perm (List.Perm.swap _ _ _)
  exact (h1.refDouble hr hl N).mono fun e w' ⟨k1, k2⟩ => ⟨k1, k2.perm (List.Perm.swap _ _ _)⟩
set_option maxHeartbeats 2000000 in
theorem does_double {wr : World} (h : Has B w (PoolR b room l :: PoolR q room l :: rs) wr) (hr : room ≤ 200) (hl : (l.length : Int) ≤ room) (N : Int) (s : Txt) :
    Calls Try.prog 13 #[.pointer (some ⟨b, 0, none⟩), .pointer (some ⟨q, 0, none⟩), .agg #[.int .i64 2, .int .i64 N, .string s]] wr fun e w' => e = .returned (.bool true) ∧ ∃ l' : List Txt, (l'.length : Int) ≤ room ∧ Has B w (PoolR b room l' :: PoolR q room l' :: rs) w' := by
  have h0 := h.laidOp 2 N s
  obtain ⟨w0, hw0⟩ : ∃ w0, w0 = wr.alloc (.cells #[.int .i64 2, .int .i64 N, .string s] 38) := ⟨_, rfl⟩
  have HW0 : Hid (w0 = wr.alloc (.cells #[.int .i64 2, .int .i64 N, .string s] 38)) := hw0
  rw [← hw0] at h0
  clear hw0
  obtain ⟨Q, hQ⟩ : ∃ Q, Q = wr.heap.size := ⟨_, rfl⟩
  have HQ : Hid (Q = wr.heap.size) := hQ
  rw [← hQ] at h0
  clear hQ
  obtain ⟨c0, c1, c2⟩ := h0.opB
  have H1 : Hid (Has B w (Both b q room l l Q 2 N s rs) w0.drew) := h0.below ((Below.refl _ _).drew)
  have C1 : Hid (Calls Try.prog 19 #[.pointer (some ⟨b, 0, none⟩), .int .i64 N] w0.drew fun e w' => e = .returned (.int .i64 (aDouble room l N).2) ∧ w'.cell? ⟨Q, 1, none⟩ = some (.int .i64 N) ∧ Hid (Has B w (Both b q room (aDouble room l N).1 l Q 2 N s rs) w')) := (H1.out.double hr hl N).mono fun e w' ⟨k1, k2⟩ => ⟨k1, (k2.opB).2.1, k2⟩
  have C2 : Hid (∀ w1, Hid (Has B w (Both b q room (aDouble room l N).1 l Q 2 N s rs) w1) → Calls Try.prog 25 #[.pointer (some ⟨q, 0, none⟩), .int .i64 N] w1 fun e w' => e = .returned (.int .i64 (aDouble room l N).2) ∧ w'.cell? ⟨Q, 1, none⟩ = some (.int .i64 N) ∧ Hid (Has B w (Both b q room (aDouble room l N).1 (aDouble room l N).1 Q 2 N s rs) w')) := fun w1 h => (h.out.double2 hr hl).mono fun e w' ⟨k1, k2⟩ => ⟨k1, (k2.opB).2.1, k2⟩
  have HL : Hid ((((aDouble room l N).1.length : Nat) : Int) ≤ room) := aDouble_len hl N
  have HEND : Hid (∀ w1, Hid (Has B w (Both b q room (aDouble room l N).1 (aDouble room l N).1 Q 2 N s rs) w1) → Has B w (PoolR b room (aDouble room l N).1 :: PoolR q room (aDouble room l N).1 :: rs) w1) := fun w1 h => h.out.unlaid
  generalize (aDouble room l N).1 = l2 at *
  generalize (aDouble room l N).2 = er at *
  clear h h0
  go_enter Try.func13, Try.ntmps13
  go_wp2_with fail
  rw [← HW0.out, ← HQ.out]
  clear HW0 HQ
  go_wp2_with fail
  go_region_held3 (fun w' => w'.cell? ⟨Q, 1, none⟩ = some (.int .i64 N)) (go_keep) (first | (go_at_call 19; refine C1.out.mono ?_; rintro e w1 ⟨rfl, m1, HT1⟩) | (go_at_call 25; refine (C2.out _ (by assumption)).mono ?_; rintro e w2 ⟨rfl, m2, HT2⟩))
  all_goals go_wp2
  all_goals go_ret
  all_goals exact ⟨rfl, l2, HL.out, HEND.out _ (by assumption)⟩

set_option maxHeartbeats 2000000 in
theorem does_take {wr : World} (h : Has B w (PoolR b room l :: PoolR q room l :: rs) wr) (hr : room ≤ 200) (hl : (l.length : Int) ≤ room) (N : Int) (s : Txt) :
    Calls Try.prog 13 #[.pointer (some ⟨b, 0, none⟩), .pointer (some ⟨q, 0, none⟩), .agg #[.int .i64 1, .int .i64 N, .string s]] wr fun e w' => e = .returned (.bool true) ∧ ∃ l' : List Txt, (l'.length : Int) ≤ room ∧ Has B w (PoolR b room l' :: PoolR q room l' :: rs) w' := by
  have h0 := h.laidOp 1 N s
  obtain ⟨w0, hw0⟩ : ∃ w0, w0 = wr.alloc (.cells #[.int .i64 1, .int .i64 N, .string s] 38) := ⟨_, rfl⟩
  have HW0 : Hid (w0 = wr.alloc (.cells #[.int .i64 1, .int .i64 N, .string s] 38)) := hw0
  rw [← hw0] at h0
  clear hw0
  obtain ⟨Q, hQ⟩ : ∃ Q, Q = wr.heap.size := ⟨_, rfl⟩
  have HQ : Hid (Q = wr.heap.size) := hQ
  rw [← hQ] at h0
  clear hQ
  obtain ⟨c0, c1, c2⟩ := h0.opB
  have C1 : Hid (Calls Try.prog 18 #[.pointer (some ⟨b, 0, none⟩), .int .i64 N] w0 fun e w' => e = .returned (.tuple #[.string (aTake l N).2.1, .int .i64 (aTake l N).2.2]) ∧ w'.cell? ⟨Q, 1, none⟩ = some (.int .i64 N) ∧ Hid (Has B w (Both b q room (aTake l N).1 l Q 1 N s rs) w')) := (h0.take (by omega) N).mono fun e w' ⟨k1, k2⟩ => ⟨k1, (k2.opB).2.1, k2⟩
  have C2 : Hid (∀ w1, Hid (Has B w (Both b q room (aTake l N).1 l Q 1 N s rs) w1) → Calls Try.prog 24 #[.pointer (some ⟨q, 0, none⟩), .int .i64 N] w1 fun e w' => e = .returned (.tuple #[.string (aTake l N).2.1, .int .i64 (aTake l N).2.2]) ∧ Hid (Has B w (PoolR b room (aTake l N).1 :: PoolR q room (aTake l N).1 :: rs) w')) := fun w1 h => ((h.out.perm (List.Perm.swap _ _ _)).refTake (by omega) N).mono fun e w' ⟨k1, k2⟩ => ⟨k1, (show Has B w (Both b q room (aTake l N).1 (aTake l N).1 Q 1 N s rs) w' from k2.perm (List.Perm.swap _ _ _)).unlaid⟩
  have HL : Hid (((aTake l N).1.length : Int) ≤ room) := aTake_len hl N
  generalize (aTake l N).1 = l2 at *
  generalize (aTake l N).2.1 = ts at *
  generalize (aTake l N).2.2 = er at *
  clear h h0
  go_enter Try.func13, Try.ntmps13
  go_wp2_with fail
  rw [← HW0.out, ← HQ.out]
  clear HW0 HQ
  go_wp2_with fail
  refine C1.out.mono ?_
  rintro e w1 ⟨rfl, m1, HT1⟩
  go_wp2_with fail
  refine (C2.out _ HT1).mono ?_
  rintro e w2 ⟨rfl, HT2⟩
  clear HT1 C1 C2
  go_wp2
  go_ret
  exact ⟨rfl, l2, HL.out, HT2.out⟩
/-- A text of a row written anew. -/
theorem Has.store {wr : World} {g cap n : Nat} {xs : List Txt} (h : Has B w (RowR (.slice (some ⟨g, 0, none⟩) n cap) xs :: rs) wr) (hn : n = xs.length) (j : Nat) (s : Txt) : Has B w (RowR (.slice (some ⟨g, 0, none⟩) n cap) (xs.set j s) :: rs) (wr.setCell ⟨g, j, none⟩ (.string s)) := by
  subst hn
  refine h.turn (new := [RowR (.slice (some ⟨g, 0, none⟩) xs.length cap) (xs.set j s)]) ?_
  rintro F ⟨ho, rfl⟩
  refine ⟨_, Hold.one ⟨?_, rfl⟩, (chg_set wr ⟨g, j, none⟩ (.string s)).mono (fun k _ e => by rw [e]; rfl), fun k hk => Or.inl hk⟩
  have := own_set ho j (.string s)
  rw [List.length_set]
  refine own_cast rfl ?_ this
  simp [sv, List.map_set]
set_option maxHeartbeats 2000000 in
theorem does_all {wr : World} (h : Has B w (PoolR b room l :: PoolR q room l :: rs) wr) (hr : room ≤ 200) (hl : (l.length : Int) ≤ room) (D N : Int) (s : Txt) (h0 : ¬ D = 0) (h1 : ¬ D = 1) (h2 : ¬ D = 2) :
    Calls Try.prog 13 #[.pointer (some ⟨b, 0, none⟩), .pointer (some ⟨q, 0, none⟩), .agg #[.int .i64 D, .int .i64 N, .string s]] wr fun e w' => e = .returned (.bool true) ∧ ∃ l' : List Txt, (l'.length : Int) ≤ room ∧ Has B w (PoolR b room l' :: PoolR q room l' :: rs) w' := by
  have hb := (h.below ((Below.refl _ _).alloc (Nat.le_refl _) (.cells #[.int .i64 D, .int .i64 N, .string s] 38)))
  have C1 : Hid (Calls Try.prog 10 #[.pointer (some ⟨b, 0, none⟩)] (wr.alloc (.cells #[.int .i64 D, .int .i64 N, .string s] 38)) fun e w' => ∃ ao cap, e = .returned (.slice ao l.length cap) ∧ Hid (Has B w (RowR (.slice ao l.length cap) l :: PoolR b room l :: PoolR q room l :: rs) w')) := (hb.all (by omega)).mono fun e w' ⟨v, k1, k2⟩ => by
    obtain ⟨ao, cap, rfl, _⟩ := own_form (k2.row (v := v) (l := l) (by simp))
    exact ⟨ao, cap, k1, k2⟩
  have HL : Hid ((l.length : Int) ≤ room) := hl
  have hl2 : l.length ≤ 200 := by omega
  have d0 : decide (D = 0) = false := by simpa using h0
  have d1 : decide (D = 1) = false := by simpa using h1
  have d2 : decide (D = 2) = false := by simpa using h2
  have e0 : (D == 0) = false := by simpa using h0
  have e1 : (D == 1) = false := by simpa using h1
  have e2 : (D == 2) = false := by simpa using h2
  clear h hb
  go_enter Try.func13, Try.ntmps13
  go_wp2_with fail
  refine C1.out.mono ?_
  rintro e w1 ⟨ao, cap, rfl, HT⟩
  clear C1
  go_wp2_with fail
  go_loopw [12] (fun i wa => ∃ (k : Nat) (xs : List Txt), k ≤ l.length ∧ i = .int .i64 (k : Int) ∧ Hid (xs.length = l.length) ∧ Hid (Has B w (RowR (.slice ao l.length cap) xs :: PoolR b room l :: PoolR q room l :: rs) wa)) (fun i _ => l.length - (intOf i).toNat)
  case atStart => exact ⟨0, l, Nat.zero_le _, rfl, rfl, HT⟩
  case round =>
    obtain ⟨k, xs, hk, rfl, HX, HS⟩ := hrel
    clear HT
    by_cases hlt : k < l.length
    · have hown := HS.out.row (v := .slice ao l.length cap) (l := xs) (by simp)
      rw [HX.out] at hown
      obtain ⟨ao', cap', he, _, hn, hr3⟩ := own_form hown
      cases he
      cases ao with
      | none => have := (hn rfl).1; omega
      | some p =>
        obtain ⟨g, rfl, _, hg, hc, hf, _⟩ := hr3 p rfl
        have c1 : wr.cell? ⟨g, k, none⟩ = (sv xs)[k]? := hc k (by omega)
        rw [sv_at xs k (by rw [HX.out]; exact hlt)] at c1
        have f1 := hf k
        have HS2 : Hid (Has B w (RowR (.slice (some ⟨g, 0, none⟩) l.length cap) (xs.set k ⟨#[120]⟩) :: PoolR b room l :: PoolR q room l :: rs) (wr.setCell ⟨g, k, none⟩ (.string ⟨#[120]⟩))) := HS.out.store HX.out.symm k ⟨#[120]⟩
        have HX2 : Hid ((xs.set k ⟨#[120]⟩).length = l.length) := by rw [List.length_set]; exact HX
        have i1 : (k : Int) < (l.length : Int) := by omega
        generalize xs[k]'(by rw [HX.out]; exact hlt) = xk at *
        clear HS hown hn hr3 hc hf
        go_wp2
        exact ⟨⟨k + 1, _, by omega, by go_num, HX2, HS2⟩, by simp [intOf]; omega⟩
    · obtain rfl : k = l.length := by omega
      have HS2 : Hid (Has B w (PoolR b room l :: PoolR q room l :: rs) wr) := HS.out.drop
      clear HS
      go_wp2
      go_ret
      exact ⟨rfl, l, HL.out, HS2.out⟩
theorem does_any {wr : World} (h : Has B w (PoolR b room l :: PoolR q room l :: rs) wr) (hr : room ≤ 200) (hl : (l.length : Int) ≤ room) (D N : Int) (s : Txt) :
    Calls Try.prog 13 #[.pointer (some ⟨b, 0, none⟩), .pointer (some ⟨q, 0, none⟩), .agg #[.int .i64 D, .int .i64 N, .string s]] wr fun e w' => e = .returned (.bool true) ∧ ∃ l' : List Txt, (l'.length : Int) ≤ room ∧ Has B w (PoolR b room l' :: PoolR q room l' :: rs) w' := by
  by_cases h0 : D = 0
  · subst h0; exact does_send h hr hl N s
  by_cases h1 : D = 1
  · subst h1; exact does_take h hr hl N s
  by_cases h2 : D = 2
  · subst h2; exact does_double h hr hl N s
  exact does_all h hr hl D N s h0 h1 h2
end
end Go.Proofs.Ytlhbkbjpdpofnaa
