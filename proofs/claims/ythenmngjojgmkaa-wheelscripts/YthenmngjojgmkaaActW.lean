/- The calls on a wheel, whatever their arguments are; what stays as it was; the laws' own pick and begun. -/
import Derived.Test.YthenmngjojgmkaaDueW
set_option linter.unusedVariables false
set_option maxRecDepth 100000
namespace Go.Proofs.Ythenmngjojgmkaa
open Go.RowKit
open WheelMath

/-- A wheel none of whose blocks is among those of S; and those are as they were in w. -/
def WIn (S : Nat → Prop) (w : World) (b : Nat) (r : List T) (w' : World) : Prop := ∃ v l, PW w' b v l ∧ l.Perm r ∧ (∀ k, fpw b v k → k < w.heap.size → ¬ S k) ∧ Chg (fun k => ¬ S k) w w'
theorem wok_win {S : Nat → Prop} {w w1 w2 : World} {b : Nat} {v : Value} {r' : List T} (hB : ∀ k, fpw b v k → k < w.heap.size → ¬ S k) (hb : Chg (fun k => ¬ S k) w w1) (h : WOk w1 b v r' w2) : WIn S w b r' w2 := by
  obtain ⟨v', l', hP, hp, hc, hf⟩ := h
  refine ⟨v', l', hP, hp, fun k hk hlt => ?_, hb.trans hc (fun k hk hfk => hB k hfk hk)⟩
  rcases hf k hk with h1 | h1
  · exact hB k h1 hlt
  · have := hb.size; omega
theorem win_below {S : Nat → Prop} {w w1 w2 : World} {b : Nat} {r : List T} (h : WIn S w b r w1) (hb : Below w1.heap.size w1 w2) : WIn S w b r w2 := by
  obtain ⟨v, l, hP, hp, hB, h1⟩ := h
  exact ⟨v, l, pw_below hP hb, hp, hB, h1.trans (chg_below (S := fun _ => False) hb) (fun _ _ h => h.elim)⟩
theorem win_same {S : Nat → Prop} {w w1 w2 : World} {b : Nat} {r : List T} (h : WIn S w b r w1) (e : w2 = w1) : WIn S w b r w2 := by rw [e]; exact h
theorem win_drewN {S : Nat → Prop} {w w1 w2 : World} {b : Nat} {r : List T} (h : WIn S w b r w1) (e : ∃ q, w2 = w1.drewN q) : WIn S w b r w2 := by
  obtain ⟨q, rfl⟩ := e
  exact win_below h (below_drewN (Below.refl _ _) q)
theorem below_of_win {B : Nat} {w w1 : World} {b : Nat} {r : List T} (h : WIn (fun k => k < B) w b r w1) (hB : B ≤ w.heap.size) : Below B w w1 := by
  obtain ⟨v, l, _, _, _, hc⟩ := h
  exact ⟨hc.os, hc.tape, hc.output, hc.size, fun k hk => hc.block k (by omega) (fun hn => hn hk)⟩
/-- What changed elsewhere, in blocks that are not the wheel's. -/
theorem win_chg {S R : Nat → Prop} {w w1 w2 : World} {b : Nat} {r : List T} (h : WIn S w b r w1) (hc : Chg R w1 w2) (hR : ∀ v, w1.cell? ⟨b, 0, none⟩ = some v → ∀ k, fpw b v k → ¬ R k) (hS : ∀ k, k < w.heap.size → R k → ¬ S k) : WIn S w b r w2 := by
  obtain ⟨v, l, hP, hp, hB, h1⟩ := h
  exact ⟨v, l, pw_chg hP hc (hR v hP.cell), hp, hB, h1.trans hc hS⟩

theorem set_all {S : Nat → Prop} {w w1 : World} {b : Nat} {r : List T} (h : WIn S w b r w1) (hg : WheelMath.Good r) (id tm : Int) :
    Calls Try.prog 11 #[.pointer (some ⟨b, 0, none⟩), .int .i64 id, .int .i64 tm] w1 fun e w' => e = .returned (.int .i64 (aSet r id tm).2) ∧ WIn S w b (aSet r id tm).1 w' := by
  unfold aSet
  by_cases h1 : id < 0 ∨ tm < 0 ∨ 1073741824 < tm
  · rw [if_pos h1]
    exact (set_bad _ id tm h1 w1).mono fun e w' ⟨k1, k2⟩ => ⟨k1, win_same h k2⟩
  · rw [if_neg h1]
    obtain ⟨v, l, hP, hp, hB, hc⟩ := h
    have hll : l.length = r.length := hp.length_eq
    have hl := hg.len
    cases hk : place l id with
    | some k =>
      rw [if_neg (fun hh => hh.1 ((has_perm hp id).1 (has_place hk)))]
      exact (set_hit w1 b v l r (by omega) hP hp hg.ids id tm k hk (by omega) (by omega) (by omega)).mono fun e w' ⟨k1, k2⟩ => ⟨k1, wok_win hB hc k2⟩
    | none =>
      have hn : ¬ has r id := fun hh => place_none hk ((has_perm hp id).2 hh)
      by_cases h2 : 200 ≤ r.length
      · rw [if_pos ⟨hn, h2⟩]
        exact (set_full w1 b v l (by omega) hP id tm hk (by omega) (by omega) (by omega)).mono fun e w' ⟨k1, k2⟩ => ⟨k1, win_below ⟨v, l, hP, hp, hB, hc⟩ k2⟩
      · rw [if_neg (fun hh => h2 hh.2)]
        exact (set_new w1 b v l r (by omega) hP hp id tm hk (by omega) (by omega) (by omega)).mono fun e w' ⟨k1, k2⟩ => ⟨k1, wok_win hB hc k2⟩
theorem stop_all {S : Nat → Prop} {w w1 : World} {b : Nat} {r : List T} (h : WIn S w b r w1) (hg : WheelMath.Good r) (id : Int) :
    Calls Try.prog 12 #[.pointer (some ⟨b, 0, none⟩), .int .i64 id] w1 fun e w' => e = .returned (.bool (decide (has r id))) ∧ WIn S w b (rem r id) w' := by
  obtain ⟨v, l, hP, hp, hB, hc⟩ := h
  have hll : l.length = r.length := hp.length_eq
  have hl := hg.len
  cases hk : place l id with
  | some k =>
    rw [decide_eq_true ((has_perm hp id).1 (has_place hk))]
    exact (stop_hit w1 b v l r (by omega) hP hp hg.ids id k hk).mono fun e w' ⟨k1, k2⟩ => ⟨k1, wok_win hB hc k2⟩
  | none =>
    have hn : ¬ has r id := fun hh => place_none hk ((has_perm hp id).2 hh)
    rw [decide_eq_false hn, rem_none hn]
    exact (stop_none w1 b v l (by omega) hP id hk).mono fun e w' ⟨k1, k2⟩ => ⟨k1, win_below ⟨v, l, hP, hp, hB, hc⟩ k2⟩
theorem len_all {S : Nat → Prop} {w w1 : World} {b : Nat} {r : List T} (h : WIn S w b r w1) :
    Calls Try.prog 20 #[.pointer (some ⟨b, 0, none⟩)] w1 fun e w' => e = .returned (.int .i64 (r.length : Int)) ∧ w' = w1 := by
  obtain ⟨v, l, hP, hp, hB, hc⟩ := h
  rw [← hp.length_eq]
  exact len_any w1 b v l hP
theorem next_all {S : Nat → Prop} {w w1 : World} {b : Nat} {r : List T} (h : WIn S w b r w1) (hg : WheelMath.Good r) :
    Calls Try.prog 18 #[.pointer (some ⟨b, 0, none⟩)] w1 fun e w' => e = .returned (.tuple #[.int .i64 (nextI r), .bool (nextB r)]) ∧ Below w1.heap.size w1 w' ∧ WIn S w b r w' := by
  have h0 := h
  obtain ⟨v, l, hP, hp, hB, hc⟩ := h
  exact (next_any w1 b v l r hP hp hg).mono fun e w' ⟨k1, k2⟩ => ⟨k1, k2, win_below h0 k2⟩
/-- What Due tells: a row of its own. -/
def DueIn (S : Nat → Prop) (w : World) (b : Nat) (r : List T) (now : Int) (w1 : World) (e : Ending) (w' : World) : Prop :=
  ∃ vi, e = .returned vi ∧ w'.ownsRow w1.heap.size 3 1 vi (told r now).length ((told r now).map fun n => .int .i64 n) ∧ WIn S w b (left r now) w' ∧ ∀ v', w'.cell? ⟨b, 0, none⟩ = some v' → ∀ g, vi.ownBlock = some g → ¬ fpw b v' g
theorem due_all {S : Nat → Prop} {w w1 : World} {b : Nat} {r : List T} (h : WIn S w b r w1) (hg : WheelMath.Good r) (now : Int) :
    Calls Try.prog 14 #[.pointer (some ⟨b, 0, none⟩), .int .i64 now] w1 fun e w' => DueIn S w b r now w1 e w' := by
  obtain ⟨v, l, hP, hp, hB, hc⟩ := h
  exact (due_any w1 b v l r hP hp hg now).mono fun e w' ⟨vi, k1, k2, k3, k4⟩ => ⟨vi, k1, k2, wok_win hB hc k3, k4⟩

/-- A number made one of 0 to n - 1. -/
def pick (c : Int) (n : Nat) : Nat := if c < 0 then (-(c + 1)).toNat % n else c.toNat % n
theorem pick_lt (c : Int) (n : Nat) (h : 1 ≤ n) : pick c n < n := by unfold pick; split <;> exact Nat.mod_lt _ h
theorem pick_any (c : Int) (n : Nat) (h1 : 1 ≤ n) (h2 : n ≤ 4194304) (hc : -9223372036854775808 ≤ c ∧ c ≤ 9223372036854775807) (w : World) :
    Calls Try.prog 22 #[.int .i64 c, .int .i64 (n : Int)] w fun e w' => e = .returned (.int .i64 (pick c n : Int)) ∧ w' = w := by
  by_cases h : c < 0
  · obtain ⟨m, hm⟩ := Int.eq_ofNat_of_zero_le (show 0 ≤ -(c + 1) by omega)
    have hp : Hid ((pick c n : Int) = -(c + 1).tmod (n : Int)) := by
      show _ = _
      unfold pick
      rw [if_pos h, ← Int.neg_tmod, hm, Int.tmod_eq_emod_of_nonneg (by omega), Int.toNat_natCast]
      rfl
    clear hm
    have n0 : ¬ n = 0 := by omega
    go_enter Try.func22, Try.ntmps22
    go_wp2
    go_ret
    rw [hp.out]
    exact ⟨rfl, rfl⟩
  · obtain ⟨m, rfl⟩ := Int.eq_ofNat_of_zero_le (show 0 ≤ c by omega)
    have hp : Hid ((pick (m : Int) n : Int) = (m : Int) % (n : Int)) := by
      show _ = _
      unfold pick
      rw [if_neg h, Int.toNat_natCast]
      rfl
    have n0 : ¬ n = 0 := by omega
    go_enter Try.func22, Try.ntmps22
    go_wp2
    go_ret
    rw [hp.out]
    exact ⟨rfl, rfl⟩

/-- The timers that begun sets. -/
def r0 : List T := [(900000, 1073741824), (900001, 1073741824)]
theorem begun_r : (aSet (aSet [] 900001 1073741824).1 900000 1073741824).1 = r0 ∧ (aSet [] 900001 1073741824).2 = 0 ∧ (aSet (aSet [] 900001 1073741824).1 900000 1073741824).2 = 0 := by decide
theorem good_r0 : WheelMath.Good r0 := by
  have := good_aSet (good_aSet good_nil 900001 1073741824) 900000 1073741824
  rw [begun_r.1] at this
  exact this
set_option maxHeartbeats 2000000 in
theorem begun_any (w : World) : Calls Try.prog 8 #[] w fun e w' => ∃ b, e = .returned (.pointer (some ⟨b, 0, none⟩)) ∧ WIn (fun k => k < w.heap.size) w b r0 w' := by
  have C0 : Hid (Calls Try.prog 24 #[] w fun e w' => ∃ b, e = .returned (.pointer (some ⟨b, 0, none⟩)) ∧ WIn (fun k => k < w.heap.size) w b [] w') := by
    refine (new_any w).mono ?_
    rintro e w' ⟨h1, h2, h3⟩
    refine ⟨_, h1, _, [], h2, List.Perm.refl _, fun k hk hlt => ?_, chg_below h3⟩
    rcases hk with rfl | hk
    · omega
    · cases hk
  have C1 : Hid (∀ b w1, WIn (fun k => k < w.heap.size) w b [] w1 → Calls Try.prog 11 #[.pointer (some ⟨b, 0, none⟩), .int .i64 900001, .int .i64 1073741824] w1 fun e w' => e = .returned (.int .i64 0) ∧ WIn (fun k => k < w.heap.size) w b (aSet [] 900001 1073741824).1 w') := fun b w1 h => by
    have := set_all h good_nil 900001 1073741824
    rw [begun_r.2.1] at this
    exact this
  have C2 : Hid (∀ b w1, WIn (fun k => k < w.heap.size) w b (aSet [] 900001 1073741824).1 w1 → Calls Try.prog 11 #[.pointer (some ⟨b, 0, none⟩), .int .i64 900000, .int .i64 1073741824] w1 fun e w' => e = .returned (.int .i64 0) ∧ WIn (fun k => k < w.heap.size) w b r0 w') := fun b w1 h => by
    have := set_all h (good_aSet good_nil 900001 1073741824) 900000 1073741824
    rw [begun_r.2.2, begun_r.1] at this
    exact this
  have C3 : Hid (∀ b w1, WIn (fun k => k < w.heap.size) w b r0 w1 → Calls Try.prog 20 #[.pointer (some ⟨b, 0, none⟩)] w1 fun e w' => e = .returned (.int .i64 2) ∧ w' = w1) := fun b w1 h => len_all h
  generalize (aSet [] 900001 1073741824).1 = r1 at *
  generalize hD : WIn (fun k => k < w.heap.size) w = D at *
  clear hD
  go_enter Try.func8, Try.ntmps8
  go_wp2_with fail
  refine C0.out.mono ?_
  rintro e w1 ⟨b, rfl, d1⟩
  go_wp2_with fail
  refine (C1.out _ _ d1).mono ?_
  rintro e w2 ⟨rfl, d2⟩
  clear d1
  go_wp2_with fail
  refine (C2.out _ _ d2).mono ?_
  rintro e w3 ⟨rfl, d3⟩
  clear d2
  go_wp2_with fail
  refine (C3.out _ _ d3).mono ?_
  rintro e w4 ⟨rfl, hw⟩
  rw [hw]; clear hw w4
  go_wp2
  go_ret
  exact ⟨b, rfl, d3⟩

/-- A call of a script. -/
structure Op where
  Do : Int
  Id : Int
  At : Int
/-- A slice value that leads to the calls of a script. -/
def ORow (w : World) (v : Value) (l : List Op) : Prop := ∃ ao cap, v = .slice ao l.length cap ∧ l.length ≤ cap ∧ (ao = none → cap = 0) ∧ ∀ j, (h : j < l.length) → ∃ g o, ao = some ⟨g, o, none⟩ ∧ g < w.heap.size ∧
  w.cell? ⟨g, o + j * 3, none⟩ = some (.int .i64 l[j].Do) ∧ w.cell? ⟨g, o + j * 3 + 1, none⟩ = some (.int .i64 l[j].Id) ∧ w.cell? ⟨g, o + j * 3 + 2, none⟩ = some (.int .i64 l[j].At)
def i64 (n : Int) : Prop := -9223372036854775808 ≤ n ∧ n ≤ 9223372036854775807
/-- What is known of each call. -/
def OpOk (o : Op) : Prop := i64 o.Do ∧ i64 o.Id ∧ i64 o.At
theorem orow_below {w w' : World} {v : Value} {l : List Op} (h : ORow w v l) (hb : Below w.heap.size w w') : ORow w' v l := by
  obtain ⟨ao, cap, rfl, hc, hn, hr⟩ := h
  refine ⟨ao, cap, rfl, hc, hn, fun j hj => ?_⟩
  obtain ⟨g, o, h1, h2, k0, k1, k2⟩ := hr j hj
  have hc : ∀ x, w'.cell? ⟨g, x, none⟩ = w.cell? ⟨g, x, none⟩ := fun x => hb.cell (p := ⟨g, x, none⟩) h2
  exact ⟨g, o, h1, Nat.lt_of_lt_of_le h2 hb.size, by rw [hc]; exact k0, by rw [hc]; exact k1, by rw [hc]; exact k2⟩
end Go.Proofs.Ythenmngjojgmkaa
