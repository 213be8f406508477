/- Scripts in memory; the walks of the laws' own 'pick' and 'plays'. -/
import Derived.Test.YtnemnkmogbnjcaaActW
import Derived.Test.YtnemnkmogbnjcaaBegunW
set_option linter.unusedVariables false
namespace Go.Proofs.Ytnemnkmogbnjcaa
open Go.RowKit
open DiskMath

/-- A slice value that leads to the calls of a script. -/
def ORow (w : World) (v : Value) (l : List DiskMath.Op) : Prop := ∃ ao cap, v = .slice ao l.length cap ∧ ∀ j, (h : j < l.length) → ∃ g o, ao = some ⟨g, o, none⟩ ∧ g < w.heap.size ∧
  w.cell? ⟨g, o + j * 5, none⟩ = some (.int .i64 l[j].Do) ∧ w.cell? ⟨g, o + j * 5 + 1, none⟩ = some (.int .i64 l[j].C) ∧ w.cell? ⟨g, o + j * 5 + 2, none⟩ = some (.int .i64 l[j].File) ∧
  w.cell? ⟨g, o + j * 5 + 3, none⟩ = some (.int .i64 l[j].N) ∧ w.cell? ⟨g, o + j * 5 + 4, none⟩ = some (.string l[j].S)
/-- What is known of each call. -/
def OpOk (o : DiskMath.Op) : Prop := (-9223372036854775808 ≤ o.Do ∧ o.Do ≤ 9223372036854775807) ∧ (-9223372036854775808 ≤ o.C ∧ o.C ≤ 9223372036854775807) ∧ (-9223372036854775808 ≤ o.File ∧ o.File ≤ 9223372036854775807) ∧ (-9223372036854775808 ≤ o.N ∧ o.N ≤ 9223372036854775807) ∧ o.S.size ≤ 140737488351232

theorem pick_any (c : Int) (n : Nat) (h1 : 1 ≤ n) (h2 : n ≤ 4194304) (hc : -9223372036854775808 ≤ c ∧ c ≤ 9223372036854775807) (w : World) :
    Calls Try.prog 13 #[.int .i64 c, .int .i64 (n : Int)] w fun e w' => e = .returned (.int .i64 (pick c n : Int)) ∧ w' = w := by
  by_cases h : c < 0
  · obtain ⟨m, hm⟩ := Int.eq_ofNat_of_zero_le (show 0 ≤ -(c + 1) by omega)
    have hp : Hid ((pick c n : Int) = -(c + 1).tmod (n : Int)) := by
      show _ = _
      unfold pick
      rw [if_pos h, ← Int.neg_tmod, hm, Int.tmod_eq_emod_of_nonneg (by omega), Int.toNat_natCast]
      rfl
    clear hm
    have n0 : ¬ n = 0 := by omega
    go_enter Try.func13, Try.ntmps13
    go_wp2
    go_ret
    rw [hp.out]
    exact ⟨rfl, rfl⟩
  · obtain ⟨m, rfl⟩ := Int.eq_ofNat_of_zero_le (show 0 ≤ c by omega)
    have hp : Hid ((pick (m : Int) n : Int) = (m : Int) % (n : Int)) := by
      show _ = _
      unfold pick
      rw [if_neg h, Int.toNat_natCast]
      rfl
    have n0 : ¬ n = 0 := by omega
    go_enter Try.func13, Try.ntmps13
    go_wp2
    go_ret
    rw [hp.out]
    exact ⟨rfl, rfl⟩
theorem pick_lt (c : Int) (n : Nat) (h : 1 ≤ n) : pick c n < n := by unfold pick; exact Nat.mod_lt _ h

theorem orow_below {w w' : World} {v : Value} {l : List DiskMath.Op} (h : ORow w v l) (hb : Below w.heap.size w w') : ORow w' v l := by
  obtain ⟨ao, cap, rfl, hr⟩ := h
  refine ⟨ao, cap, rfl, fun j hj => ?_⟩
  obtain ⟨g, o, h1, h2, k0, k1, k2, k3, k4⟩ := hr j hj
  have hc : ∀ x, w'.cell? ⟨g, x, none⟩ = w.cell? ⟨g, x, none⟩ := fun x => hb.cell (p := ⟨g, x, none⟩) h2
  exact ⟨g, o, h1, Nat.lt_of_lt_of_le h2 hb.size, by rw [hc]; exact k0, by rw [hc]; exact k1, by rw [hc]; exact k2, by rw [hc]; exact k3, by rw [hc]; exact k4⟩

set_option maxRecDepth 100000 in
set_option maxHeartbeats 4000000 in
theorem plays_any (r : Int) (hr : -9223372036854775808 ≤ r ∧ r ≤ 9223372036854775807) (v : Value) (l : List DiskMath.Op) (hl : l.length ≤ 140737488355328) (hok : ∀ o ∈ l, OpOk o) (w : World) (hO : ORow w v l) :
    Calls Try.prog 17 #[.int .i64 r, v] w fun e w' => ∃ b, e = .returned (.pointer (some ⟨b, 0, none⟩)) ∧ DIn (fun k => k < w.heap.size) w b (run (bd (3 + pick r 200)) l) w' := by
  have hp := pick_lt r 200 (by decide)
  have C0 : Hid (∀ w, Calls Try.prog 13 #[.int .i64 r, .int .i64 200] w fun e w' => e = .returned (.int .i64 (pick r 200 : Int)) ∧ w' = w) := fun w => pick_any r 200 (by decide) (by decide) hr w
  have C1 : Hid (Calls Try.prog 11 #[.int .i64 (3 + (pick r 200 : Int))] w fun e w' => ∃ b, e = .returned (.pointer (some ⟨b, 0, none⟩)) ∧ DIn (fun k => k < w.heap.size) w b (run (bd (3 + pick r 200)) (l.take 0)) w') := by
    have := begun_any (3 + pick r 200) (by omega) (by omega) w
    rw [show ((3 + pick r 200 : Nat) : Int) = 3 + (pick r 200 : Int) by omega] at this
    exact this.mono fun e w' ⟨b, k1, k2⟩ => ⟨b, k1, din_of_dat k2 (Nat.le_refl _)⟩
  have HK : Hid (∀ k, Ok (run (bd (3 + pick r 200)) (l.take k))) := fun k => ok_run _ _ (ok_bd _ (by omega) (by omega))
  have HO : Hid (ORow w v l) := hO
  obtain ⟨ao, cap, rfl, hrow⟩ := hO
  have HR : Hid (∀ j, (h : j < l.length) → ∃ g o, ao = some ⟨g, o, none⟩ ∧ g < w.heap.size ∧
    w.cell? ⟨g, o + j * 5, none⟩ = some (.int .i64 l[j].Do) ∧ w.cell? ⟨g, o + j * 5 + 1, none⟩ = some (.int .i64 l[j].C) ∧ w.cell? ⟨g, o + j * 5 + 2, none⟩ = some (.int .i64 l[j].File) ∧
    w.cell? ⟨g, o + j * 5 + 3, none⟩ = some (.int .i64 l[j].N) ∧ w.cell? ⟨g, o + j * 5 + 4, none⟩ = some (.string l[j].S)) := hrow
  have HOK : Hid (∀ o ∈ l, OpOk o) := hok
  have HS : Hid (∀ k, (h : k < l.length) → run (bd (3 + pick r 200)) (l.take (k + 1)) = act (run (bd (3 + pick r 200)) (l.take k)) l[k]) := fun k h => run_snoc _ l k h
  clear hok hrow
  generalize bd (3 + pick r 200) = d0 at *
  generalize pick r 200 = pr at *
  go_enter Try.func17, Try.ntmps17
  go_wp2_with fail
  refine (C0.out _).mono ?_
  rintro e w1 ⟨rfl, hw⟩
  rw [hw]; clear hw w1
  go_wp2_with fail
  refine C1.out.mono ?_
  rintro e w1 ⟨b, rfl, hD⟩
  have HD : Hid (DIn (fun k => k < w.heap.size) w b (run d0 (l.take 0)) w1) := hD
  clear hD C0 C1
  go_wp2_with fail
  go_loopw [6] (fun i wr => ∃ k : Nat, k ≤ l.length ∧ i = .int .i64 (k : Int) ∧ Hid (DIn (fun k => k < w.heap.size) w b (run d0 (l.take k)) wr)) (fun i _ => l.length - (intOf i).toNat)
  case atStart => exact ⟨0, Nat.zero_le _, rfl, HD⟩
  case round =>
    obtain ⟨k, hk, rfl, HI⟩ := hrel
    clear HD
    by_cases hlt : k < l.length
    · obtain ⟨g, o, rfl, hgl, c0, c1, c2, c3, c4⟩ := HR.out k hlt
      have hwb := below_of_din HI.out (Nat.le_refl _)
      have cc : ∀ x, wr.cell? ⟨g, x, none⟩ = w.cell? ⟨g, x, none⟩ := fun x => hwb.cell (p := ⟨g, x, none⟩) hgl
      rw [← cc] at c0 c1 c2 c3 c4
      have hop := HOK.out _ (List.getElem_mem hlt)
      have HN := HS.out k hlt
      have hkk := HK.out k
      generalize run d0 (l.take k) = dk at *
      generalize hdn : run d0 (l.take (k + 1)) = dn at *
      have HDN : Hid (run d0 (l.take (k + 1)) = dn) := hdn
      clear hdn
      generalize l[k] = op at *
      obtain ⟨⟨o1, o2⟩, _, ⟨o3, o4⟩, hN, hS⟩ := hop
      obtain ⟨Do, C, File, N, S⟩ := op
      simp only at c0 c1 c2 c3 c4 o1 o2 o3 o4 hN hS
      have hbo : Below wr.heap.size wr (wr.alloc (.cells #[.int .i64 Do, .int .i64 C, .int .i64 File, .int .i64 N, .string S] 38)) := (Below.refl _ _).alloc (Nat.le_refl _) _
      have HD0 : Hid (DIn (fun k => k < w.heap.size) w b dk (wr.alloc (.cells #[.int .i64 Do, .int .i64 C, .int .i64 File, .int .i64 N, .string S] 38))) := din_below HI.out hbo
      have i1 : (k : Int) < (l.length : Int) := by omega
      have HKK : Hid (Ok dk) := hkk
      have HHN : Hid (-9223372036854775808 ≤ N ∧ N ≤ 9223372036854775807) := hN
      have HSS : Hid (S.size ≤ 140737488355328) := by show _ ≤ _; omega
      clear hwb cc HI HK HR HO HOK HS hbo hkk hN
      by_cases z0 : Do = 0
      · subst z0
        have HN : Hid (dn = (aApp dk File S.data.toList).1) := by rw [HN]; rfl
        go_wp2_with fail
        refine (append_all File S HSS.out HD0.out HKK.out).mono ?_
        rintro e w2 ⟨rfl, hD2⟩
        have HD2 : Hid (DIn (fun k => k < w.heap.size) w b dn w2) := by rw [HN.out]; exact hD2
        clear hD2 HN
        go_wp2
        exact ⟨⟨k + 1, by omega, by go_num, by rw [HDN.out]; exact HD2⟩, by simp [intOf]; omega⟩
      by_cases z1 : Do = 1
      · subst z1
        have HN : Hid (dn = (aSyn dk File).1) := by rw [HN]; rfl
        go_wp2_with fail
        refine (sync_all File HD0.out).mono ?_
        rintro e w2 ⟨rfl, hD2⟩
        have HD2 : Hid (DIn (fun k => k < w.heap.size) w b dn w2) := by rw [HN.out]; exact hD2
        clear hD2 HN
        go_wp2
        exact ⟨⟨k + 1, by omega, by go_num, by rw [HDN.out]; exact HD2⟩, by simp [intOf]; omega⟩
      by_cases z2 : Do = 2
      · subst z2
        have HN : Hid (dn = (aCut dk File N).1) := by rw [HN]; rfl
        go_wp2_with fail
        refine (cut_all File N HD0.out HKK.out).mono ?_
        rintro e w2 ⟨rfl, hD2⟩
        have HD2 : Hid (DIn (fun k => k < w.heap.size) w b dn w2) := by rw [HN.out]; exact hD2
        clear hD2 HN
        go_wp2
        exact ⟨⟨k + 1, by omega, by go_num, by rw [HDN.out]; exact HD2⟩, by simp [intOf]; omega⟩
      by_cases z5 : Do = 5
      · subst z5
        have HN : Hid (dn = crash dk N.toNat) := by rw [HN]; rfl
        go_wp2_with fail
        refine (crash_all N HHN.out HD0.out HKK.out).mono ?_
        rintro e w2 ⟨rfl, hD2⟩
        have HD2 : Hid (DIn (fun k => k < w.heap.size) w b dn w2) := by rw [HN.out]; exact hD2
        clear hD2 HN
        go_wp2
        exact ⟨⟨k + 1, by omega, by go_num, by rw [HDN.out]; exact HD2⟩, by simp [intOf]; omega⟩
      · have HD2 : Hid (DIn (fun k => k < w.heap.size) w b dn (wr.alloc (.cells #[.int .i64 Do, .int .i64 C, .int .i64 File, .int .i64 N, .string S] 38))) := by
          rw [show dn = dk by rw [HN]; unfold act; rw [if_neg z0, if_neg z1, if_neg z2, if_neg z5]]; exact HD0.out
        clear HN HD0
        go_wp2
        exact ⟨⟨k + 1, by omega, by go_num, by rw [HDN.out]; exact HD2⟩, by simp [intOf]; omega⟩
    · obtain rfl : k = l.length := by omega
      rw [List.take_length] at HI
      clear HR HO HOK HS HK
      go_wp2
      go_ret
      exact ⟨b, rfl, HI.out⟩
end Go.Proofs.Ytnemnkmogbnjcaa
