/- The walk of Due. -/
import Derived.Test.YteadnjagandkfaaRBegW
set_option linter.unusedVariables false
set_option maxRecDepth 100000
namespace Go.Proofs.Yteadnjagandkfaa
open Go.RowKit
open WheelMath RetryMath
open Go.Maps (Keyed)

section
variable {B : Nat} {w wr : World} {p : Pl} {n : Nat} {tab : List Int} {dl : Int} {f : Tb} {ra rl : List T} {rs : List Res}
theorem dueF_no (now : Int) (hno : ¬ Tick now) (q : Value) :
    Calls Try.prog 22 #[q, .int .i64 now] wr fun e w' => e = .returned (.tuple #[.slice none 0 0, .slice none 0 0]) ∧ w' = wr := by
  have C1 : Hid (Calls Try.prog 33 #[.int .i64 now] wr fun e w' => e = .returned (.bool false) ∧ w' = wr) := by
    have x := isTick_any now wr
    rw [decide_eq_false hno] at x
    exact x
  clear hno
  go_enter Try.func22, Try.ntmps22
  go_wp2_with fail
  refine C1.out.mono ?_
  rintro e w1 ⟨rfl, hw⟩
  rw [hw]
  clear hw w1
  go_wp2
  go_ret2
  exact ⟨rfl, rfl⟩
theorem told_len61 {N : Int} {A : Ws} (hA : AOk N A) {g : Int → Option Int} {r : List T} (h : Tells r g) (hl : Lim g) (now : Int) : (told r now).length ≤ 1801 := by
  have h1 := told_len r now
  have h2 := tells_len h hl
  omega
/-- What the first two calls of a Due leave: who is due. -/
abbrev TwoC (p : Pl) (w' : World) : Prop := w'.cell? ⟨p.q, 4, none⟩ = some (.pointer (some ⟨p.ba, 0, none⟩)) ∧ w'.cell? ⟨p.q, 5, none⟩ = some (.pointer (some ⟨p.bb, 0, none⟩))
theorem Has.two (h : Has B w (Rt p n tab dl f ra rl rs) wr) : TwoC p wr := ⟨h.rcell.2.2.2.2.1, h.rcell.2.2.2.2.2⟩
theorem dA (h : Has B w (Rt p n tab dl f ra rl rs) wr) (hg : WheelMath.Good ra) (now : Int) :
    Calls Try.prog 41 #[.pointer (some ⟨p.ba, 0, none⟩), .int .i64 now] wr fun e w' => ∃ ao cap, e = .returned (.slice ao (told ra now).length cap) ∧ w'.cell? ⟨p.q, 4, none⟩ = some (.pointer (some ⟨p.ba, 0, none⟩)) ∧ w'.cell? ⟨p.q, 5, none⟩ = some (.pointer (some ⟨p.bb, 0, none⟩)) ∧
      Has B w (IRowR (.slice ao (told ra now).length cap) (told ra now) :: Rt p n tab dl f (left ra now) rl rs) w' := by
  refine (wdue_any (h.perm rt_again) hg now).mono ?_
  rintro e w' ⟨vi, rfl, hh⟩
  have hx : Has B w (IRowR vi (told ra now) :: Rt p n tab dl f (left ra now) rl rs) w' := hh.perm (rt_again.symm.cons _)
  obtain ⟨ao, cap, rfl, _⟩ := own_form (hx.own (t := 3) (size := 1) (v := vi) (n := (told ra now).length) (xs := (told ra now).map fun n => .int .i64 n) List.mem_cons_self)
  exact ⟨ao, cap, rfl, hx.drop.two.1, hx.drop.two.2, hx⟩
theorem dB {x : Res} (h : Has B w (x :: Rt p n tab dl f ra rl rs) wr) (hg : WheelMath.Good rl) (now : Int) :
    Calls Try.prog 41 #[.pointer (some ⟨p.bb, 0, none⟩), .int .i64 now] wr fun e w' => ∃ ao cap, e = .returned (.slice ao (told rl now).length cap) ∧ w'.cell? ⟨p.q, 4, none⟩ = some (.pointer (some ⟨p.ba, 0, none⟩)) ∧ w'.cell? ⟨p.q, 5, none⟩ = some (.pointer (some ⟨p.bb, 0, none⟩)) ∧
      Has B w (IRowR (.slice ao (told rl now).length cap) (told rl now) :: Rt p n tab dl f ra (left rl now) (x :: rs)) w' := by
  refine (wdue_any ((h.perm rt_back).perm rt_late) hg now).mono ?_
  rintro e w' ⟨vi, rfl, hh⟩
  have hx : Has B w (IRowR vi (told rl now) :: Rt p n tab dl f ra (left rl now) (x :: rs)) w' := hh.perm (rt_late.symm.cons _)
  obtain ⟨ao, cap, rfl, _⟩ := own_form (hx.own (t := 3) (size := 1) (v := vi) (n := (told rl now).length) (xs := (told rl now).map fun n => .int .i64 n) List.mem_cons_self)
  exact ⟨ao, cap, rfl, hx.drop.two.1, hx.drop.two.2, hx⟩
theorem dC {l K : List Int} {ao : Option Addr} {cap : Nat} (h : Has B w (IRowR (.slice ao l.length cap) l :: Rt p n tab dl f ra rl rs) wr) (hl : l.length ≤ 1801) (hK : srt l = K) :
    Calls Try.prog 40 #[.slice ao l.length cap] wr fun e w' => e = .returned (.slice ao K.length cap) ∧ w'.cell? ⟨p.q, 4, none⟩ = some (.pointer (some ⟨p.ba, 0, none⟩)) ∧ w'.cell? ⟨p.q, 5, none⟩ = some (.pointer (some ⟨p.bb, 0, none⟩)) ∧
      Has B w (IRowR (.slice ao K.length cap) K :: Rt p n tab dl f ra rl rs) w' := by
  have hlen : K.length = l.length := by rw [← hK]; exact List.length_mergeSort l
  refine (rising_any h hl).mono ?_
  rintro e w' ⟨he, hh⟩
  rw [hK] at hh
  rw [hlen]
  exact ⟨he, hh.drop.two.1, hh.drop.two.2, hh⟩
set_option maxHeartbeats 8000000 in
theorem dueF_yes {N : Int} {A : Ws} (h : Has B w (Rt p n tab dl (fT A) ra rl rs) wr) (ht : may tab = true) (hA : AOk N A) (hN : N ≤ 1125899906842624) (hra : Tells ra (fA A)) (hrl : Tells rl (fL A)) (now : Int) (hn : Tick now) (hcap : n ≤ 1125899906842624) :
    Calls Try.prog 22 #[.pointer (some ⟨p.q, 0, none⟩), .int .i64 now] wr fun e w' => ∃ ai ci aj cj ra', e = .returned (.tuple #[.slice ai (dueL A now 60).length ci, .slice aj (lateL A now 60).length cj]) ∧ Tells ra' (fA (dueA tab now A)) ∧
      Has B w (Rt p (n + (dueL A now 60).length) tab dl (fT (dueA tab now A)) ra' (left rl now) (IRowR (.slice aj (lateL A now 60).length cj) (lateL A now 60) :: IRowR (.slice ai (dueL A now 60).length ci) (dueL A now 60) :: rs)) w' := by
  have C1 : Hid (Calls Try.prog 33 #[.int .i64 now] wr fun e w' => e = .returned (.bool true) ∧ w' = wr) := by
    have x := isTick_any now wr
    rw [decide_eq_true hn] at x
    exact x
  have hK := srt_due hA hra now
  have hL := srt_late hA hrl now
  have C2 : Hid (∀ wq, Has B w (Rt p n tab dl (fT A) ra rl rs) wq → Calls Try.prog 41 #[.pointer (some ⟨p.ba, 0, none⟩), .int .i64 now] wq fun e w' => ∃ ao cap, e = .returned (.slice ao (told ra now).length cap) ∧ w'.cell? ⟨p.q, 4, none⟩ = some (.pointer (some ⟨p.ba, 0, none⟩)) ∧ w'.cell? ⟨p.q, 5, none⟩ = some (.pointer (some ⟨p.bb, 0, none⟩)) ∧
      Has B w (IRowR (.slice ao (told ra now).length cap) (told ra now) :: Rt p n tab dl (fT A) (left ra now) rl rs) w') := fun wq hq => dA hq hra.1 now
  have C3 : Hid (∀ wq ao cap, Has B w (IRowR (.slice ao (told ra now).length cap) (told ra now) :: Rt p n tab dl (fT A) (left ra now) rl rs) wq → Calls Try.prog 40 #[.slice ao (told ra now).length cap] wq fun e w' => e = .returned (.slice ao (dueL A now 60).length cap) ∧ w'.cell? ⟨p.q, 4, none⟩ = some (.pointer (some ⟨p.ba, 0, none⟩)) ∧ w'.cell? ⟨p.q, 5, none⟩ = some (.pointer (some ⟨p.bb, 0, none⟩)) ∧
      Has B w (IRowR (.slice ao (dueL A now 60).length cap) (dueL A now 60) :: Rt p n tab dl (fT A) (left ra now) rl rs) w') := fun wq ao cap hq => dC hq (told_len61 hA hra (lim_A hA) now) hK
  have C4 : Hid (∀ wq ao cap, Has B w (IRowR (.slice ao (dueL A now 60).length cap) (dueL A now 60) :: Rt p n tab dl (fT A) (left ra now) rl rs) wq → Calls Try.prog 41 #[.pointer (some ⟨p.bb, 0, none⟩), .int .i64 now] wq fun e w' => ∃ aj cj, e = .returned (.slice aj (told rl now).length cj) ∧ w'.cell? ⟨p.q, 4, none⟩ = some (.pointer (some ⟨p.ba, 0, none⟩)) ∧ w'.cell? ⟨p.q, 5, none⟩ = some (.pointer (some ⟨p.bb, 0, none⟩)) ∧
      Has B w (IRowR (.slice aj (told rl now).length cj) (told rl now) :: Rt p n tab dl (fT A) (left ra now) (left rl now) (IRowR (.slice ao (dueL A now 60).length cap) (dueL A now 60) :: rs)) w') := fun wq ao cap hq => dB hq hrl.1 now
  have C5 : Hid (∀ wq ao cap aj cj, Has B w (IRowR (.slice aj (told rl now).length cj) (told rl now) :: Rt p n tab dl (fT A) (left ra now) (left rl now) (IRowR (.slice ao (dueL A now 60).length cap) (dueL A now 60) :: rs)) wq → Calls Try.prog 40 #[.slice aj (told rl now).length cj] wq fun e w' => e = .returned (.slice aj (lateL A now 60).length cj) ∧ w'.cell? ⟨p.q, 4, none⟩ = some (.pointer (some ⟨p.ba, 0, none⟩)) ∧ w'.cell? ⟨p.q, 5, none⟩ = some (.pointer (some ⟨p.bb, 0, none⟩)) ∧
      Has B w (IRowR (.slice aj (lateL A now 60).length cj) (lateL A now 60) :: Rt p n tab dl (fT A) (left ra now) (left rl now) (IRowR (.slice ao (dueL A now 60).length cap) (dueL A now 60) :: rs)) w') := fun wq ao cap aj cj hq => dC hq (told_len61 hA hrl (lim_L hA) now) hL
  have HA : Hid (AOk N A) := hA
  have HM0 : Hid (Tells (left ra now) (midA tab now A [])) := tells_congr (tells_left hra now) (mid_start tab now A)
  have hKlen := dueL_len A now 60
  have HMT : Hid (fT A = midT A []) := (midT_start A).symm
  have hT4 := h.two.1
  have hT5 := h.two.2
  have HT : Has B w (Rt p n tab dl (fT A) ra rl rs) wr.drew := h.below (Below.refl _ _).drew
  have HTK : Hid (may tab = true) := ht
  have HTN : Hid (Tick now) := hn
  have HMEM : Hid (∀ id, id ∈ dueL A now 60 → ∃ w, A id = some w ∧ w.again ≤ now) := fun id => (mem_dueL hA now id).1
  have HND : Hid ((dueL A now 60).Nodup) := dueL_nodup A now 60
  have HEND : Hid (∀ r, Tells r (midA tab now A (dueL A now 60)) → Tells r (fA (dueA tab now A))) := fun r hr => tells_congr hr (mid_end hA tab now)
  have HENDT : Hid (midT A (dueL A now 60) = fT (dueA tab now A)) := midT_end hA tab now
  clear hK hL hra hrl hA h ht hn
  generalize dueL A now 60 = K at *
  generalize lateL A now 60 = L at *
  generalize told ra now = ta at *
  generalize told rl now = tl at *
  generalize left ra now = ra1 at *
  generalize left rl now = rl1 at *
  go_enter Try.func22, Try.ntmps22
  go_wp2_with fail
  refine C1.out.mono ?_
  rintro e w1 ⟨rfl, hw⟩
  rw [hw]
  clear hw w1 C1
  go_wp2_with fail
  go_region_held3 (fun w' => w'.cell? ⟨p.q, 4, none⟩ = some (.pointer (some ⟨p.ba, 0, none⟩)) ∧ w'.cell? ⟨p.q, 5, none⟩ = some (.pointer (some ⟨p.bb, 0, none⟩))) (go_keep) (first | (go_at_call 41; with_reducible refine (C2.out _ HT).mono ?_; rintro e w6 ⟨ao, cap, rfl, m4, m5, HT2⟩) | (go_at_call 40; with_reducible refine (C3.out _ _ _ HT2).mono ?_; rintro e w7 ⟨rfl, n4, n5, HT3⟩) | (go_at_call 41; with_reducible refine (C4.out _ _ _ HT3).mono ?_; rintro e w8 ⟨aj, cj, rfl, q4, q5, HT4⟩) | (go_at_call 40; with_reducible refine (C5.out _ _ _ _ _ HT4).mono ?_; rintro e w9 ⟨rfl, r4, r5, HT5⟩))
  have HS : Hid (Has B w (Rt p n tab dl (midT A []) ra1 rl1 (IRowR (.slice aj L.length cj) L :: IRowR (.slice ao K.length cap) K :: rs)) w9) := by
    have x := HT5.perm rt_back
    rw [HMT.out] at x
    exact x
  clear HT5 C2 C3 C4 C5 HMT r4 r5
  go_wp2_with fail
  go_loopw [9, 29] (fun _ iv wq => ∃ (k : Nat) (r : List T), k ≤ K.length ∧ iv = .int .i64 (k : Int) ∧ Hid (Tells r (midA tab now A (K.take k))) ∧ Hid (Has B w (Rt p (n + k) tab dl (midT A (K.take k)) r rl1 (IRowR (.slice aj L.length cj) L :: IRowR (.slice ao K.length cap) K :: rs)) wq)) (fun _ iv _ => K.length - (intOf iv).toNat)
  case atStart => exact ⟨0, ra1, Nat.zero_le _, rfl, HM0, HS⟩
  case round =>
    obtain ⟨k, r, hk, rfl, HTe, H⟩ := hrel
    clear HS HM0
    by_cases hlt : k < K.length
    · have hltI : (k : Int) < (K.length : Int) := by omega
      obtain ⟨_, _, e1, _, _, hr⟩ := H.out.irow (v := .slice ao K.length cap) (xs := K) (by simp)
      cases e1
      obtain ⟨g, o, rfl, _, d0⟩ := hr k hlt
      obtain ⟨wt, hwt, hag⟩ := HMEM.out K[k] (List.getElem_mem hlt)
      obtain ⟨b1, b2, b3, b4, b5, b6⟩ := HA.out _ _ hwt
      have hnin : ¬ K[k] ∈ K.take k := by
        intro hm
        obtain ⟨j, hj, e⟩ := List.mem_iff_getElem.1 hm
        have hj2 : j < k := by simp at hj; omega
        rw [List.getElem_take] at e
        have := (List.getElem_inj (h₀ := show j < K.length by omega) (h₁ := hlt) HND.out).1 e
        omega
      have hval : midT A (K.take k) K[k] = some wt.tries := midT_once hwt hnin
      have hsucc : K.take (k + 1) = K.take k ++ [K[k]] := List.take_succ_eq_append_getElem hlt
      obtain ⟨D, hD, hAg⟩ := has_map H.out (bm := p.bm) (n := n + k) (f := midT A (K.take k)) (by simp)
      have hset := tells_set HTe.out (lim_mid HA.out tab now _) b1 b2 (later_tick HTN.out (n := dly tab (wt.tries + 1)) (by have := dly_bounds HTK.out (wt.tries + 1); omega))
      have CW : Hid (Calls Try.prog 35 #[.pointer (some ⟨p.q, 0, none⟩), .int .i64 K[k], .int .i64 (wt.tries + 1), .int .i64 now] wr fun e w' => e = .returned (.tuple #[]) ∧ Hid (Tells (aSet r K[k] (later now (dly tab (wt.tries + 1)))).1 (midA tab now A (K.take (k + 1)))) ∧ Hid (Has B w (Rt p (n + (k + 1)) tab dl (midT A (K.take (k + 1))) (aSet r K[k] (later now (dly tab (wt.tries + 1)))).1 rl1 (IRowR (.slice aj L.length cj) L :: IRowR (.slice (some ⟨g, o, none⟩) K.length cap) K :: rs)) w')) := by
        refine (waitOn_any H.out HTK.out K[k] (wt.tries + 1) now b1 b2 (by omega) (by omega) HTN.out (by omega) HTe.out.1).mono ?_
        rintro e w' ⟨he, hh⟩
        rw [midT_step A _ _ _ hwt, ← hsucc] at hh
        refine ⟨he, ?_, hh⟩
        rw [hsucc]
        exact tells_congr hset.2 (mid_step tab now A _ _ wt hwt hag)
      obtain ⟨_, _, _, c3, _, _⟩ := H.out.rcell
      have hkey : keyOf Try.prog 3 (.int .i64 K[k]) = some (kI K[k]) := keyI (by unfold I64; omega)
      have HL : Hid (∀ c : Int, D.atKey (kI K[k]) (.lit (.int .i64 0)) = .lit (.int .i64 c) → c = wt.tries) := fun c hat => by
        have := (hAg.2 K[k]).2.symm.trans hat
        rw [hval] at this
        injection this with e; injection e with _ e; exact e.symm
      have hwr : IntKind.i64.wrap (wt.tries + 1) = wt.tries + 1 := by rw [IntKind.wrap_i64] <;> omega
      clear hr hset hval hnin hsucc hAg HMEM HND HEND HENDT HTe H hwt hag b1 b2 b5 b6 HA
      generalize K[k] = id at *
      generalize wt.tries = tr at *
      go_wp2_with (at_lookup; refine wpList_lookup_own_int _ rfl _ _ 52 rfl 3 3 .i64 lawI Try.underlying52 Try.underlying3 (zeroI _) p.bm (n + k) D rfl hD _ _ rfl hkey ?_; intro c hat hwc; obtain rfl := HL.out c hat)
      refine CW.out.mono ?_
      rintro e w7 ⟨rfl, HTe2, HN⟩
      clear CW HL hD d0 c3 hkey
      go_wp2_with fail
      exact ⟨⟨k + 1, _, by omega, by go_num, HTe2, HN⟩, by simp [intOf]; omega⟩
    · have hltI : ¬ (k : Int) < (K.length : Int) := by omega
      obtain rfl : k = K.length := by omega
      have HE := H.out
      have HTE := HTe.out
      rw [List.take_length] at HE HTE
      rw [HENDT.out] at HE
      have HT6 : Hid (Tells r (fA (dueA tab now A))) := HEND.out _ HTE
      have HE6 : Hid (Has B w (Rt p (n + K.length) tab dl (fT (dueA tab now A)) r rl1 (IRowR (.slice aj L.length cj) L :: IRowR (.slice ao K.length cap) K :: rs)) wr) := HE
      clear H HTe HE HTE HMEM HND HEND HENDT HA
      go_wp2_with fail
      go_ret2
      exact ⟨_, _, _, _, rfl, r, HT6.out, HE6.out⟩
end
end Go.Proofs.Yteadnjagandkfaa
