/- The walk of the law LocksApart. -/
import Derived.Test.YthdloddcljbjhaaDoorLawP
set_option linter.unusedVariables false
set_option maxRecDepth 100000
namespace Go.Proofs.YthdloddcljbjhaaDoor
open Go.RowKit CheckMath

theorem keyAt_mem {l : List ByteArray} {k : Nat} (h : k < l.length) : keyAt l k ∈ l := by simp [keyAt, List.getD, h]
/-- Held, in any world of a law. -/
theorem held_in {w : World} (hS : ∀ rs, Sorts w.heap.size w rs SortTo) {tb n : Nat} {T : Hd} (rs : List Res) (wq : World) (i : Int) (hn : n ≤ 1048576) (hT : Tk T) (h : Has w.heap.size w (TabR tb n T :: rs) wq) :
    Calls Tryd.prog 18 #[.pointer (some ⟨tb, 0, none⟩), .int .i64 i] wq fun e w' => ∃ (K : List ByteArray) (v : Value), Hid (HeldOf T i K) ∧ K.length ≤ n ∧ e = .returned v ∧ Hid (Has w.heap.size w (KR v K :: TabR tb n T :: rs) w') := held_of h i hn hT.1 (hS _)
theorem drop_in {w : World} {tb n : Nat} {T : Hd} (rs : List Res) (wq : World) (i : Int) (hn : n ≤ 1048576) (h : Has w.heap.size w (TabR tb n T :: rs) wq) :
    Calls Tryd.prog 14 #[.pointer (some ⟨tb, 0, none⟩), .int .i64 i] wq fun e w' => ∃ K : List ByteArray, e = .returned (.int .i64 (K.length : Int)) ∧ Hid (K.Nodup ∧ ∀ s, s ∈ K ↔ (T s ≠ 0 ∧ T s = i)) ∧ Hid (Has w.heap.size w (TabR tb n (dropped T i) :: rs) w') :=
  (drop_any h i (by omega)).mono (fun e w' ⟨K, k1, k2, he, hh⟩ => ⟨K, he, ⟨k1, k2⟩, hh⟩)
/-- A row of what one has, and another row of it, compared. -/
theorem same_in {w : World} {rs : List Res} {wq : World} {u v : Value} {K : List ByteArray} (h : Has w.heap.size w rs wq) (hu : KR u K ∈ rs) (hv : KR v K ∈ rs) (hl : K.length ≤ 140737488355328) (hs : ∀ s, s ∈ K → s.size ≤ 140737488355328) :
    Calls Tryd.prog 12 #[u, v] wq fun e w' => e = .returned (.bool true) ∧ Hid (Has w.heap.size w rs w') :=
  (same_any u v K wq (h.rowK hu hl hs) (h.rowK hv hl hs)).mono (fun e w' ⟨he, hb⟩ => ⟨he, h.below hb⟩)
theorem dropped_other {T : Hd} {si i : Int} {K : List ByteArray} (h : HeldOf T i K) (hi : i ≠ si) : HeldOf (dropped T si) i K := h.like (fun s => by
  unfold dropped
  by_cases e : T s = si
  · rw [if_pos e]
    exact ⟨fun ⟨_, h2⟩ => absurd (h2.symm.trans e) hi, fun ⟨h1, _⟩ => absurd rfl h1⟩
  · rw [if_neg e])
theorem dropped_twice (T : Hd) (i : Int) : dropped (dropped T i) i = dropped T i := by
  funext s
  unfold dropped
  by_cases e : T s = i
  · simp [e]
  · simp [e]
theorem dropped_none {T : Hd} {i : Int} (h : dropped T i = T) {K : List ByteArray} (hK : HeldOf T i K) : K = [] := by
  cases K with
  | nil => rfl
  | cons a t =>
    have := (hK.2 a).1 List.mem_cons_self
    have h2 := congrFun h a
    unfold dropped at h2
    rw [if_pos this.2] at h2
    exact absurd h2.symm this.1
set_option maxHeartbeats 8000000 in
theorem apart_walk {w : World} (hS : ∀ rs, Sorts w.heap.size w rs SortTo) (sv : Value) (l : List LOp) (hr : ORow w sv l) (hsum : 3 + tot l ≤ 1048576) (I : Int) (hI : -9223372036854775808 ≤ I ∧ I ≤ 9223372036854775807) :
    Calls Tryd.prog 6 #[sv, .int .i64 I] w fun e w' => e = .returned (.bool true) ∧ Below w.heap.size w w' := by
  have C0 : Hid (Calls Tryd.prog 20 #[sv] w fun e w' => ∃ tb T n, e = .returned (.pointer (some ⟨tb, 0, none⟩)) ∧ Hid (Tk T) ∧ n ≤ 1048576 ∧ Hid (Has w.heap.size w [TabR tb n T] w')) := (plays_any hS sv l hr hsum).mono (fun e w' ⟨tb, T, n, he, hT, hn, hh⟩ => ⟨tb, T, n, he, hT, by omega, hh⟩)
  have CS : Hid (∀ wq, Calls Tryd.prog 21 #[.int .i64 I] wq fun e w' => e = .returned (.int .i64 (smallZ I)) ∧ w' = wq) := fun wq => small_any _ hI wq
  have HS : Hid (∀ rs, Sorts w.heap.size w rs SortTo) := hS
  have hsr := smallZ_range I
  generalize smallZ I = si at *
  obtain ⟨ao, cap, rfl, -⟩ := hr
  clear hS hsum hI
  go_enter Tryd.func6, Tryd.ntmps6
  go_wp2_with fail
  refine C0.out.mono ?_
  rintro e w1 ⟨tb, T0, n, rfl, hT0, hn, h1⟩
  clear C0
  go_wp2_with fail
  refine (CS.out _).mono ?_
  rintro e w2 ⟨rfl, hw⟩
  rw [hw]
  clear hw w2 CS
  go_wp2_with fail
  go_loopw [6] (fun iv wr => ∃ (i : Nat) (T : Hd), 1 ≤ i ∧ i ≤ 7 ∧ iv = .int .i64 (i : Int) ∧ Hid (Tk T) ∧ Hid (dropped T si = T ∨ i = 1 ∨ (i = 2 ∧ si = 1)) ∧ Hid (Has w.heap.size w [TabR tb n T] wr)) (fun iv _ => 7 - (intOf iv).toNat)
  case atStart => exact ⟨1, T0, by decide, by decide, rfl, hT0, Or.inr (Or.inl rfl), h1⟩
  case round =>
    obtain ⟨i, T, hi1, hi7, rfl, HK, HG, HH⟩ := hrel
    clear h1 hT0
    by_cases hlt : i ≤ 6
    · have hltI : (i : Int) ≤ 6 := by omega
      by_cases hd : (i : Int) = si
      · have hd1 : ((i : Int) == si) = true := by simpa using hd
        have HG2 : Hid (dropped T si = T ∨ i + 1 = 1 ∨ (i + 1 = 2 ∧ si = 1)) := by
          rcases HG.out with h | h | h
          · exact Or.inl h
          · exact Or.inr (Or.inr ⟨by omega, by omega⟩)
          · omega
        clear HG
        go_wp2_with fail
        exact ⟨⟨i + 1, T, by omega, by omega, by go_num, HK, HG2, HH⟩, by simp [intOf]; omega⟩
      · have hd1 : ((i : Int) == si) = false := by simpa using hd
        have D1 := held_in HS.out [] wr (i : Int) hn HK.out HH.out
        go_wp2_with fail
        refine D1.mono ?_
        rintro e w3 ⟨K, v7, HK7, hkl, rfl, HH3⟩
        have D2 := drop_in [KR v7 K] w3 si hn (HH3.out.perm (List.Perm.swap _ _ _))
        clear D1 HH HH3
        go_wp2_with fail
        refine D2.mono ?_
        rintro e w4 ⟨Kd, rfl, -, HH4⟩
        have HT2 : Hid (Tk (dropped T si)) := HK.out.dropped hsr
        have D3 := held_in HS.out [KR v7 K] w4 (i : Int) hn HT2.out HH4.out
        clear D2 HH4
        go_wp2_with fail
        refine D3.mono ?_
        rintro e w5 ⟨K2, v8, HK8, -, rfl, HH5⟩
        have e2 : K2 = K := HK8.out.uniq (dropped_other HK7.out hd)
        subst e2
        have hsz := held_small HT2.out.1 HK8.out
        have D4 := same_in (u := v7) (v := v8) (K := K2) HH5.out (by simp) (by simp) (by omega) hsz
        obtain ⟨ao8, cap8, hv8, -⟩ := own_form (HH5.out.ownK (v := v8) (l := K2) (by simp))
        subst hv8
        have HKI : Hid (∀ k, k < K2.length → dropped T si (keyAt K2 k) = (i : Int) ∧ (keyAt K2 k).size ≤ 1048576) := fun k hk => by
          have x := (HK8.out.2 _).1 (keyAt_mem hk)
          exact ⟨x.2, (HT2.out.1 _ x.1).2⟩
        have HG2 : Hid (dropped (dropped T si) si = dropped T si ∨ i + 1 = 1 ∨ (i + 1 = 2 ∧ si = 1)) := Or.inl (dropped_twice T si)
        clear D3 HH5 HK7 HK8 hsz HG HK
        generalize dropped T si = T2 at *
        go_wp2_with fail
        refine D4.mono ?_
        rintro e w6 ⟨rfl, HH6⟩
        obtain ⟨ao9, cap9, ev, _, _, _, hrow⟩ := HH6.out.rowK (v := .slice ao8 K2.length cap8) (l := K2) (by simp) (by omega) (fun s hs => by
          obtain ⟨j, hj, rfl⟩ := List.mem_iff_getElem.1 hs
          have x := (HKI.out j hj).2
          have e3 : keyAt K2 j = K2[j] := by simp [keyAt, List.getD, hj]
          rw [e3] at x
          omega)
        injection ev with ev1 _ ev3
        subst ev1 ev3
        have HRW : Hid (∀ j, j < K2.length → ∃ g o, ao8 = some ⟨g, o, none⟩ ∧ g < w6.heap.size ∧ w6.cell? ⟨g, o + j, none⟩ = some (.string (keyAt K2 j))) := hrow
        have HHo : Hid (∀ k, k < K2.length → Calls Tryd.prog 16 #[.pointer (some ⟨tb, 0, none⟩), .string (keyAt K2 k)] w6 fun e w' => e = .returned (.int .i64 (i : Int)) ∧ w' = w6) := fun k hk => by
          have x := holder_any (tb := tb) (n := n) (T := T2) HH6.out (by simp) (keyAt K2 k) (HKI.out k hk).2
          rw [(HKI.out k hk).1] at x
          exact x
        have HH7 : Hid (Has w.heap.size w [TabR tb n T2] w6) := (HH6.out.drop.perm (List.Perm.swap _ _ _)).drop
        clear D4 hrow HKI HH6
        go_wp2_with fail
        go_loop [9] (fun kv => ∃ k : Nat, k ≤ K2.length ∧ kv = .int .i64 (k : Int)) (fun kv => K2.length - (intOf kv).toNat)
        case atStart => exact ⟨0, Nat.zero_le _, rfl⟩
        case round =>
          obtain ⟨k, hk, rfl⟩ := hrel
          by_cases hkl2 : k < K2.length
          · have hltJ : (k : Int) < (K2.length : Int) := by omega
            obtain ⟨g, o, rfl, hg, c0⟩ := HRW.out k hkl2
            have D5 := HHo.out k hkl2
            clear HRW HHo
            generalize keyAt K2 k = s at *
            go_wp2_with fail
            refine D5.mono ?_
            rintro e w7 ⟨rfl, hw⟩
            rw [hw]
            clear hw w7 D5
            go_wp2_with fail
            exact ⟨⟨k + 1, by omega, by go_num⟩, by simp [intOf]; omega⟩
          · have hltJ : ¬ (k : Int) < (K2.length : Int) := by omega
            clear HRW HHo
            go_wp2_with fail
            exact ⟨⟨i + 1, T2, by omega, by omega, by go_num, HT2, HG2, HH7⟩, by simp [intOf]; omega⟩
    · have hltI : ¬ (i : Int) ≤ 6 := by omega
      have hdr : dropped T si = T := by
        rcases HG.out with h | h | h
        · exact h
        · omega
        · omega
      have D1 := held_in HS.out [] wr si hn HK.out HH.out
      clear HG
      go_wp2_with fail
      refine D1.mono ?_
      rintro e w3 ⟨K, v7, HK7, hkl, rfl, HH3⟩
      have eK := dropped_none hdr HK7.out
      subst eK
      obtain ⟨ao8, cap8, hv8, -⟩ := own_form (HH3.out.ownK (v := v7) (l := []) (by simp))
      subst hv8
      have D2 := holder_any (tb := tb) (n := n) (T := T) HH3.out (by simp) zz2 (by decide)
      rw [HK.out.2.2.1] at D2
      have D3 : Hid (Calls Tryd.prog 16 #[.pointer (some ⟨tb, 0, none⟩), .string ⟨#[122, 122, 45, 50]⟩] w3 fun e w' => e = .returned (.int .i64 900001) ∧ w' = w3) := D2
      clear D1 D2 HK7 hdr
      go_wp2_with fail
      refine D3.out.mono ?_
      rintro e w4 ⟨rfl, hw⟩
      rw [hw]
      clear hw w4 D3
      go_wp2_with fail
      go_ret
      exact ⟨rfl, HH3.out.bel⟩
end Go.Proofs.YthdloddcljbjhaaDoor
