/- The walk of the law LocksBack. -/
import Derived.Test.YthdloddcljbjhaaDoorWholeW
set_option linter.unusedVariables false
set_option maxRecDepth 100000
namespace Go.Proofs.YthdloddcljbjhaaDoor
open Go.RowKit CheckMath

/-- The keys that are unlike all ahead of them. -/
def firsts (l : List ByteArray) : Nat → List ByteArray
  | 0 => []
  | k + 1 => if keyAt l k ∈ l.take k then firsts l k else firsts l k ++ [keyAt l k]
theorem take_snocK (l : List ByteArray) (k : Nat) (h : k < l.length) : l.take (k + 1) = l.take k ++ [keyAt l k] := by
  rw [List.take_succ_eq_append_getElem h]
  simp [keyAt, List.getD, h]
theorem firsts_mem (l : List ByteArray) : ∀ k, k ≤ l.length → ∀ s, s ∈ firsts l k ↔ s ∈ l.take k
  | 0, _, s => by simp [firsts]
  | k + 1, h, s => by
    have ih := firsts_mem l k (by omega) s
    rw [take_snocK l k (by omega)]
    unfold firsts
    by_cases e : keyAt l k ∈ l.take k
    · rw [if_pos e, ih, List.mem_append, List.mem_singleton]
      exact ⟨Or.inl, fun h => h.elim id (fun h => h ▸ e)⟩
    · rw [if_neg e, List.mem_append, List.mem_append, ih]
theorem firsts_nodup (l : List ByteArray) : ∀ k, k ≤ l.length → (firsts l k).Nodup
  | 0, _ => List.nodup_nil
  | k + 1, h => by
    have ih := firsts_nodup l k (by omega)
    unfold firsts
    by_cases e : keyAt l k ∈ l.take k
    · rw [if_pos e]; exact ih
    · rw [if_neg e]
      rw [List.nodup_append]
      refine ⟨ih, List.pairwise_singleton _ _, fun a ha b hb hab => ?_⟩
      rw [List.mem_singleton] at hb
      rw [hab, hb, firsts_mem l k (by omega)] at ha
      exact e ha
theorem firsts_len (l : List ByteArray) : ∀ k, (firsts l k).length ≤ k
  | 0 => Nat.le_refl _
  | k + 1 => by
    have := firsts_len l k
    unfold firsts
    split
    · omega
    · rw [List.length_append]; simp; omega
theorem nodup_len {a b : List ByteArray} (ha : a.Nodup) (hb : b.Nodup) (h : ∀ s, s ∈ a ↔ s ∈ b) : a.length = b.length :=
  Nat.le_antisymm (ha.length_le_of_subset (fun s hs => (h s).1 hs)) (hb.length_le_of_subset (fun s hs => (h s).2 hs))
theorem Up.nodup {l : List ByteArray} (h : Up l) : l.Nodup := by
  unfold Up at h
  refine h.imp ?_
  intro a b hab e
  rw [e, lt_irrefl] at hab
  cases hab
/-- What the law says of a Take by one that had none, and a Drop behind it. -/
theorem back_math {T T2 : Hd} {n n2 : Nat} {si : Int} {keys : List ByteArray} {s : ByteArray} {b : Bool} (hsi : 1 ≤ si) (h : TakeTo (dropped T si) n si keys T2 n2 s b) {K Kd : List ByteArray} (hK : HeldOf T2 si K) (hd : Kd.Nodup ∧ ∀ s, s ∈ Kd ↔ (T2 s ≠ 0 ∧ T2 s = si)) :
    dropped T2 si = dropped T si ∧ K.length = Kd.length ∧ (b = true → Kd.length = (firsts keys keys.length).length) ∧ (b = false → Kd.length = 0) := by
  have e1 : K.length = Kd.length := nodup_len hK.1.nodup hd.1 (fun s => (hK.2 s).trans (hd.2 s).symm)
  have hno : ∀ s, dropped T si s ≠ si := fun s => by
    unfold dropped
    by_cases e : T s = si
    · rw [if_pos e]; omega
    · rw [if_neg e]; exact e
  rcases h with ⟨rfl, _, _, hf, rfl, _⟩ | ⟨rfl, rfl, _, _⟩
  · have h0 : ∀ s, s ∈ keys → dropped T si s = 0 := fun s hs => (first_none hf s hs).resolve_right (hno s)
    refine ⟨?_, e1, fun _ => ?_, (fun h => by cases h)⟩
    · funext s
      show (if tookT (dropped T si) si keys s = si then 0 else tookT (dropped T si) si keys s) = dropped T si s
      rw [took_at]
      by_cases hm : s ∈ keys
      · rw [if_pos hm, if_pos rfl, h0 s hm]
      · rw [if_neg hm, if_neg (hno s)]
    · refine nodup_len hd.1 (firsts_nodup keys _ (Nat.le_refl _)) (fun s => ?_)
      rw [hd.2 s, firsts_mem keys _ (Nat.le_refl _), List.take_length, took_at]
      by_cases hm : s ∈ keys
      · rw [if_pos hm]; exact ⟨fun _ => hm, fun _ => ⟨by omega, rfl⟩⟩
      · rw [if_neg hm]; exact ⟨fun h => absurd h.2 (hno s), fun h => absurd h hm⟩
  · refine ⟨dropped_twice T si, e1, (fun h => by cases h), fun _ => ?_⟩
    cases Kd with
    | nil => rfl
    | cons a t => exact absurd ((hd.2 a).1 List.mem_cons_self).2 (hno a)
theorem krow_take {w : World} {ao : Option Addr} {cap : Nat} {l : List ByteArray} (h : KRow w (.slice ao l.length cap) l) (k : Nat) (hk : k ≤ l.length) : KRow w (.slice ao k cap) (l.take k) := by
  obtain ⟨a2, c2, e, hc, hn, ⟨hl, hs⟩, hr⟩ := h
  injection e with e1 _ e3
  subst e1 e3
  have e : (l.take k).length = k := by rw [List.length_take]; omega
  refine ⟨ao, cap, by rw [e], by omega, hn, ⟨by omega, fun x hx => hs x (List.mem_of_mem_take hx)⟩, fun j hj => ?_⟩
  rw [e] at hj
  obtain ⟨g, o, h1, h2, h3⟩ := hr j (by omega)
  refine ⟨g, o, h1, h2, ?_⟩
  rw [h3]
  simp [keyAt, List.getD, hj, show j < l.length by omega]
set_option maxHeartbeats 16000000 in
theorem back_walk {w : World} (hS : ∀ rs, Sorts w.heap.size w rs SortTo) (sv : Value) (l : List LOp) (hr : ORow w sv l) (I : Int) (hI : -9223372036854775808 ≤ I ∧ I ≤ 9223372036854775807)
    (kv : Value) (keys : List ByteArray) (hk : KRow w kv keys) (hks : ∀ s, s ∈ keys → s.size ≤ 1048576) (hsum : 3 + tot l + keys.length ≤ 1048576) :
    Calls Tryd.prog 5 #[sv, .int .i64 I, kv] w fun e w' => e = .returned (.bool true) ∧ Below w.heap.size w w' := by
  have C0 : Hid (Calls Tryd.prog 20 #[sv] w fun e w' => ∃ tb T n, e = .returned (.pointer (some ⟨tb, 0, none⟩)) ∧ Hid (Tk T) ∧ n + keys.length ≤ 1048576 ∧ Hid (Has w.heap.size w [TabR tb n T] w')) := (plays_any hS sv l hr (by omega)).mono (fun e w' ⟨tb, T, n, he, hT, hn, hh⟩ => ⟨tb, T, n, he, hT, by omega, hh⟩)
  have CS : Hid (∀ wq, Calls Tryd.prog 21 #[.int .i64 I] wq fun e w' => e = .returned (.int .i64 (smallZ I)) ∧ w' = wq) := fun wq => small_any _ hI wq
  have HS : Hid (∀ rs, Sorts w.heap.size w rs SortTo) := hS
  have hsr := smallZ_range I
  generalize smallZ I = si at *
  obtain ⟨ao, cap, rfl, -⟩ := hr
  have HKR : Hid (∀ wq, Below w.heap.size w wq → KRow wq kv keys) := fun wq hb => hk.below hb
  obtain ⟨ko, kc, rfl, hkc, -, ⟨hkl, -⟩, hkrow⟩ := hk
  have HKC : Hid (∀ j, j < keys.length → ∃ g o, ko = some ⟨g, o, none⟩ ∧ g < w.heap.size ∧ w.cell? ⟨g, o + j, none⟩ = some (.string (keyAt keys j))) := hkrow
  have HKS : Hid (∀ s, s ∈ keys → s.size ≤ 1048576) := hks
  clear hS hsum hI hkrow hks
  go_enter Tryd.func5, Tryd.ntmps5
  go_wp2_with fail
  refine C0.out.mono ?_
  rintro e w1 ⟨tb, T, n, rfl, hT, hn, h1⟩
  clear C0
  go_wp2_with fail
  refine (CS.out _).mono ?_
  rintro e w2 ⟨rfl, hw⟩
  rw [hw]
  clear hw w2 CS
  have D1 := drop_in [] w1 si (by omega) h1.out
  go_wp2_with fail
  refine D1.mono ?_
  rintro e w2 ⟨K0, rfl, -, h2⟩
  have HT1 : Hid (Tk (dropped T si)) := hT.out.dropped hsr
  have D2 := whole_any HS.out [] w2 (by omega) HT1.out h2.out
  clear D1 h1 h2
  go_wp2_with fail
  refine D2.mono ?_
  rintro e w3 ⟨out, v8, hW, rfl, h3⟩
  have HW : Hid (WholeOf (dropped T si) n out) := hW
  have D3 := copied_any h3 _ keys (HKR.out w3 h3.bel) (by omega)
  have HU1 : Hid (Has w.heap.size w _ w3) := h3
  clear D2 hW h3
  go_wp2_with fail
  refine D3.mono ?_
  rintro e w4 ⟨u, rfl, h4⟩
  have h4b := h4.perm (perm3 _ _ _ _)
  have D4 := take_copy (h4b.perm (List.Perm.refl _)) si hsr.1 (by omega) HKS.out (by omega) (by omega)
  clear D3 h4 HU1
  go_wp2_with fail
  refine D4.mono ?_
  rintro e w5 ⟨T2, n2, s, b, rfl, hTo, h5⟩
  have HTo : Hid (TakeTo (dropped T si) n si keys T2 n2 s b) := hTo
  obtain ⟨hT2, hn2⟩ := hTo.tk HT1.out hsr HKS.out
  have HT2 : Hid (Tk T2) := hT2
  have D5 := held_in HS.out _ w5 si (by omega) hT2 h5
  clear D4 h4b hTo hT2 h5
  go_wp2_with fail
  refine D5.mono ?_
  rintro e w6 ⟨K, v12, HK, hKl, rfl, h6⟩
  obtain ⟨ao12, cap12, hv12, -⟩ := own_form (h6.out.ownK (v := v12) (l := K) (by simp))
  subst hv12
  have h7 : Hid (Has w.heap.size w [TabR tb n2 T2, KR v8 out] w6) := (h6.out.drop.perm (List.Perm.swap _ _ _)).drop
  obtain ⟨bm1, -, bm2, bm3⟩ := back_math hsr.1 HTo.out HK.out ⟨HK.out.1.nodup, HK.out.2⟩
  have HD : Hid (dropped T2 si = dropped T si) := bm1
  have HM : Hid (b = true → (firsts keys keys.length).length = K.length) := fun h => (bm2 h).symm
  have HM2 : Hid (b = false → K.length = 0) := bm3
  clear D5 h6 bm1 bm2 bm3 HTo
  go_wp2_with fail
  go_loopw [13, 14] (fun uv iv wr => ∃ k : Nat, k ≤ keys.length ∧ uv = .int .i64 ((firsts keys k).length : Int) ∧ iv = .int .i64 (k : Int) ∧ Hid (Has w.heap.size w [TabR tb n2 T2, KR v8 out] wr)) (fun _ iv _ => keys.length - (intOf iv).toNat)
  case atStart => exact ⟨0, Nat.zero_le _, rfl, rfl, h7⟩
  case round =>
    obtain ⟨k, hk, rfl, rfl, HH⟩ := hrel
    clear h7
    by_cases hlt : k < keys.length
    · have hltI : (k : Int) < (keys.length : Int) := by omega
      obtain ⟨g, o, rfl, hg, c0⟩ := HKC.out k hlt
      have d0 := (HH.out.bel.cell (p := ⟨g, o + k, none⟩) hg).trans c0
      have HHs : Hid (∀ m, Calls Tryd.prog 23 #[.slice (some ⟨g, o, none⟩) k kc, .string (keyAt keys k)] (wr.drewN m) fun e w' => e = .returned (.bool (decide (keyAt keys k ∈ keys.take k))) ∧ w' = wr.drewN m) := fun m => has_any _ _ _ _ (krow_take (HKR.out _ (HH.out.bel.trans ((below_drewN (Below.refl _ _) m).mono HH.out.size))) k hk)
      have HF : Hid ((firsts keys (k + 1)).length = if decide (keyAt keys k ∈ keys.take k) = true then (firsts keys k).length else (firsts keys k).length + 1) := by
        show (if keyAt keys k ∈ keys.take k then firsts keys k else firsts keys k ++ [keyAt keys k]).length = _
        by_cases e : keyAt keys k ∈ keys.take k
        · simp [e]
        · simp [e]
      have HN : Hid (∀ m, Has w.heap.size w [TabR tb n2 T2, KR v8 out] (wr.drewN m)) := fun m => HH.out.below (below_drewN (Below.refl _ _) m)
      have hfl := firsts_len keys k
      have hkc1 : (k : Int) ≤ (kc : Int) := by omega
      generalize decide (keyAt keys k ∈ keys.take k) = r at *
      generalize keyAt keys k = z at *
      generalize (firsts keys k).length = fl at *
      clear c0 HH HKR HKC HM
      cases r with
      | true =>
        go_wp2_with fail
        go_quiet ((go_at_call 23; exact Calls.quiet_of_same (HHs.out _)))
        clear HHs
        go_wp2_with fail
        exact ⟨⟨k + 1, by omega, by rw [HF.out]; rfl, by go_num, HN.out _⟩, by simp [intOf]; omega⟩
      | false =>
        go_wp2_with fail
        go_quiet ((go_at_call 23; exact Calls.quiet_of_same (HHs.out _)))
        clear HHs
        go_wp2_with fail
        exact ⟨⟨k + 1, by omega, by rw [HF.out]; go_num, by go_num, HN.out _⟩, by simp [intOf]; omega⟩
    · have hltI : ¬ (k : Int) < (keys.length : Int) := by omega
      have ek : k = keys.length := by omega
      subst ek
      have HDR : Hid (∀ wq, Has w.heap.size w [TabR tb n2 T2, KR v8 out] wq → Calls Tryd.prog 14 #[.pointer (some ⟨tb, 0, none⟩), .int .i64 si] wq fun e w' => e = .returned (.int .i64 (K.length : Int)) ∧ Hid (Has w.heap.size w [TabR tb n2 (dropped T si), KR v8 out] w')) := fun wq h => by
        refine (drop_in [KR v8 out] wq si (by omega) h).mono ?_
        rintro e w' ⟨Kd, rfl, hkd, hh⟩
        rw [HD.out] at hh
        have e1 : Kd.length = K.length := nodup_len hkd.out.1 HK.out.1.nodup (fun s => (hkd.out.2 s).trans (HK.out.2 s).symm)
        exact ⟨by rw [e1], hh⟩
      have HDZ : Hid (∀ rs wq, Has w.heap.size w (TabR tb n2 (dropped T si) :: rs) wq → Calls Tryd.prog 14 #[.pointer (some ⟨tb, 0, none⟩), .int .i64 si] wq fun e w' => e = .returned (.int .i64 0) ∧ Hid (Has w.heap.size w (TabR tb n2 (dropped T si) :: rs) w')) := fun rs wq h => by
        refine (drop_in rs wq si (by omega) h).mono ?_
        rintro e w' ⟨Kd, rfl, hkd, hh⟩
        rw [dropped_twice] at hh
        have e1 : Kd = [] := by
          cases Kd with
          | nil => rfl
          | cons a t =>
            have x := (hkd.out.2 a).1 List.mem_cons_self
            unfold dropped at x
            by_cases e : T a = si
            · rw [if_pos e] at x; exact absurd rfl x.1
            · rw [if_neg e] at x; exact absurd x.2 e
        subst e1
        exact ⟨rfl, hh⟩
      have HWH : Hid (∀ wq, Has w.heap.size w [TabR tb n2 (dropped T si), KR v8 out] wq → Calls Tryd.prog 22 #[.pointer (some ⟨tb, 0, none⟩)] wq fun e w' => ∃ v, e = .returned (.tuple #[v, .bool true]) ∧ Hid (Has w.heap.size w [KR v out, TabR tb n2 (dropped T si), KR v8 out] w')) := fun wq h => by
        refine (whole_any HS.out [KR v8 out] wq (by omega) HT1.out h).mono ?_
        rintro e w' ⟨out2, v, hw2, rfl, hh⟩
        rw [hw2.uniq HW.out] at hh
        exact ⟨v, rfl, hh⟩
      have HSM : Hid (∀ wq v, Has w.heap.size w [KR v out, TabR tb n2 (dropped T si), KR v8 out] wq → Calls Tryd.prog 12 #[v8, v] wq fun e w' => e = .returned (.bool true) ∧ Hid (Has w.heap.size w (TabR tb n2 (dropped T si) :: [KR v8 out]) w')) := fun wq v h => by
        refine (same_in (u := v8) (v := v) (K := out) h (by simp) (by simp) (by have := HW.out.len (by omega); omega) (HW.out.small HT1.out.1)).mono ?_
        rintro e w' ⟨rfl, hh⟩
        exact ⟨rfl, hh.out.drop⟩
      clear HS HK HW HD HKC HKR HKS HT1 HT2
      generalize dropped T si = T1 at *
      cases b with
      | true =>
        rw [HM.out rfl]
        clear HM HM2
        generalize K.length = kn at *
        have D6 := HDR.out _ HH.out
        go_wp2_with fail
        refine D6.mono ?_
        rintro e w8 ⟨rfl, h8⟩
        have D7 := HWH.out _ h8.out
        clear D6 h8 HH
        go_wp2_with fail
        refine D7.mono ?_
        rintro e w9 ⟨v9, rfl, h9⟩
        have D8 := HSM.out _ _ h9.out
        clear D7 h9
        go_wp2_with fail
        refine D8.mono ?_
        rintro e w10 ⟨rfl, h10⟩
        have D9 := HDZ.out _ _ h10.out
        clear D8 h10
        go_wp2_with fail
        refine D9.mono ?_
        rintro e w11 ⟨rfl, h11⟩
        clear D9
        go_wp2_with fail
        go_ret
        exact ⟨rfl, h11.out.bel⟩
      | false =>
        have ek0 := HM2.out rfl
        clear HM HM2
        generalize K.length = kn at *
        subst ek0
        have D6 := HDR.out _ HH.out
        go_wp2_with fail
        refine D6.mono ?_
        rintro e w8 ⟨rfl, h8⟩
        have D7 := HWH.out _ h8.out
        clear D6 h8 HH
        go_wp2_with fail
        refine D7.mono ?_
        rintro e w9 ⟨v9, rfl, h9⟩
        have D8 := HSM.out _ _ h9.out
        clear D7 h9
        go_wp2_with fail
        refine D8.mono ?_
        rintro e w10 ⟨rfl, h10⟩
        have D9 := HDZ.out _ _ h10.out
        clear D8 h10
        go_wp2_with fail
        refine D9.mono ?_
        rintro e w11 ⟨rfl, h11⟩
        clear D9
        go_wp2_with fail
        go_ret
        exact ⟨rfl, h11.out.bel⟩
end Go.Proofs.YthdloddcljbjhaaDoor
