/- The document's Take where it refuses; Take of both, in one form. -/
import Derived.Test.YthdloddcljbjhaaDoorRefE
set_option linter.unusedVariables false
set_option maxRecDepth 100000
namespace Go.Proofs.YthdloddcljbjhaaDoor
open Go.RowKit CheckMath

set_option maxHeartbeats 4000000 in
theorem rTake_low (wr : World) (tb : Nat) (i : Int) (hi : i < 1) (kv : Value) (keys : List ByteArray) (hk : KRow wr kv keys) :
    Calls Tryd.prog 11 #[.pointer (some ⟨tb, 0, none⟩), .int .i64 i, kv] wr fun e w' => e = .returned (.tuple #[.string ⟨#[]⟩, .bool false]) ∧ w' = wr := by
  obtain ⟨ko, kc, rfl, -⟩ := hk
  go_enter Tryd.func11, Tryd.ntmps11
  go_wp2_with fail
  go_ret2
  exact ⟨rfl, rfl⟩
set_option maxHeartbeats 4000000 in
theorem rTake_bad (wr : World) (tb : Nat) (i : Int) (hi : 1 ≤ i) (kv : Value) (keys : List ByteArray) (hk : KRow wr kv keys) (hs : ∀ s, s ∈ keys → s.size ≤ 1048576) (hall : keys.all isN = false) :
    Calls Tryd.prog 11 #[.pointer (some ⟨tb, 0, none⟩), .int .i64 i, kv] wr fun e w' => e = .returned (.tuple #[.string ⟨#[]⟩, .bool false]) ∧ w' = wr := by
  obtain ⟨ko, kc, rfl, hkc, hkn, ⟨hkl, -⟩, hkrow⟩ := hk
  have HKW : Hid (∀ j, j < keys.length → ∃ g o, ko = some ⟨g, o, none⟩ ∧ g < wr.heap.size ∧ wr.cell? ⟨g, o + j, none⟩ = some (.string (keyAt keys j))) := hkrow
  have HIS : Hid (∀ j, j < keys.length → Calls Tryd.prog 28 #[.string (keyAt keys j)] wr fun e w' => e = .returned (.bool (isN (keyAt keys j))) ∧ w' = wr) := fun j hj => Nm.refIs_any (keyAt keys j) (by have := hs _ (keyAt_mem hj); omega) wr
  have HE : Hid ((∀ j, j < keys.length → isN (keyAt keys j) = true) → False) := fun h => by
    have : keys.all isN = true := by
      rw [List.all_eq_true]
      intro s hs
      obtain ⟨j, hj, rfl⟩ := List.mem_iff_getElem.1 hs
      have := h j hj
      simpa [keyAt, List.getD, hj] using this
    rw [hall] at this
    cases this
  have hi3 : ¬ i < 1 := by omega
  clear hs hall hkrow
  go_enter Tryd.func11, Tryd.ntmps11
  go_wp2_with fail
  go_loop [8] (fun kv => ∃ k : Nat, k ≤ keys.length ∧ kv = .int .i64 (k : Int) ∧ Hid (∀ j, j < k → isN (keyAt keys j) = true)) (fun kv => keys.length - (intOf kv).toNat)
  case atStart => exact ⟨0, Nat.zero_le _, rfl, fun j hj => absurd hj (Nat.not_lt_zero _)⟩
  case round =>
    obtain ⟨k, hk, rfl, HP⟩ := hrel
    by_cases hlt : k < keys.length
    · have hltJ : (k : Int) < (keys.length : Int) := by omega
      obtain ⟨g, o, rfl, hg, c0⟩ := HKW.out k hlt
      have D1 := HIS.out k hlt
      have HP2 : Hid (isN (keyAt keys k) = true → ∀ j, j < k + 1 → isN (keyAt keys j) = true) := fun h j hj => by
        by_cases e : j = k
        · subst e; exact h
        · exact HP.out j (by omega)
      clear HKW HIS HE HP
      generalize isN (keyAt keys k) = r at *
      generalize keyAt keys k = z at *
      cases r with
      | true =>
        have HP3 := HP2.out rfl
        have HP4 : Hid (∀ j, j < k + 1 → isN (keyAt keys j) = true) := HP3
        clear HP2 HP3
        go_wp2_with fail
        refine D1.mono ?_
        rintro e w9 ⟨rfl, hw⟩
        rw [hw]
        clear hw w9 D1
        go_wp2_with fail
        exact ⟨⟨k + 1, by omega, by go_num, HP4⟩, by simp [intOf]; omega⟩
      | false =>
        clear HP2
        go_wp2_with fail
        refine D1.mono ?_
        rintro e w9 ⟨rfl, hw⟩
        rw [hw]
        clear hw w9 D1
        go_wp2_with fail
        go_ret2
        exact ⟨rfl, rfl⟩
    · exact (HE.out (fun j hj => HP.out j (by omega))).elim
set_option maxHeartbeats 8000000 in
theorem rTake_other {B : Nat} {w wr : World} {rs : List Res} {tb : Nat} {v : Value} {L : List Lk} (h : Has B w (BlockR tb [v] :: LR v L :: rs) wr) (i : Int) (hi : 1 ≤ i) (kv : Value) (keys : List ByteArray) (hk : KRow wr kv keys) (hs : ∀ s, s ∈ keys → s.size ≤ 1048576) (hall : keys.all isN = true) (x : ByteArray) (hf : firstO (who L) i keys = some x) :
    Calls Tryd.prog 11 #[.pointer (some ⟨tb, 0, none⟩), .int .i64 i, kv] wr fun e w' => e = .returned (.tuple #[.string x, .bool false]) ∧ w' = wr := by
  obtain ⟨ko, kc, rfl, hkc, hkn, ⟨hkl, -⟩, hkrow⟩ := hk
  have HKW : Hid (∀ j, j < keys.length → ∃ g o, ko = some ⟨g, o, none⟩ ∧ g < wr.heap.size ∧ wr.cell? ⟨g, o + j, none⟩ = some (.string (keyAt keys j))) := hkrow
  have HIS : Hid (∀ j, j < keys.length → Calls Tryd.prog 28 #[.string (keyAt keys j)] wr fun e w' => e = .returned (.bool true) ∧ w' = wr) := fun j hj => by
    have hm := keyAt_mem hj
    have x := Nm.refIs_any (keyAt keys j) (by have := hs _ hm; omega) wr
    rw [show NameMath.isGo (NameMath.runes (keyAt keys j).data.toList) 0 = true from List.all_eq_true.1 hall _ hm] at x
    exact x
  have HHO : Hid (∀ j, j < keys.length → Calls Tryd.prog 17 #[.pointer (some ⟨tb, 0, none⟩), .string (keyAt keys j)] wr fun e w' => e = .returned (.int .i64 (who L (keyAt keys j))) ∧ w' = wr) := fun j hj => rHolder_any (tb := tb) (v := v) (L := L) h (by simp) (by simp) _
  have HF : Hid (∀ k, k < keys.length → (∀ j, j < k → oth (who L) i (keyAt keys j) = false) → oth (who L) i (keyAt keys k) = true → keyAt keys k = x) := fun k hk h0 h1 => by
    have e : firstO (who L) i keys = some (keyAt keys k) := by
      unfold firstO
      rw [List.find?_eq_some_iff_getElem]
      refine ⟨h1, k, hk, by simp [keyAt, List.getD, hk], fun j hj => ?_⟩
      have := h0 j hj
      simpa [keyAt, List.getD, show j < keys.length by omega] using this
    rw [hf] at e
    injection e with e
    exact e.symm
  have HE : Hid ((∀ j, j < keys.length → oth (who L) i (keyAt keys j) = false) → False) := fun h0 => by
    have e : firstO (who L) i keys = none := by
      unfold firstO
      rw [List.find?_eq_none]
      intro s hs
      obtain ⟨j, hj, rfl⟩ := List.mem_iff_getElem.1 hs
      have := h0 j hj
      simpa [keyAt, List.getD, hj] using this
    rw [hf] at e
    cases e
  have hi3 : ¬ i < 1 := by omega
  clear hs hall hkrow hf h
  go_enter Tryd.func11, Tryd.ntmps11
  go_wp2_with fail
  go_loop [8] (fun kv => ∃ k : Nat, k ≤ keys.length ∧ kv = .int .i64 (k : Int)) (fun kv => keys.length - (intOf kv).toNat)
  case atStart => exact ⟨0, Nat.zero_le _, rfl⟩
  case round =>
    obtain ⟨k, hk, rfl⟩ := hrel
    by_cases hlt : k < keys.length
    · have hltJ : (k : Int) < (keys.length : Int) := by omega
      obtain ⟨g, o, rfl, hg, c0⟩ := HKW.out k hlt
      have D1 := HIS.out k hlt
      clear HKW HIS HHO HF HE
      generalize keyAt keys k = z at *
      go_wp2_with fail
      refine D1.mono ?_
      rintro e w9 ⟨rfl, hw⟩
      rw [hw]
      clear hw w9 D1
      go_wp2_with fail
      exact ⟨⟨k + 1, by omega, by go_num⟩, by simp [intOf]; omega⟩
    · have hltJ : ¬ (k : Int) < (keys.length : Int) := by omega
      clear HIS
      go_wp2_with fail
      go_loop [9] (fun kv => ∃ k : Nat, k ≤ keys.length ∧ kv = .int .i64 (k : Int) ∧ Hid (∀ j, j < k → oth (who L) i (keyAt keys j) = false)) (fun kv => keys.length - (intOf kv).toNat)
      case atStart => exact ⟨0, Nat.zero_le _, rfl, fun j hj => absurd hj (Nat.not_lt_zero _)⟩
      case round =>
        obtain ⟨k, hk, rfl, HP⟩ := hrel
        by_cases hlt : k < keys.length
        · have hltJ : (k : Int) < (keys.length : Int) := by omega
          obtain ⟨g, o, rfl, hg, c0⟩ := HKW.out k hlt
          have D1 := HHO.out k hlt
          have hF := HF.out k hlt HP.out
          have HP2 : Hid (oth (who L) i (keyAt keys k) = false → ∀ j, j < k + 1 → oth (who L) i (keyAt keys j) = false) := fun h j hj => by
            by_cases e : j = k
            · subst e; exact h
            · exact HP.out j (by omega)
          clear HKW HHO HF HE HP
          have hdef : oth (who L) i (keyAt keys k) = (who L (keyAt keys k) != 0 && who L (keyAt keys k) != i) := rfl
          generalize oth (who L) i (keyAt keys k) = r at *
          generalize who L (keyAt keys k) = t at *
          generalize keyAt keys k = z at *
          by_cases t0 : t = 0
          · have HP3 : Hid (∀ j, j < k + 1 → oth (who L) i (keyAt keys j) = false) := HP2.out (by rw [hdef, t0]; rfl)
            subst t0
            clear HP2 hF hdef
            go_wp2_with fail
            refine D1.mono ?_
            rintro e w9 ⟨rfl, hw⟩
            rw [hw]
            clear hw w9 D1
            go_wp2_with fail
            exact ⟨⟨k + 1, by omega, by go_num, HP3⟩, by simp [intOf]; omega⟩
          · have z0 : (t != 0) = true := by simpa using t0
            by_cases t1 : t = i
            · have HP3 : Hid (∀ j, j < k + 1 → oth (who L) i (keyAt keys j) = false) := HP2.out (by rw [hdef, t1]; simp)
              have z1 : (t != i) = false := by simpa using t1
              clear HP2 hF hdef t1 t0
              go_wp2_with fail
              refine D1.mono ?_
              rintro e w9 ⟨rfl, hw⟩
              rw [hw]
              clear hw w9 D1
              go_wp2_with fail
              exact ⟨⟨k + 1, by omega, by go_num, HP3⟩, by simp [intOf]; omega⟩
            · have z1 : (t != i) = true := by simpa using t1
              have hzx : Hid (z = x) := hF (by rw [hdef, z0, z1]; rfl)
              clear HP2 hF hdef t1 t0
              go_wp2_with fail
              refine D1.mono ?_
              rintro e w9 ⟨rfl, hw⟩
              rw [hw]
              clear hw w9 D1
              go_wp2_with fail
              go_ret2
              rw [hzx.out]
              exact ⟨rfl, rfl⟩
        · exact (HE.out (fun j hj => HP.out j (by omega))).elim
/-- What a Take answers: of T, by i, of the keys. -/
def ansS (T : Hd) (i : Int) (l : List ByteArray) : ByteArray := if 1 ≤ i ∧ l.all isN = true then (firstO T i l).getD ⟨#[]⟩ else ⟨#[]⟩
def ansB (T : Hd) (i : Int) (l : List ByteArray) : Bool := decide (1 ≤ i) && l.all isN && (firstO T i l).isNone
def afterT (T : Hd) (i : Int) (l : List ByteArray) : Hd := if ansB T i l = true then tookT T i l else T
def afterL (L : List Lk) (i : Int) (l : List ByteArray) : List Lk := if ansB (who L) i l = true then takeL L i l else L
theorem pTake_any {B : Nat} {w wr : World} {rs : List Res} {tb n : Nat} {T : Hd} {u : Value} {l : List ByteArray} (h : Has B w (TabR tb n T :: KR u l :: rs) wr) (i : Int) (hi2 : i ≤ 9223372036854775807) (hs : ∀ s, s ∈ l → s.size ≤ 1048576) (hn : n + l.length ≤ 1152921504606846976) (hl : l.length ≤ 140737488355328) :
    Calls Tryd.prog 10 #[.pointer (some ⟨tb, 0, none⟩), .int .i64 i, u] wr fun e w' => ∃ n', e = .returned (.tuple #[.string (ansS T i l), .bool (ansB T i l)]) ∧ n' ≤ n + l.length ∧ Has B w (TabR tb n' (afterT T i l) :: KR u l :: rs) w' := by
  have hk : ∀ wq k T2, Has B w (TabR tb k T2 :: KR u l :: rs) wq → KRow wq u l := fun wq k T2 hq => hq.rowK (by simp) hl (fun s hm => by have := hs s hm; omega)
  have h0 := hk wr n T h
  by_cases hi : 1 ≤ i
  · by_cases hall : l.all isN = true
    · cases hf : firstO T i l with
      | none =>
        have eS : ansS T i l = ⟨#[]⟩ := by unfold ansS; rw [hf]; simp
        have eB : ansB T i l = true := by unfold ansB; rw [hf]; simp [hi, hall]
        refine (take_yes h i hi hi2 u l h0 (fun wq hq _ => hk wq n T hq) hs hn hall hf hk).mono ?_
        rintro e w' ⟨rfl, hh⟩
        refine ⟨n + l.length, by rw [eS, eB], Nat.le_refl _, ?_⟩
        unfold afterT
        rw [if_pos eB]; exact hh
      | some x =>
        have eS : ansS T i l = x := by unfold ansS; rw [hf]; simp [hi, hall]
        have eB : ansB T i l = false := by unfold ansB; rw [hf]; simp
        refine (take_other h i hi u l h0 hs hall x hf hk).mono ?_
        rintro e w' ⟨rfl, hh⟩
        refine ⟨n, by rw [eS, eB], by omega, ?_⟩
        unfold afterT
        rw [if_neg (by rw [eB]; decide)]; exact hh
    · have hall2 : l.all isN = false := by simpa using hall
      have eS : ansS T i l = ⟨#[]⟩ := by unfold ansS; rw [if_neg (fun h => hall h.2)]
      have eB : ansB T i l = false := by unfold ansB; rw [hall2]; simp
      refine (take_bad h i hi u l h0 hall2).mono ?_
      rintro e w' ⟨rfl, hh⟩
      refine ⟨n, by rw [eS, eB], by omega, ?_⟩
      unfold afterT
      rw [if_neg (by rw [eB]; decide)]; exact hh
  · have eS : ansS T i l = ⟨#[]⟩ := by unfold ansS; rw [if_neg (fun h => hi h.1)]
    have eB : ansB T i l = false := by unfold ansB; simp [hi]
    refine (take_low h i (by omega) u l h0).mono ?_
    rintro e w' ⟨rfl, hh⟩
    refine ⟨n, by rw [eS, eB], by omega, ?_⟩
    unfold afterT
    rw [if_neg (by rw [eB]; decide)]; exact hh
theorem rTake_any {B : Nat} {w wr : World} {rs : List Res} {tb : Nat} {v : Value} {L : List Lk} (h : Has B w (BlockR tb [v] :: LR v L :: rs) wr) (i : Int) (hi2 : i ≤ 9223372036854775807) (kv : Value) (keys : List ByteArray) (hs : ∀ s, s ∈ keys → s.size ≤ 1048576) (hL : ∀ x, x ∈ L → x.1.size ≤ 1048576)
    (hkr : ∀ wq u L', Has B w (BlockR tb [u] :: LR u L' :: rs) wq → KRow wq kv keys) (hn : L.length + keys.length ≤ 1048576) :
    Calls Tryd.prog 11 #[.pointer (some ⟨tb, 0, none⟩), .int .i64 i, kv] wr fun e w' => ∃ u, e = .returned (.tuple #[.string (ansS (who L) i keys), .bool (ansB (who L) i keys)]) ∧ Has B w (BlockR tb [u] :: LR u (afterL L i keys) :: rs) w' := by
  have h0 := hkr wr v L h
  by_cases hi : 1 ≤ i
  · by_cases hall : keys.all isN = true
    · cases hf : firstO (who L) i keys with
      | none =>
        have eS : ansS (who L) i keys = ⟨#[]⟩ := by unfold ansS; rw [hf]; simp
        have eB : ansB (who L) i keys = true := by unfold ansB; rw [hf]; simp [hi, hall]
        refine (rTake_yes h i hi hi2 kv keys hall hs hL (fun s hm => first_none hf s hm) hkr hn).mono ?_
        rintro e w' ⟨u, rfl, hh⟩
        refine ⟨u, by rw [eS, eB], ?_⟩
        unfold afterL
        rw [if_pos eB]; exact hh
      | some x =>
        have eS : ansS (who L) i keys = x := by unfold ansS; rw [hf]; simp [hi, hall]
        have eB : ansB (who L) i keys = false := by unfold ansB; rw [hf]; simp
        refine (rTake_other h i hi kv keys h0 hs hall x hf).mono ?_
        rintro e w' ⟨rfl, rfl⟩
        refine ⟨v, by rw [eS, eB], ?_⟩
        unfold afterL
        rw [if_neg (by rw [eB]; decide)]; exact h
    · have hall2 : keys.all isN = false := by simpa using hall
      have eS : ansS (who L) i keys = ⟨#[]⟩ := by unfold ansS; rw [if_neg (fun h => hall h.2)]
      have eB : ansB (who L) i keys = false := by unfold ansB; rw [hall2]; simp
      refine (rTake_bad wr tb i hi kv keys h0 hs hall2).mono ?_
      rintro e w' ⟨rfl, rfl⟩
      refine ⟨v, by rw [eS, eB], ?_⟩
      unfold afterL
      rw [if_neg (by rw [eB]; decide)]; exact h
  · have eS : ansS (who L) i keys = ⟨#[]⟩ := by unfold ansS; rw [if_neg (fun h => hi h.1)]
    have eB : ansB (who L) i keys = false := by unfold ansB; simp [hi]
    refine (rTake_low wr tb i (by omega) kv keys h0).mono ?_
    rintro e w' ⟨rfl, rfl⟩
    refine ⟨v, by rw [eS, eB], ?_⟩
    unfold afterL
    rw [if_neg (by rw [eB]; decide)]; exact h
theorem Like.eq {T : Hd} {L : List Lk} (h : Like T L) : who L = T := funext h.2.2
theorem Like.after {T : Hd} {L : List Lk} (h : Like T L) (hN : Names T) (i : Int) (l : List ByteArray) (hs : ∀ s, s ∈ l → s.size ≤ 1048576) : Like (afterT T i l) (afterL L i l) := by
  unfold afterT afterL
  rw [h.eq]
  by_cases e : ansB T i l = true
  · rw [if_pos e, if_pos e]
    unfold ansB at e
    simp only [Bool.and_eq_true, decide_eq_true_eq] at e
    exact Like.take (by omega) l h hN e.1.2 hs (fun s hm => first_none (by simpa using e.2) s hm)
  · rw [if_neg e, if_neg e]; exact h
theorem names_after {T : Hd} (hN : Names T) (i : Int) (l : List ByteArray) (hs : ∀ s, s ∈ l → s.size ≤ 1048576) : Names (afterT T i l) := by
  unfold afterT
  by_cases e : ansB T i l = true
  · rw [if_pos e]
    unfold ansB at e
    simp only [Bool.and_eq_true, decide_eq_true_eq] at e
    exact names_took hN i e.1.2 hs
  · rw [if_neg e]; exact hN
theorem afterL_len (L : List Lk) (i : Int) (l : List ByteArray) : (afterL L i l).length ≤ L.length + l.length := by
  unfold afterL
  split
  · exact takeL_len L i l
  · omega
theorem like_small {T : Hd} {L : List Lk} (h : Like T L) (hN : Names T) : ∀ x, x ∈ L → x.1.size ≤ 1048576 := fun x hx => (hN x.1 ((h.mem x.1 x.2).1 hx).1).2
end Go.Proofs.YthdloddcljbjhaaDoor
