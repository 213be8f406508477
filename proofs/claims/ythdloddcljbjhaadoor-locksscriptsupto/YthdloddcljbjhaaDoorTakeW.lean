/- The walks of allNames, firstOfOthers, Take. -/
import Derived.Test.YthdloddcljbjhaaDoorLBase
import Derived.Test.YthdloddcljbjhaaDoorNmWalks
set_option linter.unusedVariables false
set_option maxRecDepth 100000
namespace Go.Proofs.YthdloddcljbjhaaDoor
open Go.RowKit CheckMath
open Go.Maps (Keyed)
open Go.Proofs.YthdloddcljbjhaaDoor.Nm

def isN (s : ByteArray) : Bool := NameMath.isGo (NameMath.runes s.data.toList) 0
set_option maxHeartbeats 2000000 in
theorem allNames_any (v : Value) (l : List ByteArray) (w : World) (h : KRow w v l) :
    Calls Tryd.prog 26 #[v] w fun e w' => e = .returned (.bool (l.all isN)) ∧ Below w.heap.size w w' := by
  have HK : Hid (KRow w v l) := h
  obtain ⟨ao, cap, rfl, hcap, _, ⟨hlen, hsz⟩, hrow⟩ := h
  have HR : Hid (∀ j, j < l.length → ∃ g o, ao = some ⟨g, o, none⟩ ∧ g < w.heap.size ∧ w.cell? ⟨g, o + j, none⟩ = some (.string (keyAt l j))) := hrow
  clear hrow hsz HK
  go_enter Tryd.func26, Tryd.ntmps26
  go_wp2_with fail
  go_loopw [7] (fun i wr => ∃ k : Nat, k ≤ l.length ∧ i = .int .i64 (k : Int) ∧ Hid (∀ j, j < k → isN (keyAt l j) = true) ∧ Hid (Below w.heap.size w wr)) (fun i _ => l.length - (intOf i).toNat)
  case atStart => exact ⟨0, Nat.zero_le _, rfl, fun j hj => absurd hj (Nat.not_lt_zero _), Below.refl _ _⟩
  case round =>
    obtain ⟨k, hk, rfl, HP, HB⟩ := hrel
    by_cases hlt : k < l.length
    · have hltI : (k : Int) < (l.length : Int) := by omega
      obtain ⟨g, o, rfl, hg, c0⟩ := HR.out k hlt
      have d0 := (HB.out.cell (p := ⟨g, o + k, none⟩) hg).trans c0
      have C : Hid (Calls Tryd.prog 33 #[.string (keyAt l k)] wr fun e w' => e = .returned (.bool (isN (keyAt l k))) ∧ Below wr.heap.size wr w') := is_any (keyAt l k) wr
      have HP2 : Hid (isN (keyAt l k) = true → ∀ j, j < k + 1 → isN (keyAt l j) = true) := fun h j hj => by
        by_cases e : j = k
        · subst e; exact h
        · exact HP.out j (by omega)
      have HN : Hid (isN (keyAt l k) = false → l.all isN = false) := fun h => by
        rw [List.all_eq_false]
        exact ⟨keyAt l k, by simp [keyAt, List.getD, hlt], by rw [h]; decide⟩
      clear HP c0
      generalize isN (keyAt l k) = r at *
      generalize keyAt l k = s at *
      cases r with
      | true =>
        have HP3 : Hid (∀ j, j < k + 1 → isN (keyAt l j) = true) := HP2.out rfl
        clear HP2 HN
        go_wp2_with fail
        refine C.out.mono ?_
        rintro e w1 ⟨rfl, hb⟩
        have HB1 : Hid (Below w.heap.size w w1) := HB.out.trans (hb.mono HB.out.size)
        clear C hb HB d0
        go_wp2_with fail
        exact ⟨⟨k + 1, by omega, by go_num, HP3, HB1⟩, by simp [intOf]; omega⟩
      | false =>
        have HN2 : Hid (l.all isN = false) := HN.out rfl
        clear HP2 HN
        go_wp2_with fail
        refine C.out.mono ?_
        rintro e w1 ⟨rfl, hb⟩
        have HB1 : Hid (Below w.heap.size w w1) := HB.out.trans (hb.mono HB.out.size)
        clear C hb HB d0
        go_wp2_with fail
        go_ret
        rw [HN2.out]
        exact ⟨rfl, HB1.out⟩
    · have hltI : ¬ (k : Int) < (l.length : Int) := by omega
      have HY : Hid (l.all isN = true) := by
        have x : l.all isN = true := by
          rw [List.all_eq_true]
          intro s hs
          obtain ⟨j, hj, rfl⟩ := List.mem_iff_getElem.1 hs
          have := HP.out j (by omega)
          simpa [keyAt, List.getD, hj] using this
        exact x
      clear HP
      go_wp2_with fail
      go_ret
      rw [HY.out]
      exact ⟨rfl, HB.out⟩
/-- Has another one the key? -/
def oth (T : Hd) (i : Int) (s : ByteArray) : Bool := T s != 0 && T s != i
theorem oth_yes {T : Hd} {i : Int} {s : ByteArray} (h0 : ¬ T s = 0) (h1 : ¬ T s = i) : oth T i s = true := by unfold oth; simp [h0, h1]
theorem oth_free {T : Hd} {i : Int} {s : ByteArray} (h0 : T s = 0) : oth T i s = false := by unfold oth; simp [h0]
theorem oth_own {T : Hd} {i : Int} {s : ByteArray} (h0 : T s = i) : oth T i s = false := by unfold oth; simp [h0]
/-- The first of the keys that another one has. -/
def firstO (T : Hd) (i : Int) (l : List ByteArray) : Option ByteArray := l.find? (oth T i)
set_option maxHeartbeats 4000000 in
theorem firstOf_any {B : Nat} {w wr : World} {rs : List Res} {tb n : Nat} {T : Hd} (h : Has B w rs wr) (hm : TabR tb n T ∈ rs) (i : Int) (v : Value) (l : List ByteArray) (hl : KRow wr v l) (hs : ∀ s, s ∈ l → s.size ≤ 1048576) :
    Calls Tryd.prog 27 #[.pointer (some ⟨tb, 0, none⟩), .int .i64 i, v] wr fun e w' => (∀ s, firstO T i l = some s → e = .returned (.tuple #[.string s, .bool true])) ∧ (firstO T i l = none → e = .returned (.tuple #[.string ⟨#[]⟩, .bool false])) ∧ w' = wr := by
  obtain ⟨bm, h1⟩ := has_get h hm
  obtain ⟨D, hD, hA⟩ := h1.own
  have c0 := h1.cell
  have HA : Hid (Agr D T) := hA
  obtain ⟨ao, cap, rfl, hcap, _, ⟨hlen, _⟩, hrow⟩ := hl
  have HR : Hid (∀ j, j < l.length → ∃ g o, ao = some ⟨g, o, none⟩ ∧ g < wr.heap.size ∧ wr.cell? ⟨g, o + j, none⟩ = some (.string (keyAt l j))) := hrow
  have HS : Hid (∀ j, j < l.length → (keyAt l j).size ≤ 1048576) := fun j hj => hs _ (by simp [keyAt, List.getD, hj])
  have HF : Hid (∀ k, k < l.length → (∀ j, j < k → oth T i (keyAt l j) = false) → oth T i (keyAt l k) = true → firstO T i l = some (keyAt l k)) := fun k hk h0 h1 => by
    unfold firstO
    rw [List.find?_eq_some_iff_getElem]
    refine ⟨h1, k, hk, by simp [keyAt, List.getD, hk], fun j hj => ?_⟩
    have := h0 j hj
    simpa [keyAt, List.getD, show j < l.length by omega] using this
  have HG : Hid ((∀ j, j < l.length → oth T i (keyAt l j) = false) → firstO T i l = none) := fun h0 => by
    unfold firstO
    rw [List.find?_eq_none]
    intro s hs
    obtain ⟨j, hj, rfl⟩ := List.mem_iff_getElem.1 hs
    have := h0 j hj
    simpa [keyAt, List.getD, hj] using this
  clear h hm h1 hA hrow hs
  generalize firstO T i l = R at *
  go_enter Tryd.func27, Tryd.ntmps27
  go_wp2_with fail
  go_loop [14] (fun iv => ∃ k : Nat, k ≤ l.length ∧ iv = .int .i64 (k : Int) ∧ Hid (∀ j, j < k → oth T i (keyAt l j) = false)) (fun iv => l.length - (intOf iv).toNat)
  case atStart => exact ⟨0, Nat.zero_le _, rfl, fun j hj => absurd hj (Nat.not_lt_zero _)⟩
  case round =>
    obtain ⟨k, hk, rfl, HP⟩ := hrel
    by_cases hlt : k < l.length
    · have hltI : (k : Int) < (l.length : Int) := by omega
      obtain ⟨g, o, rfl, hg, d0⟩ := HR.out k hlt
      have hsz : (keyAt l k).size ≤ maxLen := by have := HS.out k hlt; unfold maxLen; omega
      have HF2 : Hid (oth T i (keyAt l k) = true → R = some (keyAt l k)) := HF.out k hlt HP.out
      have HP2 : Hid (oth T i (keyAt l k) = false → ∀ j, j < k + 1 → oth T i (keyAt l j) = false) := fun h j hj => by
        by_cases e : j = k
        · subst e; exact h
        · exact HP.out j (by omega)
      clear HP HF HG HR HS hg
      generalize keyAt l k = s at *
      by_cases t0 : T s = 0
      · have HP3 : Hid (∀ j, j < k + 1 → oth T i (keyAt l j) = false) := HP2.out (oth_free t0)
        have z0 : (T s != 0) = false := by simpa using t0
        clear HP2 HF2 t0
        go_wp2_with (at_lookup; refine wpList_who _ rfl _ _ rfl bm n D T rfl hD HA.out s rfl hsz ?_; rw [z0])
        exact ⟨⟨k + 1, by omega, by go_num, HP3⟩, by simp [intOf]; omega⟩
      · have z0 : (T s != 0) = true := by simpa using t0
        by_cases t1 : T s = i
        · have HP3 : Hid (∀ j, j < k + 1 → oth T i (keyAt l j) = false) := HP2.out (oth_own t1)
          have z1 : (T s != i) = false := by simpa using t1
          clear HP2 HF2 t0 t1
          generalize hTs : T s = ts at *
          go_wp2_with (at_lookup; refine wpList_who _ rfl _ _ rfl bm n D T rfl hD HA.out s rfl hsz ?_; rw [hTs, z0])
          exact ⟨⟨k + 1, by omega, by go_num, HP3⟩, by simp [intOf]; omega⟩
        · have HE : Hid (R = some s) := HF2.out (oth_yes t0 t1)
          have z1 : (T s != i) = true := by simpa using t1
          clear HP2 HF2 t0 t1
          generalize hTs : T s = ts at *
          go_wp2_with (at_lookup; refine wpList_who _ rfl _ _ rfl bm n D T rfl hD HA.out s rfl hsz ?_; rw [hTs, z0])
          go_ret2
          refine ⟨fun s' hs' => ?_, fun hn => ?_, rfl⟩
          · rw [HE.out] at hs'; cases hs'; rfl
          · rw [HE.out] at hn; cases hn
    · have hltI : ¬ (k : Int) < (l.length : Int) := by omega
      have HE : Hid (R = none) := HG.out (fun j hj => HP.out j (by omega))
      clear HP HF HG HR HS
      go_wp2_with fail
      go_ret2
      exact ⟨(fun s' hs' => by rw [HE.out] at hs'; cases hs'), fun _ => rfl, rfl⟩
/-- All of them taken. -/
def tookT (T : Hd) (i : Int) (l : List ByteArray) : Hd := l.foldl (fun T s => setT T s i) T
theorem took_snoc (T : Hd) (i : Int) (l : List ByteArray) (k : Nat) (h : k < l.length) : setT (tookT T i (l.take k)) (keyAt l k) i = tookT T i (l.take (k + 1)) := by
  unfold tookT
  rw [List.take_succ_eq_append_getElem h, List.foldl_append]
  simp [keyAt, List.getD, h]
theorem Has.tabPut {B : Nat} {w wr w1 : World} {tb bm n n2 : Nat} {T T2 : Hd} {D2 : DataW Unit} {rs : List Res} (h : Has B w (TabR tb n T :: rs) wr) (h1 : TabIn wr tb bm n T) (ho : w1.ownsMap Tryd.prog 9 (plainElem Tryd.prog 3) bm n2 D2) (hA : Agr D2 T2) (hg : wr.grownBy w1 (some bm)) : Has B w (TabR tb n2 T2 :: rs) w1 := by
  refine h.turn (new := [TabR tb n2 T2]) ?_
  rintro F ⟨bm', h', rfl⟩
  have e : bm' = bm := by
    have := h'.cell.symm.trans h1.cell
    simpa using this
  subst e
  have hc := chg_map hg
  have hlt := block_lt_of_cell h1.cell
  refine ⟨_, Hold.one ⟨bm', ⟨?_, h1.off, D2, ho, hA⟩, rfl⟩, hc.mono (fun k _ e => Or.inr e), fun k hk => Or.inl hk⟩
  exact (World.cell?_of_block (w := wr) (a := ⟨tb, 0, none⟩) (hc.block tb hlt h1.off)).trans h1.cell
set_option maxHeartbeats 4000000 in
theorem take_yes {B : Nat} {w wr : World} {rs : List Res} {tb n : Nat} {T : Hd} (h : Has B w (TabR tb n T :: rs) wr) (i : Int) (hi : 1 ≤ i) (hi2 : i ≤ 9223372036854775807) (v : Value) (l : List ByteArray) (hl : KRow wr v l) (hlow : ∀ wq, Has B w (TabR tb n T :: rs) wq → Below wr.heap.size wr wq → KRow wq v l) (hs : ∀ s, s ∈ l → s.size ≤ 1048576) (hn : n + l.length ≤ 1152921504606846976) (hall : l.all isN = true) (hf : firstO T i l = none)
    (hkeep : ∀ wq k T2, Has B w (TabR tb k T2 :: rs) wq → KRow wq v l) :
    Calls Tryd.prog 10 #[.pointer (some ⟨tb, 0, none⟩), .int .i64 i, v] wr fun e w' => e = .returned (.tuple #[.string ⟨#[]⟩, .bool true]) ∧ Has B w (TabR tb (n + l.length) (tookT T i l) :: rs) w' := by
  have C1 : Hid (Calls Tryd.prog 26 #[v] wr fun e w' => e = .returned (.bool true) ∧ Below wr.heap.size wr w') := by
    have x := allNames_any v l wr hl
    rw [hall] at x
    exact x
  have C2 : Hid (∀ wq, Has B w (TabR tb n T :: rs) wq → Calls Tryd.prog 27 #[.pointer (some ⟨tb, 0, none⟩), .int .i64 i, v] wq fun e w' => e = .returned (.tuple #[.string ⟨#[]⟩, .bool false]) ∧ w' = wq) := fun wq hq => (firstOf_any hq List.mem_cons_self i v l (hkeep wq n T hq) hs).mono (fun e w' ⟨_, he, hw⟩ => ⟨he hf, hw⟩)
  have HK : Hid (∀ wq k T2, Has B w (TabR tb k T2 :: rs) wq → KRow wq v l) := hkeep
  have H0 : Hid (Has B w (TabR tb n T :: rs) wr) := h
  have HS : Hid (∀ s, s ∈ l → s.size ≤ 1048576) := hs
  obtain ⟨ao, cap, rfl, hcap, _⟩ := hl
  have hi3 : ¬ i < 1 := by omega
  clear h hlow hs hall hf hkeep
  go_enter Tryd.func10, Tryd.ntmps10
  go_wp2_with fail
  refine C1.out.mono ?_
  rintro e w1 ⟨rfl, hb1⟩
  have H1 : Hid (Has B w (TabR tb n T :: rs) w1) := H0.out.below hb1
  have D2 := C2.out w1 H1.out
  clear C1 C2 hb1 H0
  go_wp2_with fail
  refine D2.mono ?_
  rintro e w2 ⟨rfl, hw⟩
  rw [hw]
  clear hw w2 D2
  go_wp2_with fail
  go_loopw [30] (fun iv wr => ∃ k : Nat, k ≤ l.length ∧ iv = .int .i64 (k : Int) ∧ Hid (Has B w (TabR tb (n + k) (tookT T i (l.take k)) :: rs) wr)) (fun iv _ => l.length - (intOf iv).toNat)
  case atStart => exact ⟨0, Nat.zero_le _, rfl, H1⟩
  case round =>
    obtain ⟨k, hk, rfl, H⟩ := hrel
    clear H1
    by_cases hlt : k < l.length
    · have hltI : (k : Int) < (l.length : Int) := by omega
      obtain ⟨_, _, e1, _, _, _, hr⟩ := HK.out wr _ _ H.out
      cases e1
      obtain ⟨g, o, rfl, _, d0⟩ := hr k hlt
      obtain ⟨bm, ht⟩ := has_get H.out List.mem_cons_self
      obtain ⟨D, hD, hA⟩ := ht.own
      have c0 := ht.cell
      have hkey := key_mk (keyAt l k) (by have := HS.out (keyAt l k) (by simp [keyAt, List.getD, hlt]); unfold maxLen; omega)
      have HA : Hid (Agr (D.put (kl (keyAt l k)) (.lit (.int .i64 i))) (tookT T i (l.take (k + 1)))) := by
        have x := hA.put (keyAt l k) i (by omega)
        rw [took_snoc T i l k hlt] at x
        exact x
      have HTT : Hid (TabIn wr tb bm (n + k) (tookT T i (l.take k))) := ht
      clear hr ht hA
      generalize keyAt l k = s at *
      go_wp2_with (at_mapUpdate; refine wpList_mapUpdate_own _ rfl _ _ _ 46 rfl 9 3 law Tryd.underlying46 _ bm (n + k) D rfl hD (by unfold maxLen; omega) _ _ _ rfl rfl hkey _ [] (plainElem_int Tryd.underlying3 (WalkArith.wf_i64 (by omega))) ?_)
      intro w5 ho hg
      have HN : Hid (Has B w (TabR tb (n + (k + 1)) (tookT T i (l.take (k + 1))) :: rs) w5) := H.out.tabPut HTT.out ho HA.out hg
      clear ho hg HTT HA H hD c0 d0
      go_wp2_with fail
      exact ⟨⟨k + 1, by omega, by go_num, HN⟩, by simp [intOf]; omega⟩
    · have hltI : ¬ (k : Int) < (l.length : Int) := by omega
      have HE : Hid (Has B w (TabR tb (n + l.length) (tookT T i l) :: rs) wr) := by
        have x := H.out
        rw [show k = l.length by omega, List.take_length] at x
        exact x
      clear H
      go_wp2_with fail
      go_ret2
      exact ⟨rfl, HE.out⟩
end Go.Proofs.YthdloddcljbjhaaDoor
