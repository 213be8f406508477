/- Scripts as data; Take of a copy; the walk of plays. -/
import Derived.Test.YthdloddcljbjhaaDoorLawB
import Derived.Deep.RegionHeld3
set_option linter.unusedVariables false
set_option maxRecDepth 100000
namespace Go.Proofs.YthdloddcljbjhaaDoor
open Go.RowKit CheckMath

/-- A call: what it does, of whom, with which keys. -/
structure LOp where
  Do : Int
  inst : Int
  keys : List ByteArray
instance : Inhabited LOp := ⟨⟨0, 0, []⟩⟩
def onth (l : List LOp) (j : Nat) : LOp := l.getD j ⟨0, 0, []⟩
/-- A script that came in. -/
def ORow (w : World) (v : Value) (l : List LOp) : Prop := ∃ ao cap, v = .slice ao l.length cap ∧ l.length ≤ cap ∧ (ao = none → cap = 0) ∧ l.length ≤ 1048576 ∧
  ∀ j, j < l.length → ∃ g o kv, ao = some ⟨g, o, none⟩ ∧ g < w.heap.size ∧ w.cell? ⟨g, o + j * 3, none⟩ = some (.int .i64 (onth l j).Do) ∧ w.cell? ⟨g, o + j * 3 + 1, none⟩ = some (.int .i64 (onth l j).inst) ∧ w.cell? ⟨g, o + j * 3 + 2, none⟩ = some kv ∧
    KRow w kv (onth l j).keys ∧ (∀ s, s ∈ (onth l j).keys → s.size ≤ 1048576) ∧ -9223372036854775808 ≤ (onth l j).inst ∧ (onth l j).inst ≤ 9223372036854775807
/-- How many keys a script names. -/
def tot (l : List LOp) : Nat := (l.map fun o => o.keys.length).sum
theorem tot_take (l : List LOp) (j : Nat) (h : j < l.length) : tot (l.take (j + 1)) = tot (l.take j) + (onth l j).keys.length := by
  unfold tot
  rw [List.take_succ_eq_append_getElem h, List.map_append, List.sum_append]
  simp [onth, List.getD, h]
theorem tot_le (l : List LOp) (j : Nat) : tot (l.take j) ≤ tot l := by
  have : tot l = tot (l.take j) + tot (l.drop j) := by
    unfold tot
    rw [← List.sum_append, ← List.map_append, List.take_append_drop]
  omega
/-- What a Take answers, and makes of the table. -/
def TakeTo (T : Hd) (n : Nat) (i : Int) (l : List ByteArray) (T' : Hd) (n' : Nat) (s : ByteArray) (b : Bool) : Prop :=
  (b = true ∧ s = ⟨#[]⟩ ∧ l.all isN = true ∧ firstO T i l = none ∧ T' = tookT T i l ∧ n' = n + l.length) ∨ (b = false ∧ T' = T ∧ n' = n ∧ (s = ⟨#[]⟩ ∨ (s ∈ l ∧ T s ≠ 0 ∧ T s ≠ i)))
theorem TakeTo.tk {T T' : Hd} {n n' : Nat} {i : Int} {l : List ByteArray} {s : ByteArray} {b : Bool} (h : TakeTo T n i l T' n' s b) (hT : Tk T) (hi : 1 ≤ i ∧ i ≤ 6) (hs : ∀ s, s ∈ l → s.size ≤ 1048576) : Tk T' ∧ n' ≤ n + l.length := by
  rcases h with ⟨_, _, h1, h2, rfl, rfl⟩ | ⟨_, rfl, rfl, _⟩
  · exact ⟨hT.took hi h1 hs h2, Nat.le_refl _⟩
  · exact ⟨hT, by omega⟩
theorem take_copy {B : Nat} {w wr : World} {rs : List Res} {tb n : Nat} {T : Hd} {u : Value} {l : List ByteArray} (h : Has B w (TabR tb n T :: KR u l :: rs) wr) (i : Int) (hi : 1 ≤ i) (hi2 : i ≤ 9223372036854775807) (hs : ∀ s, s ∈ l → s.size ≤ 1048576) (hn : n + l.length ≤ 1152921504606846976) (hl : l.length ≤ 140737488355328) :
    Calls Tryd.prog 10 #[.pointer (some ⟨tb, 0, none⟩), .int .i64 i, u] wr fun e w' => ∃ T' n' s b, e = .returned (.tuple #[.string s, .bool b]) ∧ TakeTo T n i l T' n' s b ∧ Has B w (TabR tb n' T' :: KR u l :: rs) w' := by
  have hk : ∀ wq k T2, Has B w (TabR tb k T2 :: KR u l :: rs) wq → KRow wq u l := fun wq k T2 hq => hq.rowK (by simp) hl (fun s hm => by have := hs s hm; omega)
  have h0 := hk wr n T h
  by_cases hall : l.all isN = true
  · cases hf : firstO T i l with
    | none =>
      refine (take_yes h i hi hi2 u l h0 (fun wq hq _ => hk wq n T hq) hs hn hall hf hk).mono ?_
      rintro e w' ⟨rfl, hh⟩
      exact ⟨_, _, _, _, rfl, Or.inl ⟨rfl, rfl, hall, hf, rfl, rfl⟩, hh⟩
    | some x =>
      refine (take_other h i hi u l h0 hs hall x hf hk).mono ?_
      rintro e w' ⟨rfl, hh⟩
      exact ⟨_, _, _, _, rfl, Or.inr ⟨rfl, rfl, rfl, Or.inr (first_some hf)⟩, hh⟩
  · refine (take_bad h i hi u l h0 (by simpa using hall)).mono ?_
    rintro e w' ⟨rfl, hh⟩
    exact ⟨_, _, _, _, rfl, Or.inr ⟨rfl, rfl, rfl, Or.inl rfl⟩, hh⟩
set_option maxHeartbeats 8000000 in
theorem plays_any {w : World} (hS : ∀ rs, Sorts w.heap.size w rs SortTo) (sv : Value) (l : List LOp) (hr : ORow w sv l) (hsum : 3 + tot l ≤ 1048576) :
    Calls Tryd.prog 20 #[sv] w fun e w' => ∃ tb T n, e = .returned (.pointer (some ⟨tb, 0, none⟩)) ∧ Tk T ∧ n ≤ 3 + tot l ∧ Has w.heap.size w [TabR tb n T] w' := by
  have C0 : Hid (Calls Tryd.prog 7 #[] w fun e w' => ∃ tb, e = .returned (.pointer (some ⟨tb, 0, none⟩)) ∧ Hid (Has w.heap.size w [TabR tb 3 T0] w')) := begun_any hS
  obtain ⟨ao, cap, rfl, hcap, h0, hlen, hrow⟩ := hr
  have HR : Hid (∀ j, j < l.length → ∃ g o kv, ao = some ⟨g, o, none⟩ ∧ g < w.heap.size ∧ w.cell? ⟨g, o + j * 3, none⟩ = some (.int .i64 (onth l j).Do) ∧ w.cell? ⟨g, o + j * 3 + 1, none⟩ = some (.int .i64 (onth l j).inst) ∧ w.cell? ⟨g, o + j * 3 + 2, none⟩ = some kv ∧
    KRow w kv (onth l j).keys ∧ (∀ s, s ∈ (onth l j).keys → s.size ≤ 1048576) ∧ -9223372036854775808 ≤ (onth l j).inst ∧ (onth l j).inst ≤ 9223372036854775807) := hrow
  have HT : Hid (∀ j, tot (l.take j) ≤ tot l) := tot_le l
  have HT2 : Hid (∀ j, j < l.length → tot (l.take (j + 1)) = tot (l.take j) + (onth l j).keys.length) := tot_take l
  generalize hm : tot l = m at *
  clear hrow h0 hS
  go_enter Tryd.func20, Tryd.ntmps20
  go_wp2_with fail
  refine C0.out.mono ?_
  rintro e w1 ⟨tb, rfl, h1⟩
  clear C0
  go_wp2_with fail
  go_loopw [4] (fun iv wr => ∃ (j : Nat) (T : Hd) (n : Nat), j ≤ l.length ∧ iv = .int .i64 (j : Int) ∧ Hid (Tk T) ∧ n ≤ 3 + tot (l.take j) ∧ Hid (Has w.heap.size w [TabR tb n T] wr)) (fun iv _ => l.length - (intOf iv).toNat)
  case atStart => exact ⟨0, T0, 3, Nat.zero_le _, rfl, tk0, Nat.le_add_right _ _, h1⟩
  case round =>
    obtain ⟨j, T, n, hj, rfl, HK, hn, HH⟩ := hrel
    clear h1
    by_cases hlt : j < l.length
    · have hltI : (j : Int) < (l.length : Int) := by omega
      obtain ⟨g, o, kv, rfl, hg, d0, d1, d2, hkr, hks, hi1, hi2⟩ := HR.out j hlt
      have hle := HT.out j
      have hle2 := HT.out (j + 1)
      have ht2 := HT2.out j hlt
      have hbw := HH.out.bel
      have c0 := (hbw.cell (p := ⟨g, o + j * 3, none⟩) hg).trans d0
      have c1 := (hbw.cell (p := ⟨g, o + j * 3 + 1, none⟩) hg).trans d1
      have c2 := (hbw.cell (p := ⟨g, o + j * 3 + 2, none⟩) hg).trans d2
      have CS : Hid (∀ wq, Calls Tryd.prog 21 #[.int .i64 (onth l j).inst] wq fun e w' => e = .returned (.int .i64 (smallZ (onth l j).inst)) ∧ w' = wq) := fun wq => small_any _ ⟨hi1, hi2⟩ wq
      have hsr := smallZ_range (onth l j).inst
      have HKS : Hid (∀ s, s ∈ (onth l j).keys → s.size ≤ 1048576) := hks
      have HKR : Hid (∀ wq, Below w.heap.size w wq → KRow wq kv (onth l j).keys) := fun wq hb => hkr.below hb
      have HLD : Hid (∀ wq, Below w.heap.size w wq → wq.cell? ⟨g, o + j * 3 + 1, none⟩ = some (.int .i64 (onth l j).inst) ∧ wq.cell? ⟨g, o + j * 3 + 2, none⟩ = some kv) := fun wq hb => ⟨(hb.cell (p := ⟨g, o + j * 3 + 1, none⟩) hg).trans d1, (hb.cell (p := ⟨g, o + j * 3 + 2, none⟩) hg).trans d2⟩
      clear d0 d1 d2 hkr hks hbw HT2
      generalize smallZ (onth l j).inst = si at *
      generalize (onth l j).Do = D at *
      generalize (onth l j).inst = I at *
      generalize (onth l j).keys = ks at *
      by_cases hD : D = 1
      · have hD1 : (D == 1) = true := by simpa using hD
        have CD : Hid (Calls Tryd.prog 14 #[.pointer (some ⟨tb, 0, none⟩), .int .i64 si] wr fun e w' => ∃ K : List ByteArray, e = .returned (.int .i64 (K.length : Int)) ∧ Hid (Has w.heap.size w [TabR tb n (dropped T si)] w')) := (drop_any HH.out si (by omega)).mono (fun e w' ⟨K, _, _, he, hh⟩ => ⟨K, he, hh⟩)
        have HK2 : Hid (Tk (dropped T si)) := HK.out.dropped hsr
        clear hD
        go_wp2_with fail
        refine (CS.out _).mono ?_
        rintro e w2 ⟨rfl, hw⟩
        rw [hw]
        clear hw w2 CS
        go_wp2_with fail
        refine CD.out.mono ?_
        rintro e w3 ⟨K, rfl, HH3⟩
        clear CD HH c0 c1 c2
        go_wp2_with fail
        exact ⟨⟨j + 1, _, n, by omega, by go_num, HK2, by omega, HH3⟩, by simp [intOf]; omega⟩
      · have hD1 : (D == 1) = false := by simpa using hD
        have HH1 : Hid (Has w.heap.size w [TabR tb n T] wr.drew) := HH.out.below (Below.refl _ _).drew
        have CC : Hid (∀ wq, Hid (Has w.heap.size w [TabR tb n T] wq) → Calls Tryd.prog 9 #[kv] wq fun e w' => ∃ u, e = .returned u ∧ w'.cell? ⟨g, o + j * 3 + 1, none⟩ = some (.int .i64 I) ∧ w'.cell? ⟨g, o + j * 3 + 2, none⟩ = some kv ∧ Hid (Has w.heap.size w [TabR tb n T, KR u ks] w')) := fun wq hq => by
          refine (copied_any hq.out kv ks (HKR.out wq hq.out.bel) (by omega)).mono ?_
          rintro e w' ⟨u, rfl, hh⟩
          exact ⟨u, rfl, (HLD.out w' hh.bel).1, (HLD.out w' hh.bel).2, hh.perm (List.Perm.swap _ _ _)⟩
        have CT : Hid (∀ wq u, Hid (Has w.heap.size w [TabR tb n T, KR u ks] wq) → Calls Tryd.prog 10 #[.pointer (some ⟨tb, 0, none⟩), .int .i64 si, u] wq fun e w' => ∃ T' n' s b, e = .returned (.tuple #[.string s, .bool b]) ∧ w'.cell? ⟨g, o + j * 3 + 1, none⟩ = some (.int .i64 I) ∧ w'.cell? ⟨g, o + j * 3 + 2, none⟩ = some kv ∧ Hid (Tk T') ∧ n' ≤ n + ks.length ∧ Hid (Has w.heap.size w [TabR tb n' T'] w')) := fun wq u hq => by
          refine (take_copy hq.out si (by omega) (by omega) HKS.out (by omega) (by omega)).mono ?_
          rintro e w' ⟨T', n', s, b, rfl, hto, hh⟩
          obtain ⟨k1, k2⟩ := hto.tk HK.out hsr HKS.out
          exact ⟨T', n', s, b, rfl, (HLD.out w' hh.bel).1, (HLD.out w' hh.bel).2, k1, k2, (hh.perm (List.Perm.swap _ _ _)).drop⟩
        clear hD HKR HLD HH
        go_wp2_with fail
        go_region_held3 (fun w' => w'.cell? ⟨g, o + j * 3 + 1, none⟩ = some (.int .i64 I) ∧ w'.cell? ⟨g, o + j * 3 + 2, none⟩ = some kv) (go_keep) (first | (go_at_call 21; refine (CS.out _).mono ?_; rintro e w2 ⟨rfl, rfl⟩) | (go_at_call 9; refine (CC.out _ HH1).mono ?_; rintro e w3 ⟨u, rfl, m1, m2, HH2⟩) | (go_at_call 10; refine (CT.out _ _ HH2).mono ?_; rintro e w4 ⟨T', n', s, b, rfl, n1, n2, HK2, hn2, HH3⟩))
        clear CS CC CT c0 c1 c2 HH1
        go_wp2_with fail
        exact ⟨⟨j + 1, T', n', by omega, by go_num, HK2, by omega, HH3⟩, by simp [intOf]; omega⟩
    · have hltI : ¬ (j : Int) < (l.length : Int) := by omega
      have hle := HT.out j
      clear HT HT2 HR
      go_wp2_with fail
      go_ret
      exact ⟨tb, rfl, T, HK.out, n, by omega, HH.out⟩
end Go.Proofs.YthdloddcljbjhaaDoor
