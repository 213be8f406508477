/- The walk of begun; rows of literal texts; Held by its canonical row. -/
import Derived.Test.YthdloddcljbjhaaDoorLawM
import Derived.Test.YthdloddcljbjhaaDoorTakeN
set_option linter.unusedVariables false
set_option maxRecDepth 100000
namespace Go.Proofs.YthdloddcljbjhaaDoor
open Go.RowKit CheckMath

section
variable {B : Nat} {w wr w2 : World} {rs : List Res}
theorem Has.box {B : Nat} {w wr : World} {rs : List Res} (h : Has B w rs wr) (vs : List Value) (t : TypeId) : Has B w (BlockR wr.heap.size vs :: rs) (wr.alloc (.cells vs.toArray t)) :=
  h.add (new := [BlockR wr.heap.size vs]) ((Below.refl _ _).alloc (Nat.le_refl _) _) (Hold.one (block_new _ _ _)) (fun k hk => by rw [hk]; exact Nat.le_refl _)
theorem Has.blkK {q : Nat} {vs : List Value} (h : Has B w rs wr) (hm : BlockR q vs ∈ rs) (j : Nat) (u : Value) (hu : vs[j]? = some u) : wr.cell? ⟨q, j, none⟩ = some u := by
  obtain ⟨F, ⟨h1, _⟩, _⟩ := h.get hm
  exact (h1 j u hu).1
/-- A row of literal texts. -/
theorem Has.litK {q : Nat} {l : List ByteArray} (h : Has B w rs wr) (hm : BlockR q (l.map fun s => .string s) ∈ rs) (hl : l.length ≤ 1048576) (hs : ∀ s, s ∈ l → s.size ≤ 1048576) : KRow wr (.slice (some ⟨q, 0, none⟩) l.length l.length) l := by
  refine ⟨_, _, rfl, Nat.le_refl _, (fun h => by cases h), ⟨by omega, fun x hx => by have := hs x hx; omega⟩, fun j hj => ?_⟩
  have c := h.blkK hm j (.string (keyAt l j)) (by simp [keyAt, List.getD, hj])
  exact ⟨q, 0, rfl, block_lt_of_cell c, by rw [Nat.zero_add]; exact c⟩
theorem krow_own {w : World} {B : Nat} {v : Value} {l : List ByteArray} (h : w.ownsRow B 9 1 v l.length (l.map fun s => .string s)) (hl : l.length ≤ 140737488355328) (hx : ∀ x, x ∈ l → x.size ≤ 140737488355328) : KRow w v l := by
  obtain ⟨ao, cap, rfl, hc, hn, hr⟩ := own_form h
  refine ⟨ao, cap, rfl, hc, fun e => (hn e).2, ⟨hl, hx⟩, fun j hj => ?_⟩
  cases ao with
  | none => have := (hn rfl).1; omega
  | some p =>
    obtain ⟨g, rfl, _, hb, hcell, _⟩ := hr p rfl
    refine ⟨g, 0, rfl, hb, ?_⟩
    rw [Nat.zero_add, hcell j (by omega)]
    simp [keyAt, List.getD, hj]
theorem Has.rowK {v : Value} {l : List ByteArray} (h : Has B w rs wr) (hm : KR v l ∈ rs) (hl : l.length ≤ 140737488355328) (hs : ∀ s, s ∈ l → s.size ≤ 140737488355328) : KRow wr v l := krow_own (h.ownK hm) hl hs
end
/-- Held, whose row is told by the table alone. -/
theorem held_of {w w0 : World} {rs : List Res} {tb n : Nat} {T : Hd} (h : Has w.heap.size w (TabR tb n T :: rs) w0) (i : Int) (hn : n ≤ 1048576) (hz : Names T) (hS : Sorts w.heap.size w (TabR tb n T :: rs) SortTo) :
    Calls Tryd.prog 18 #[.pointer (some ⟨tb, 0, none⟩), .int .i64 i] w0 fun e w' => ∃ (K : List ByteArray) (v : Value), HeldOf T i K ∧ K.length ≤ n ∧ e = .returned v ∧ Has w.heap.size w (KR v K :: TabR tb n T :: rs) w' := by
  refine (held_any h i hn (fun s hs => (hz s hs).2) hS).mono ?_
  rintro e w' ⟨K, K', v, hd, hm, hl, hs, rfl, hh⟩
  exact ⟨K', v, heldOf_sort hz hd hm hs, by rw [hs.1.length_eq]; exact hl, rfl, hh⟩
theorem held_small {T : Hd} (hz : Names T) {i : Int} {K : List ByteArray} (h : HeldOf T i K) : ∀ s, s ∈ K → s.size ≤ 140737488355328 := fun s hs => by
  have := (hz s ((h.2 s).1 hs).1).2
  omega
set_option maxHeartbeats 8000000 in
theorem begun_any {w : World} (hS : ∀ rs, Sorts w.heap.size w rs SortTo) :
    Calls Tryd.prog 7 #[] w fun e w' => ∃ tb, e = .returned (.pointer (some ⟨tb, 0, none⟩)) ∧ Has w.heap.size w [TabR tb 3 T0] w' := by
  have C0 : Hid (Calls Tryd.prog 24 #[] w fun e w' => ∃ tb, e = .returned (.pointer (some ⟨tb, 0, none⟩)) ∧ Hid (Has w.heap.size w [TabR tb 0 (fun _ => 0)] w')) := new_any (Has.start w)
  have L1 : ∀ s, s ∈ [zz2, zz1] → s.size ≤ 1048576 := by intro s hs; simp at hs; rcases hs with rfl | rfl <;> decide
  have L2 : ∀ s, s ∈ [zz3, zz1] → s.size ≤ 1048576 := by intro s hs; simp at hs; rcases hs with rfl | rfl <;> decide
  have L3 : ∀ s, s ∈ [zz3] → s.size ≤ 1048576 := by intro s hs; simp at hs; subst hs; decide
  have L4 : ∀ s, s ∈ [zz1, zz2] → s.size ≤ 1048576 := by intro s hs; simp at hs; rcases hs with rfl | rfl <;> decide
  have A1 : [zz2, zz1].all isN = true := by simp [zz_name]
  have A2 : [zz3, zz1].all isN = true := by simp [zz_name]
  have A3 : [zz3].all isN = true := by simp [zz_name]
  have C1 : Hid (∀ tb wq, Has w.heap.size w [TabR tb 0 (fun _ => 0)] wq → Calls Tryd.prog 10 #[.pointer (some ⟨tb, 0, none⟩), .int .i64 900001, .slice (some ⟨wq.heap.size, 0, none⟩) 2 2] (wq.alloc (.cells #[.string ⟨#[122, 122, 45, 50]⟩, .string ⟨#[122, 122, 45, 49]⟩] 9)) fun e w' => e = .returned (.tuple #[.string ⟨#[]⟩, .bool true]) ∧ Hid (Has w.heap.size w [TabR tb 2 T1] w')) := fun tb wq h => by
    have hb := (h.box ([zz2, zz1].map fun s => Value.string s) 9).perm (List.Perm.swap _ _ _)
    refine (take_yes hb 900001 (by decide) (by decide) _ [zz2, zz1] (hb.litK (by simp) (by decide) L1) (fun wq hq _ => hq.litK (by simp) (by decide) L1) L1 (by decide) A1 first1 (fun wq k T2 hq => hq.litK (by simp) (by decide) L1)).mono ?_
    rintro e w' ⟨rfl, hh⟩
    exact ⟨rfl, (hh.perm (List.Perm.swap _ _ _)).drop⟩
  have C2 : Hid (∀ tb wq, Has w.heap.size w [TabR tb 2 T1] wq → Calls Tryd.prog 10 #[.pointer (some ⟨tb, 0, none⟩), .int .i64 900002, .slice (some ⟨wq.heap.size, 0, none⟩) 2 2] (wq.alloc (.cells #[.string ⟨#[122, 122, 45, 51]⟩, .string ⟨#[122, 122, 45, 49]⟩] 9)) fun e w' => e = .returned (.tuple #[.string ⟨#[122, 122, 45, 49]⟩, .bool false]) ∧ Hid (Has w.heap.size w [TabR tb 2 T1] w')) := fun tb wq h => by
    have hb := (h.box ([zz3, zz1].map fun s => Value.string s) 9).perm (List.Perm.swap _ _ _)
    refine (take_other hb 900002 (by decide) _ [zz3, zz1] (hb.litK (by simp) (by decide) L2) L2 A2 zz1 first2 (fun wq k T2 hq => hq.litK (by simp) (by decide) L2)).mono ?_
    rintro e w' ⟨rfl, hh⟩
    exact ⟨rfl, (hh.perm (List.Perm.swap _ _ _)).drop⟩
  have C3 : Hid (∀ tb wq, Has w.heap.size w [TabR tb 2 T1] wq → Calls Tryd.prog 10 #[.pointer (some ⟨tb, 0, none⟩), .int .i64 900002, .slice (some ⟨wq.heap.size, 0, none⟩) 1 1] (wq.alloc (.cells #[.string ⟨#[122, 122, 45, 51]⟩] 9)) fun e w' => e = .returned (.tuple #[.string ⟨#[]⟩, .bool true]) ∧ Hid (Has w.heap.size w [TabR tb 3 T0] w')) := fun tb wq h => by
    have hb := (h.box ([zz3].map fun s => Value.string s) 9).perm (List.Perm.swap _ _ _)
    refine (take_yes hb 900002 (by decide) (by decide) _ [zz3] (hb.litK (by simp) (by decide) L3) (fun wq hq _ => hq.litK (by simp) (by decide) L3) L3 (by decide) A3 first3 (fun wq k T2 hq => hq.litK (by simp) (by decide) L3)).mono ?_
    rintro e w' ⟨rfl, hh⟩
    exact ⟨rfl, (hh.perm (List.Perm.swap _ _ _)).drop⟩
  have C4 : Hid (∀ tb wq, Has w.heap.size w [TabR tb 3 T0] wq → Calls Tryd.prog 18 #[.pointer (some ⟨tb, 0, none⟩), .int .i64 900001] wq fun e w' => ∃ v, e = .returned v ∧ Hid (Has w.heap.size w [KR v [zz1, zz2], TabR tb 3 T0] w')) := fun tb wq h => by
    refine (held_of h 900001 (by decide) tk0.1 (hS _)).mono ?_
    rintro e w' ⟨K, v, hK, _, rfl, hh⟩
    rw [hK.uniq held0] at hh
    exact ⟨v, rfl, hh⟩
  have C5 : Hid (∀ tb wq v, Has w.heap.size w [KR v [zz1, zz2], TabR tb 3 T0] wq → Calls Tryd.prog 12 #[v, .slice (some ⟨wq.heap.size, 0, none⟩) 2 2] (wq.alloc (.cells #[.string ⟨#[122, 122, 45, 49]⟩, .string ⟨#[122, 122, 45, 50]⟩] 9)) fun e w' => e = .returned (.bool true) ∧ Hid (Has w.heap.size w [TabR tb 3 T0] w')) := fun tb wq v h => by
    have hb := h.box ([zz1, zz2].map fun s => Value.string s) 9
    refine (same_any v _ [zz1, zz2] _ (hb.rowK (v := v) (by simp) (by decide) (fun s hs => by have := L4 s hs; omega)) (hb.litK (by simp) (by decide) L4)).mono ?_
    rintro e w' ⟨rfl, hbl⟩
    exact ⟨rfl, (hb.below hbl).drop.drop⟩
  have C6 : Hid (∀ tb wq, Has w.heap.size w [TabR tb 3 T0] wq → Calls Tryd.prog 16 #[.pointer (some ⟨tb, 0, none⟩), .string ⟨#[122, 122, 45, 51]⟩] wq fun e w' => e = .returned (.int .i64 900002) ∧ w' = wq) := fun tb wq h => by
    have x := holder_any h List.mem_cons_self zz3 (by decide)
    rw [tk0.2.2.2] at x
    exact x
  clear L1 L2 L3 L4 A1 A2 A3 hS
  go_enter Tryd.func7, Tryd.ntmps7
  go_wp2_with fail
  refine C0.out.mono ?_
  rintro e w1 ⟨tb, rfl, h1⟩
  have D1 := C1.out tb w1 h1.out
  clear C0 C1 h1
  go_wp2_with fail
  refine D1.mono ?_
  rintro e w2 ⟨rfl, h2⟩
  have D2 := C2.out tb w2 h2.out
  clear D1 C2 h2
  go_wp2_with fail
  refine D2.mono ?_
  rintro e w3 ⟨rfl, h3⟩
  have D3 := C3.out tb w3 h3.out
  clear D2 C3 h3
  go_wp2_with fail
  refine D3.mono ?_
  rintro e w4 ⟨rfl, h4⟩
  have D4 := C4.out tb w4 h4.out
  clear D3 C4 h4
  go_wp2_with fail
  refine D4.mono ?_
  rintro e w5 ⟨v, rfl, h5⟩
  have D5 := C5.out tb w5 v h5.out
  clear D4 C5 h5
  go_wp2_with fail
  refine D5.mono ?_
  rintro e w6 ⟨rfl, h6⟩
  have D6 := C6.out tb w6 h6.out
  clear D5 C6
  go_wp2_with fail
  refine D6.mono ?_
  rintro e w7 ⟨rfl, hw⟩
  rw [hw]
  clear D6 hw w7
  go_wp2_with fail
  go_ret
  exact ⟨tb, rfl, h6.out⟩
end Go.Proofs.YthdloddcljbjhaaDoor
