/- The document's table: a block that holds a row of locks; Holder and Held. -/
import Derived.Test.YthdloddcljbjhaaDoorHeldW
set_option linter.unusedVariables false
set_option maxRecDepth 100000
namespace Go.Proofs.YthdloddcljbjhaaDoor
open Go.RowKit CheckMath

abbrev Lk := ByteArray × Int
def lcell (x : Lk) : List Value := [.string x.1, .int .i64 x.2]
def lcells (L : List Lk) : List Value := L.flatMap lcell
def lkAt (L : List Lk) (j : Nat) : Lk := L.getD j (⟨#[]⟩, 0)
theorem lcells_append (xs ys : List Lk) : lcells (xs ++ ys) = lcells xs ++ lcells ys := by simp [lcells]
theorem lcells_len : ∀ L : List Lk, (lcells L).length = L.length * 2
  | [] => rfl
  | x :: L => by
    have := lcells_len L
    show ((lcell x) ++ lcells L).length = _
    rw [List.length_append, this, List.length_cons, show (lcell x).length = 2 from rfl]; omega
theorem lcells_at : ∀ (L : List Lk) (j : Nat), j < L.length → (lcells L)[j * 2]? = some (.string (lkAt L j).1) ∧ (lcells L)[j * 2 + 1]? = some (.int .i64 (lkAt L j).2)
  | x :: L, 0, _ => ⟨rfl, rfl⟩
  | x :: L, j + 1, h => by
    have := lcells_at L j (by simpa using h)
    show (lcell x ++ lcells L)[(j + 1) * 2]? = _ ∧ (lcell x ++ lcells L)[(j + 1) * 2 + 1]? = _
    rw [List.getElem?_append_right (by show 2 ≤ _; omega), List.getElem?_append_right (by show 2 ≤ _; omega)]
    have e1 : (j + 1) * 2 - (lcell x).length = j * 2 := by show (j + 1) * 2 - 2 = _; omega
    have e2 : (j + 1) * 2 + 1 - (lcell x).length = j * 2 + 1 := by show (j + 1) * 2 + 1 - 2 = _; omega
    rw [e1, e2]
    exact this
/-- A row of locks of one's own. -/
def LR (v : Value) (L : List Lk) : Res where
  inv w F := w.ownsRow 0 55 2 v L.length (lcells L) ∧ F = fun k => v.ownBlock = some k
  lt := by rintro w F ⟨h, rfl⟩ k hk; exact (h.lt k hk).2
  chg := by rintro w w' F S ⟨h, rfl⟩ hc hS; exact ⟨own_chg h hc (fun g hg => hS g hg), rfl⟩
section
variable {B : Nat} {w wr : World} {rs : List Res}
theorem Has.ownL {v : Value} {L : List Lk} (h : Has B w rs wr) (hm : LR v L ∈ rs) : wr.ownsRow 0 55 2 v L.length (lcells L) := by
  obtain ⟨F, ⟨ho, _⟩, _⟩ := h.get hm
  exact ho
theorem Has.lrow {v : Value} {L : List Lk} (h : Has B w rs wr) (hm : LR v L ∈ rs) : ∃ ao cap, v = .slice ao L.length cap ∧ L.length ≤ 9223372036854775807 ∧ ∀ j, j < L.length → ∃ g, ao = some ⟨g, 0, none⟩ ∧ g < wr.heap.size ∧ wr.cell? ⟨g, j * 2, none⟩ = some (.string (lkAt L j).1) ∧ wr.cell? ⟨g, j * 2 + 1, none⟩ = some (.int .i64 (lkAt L j).2) := by
  obtain ⟨ao, cap, hv, hc, hn, hg⟩ := own_form (h.ownL hm)
  have hcm : cap ≤ maxLen := by
    cases ao with
    | none => rw [(hn rfl).2]; exact Nat.zero_le _
    | some g => exact (hg g rfl).choose_spec.2.2.2.2.2
  refine ⟨ao, cap, hv, by unfold maxLen at hcm; omega, fun j hj => ?_⟩
  · cases ao with
    | none => have := (hn rfl).1; omega
    | some g =>
      obtain ⟨b, rfl, _, hb, hcell, _⟩ := hg g rfl
      have c := lcells_at L j hj
      exact ⟨b, rfl, hb, (hcell (j * 2) (by omega)).trans c.1, (hcell (j * 2 + 1) (by omega)).trans c.2⟩
theorem Has.bcell {q : Nat} {vs : List Value} (h : Has B w rs wr) (hm : BlockR q vs ∈ rs) (j : Nat) (u : Value) (hu : vs[j]? = some u) : wr.cell? ⟨q, j, none⟩ = some u := by
  obtain ⟨F, ⟨h1, _⟩, _⟩ := h.get hm
  exact (h1 j u hu).1
/-- Who has a key, by the row. -/
def who (L : List Lk) (s : ByteArray) : Int := match L.find? (fun x => decide (x.1 = s)) with | some x => x.2 | none => 0
theorem who_yes {L : List Lk} {s : ByteArray} {k : Nat} (hk : k < L.length) (h0 : ∀ j, j < k → (lkAt L j).1 ≠ s) (h1 : (lkAt L k).1 = s) : who L s = (lkAt L k).2 := by
  unfold who
  have : L.find? (fun x => decide (x.1 = s)) = some (lkAt L k) := by
    rw [List.find?_eq_some_iff_getElem]
    refine ⟨by simpa using h1, k, hk, by simp [lkAt, List.getD, hk], fun j hj => ?_⟩
    have := h0 j hj
    simpa [lkAt, List.getD, show j < L.length by omega] using this
  rw [this]
theorem who_no {L : List Lk} {s : ByteArray} (h0 : ∀ j, j < L.length → (lkAt L j).1 ≠ s) : who L s = 0 := by
  unfold who
  have : L.find? (fun x => decide (x.1 = s)) = none := by
    rw [List.find?_eq_none]
    intro x hx
    obtain ⟨j, hj, rfl⟩ := List.mem_iff_getElem.1 hx
    have := h0 j hj
    simpa [lkAt, List.getD, hj] using this
  rw [this]
set_option maxHeartbeats 2000000 in
theorem rHolder_any {tb : Nat} {v : Value} {L : List Lk} (h : Has B w rs wr) (hb : BlockR tb [v] ∈ rs) (hl : LR v L ∈ rs) (s : ByteArray) :
    Calls Tryd.prog 17 #[.pointer (some ⟨tb, 0, none⟩), .string s] wr fun e w' => e = .returned (.int .i64 (who L s)) ∧ w' = wr := by
  obtain ⟨ao, cap, rfl, hlen, hrow⟩ := h.lrow hl
  have c0 := h.bcell hb 0 _ rfl
  have HR : Hid (∀ j, j < L.length → ∃ g, ao = some ⟨g, 0, none⟩ ∧ g < wr.heap.size ∧ wr.cell? ⟨g, j * 2, none⟩ = some (.string (lkAt L j).1) ∧ wr.cell? ⟨g, j * 2 + 1, none⟩ = some (.int .i64 (lkAt L j).2)) := hrow
  have HY : Hid (∀ k, k < L.length → (∀ j, j < k → (lkAt L j).1 ≠ s) → (lkAt L k).1 = s → who L s = (lkAt L k).2) := fun k hk h0 h1 => who_yes hk h0 h1
  have HN : Hid ((∀ j, j < L.length → (lkAt L j).1 ≠ s) → who L s = 0) := fun h0 => who_no h0
  clear h hb hl hrow
  generalize who L s = R at *
  go_enter Tryd.func17, Tryd.ntmps17
  go_wp2_with fail
  go_loop [5] (fun iv => ∃ k : Nat, k ≤ L.length ∧ iv = .int .i64 (k : Int) ∧ Hid (∀ j, j < k → (lkAt L j).1 ≠ s)) (fun iv => L.length - (intOf iv).toNat)
  case atStart => exact ⟨0, Nat.zero_le _, rfl, fun j hj => absurd hj (Nat.not_lt_zero _)⟩
  case round =>
    obtain ⟨k, hk, rfl, HP⟩ := hrel
    by_cases hlt : k < L.length
    · have hltI : (k : Int) < (L.length : Int) := by omega
      obtain ⟨g, rfl, hg, d0, d1⟩ := HR.out k hlt
      by_cases hs : (lkAt L k).1 = s
      · have HE : Hid (R = (lkAt L k).2) := HY.out k hlt HP.out hs
        have he : ((lkAt L k).1.toList == s.toList) = true := by rw [hs]; exact beq_self_eq_true _
        clear HP HY HN HR hs hg
        generalize lkAt L k = x at *
        obtain ⟨x1, x2⟩ := x
        dsimp only at d0 d1 he
        go_wp2_with fail
        go_ret
        exact ⟨by rw [HE.out]; rfl, rfl⟩
      · have he : ((lkAt L k).1.toList == s.toList) = false := txt_ne hs
        have HP2 : Hid (∀ j, j < k + 1 → (lkAt L j).1 ≠ s) := fun j hj => by
          by_cases e : j = k
          · subst e; exact hs
          · exact HP.out j (by omega)
        clear HP HY HN HR hs hg
        generalize lkAt L k = x at *
        obtain ⟨x1, x2⟩ := x
        dsimp only at d0 d1 he
        go_wp2_with fail
        exact ⟨⟨k + 1, by omega, by go_num, HP2⟩, by simp [intOf]; omega⟩
    · have hltI : ¬ (k : Int) < (L.length : Int) := by omega
      have HE : Hid (R = 0) := HN.out (fun j hj => HP.out j (by omega))
      clear HP HY HN HR
      go_wp2_with fail
      go_ret
      exact ⟨by rw [HE.out]; rfl, rfl⟩
end
end Go.Proofs.YthdloddcljbjhaaDoor
