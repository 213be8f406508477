/- The walks of the document's Owner and Compare. -/
import Derived.Test.YthdloddcljbjhaaDoorNmRefRunes
import Derived.Deep.QuietTactic
import Derived.BigQuiet
set_option linter.unusedVariables false
set_option maxRecDepth 100000
namespace Go.Proofs.YthdloddcljbjhaaDoor.Nm
open Go.RowKit

/-- What an owned row looks like, empty or not. -/
theorem own_row {w : World} {B e n : Nat} {v : Value} {xs : List Value} (h : w.ownsRow B e 1 v n xs) : ∃ ao cap, v = .slice ao n cap ∧ n ≤ cap ∧
    ∀ j, j < n → ∃ g, ao = some ⟨g, 0, none⟩ ∧ B ≤ g ∧ g < w.heap.size ∧ w.cell? ⟨g, j, none⟩ = xs[j]? := by
  rcases h.2 with ⟨rfl, h0⟩ | ⟨g, cap, cur, rfl, hb, hg, hnc, hcm, hcs, htake⟩
  · obtain rfl : n = 0 := by omega
    exact ⟨none, 0, rfl, Nat.le_refl _, fun j hj => by omega⟩
  · exact ⟨some ⟨g, 0, none⟩, cap, rfl, hnc, fun j hj => ⟨g, rfl, hb, (Array.getElem?_eq_some_iff.1 hg).1, h.cellAt j (by omega)⟩⟩
theorem getD_iV (rs : List Nat) (j : Nat) (h : j < rs.length) : (rs.map iV)[j]? = some (.int .i64 ((rs[j] : Nat) : Int)) := by
  simp [h, iV]
theorem own_drop (a : Nat) (rs : List Nat) (k : Nat) (h : k < rs.length) : NameMath.own a (rs.drop k) = NameMath.own ((a + rs[k]) % 4) (rs.drop (k + 1)) := by
  rw [List.drop_eq_getElem_cons h]; rfl

theorem cmp_drop (xs ys : List Nat) (k : Nat) (h1 : k < xs.length) (h2 : k < ys.length) : NameMath.cmp (xs.drop k) (ys.drop k) = if xs[k] < ys[k] then -1 else if ys[k] < xs[k] then 1 else NameMath.cmp (xs.drop (k + 1)) (ys.drop (k + 1)) := by
  rw [List.drop_eq_getElem_cons h1, List.drop_eq_getElem_cons h2]; rfl
theorem cmp_left (ys : List Nat) (h : ys ≠ []) : NameMath.cmp [] ys = -1 := by
  cases ys with
  | nil => exact absurd rfl h
  | cons y ys => rfl
theorem cmp_right (xs : List Nat) (h : xs ≠ []) : NameMath.cmp xs [] = 1 := by
  cases xs with
  | nil => exact absurd rfl h
  | cons y ys => rfl
theorem drop_ne (xs : List Nat) (k : Nat) (h : k < xs.length) : xs.drop k ≠ [] := by
  rw [List.drop_eq_getElem_cons h]; exact List.cons_ne_nil _ _

set_option maxHeartbeats 3000000 in
theorem refCompare_any (a b : ByteArray) (ha : a.size ≤ 1048576) (hb : b.size ≤ 1048576) (w : World) :
    Calls Tryd.prog 29 #[.string a, .string b] w fun e w' => e = .returned (.int .i64 (NameMath.cmp (NameMath.runes a.data.toList) (NameMath.runes b.data.toList))) ∧ Below w.heap.size w w' := by
  have hla := runes_length a.data.toList
  have hlb := runes_length b.data.toList
  have hl : a.data.toList.length = a.size := Array.length_toList
  have hl' : b.data.toList.length = b.size := Array.length_toList
  rw [hl] at hla
  rw [hl'] at hlb
  clear hl hl'
  have hc := refRunes_any a ha w
  have hc2 := fun w => refRunes_any b hb w
  generalize NameMath.runes a.data.toList = xs at *
  generalize NameMath.runes b.data.toList = ys at *
  have HC : Hid (Calls Tryd.prog 36 #[.string a] w fun e w' => ∃ v, e = .returned v ∧ w'.ownsRow w.heap.size 3 1 v xs.length (xs.map iV) ∧ Below w.heap.size w w') := hc
  have HC2 : Hid (∀ w, Calls Tryd.prog 36 #[.string b] w fun e w' => ∃ v, e = .returned v ∧ w'.ownsRow w.heap.size 3 1 v ys.length (ys.map iV) ∧ Below w.heap.size w w') := hc2
  clear hc hc2
  go_enter Tryd.func29, Tryd.ntmps29
  go_wp2_with fail
  refine HC.out.mono ?_
  rintro e w1 ⟨v, rfl, hown, hb1⟩
  go_wp2_with fail
  refine (HC2.out w1).mono ?_
  rintro e w2 ⟨v2, rfl, hown2, hb2⟩
  obtain ⟨ao, cap, rfl, hcap, hrow⟩ := own_row hown
  obtain ⟨bo, cap2, rfl, hcap2, hrow2⟩ := own_row hown2
  have HR : Hid (∀ j, j < xs.length → ∃ g, ao = some ⟨g, 0, none⟩ ∧ w2.cell? ⟨g, j, none⟩ = (xs.map iV)[j]?) := fun j hj => by
    obtain ⟨g, h1, h2, h3, h4⟩ := hrow j hj
    exact ⟨g, h1, by rw [hb2.cell (p := ⟨g, j, none⟩) h3]; exact h4⟩
  have HR2 : Hid (∀ j, j < ys.length → ∃ g, bo = some ⟨g, 0, none⟩ ∧ w2.cell? ⟨g, j, none⟩ = (ys.map iV)[j]?) := fun j hj => by
    obtain ⟨g, h1, h2, h3, h4⟩ := hrow2 j hj
    exact ⟨g, h1, h4⟩
  have hbw : Below w.heap.size w w2 := hb1.trans (hb2.mono hb1.size)
  clear hrow hrow2 hown hown2 hb1 hb2
  go_wp2
  go_loopw [7] (fun i wr => ∃ k : Nat, Hid (∀ p, wr.cell? p = w2.cell? p) ∧ Below w.heap.size w wr ∧ k ≤ xs.length ∧ k ≤ ys.length ∧ i = .int .i64 k ∧ Hid (NameMath.cmp xs ys = NameMath.cmp (xs.drop k) (ys.drop k))) (fun i _ => xs.length - (intOf i).toNat)
  case atStart => exact ⟨0, fun _ => rfl, hbw, Nat.zero_le _, Nat.zero_le _, rfl, rfl⟩
  case round =>
    obtain ⟨k, HW, hbr, hk, hk2, rfl, HI⟩ := hrel
    by_cases hlt : k < xs.length
    · by_cases hlt2 : k < ys.length
      · obtain ⟨g, rfl, hcell⟩ := HR.out k hlt
        obtain ⟨g2, rfl, hcell2⟩ := HR2.out k hlt2
        rw [getD_iV xs k hlt] at hcell
        rw [getD_iV ys k hlt2] at hcell2
        rw [cmp_drop xs ys k hlt hlt2] at HI
        generalize xs[k] = x at *
        generalize ys[k] = y at *
        have hc1 : wr.cell? ⟨g, k, none⟩ = some (.int .i64 (x : Int)) := (HW.out _).trans hcell
        have hc2 : wr.cell? ⟨g2, k, none⟩ = some (.int .i64 (y : Int)) := (HW.out _).trans hcell2
        clear hcell hcell2 HR HR2 HC HC2
        have i1 : (k : Int) < (xs.length : Int) := by omega
        have i2 : (k : Int) < (ys.length : Int) := by omega
        by_cases h1 : x < y
        · have HE : Hid (NameMath.cmp xs ys = -1) := by show _ = _; rw [HI.out, if_pos h1]
          clear HI
          go_wp2
          go_quiet (fail)
          go_wp2
          go_ret
          exact ⟨ret_int HE.out.symm, below_drewN hbr _⟩
        · by_cases h2 : y < x
          · have HE : Hid (NameMath.cmp xs ys = 1) := by show _ = _; rw [HI.out, if_neg h1, if_pos h2]
            clear HI
            go_wp2
            go_quiet (fail)
            go_wp2
            go_quiet (fail)
            go_wp2
            go_ret
            exact ⟨ret_int HE.out.symm, below_drewN (below_drewN hbr _) _⟩
          · have HE : Hid (NameMath.cmp xs ys = NameMath.cmp (xs.drop (k + 1)) (ys.drop (k + 1))) := by show _ = _; rw [HI.out, if_neg h1, if_neg h2]
            clear HI
            go_wp2
            go_quiet (fail)
            go_wp2
            go_quiet (fail)
            go_wp2
            exact ⟨⟨k + 1, HW, below_drewN hbr _, by omega, by omega, by go_num, HE⟩, by simp [intOf]; omega⟩
      · have HE : Hid (NameMath.cmp xs ys = 1) := by show _ = _; rw [HI.out, List.drop_of_length_le (show ys.length ≤ k by omega)]; exact cmp_right _ (drop_ne xs k hlt)
        clear HI HR HR2 HC HC2
        go_wp2
        go_ret
        exact ⟨ret_int HE.out.symm, hbr⟩
    · by_cases hlt2 : k < ys.length
      · have HE : Hid (NameMath.cmp xs ys = -1) := by show _ = _; rw [HI.out, List.drop_of_length_le (show xs.length ≤ k by omega)]; exact cmp_left _ (drop_ne ys k hlt2)
        clear HI HR HR2 HC HC2
        go_wp2
        go_ret
        exact ⟨ret_int HE.out.symm, hbr⟩
      · have HE : Hid (NameMath.cmp xs ys = 0) := by show _ = _; rw [HI.out, List.drop_of_length_le (show xs.length ≤ k by omega), List.drop_of_length_le (show ys.length ≤ k by omega)]; rfl
        clear HI HR HR2 HC HC2
        go_wp2
        go_ret
        exact ⟨ret_int HE.out.symm, hbr⟩
end Go.Proofs.YthdloddcljbjhaaDoor.Nm