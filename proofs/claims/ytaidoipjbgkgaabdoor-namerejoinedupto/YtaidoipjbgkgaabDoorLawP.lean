/- The walk of the law NameApart. -/
import Derived.Test.YtaidoipjbgkgaabDoorSrow
import Derived.Test.YtaidoipjbgkgaabDoorMathE
import Derived.Laws.AppendOwnNone
set_option linter.unusedVariables false
namespace Go.Proofs.YtaidoipjbgkgaabDoor
open Go.RowKit

theorem own_below {w w' : World} {B e n : Nat} {v : Value} {xs : List Value} (h : w.ownsRow B e 1 v n xs) (hb : Below w.heap.size w w') : w'.ownsRow B e 1 v n xs := by
  refine h.kept (row := none) ⟨hb.os, hb.tape, hb.output, hb.size, fun k hk _ => hb.block k hk⟩ ?_
  cases h : v.ownBlock with
  | none => exact .inl rfl
  | some k => exact .inr (by simp)
theorem own_base {w : World} {B B' e n : Nat} {v : Value} {xs : List Value} (h : w.ownsRow B e 1 v n xs) (hB : B' ≤ B) : w.ownsRow B' e 1 v n xs := by
  refine ⟨h.1, ?_⟩
  rcases h.2 with h0 | ⟨g, cap, cur, hv, hb, rest⟩
  · exact .inl h0
  · exact .inr ⟨g, cap, cur, hv, Nat.le_trans hB hb, rest⟩
theorem strs_oneCell (ws : List (List UInt8)) : ∀ u ∈ ws.map strV, u.oneCell' = true := by
  intro u hu
  obtain ⟨l, _, rfl⟩ := List.mem_map.1 hu
  rfl
theorem joined_data (a b : ByteArray) : (a ++ ⟨#[32]⟩ ++ b).data.toList = a.data.toList ++ 32 :: b.data.toList := by
  simp [ByteArray.data_append]

set_option maxHeartbeats 2000000 in
theorem nameApart_walk (a b : ByteArray) (hs : a.size + b.size + 1 ≤ 1048576) (w : World) (hT : Tabs w) :
    Calls Tryd.prog 5 #[.string a, .string b] w fun e w' => e = .returned (.bool true) ∧ Below w.heap.size w w' := by
  obtain ⟨i0, hi, hz0, hz1, hz2⟩ := info_parts infoS
  have hla := words_length a.data.toList
  have hlb := words_length b.data.toList
  have ea : a.data.toList.length = a.size := Array.length_toList
  have eb : b.data.toList.length = b.size := Array.length_toList
  rw [ea] at hla
  rw [eb] at hlb
  have c1 := fun w => words_any a (by omega) w
  have c2 := fun w => words_any b (by omega) w
  have c3 := fun w => words_any (a ++ ⟨#[32]⟩ ++ b) (by rw [ByteArray.size_append, ByteArray.size_append]; show a.size + 1 + b.size ≤ _; omega) w
  rw [joined_data, NameMath.words_apart] at c3
  generalize NameMath.words a.data.toList = xs at *
  generalize NameMath.words b.data.toList = ys at *
  have C1 : Hid (∀ w, Calls Tryd.prog 12 #[.string a] w fun e w' => ∃ v, e = .returned v ∧ w'.ownsRow (w.heap.size + 1) 9 1 v xs.length (xs.map strV) ∧ Below w.heap.size w w') := c1
  have C2 : Hid (∀ w, Calls Tryd.prog 12 #[.string b] w fun e w' => ∃ v, e = .returned v ∧ w'.ownsRow (w.heap.size + 1) 9 1 v ys.length (ys.map strV) ∧ Below w.heap.size w w') := c2
  have C3 : Hid (∀ w, Calls Tryd.prog 12 #[.string (a ++ ⟨#[32]⟩ ++ b)] w fun e w' => ∃ v, e = .returned v ∧ w'.ownsRow (w.heap.size + 1) 9 1 v (xs ++ ys).length ((xs ++ ys).map strV) ∧ Below w.heap.size w w') := c3
  clear c1 c2 c3 ea eb
  go_enter Tryd.func5, Tryd.ntmps5
  go_wp2_with fail
  refine (C1.out _).mono ?_
  rintro e w1 ⟨v1, rfl, hown1, hb1⟩
  go_wp2_with fail
  refine (C2.out _).mono ?_
  rintro e w2 ⟨v2, rfl, hown2, hb2⟩
  have hown12 := own_base (own_below hown1 hb2) (Nat.le_succ w.heap.size)
  have hb02 : Below w.heap.size w w2 := hb1.trans (hb2.mono hb1.size)
  obtain ⟨ao, cap, hv2, hcap, hrow⟩ := own_row hown2
  have hfin : ∀ (v3 : Value) (w3 : World), w3.ownsRow w.heap.size 9 1 v3 (xs ++ ys).length ((xs ++ ys).map strV) → Below w.heap.size w w3 → SRow w3 v3 (xs ++ ys) := fun v3 w3 h _ => srow_own h
  have HF : Hid _ := hfin
  clear hfin
  have hxy : (xs ++ ys).length ≤ 140737488355328 := by rw [List.length_append]; omega
  cases ao with
  | none =>
    have hy : ys.length = 0 := by
      rcases Nat.eq_zero_or_pos ys.length with h | h
      · exact h
      · obtain ⟨g, h1, _⟩ := hrow 0 h; cases h1
    have hys : ys = [] := List.eq_nil_of_length_eq_zero hy
    have hcap0 : cap = 0 := by
      rcases hown2.2 with ⟨h1, _⟩ | ⟨g, cap', cur, h1, _⟩
      · rw [hv2] at h1; simp at h1; omega
      · rw [hv2] at h1; simp at h1
    subst hys
    subst hcap0
    subst hv2
    have hs2 : SRow w2 v1 (xs ++ []) := by rw [List.append_nil]; exact srow_own hown12
    have HS2 : Hid (SRow w2 v1 (xs ++ [])) := hs2
    clear hs2 hrow hown2 hcap hy
    go_wp2_with (at_builtin; refine wpList_append_own_none rfl _ _ 26 rfl w.heap.size 9 i0 1 Tryd.underlying26 hi _ _ _ rfl hown12 rfl ?_)
    go_wp2_with fail
    refine (C3.out _).mono ?_
    rintro e w4 ⟨v4, rfl, hown4, hb4⟩
    have hs4 := srow_own hown4
    have hs3 := srow_below HS2.out hb4
    have hb04 := hb02.trans (hb4.mono hb02.size)
    go_wp2_with fail
    refine (same_true (xs ++ []) hxy v4 v1 w4 hs4 hs3).mono ?_
    rintro e w5 ⟨rfl, q, hw5⟩
    have hb5 : Below w.heap.size w w5 := by rw [hw5]; exact below_drewN hb04 q
    have hT5 := tabs_below hT hb5
    clear hw5
    go_wp2_with fail
    refine (live_any _ hT5).mono ?_
    rintro e w6 ⟨rfl, hb6⟩
    go_wp2_with fail
    go_ret
    exact ⟨rfl, hb5.trans (hb6.mono hb5.size)⟩
  | some ad =>
    subst hv2
    have hnews : ∀ (j : Nat) (u : Value), (ys.map strV)[j]? = some u → w2.cell? (ad.add j) = some u := by
      intro j u hj
      have hjl : j < ys.length := by
        rcases Nat.lt_or_ge j ys.length with h | h
        · exact h
        · simp [List.getElem?_eq_none h] at hj
      obtain ⟨g, h1, _, _, h4⟩ := hrow j hjl
      obtain rfl := Option.some.inj h1
      have : (⟨g, 0, none⟩ : Addr).add j = ⟨g, j, none⟩ := by
        unfold Addr.add
        split <;> simp_all
      rw [this, h4, hj]
    have HN : Hid _ := hnews
    clear hnews hrow hown2
    go_wp2_with (at_builtin; refine wpList_append_own _ rfl _ _ 26 rfl w.heap.size 9 i0 (.string ⟨#[]⟩) 1 16 Tryd.underlying26 hi hz0 hz1 hz2 rfl (by decide) _ _ _ rfl hown12 ad ys.length cap (ys.map strV) rfl (by simp) HN.out (strs_oneCell ys) (by unfold maxLen; omega) (by omega) hb02.size ?_)
    intro v3 w3 hown3 hg3 hnn
    have hb03 : Below w.heap.size w w3 := hb02.grown hg3 hb02.size (fun k h => (hown12.lt k h).1)
    have hs3 : SRow w3 v3 (xs ++ ys) := srow_own (B := w.heap.size) (e := 9) (by rw [List.map_append, List.length_append]; exact hown3)
    have HS3 : Hid (SRow w3 v3 (xs ++ ys)) := hs3
    clear hown3 hg3 hnn hs3 hown12 HN
    go_wp2_with fail
    refine (C3.out _).mono ?_
    rintro e w4 ⟨v4, rfl, hown4, hb4⟩
    have hs4 := srow_own hown4
    have hs3 := srow_below HS3.out hb4
    have hb04 := hb03.trans (hb4.mono hb03.size)
    go_wp2_with fail
    refine (same_true (xs ++ ys) hxy v4 v3 w4 hs4 hs3).mono ?_
    rintro e w5 ⟨rfl, q, hw5⟩
    have hb5 : Below w.heap.size w w5 := by rw [hw5]; exact below_drewN hb04 q
    have hT5 := tabs_below hT hb5
    clear hw5
    go_wp2_with fail
    refine (live_any _ hT5).mono ?_
    rintro e w6 ⟨rfl, hb6⟩
    go_wp2_with fail
    go_ret
    exact ⟨rfl, hb5.trans (hb6.mono hb5.size)⟩
end Go.Proofs.YtaidoipjbgkgaabDoor
