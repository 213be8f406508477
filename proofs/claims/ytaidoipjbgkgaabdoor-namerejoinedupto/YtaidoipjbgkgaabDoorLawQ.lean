/- The walk of the law NameFoldedWords. -/
import Derived.Test.YtaidoipjbgkgaabDoorLawP
set_option linter.unusedVariables false
namespace Go.Proofs.YtaidoipjbgkgaabDoor
open Go.RowKit

theorem strV_size (l : List UInt8) : (ByteArray.mk l.toArray).size = l.length := by show l.toArray.size = _; simp
theorem mk_data (l : List UInt8) : (ByteArray.mk l.toArray).data.toList = l := by simp
theorem wd_each : ∀ (ps : List (Nat × List UInt8)) (acc : List UInt8), ∀ x ∈ NameMath.wd ps acc, x.length ≤ acc.length + (NameMath.flat ps).length
  | [], acc => by
    intro x hx
    rw [NameMath.wd_nil] at hx
    split at hx
    · cases hx
    · simp at hx; subst hx; omega
  | p :: ps, acc => by
    intro x hx
    rw [NameMath.wd_cons] at hx
    rw [NameMath.flat_cons, List.length_append]
    have h1 := wd_each ps []
    have h2 := wd_each ps (acc ++ p.2)
    split at hx
    · split at hx
      · have := h1 x hx; simp at this; omega
      · rcases List.mem_cons.1 hx with rfl | hx
        · omega
        · have := h1 x hx; simp at this; omega
    · have := h2 x hx; rw [List.length_append] at this; omega
theorem words_each_length (l : List UInt8) : ∀ x ∈ NameMath.words l, x.length ≤ l.length := by
  intro x hx
  have := wd_each (NameMath.cut l) [] x hx
  rw [NameMath.flat_cut] at this
  simpa using this
/-- The first k folded, the others as they were. -/
def half (ws : List (List UInt8)) (k : Nat) : List (List UInt8) := (ws.take k).map NameMath.fold ++ ws.drop k
theorem half_length (ws : List (List UInt8)) (k : Nat) (h : k ≤ ws.length) : (half ws k).length = ws.length := by simp [half]; omega
theorem half_at (ws : List (List UInt8)) (k : Nat) (h : k < ws.length) : ((half ws k).map strV)[k]? = some (strV ws[k]) := by
  have hl : ((ws.take k).map NameMath.fold).length = k := by simp; omega
  unfold half
  rw [List.getElem?_map, List.getElem?_append_right (by omega), hl, Nat.sub_self, List.drop_eq_getElem_cons h]
  rfl
theorem half_set (ws : List (List UInt8)) (k : Nat) (h : k < ws.length) : ((half ws k).map strV).set k (strV (NameMath.fold ws[k])) = (half ws (k + 1)).map strV := by
  have hl : ((ws.take k).map NameMath.fold).length = k := by simp; omega
  rw [← List.map_set]
  congr 1
  unfold half
  rw [List.set_append_right _ _ (by omega), hl, Nat.sub_self, List.drop_eq_getElem_cons h, List.set_cons_zero, List.take_add_one, List.getElem?_eq_getElem h, List.map_append]
  simp
theorem half_full (ws : List (List UInt8)) : half ws ws.length = ws.map NameMath.fold := by simp [half]

set_option maxHeartbeats 2000000 in
theorem nameFoldedWords_walk (s : ByteArray) (hs : s.size ≤ 1048576) (w : World) (hT : Tabs w) :
    Calls Tryd.prog 6 #[.string s] w fun e w' => e = .returned (.bool true) ∧ Below w.heap.size w w' := by
  have hwl := words_length s.data.toList
  have hel := words_each_length s.data.toList
  have hl : s.data.toList.length = s.size := Array.length_toList
  rw [hl] at hwl
  rw [hl] at hel
  have hfl := NameMath.fold_length s.data.toList
  rw [hl] at hfl
  have c1 := fun w => words_any s hs w
  have c2 := fun w => fold_any s (by omega) w
  have c3 := fun w => words_any ⟨(NameMath.fold s.data.toList).toArray⟩ (by rw [strV_size]; omega) w
  rw [mk_data, NameMath.words_fold] at c3
  generalize NameMath.words s.data.toList = ws at *
  generalize NameMath.fold s.data.toList = f at *
  have C1 : Hid (∀ w, Calls Tryd.prog 12 #[.string s] w fun e w' => ∃ v, e = .returned v ∧ w'.ownsRow (w.heap.size + 1) 9 1 v ws.length (ws.map strV) ∧ Below w.heap.size w w') := c1
  have C2 : Hid (∀ w, Calls Tryd.prog 14 #[.string s] w fun e w' => e = .returned (.string ⟨f.toArray⟩) ∧ Below w.heap.size w w') := c2
  have C3 : Hid (∀ w, Calls Tryd.prog 12 #[.string ⟨f.toArray⟩] w fun e w' => ∃ v, e = .returned v ∧ w'.ownsRow (w.heap.size + 1) 9 1 v (ws.map NameMath.fold).length ((ws.map NameMath.fold).map strV) ∧ Below w.heap.size w w') := c3
  have HEL : Hid _ := hel
  clear c1 c2 c3 hl hel hfl
  have hwl' : (ws.map NameMath.fold).length ≤ 140737488355328 := by simp; omega
  go_enter Tryd.func6, Tryd.ntmps6
  go_wp2_with fail
  refine (C1.out _).mono ?_
  rintro e w1 ⟨v1, rfl, hown1, hb1⟩
  obtain ⟨a1, cap1, rfl, _, _⟩ := own_row hown1
  have HO1 : Hid (w1.ownsRow (w.heap.size + 1) 9 1 (.slice a1 ws.length cap1) ws.length ((half ws 0).map strV)) := by
    show World.ownsRow _ _ _ _ _ _ _
    simpa [half] using hown1
  clear hown1
  go_wp2_with fail
  go_loopw [4] (fun i wr => ∃ (k : Nat), k ≤ ws.length ∧ i = .int .i64 k ∧ wr.ownsRow (w.heap.size + 1) 9 1 (.slice a1 ws.length cap1) ws.length ((half ws k).map strV) ∧ Below w.heap.size w wr) (fun i _ => ws.length - (intOf i).toNat)
  case atStart => exact ⟨0, Nat.zero_le _, rfl, HO1.out, hb1⟩
  case round =>
    obtain ⟨k, hk, rfl, hown, hbw⟩ := hrel
    by_cases hlt : k < ws.length
    · obtain ⟨g, cap, hv, hBg, hgl, hnc, hcm, hcell, hfro⟩ := own_shape hown (by omega)
      obtain ⟨rfl, rfl⟩ : a1 = some ⟨g, 0, none⟩ ∧ cap1 = cap := by simpa using hv
      have hck := hcell k hlt
      rw [half_at ws k hlt] at hck
      have hset := half_set ws k hlt
      have hxl := HEL.out ws[k] (List.getElem_mem hlt)
      have hfa := fun w => fold_any ⟨(ws[k]).toArray⟩ (by rw [strV_size]; omega) w
      rw [mk_data] at hfa
      generalize ws[k] = x at *
      have HSET : Hid (((half ws k).map strV).set k (strV (NameMath.fold x)) = (half ws (k + 1)).map strV) := hset
      have HFA : Hid (∀ w, Calls Tryd.prog 14 #[.string ⟨x.toArray⟩] w fun e w' => e = .returned (.string ⟨(NameMath.fold x).toArray⟩) ∧ Below w.heap.size w w') := hfa
      have hck' : wr.cell? ⟨g, k, none⟩ = some (.string ⟨x.toArray⟩) := hck
      clear hv hcell hfro hck hset hfa
      have i1 : (k : Int) < (ws.length : Int) := by omega
      go_wp2_with fail
      refine (HFA.out _).mono ?_
      rintro e w3 ⟨rfl, hb3⟩
      have hown3 := own_below hown hb3
      have hfro3 := (own_shape hown3 (by omega))
      obtain ⟨g', cap', hv', z1, z2, z3, z4, z5, hfro'⟩ := hfro3
      obtain ⟨rfl, rfl⟩ : g = g' ∧ cap1 = cap' := by simpa using hv'
      clear z1 z2 z3 z4 z5
      have hf3 := hfro' k
      have hck3 : w3.cell? ⟨g, k, none⟩ = some (.string ⟨x.toArray⟩) := (hb3.cell (p := ⟨g, k, none⟩) hgl).trans hck'
      have hst := (hown3.stored k (.string ⟨(NameMath.fold x).toArray⟩)).1
      have hst' : (w3.setCell ⟨g, k, none⟩ (.string ⟨(NameMath.fold x).toArray⟩)).ownsRow (w.heap.size + 1) 9 1 (.slice (some ⟨g, 0, none⟩) ws.length cap1) ws.length ((half ws (k + 1)).map strV) := by
        rw [← HSET.out]; exact hst
      have hb' := (hbw.trans (hb3.mono hbw.size)).setCell (p := ⟨g, k, none⟩) (by show w.heap.size ≤ g; omega) (.string ⟨(NameMath.fold x).toArray⟩)
      have HST : Hid ((w3.setCell ⟨g, k, none⟩ (.string ⟨(NameMath.fold x).toArray⟩)).ownsRow (w.heap.size + 1) 9 1 (.slice (some ⟨g, 0, none⟩) ws.length cap1) ws.length ((half ws (k + 1)).map strV)) := hst'
      have HBB : Hid _ := hb'
      clear hv' hfro' hst hst' hb' hown hbw hown3 hb3 hck' HSET HFA
      go_wp2
      exact ⟨⟨k + 1, by omega, by go_num, HST.out, HBB.out⟩, by simp [intOf]; omega⟩
    · have hkn : k = ws.length := by omega
      subst hkn
      rw [half_full] at hown
      have hs1 : SRow wr (.slice a1 ws.length cap1) (ws.map NameMath.fold) := srow_own (own_cast (by simp) rfl hown)
      have HS1 : Hid (SRow wr (.slice a1 ws.length cap1) (ws.map NameMath.fold)) := hs1
      clear hs1 hown HO1
      go_wp2_with fail
      refine (C2.out _).mono ?_
      rintro e w3 ⟨rfl, hb3⟩
      go_wp2_with fail
      refine (C3.out _).mono ?_
      rintro e w4 ⟨v4, rfl, hown4, hb4⟩
      have hs4 := srow_own hown4
      have hs14 := srow_below (srow_below HS1.out hb3) hb4
      have hb04 := hbw.trans ((hb3.mono hbw.size).trans (hb4.mono (Nat.le_trans hbw.size hb3.size)))
      go_wp2_with fail
      refine (same_true _ hwl' _ v4 w4 hs14 hs4).mono ?_
      rintro e w5 ⟨rfl, q, hw5⟩
      have hb5 : Below w.heap.size w w5 := by rw [hw5]; exact below_drewN hb04 q
      have hT5 := tabs_below hT hb5
      clear hw5
      go_wp2_with fail
      refine (live_any _ hT5).mono ?_
      rintro e w6 ⟨rfl, hb6⟩
      go_wp2_with fail
      go_ret
      exact ⟨rfl, hb5.trans (hb6.mono hb5.size)⟩
end Go.Proofs.YtaidoipjbgkgaabDoor
