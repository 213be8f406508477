/- The walks of Set, Stop, Len, New. -/
import Derived.Test.YteadnjagandkfaaSetW
set_option linter.unusedVariables false
set_option maxRecDepth 100000
namespace Go.Proofs.Yteadnjagandkfaa
open Go.RowKit
open WheelMath

theorem WOk.same {w w' : World} {b : Nat} {v : Value} {l r : List T} (h : PW w b v l) (hp : l.Perm r) (hb : Below w.heap.size w w') : WOk w b v r w' := ⟨v, l, pw_below h hb, hp, chg_below hb, fun k hk => Or.inl hk⟩
theorem fpw_row {b : Nat} {v : Value} {k : Nat} (h : v.ownBlock = some k) : fpw b v k := Or.inr h

theorem set_bad (p : Value) (id tm : Int) (h : id < 0 ∨ tm < 0 ∨ 1073741824 < tm) (w : World) : Calls Try.prog 36 #[p, .int .i64 id, .int .i64 tm] w fun e w' => e = .returned (.int .i64 1) ∧ w' = w := by
  by_cases h1 : id < 0
  · have d1 : decide (id < 0) = true := by simpa using h1
    clear h
    go_enter Try.func36, Try.ntmps36
    go_wp2
    go_ret
    exact ⟨rfl, rfl⟩
  · have d1 : decide (id < 0) = false := by simpa using h1
    by_cases h2 : tm < 0
    · have d2 : decide (tm < 0) = true := by simpa using h2
      clear h
      go_enter Try.func36, Try.ntmps36
      go_wp2
      go_ret
      exact ⟨rfl, rfl⟩
    · have d2 : decide (tm < 0) = false := by simpa using h2
      have h3 : 1073741824 < tm := by omega
      have d3 : decide (1073741824 < tm) = true := by simpa using h3
      clear h
      go_enter Try.func36, Try.ntmps36
      go_wp2
      go_ret
      exact ⟨rfl, rfl⟩

set_option maxHeartbeats 2000000 in
theorem set_hit (w : World) (b : Nat) (v : Value) (l r : List T) (hl : l.length ≤ 200) (h : PW w b v l) (hp : l.Perm r) (hi : Ids r) (id tm : Int) (k : Nat) (hk : place l id = some k) (h1 : 0 ≤ id) (h2 : 0 ≤ tm) (h3 : tm ≤ 1073741824) :
    Calls Try.prog 36 #[.pointer (some ⟨b, 0, none⟩), .int .i64 id, .int .i64 tm] w fun e w' => e = .returned (.int .i64 0) ∧ WOk w b v (ins (id, tm) (rem r id)) w' := by
  obtain ⟨hkl, hid⟩ := place_some hk
  have C : Hid (Calls Try.prog 42 #[.pointer (some ⟨b, 0, none⟩), .int .i64 id] w fun e w' => e = .returned (.int .i64 (k : Int)) ∧ Below w.heap.size w w') := by
    have := place_any w b v l hl h id
    rw [placeI_some hk] at this
    exact this
  have HP : Hid (l.set k (id, tm) |>.Perm (ins (id, tm) (rem r id))) := perm_set hp hi hk
  have H : Hid (PW w b v l) := h
  have d1 : decide (id < 0) = false := by simp; omega
  have d2 : decide (tm < 0) = false := by simp; omega
  have d3 : decide (1073741824 < tm) = false := by simp; omega
  clear h hp hi hk
  go_enter Try.func36, Try.ntmps36
  go_wp2_with fail
  refine C.out.mono ?_
  rintro e w1 ⟨rfl, hb1⟩
  have hP1 := pw_below H.out hb1
  obtain ⟨ao, cap, rfl, hcap, _, hrow⟩ := row_cells hP1.row
  obtain ⟨g, rfl, hg, c1, c2, c3⟩ := hrow k hkl
  have HW : Hid (WOk w b (.slice (some ⟨g, 0, none⟩) l.length cap) (ins (id, tm) (rem r id)) (w1.setCell ⟨g, k * 2 + 1, none⟩ (.int .i64 tm))) := by
    have hgb : g ≠ b := fun e => hP1.off (by rw [e]; rfl)
    refine ⟨.slice (some ⟨g, 0, none⟩) l.length cap, l.set k (id, tm), ⟨?_, ?_, ?_, hP1.off⟩, HP.out, ?_, fun j hj => Or.inl hj⟩
    · rw [World.cell?_setCell_other _ _ _ _ (by simp)]; exact hP1.cell
    · rw [World.frozen?_setCell]; exact hP1.free
    · have := own_set hP1.row (k * 2 + 1) (.int .i64 tm)
      rw [tcells_set l k hkl, hid] at this
      rw [List.length_set]
      exact this
    · exact (chg_below (S := fpw b (.slice (some ⟨g, 0, none⟩) l.length cap)) hb1).trans (chg_set w1 ⟨g, k * 2 + 1, none⟩ (.int .i64 tm)) (fun j _ e => Or.inr (by rw [e]; rfl))
  have cb := hP1.cell
  have i1 : (k : Int) < (l.length : Int) := by omega
  have i2 : decide ((0 : Int) ≤ (k : Int)) = true := by simp
  clear hP1 hrow hb1 C HP H c1
  go_wp2
  go_ret
  exact ⟨rfl, HW.out⟩

theorem set_full (w : World) (b : Nat) (v : Value) (l : List T) (hl : l.length = 200) (h : PW w b v l) (id tm : Int) (hk : place l id = none) (h1 : 0 ≤ id) (h2 : 0 ≤ tm) (h3 : tm ≤ 1073741824) :
    Calls Try.prog 36 #[.pointer (some ⟨b, 0, none⟩), .int .i64 id, .int .i64 tm] w fun e w' => e = .returned (.int .i64 2) ∧ Below w.heap.size w w' := by
  have C : Hid (Calls Try.prog 42 #[.pointer (some ⟨b, 0, none⟩), .int .i64 id] w fun e w' => e = .returned (.int .i64 (-1)) ∧ Below w.heap.size w w') := by
    have := place_any w b v l (by omega) h id
    rw [placeI_none hk] at this
    exact this
  have H : Hid (PW w b v l) := h
  have d1 : decide (id < 0) = false := by simp; omega
  have d2 : decide (tm < 0) = false := by simp; omega
  have d3 : decide (1073741824 < tm) = false := by simp; omega
  clear h hk
  go_enter Try.func36, Try.ntmps36
  go_wp2_with fail
  refine C.out.mono ?_
  rintro e w1 ⟨rfl, hb1⟩
  have hP1 := pw_below H.out hb1
  obtain ⟨ao, cap, rfl, hcap, _, hrow⟩ := row_cells hP1.row
  have cb := hP1.cell
  rw [hl] at cb
  clear hP1 hrow C H hl
  go_wp2
  go_ret
  exact ⟨rfl, hb1⟩

set_option maxHeartbeats 2000000 in
theorem set_new (w : World) (b : Nat) (v : Value) (l r : List T) (hl : l.length < 200) (h : PW w b v l) (hp : l.Perm r) (id tm : Int) (hk : place l id = none) (h1 : 0 ≤ id) (h2 : 0 ≤ tm) (h3 : tm ≤ 1073741824) :
    Calls Try.prog 36 #[.pointer (some ⟨b, 0, none⟩), .int .i64 id, .int .i64 tm] w fun e w' => e = .returned (.int .i64 0) ∧ WOk w b v (ins (id, tm) (rem r id)) w' := by
  obtain ⟨i0, hi, hz0, hz1, hz2⟩ := info_parts infoT
  have C : Hid (Calls Try.prog 42 #[.pointer (some ⟨b, 0, none⟩), .int .i64 id] w fun e w' => e = .returned (.int .i64 (-1)) ∧ Below w.heap.size w w') := by
    have := place_any w b v l (by omega) h id
    rw [placeI_none hk] at this
    exact this
  have HP : Hid ((l ++ [(id, tm)]).Perm (ins (id, tm) (rem r id))) := perm_add hp hk
  have H : Hid (PW w b v l) := h
  have d1 : decide (id < 0) = false := by simp; omega
  have d2 : decide (tm < 0) = false := by simp; omega
  have d3 : decide (1073741824 < tm) = false := by simp; omega
  clear h hk hp
  go_enter Try.func36, Try.ntmps36
  go_wp2_with fail
  refine C.out.mono ?_
  rintro e w1 ⟨rfl, hb1⟩
  have hP1 := pw_below H.out hb1
  obtain ⟨ao, cap, rfl, hcap, _, hrow⟩ := row_cells hP1.row
  have cb := hP1.cell
  have cf := hP1.free
  have hbl := hP1.lt
  have hown := hP1.row
  have HB1 : Hid (Below w.heap.size w w1) := hb1
  have HP1 : Hid (PW w1 b (.slice ao l.length cap) l) := hP1
  have dn : decide ((200 : Int) ≤ (l.length : Int)) = false := by simp; omega
  have hln : ¬ (200 : Int) ≤ (l.length : Int) := by omega
  clear hP1 hrow C hb1
  go_wp2_with (at_builtin; refine wpList_append_more _ rfl _ _ 65 rfl 0 70 i0 (.agg #[.int .i64 0, .int .i64 0]) 2 16 Try.underlying65 hi hz0 hz1 hz2 rfl (by decide) _ l.length (tcells l) rfl (hown.alloc _) ⟨_, 0, none⟩ 1 1 [.int .i64 id, .int .i64 tm] rfl rfl (two_new _ _ _ _) (two_int _ _) (by decide) (by unfold maxLen; omega) (by omega) ?_)
  intro g' cap' w2 hown2 hwh hch
  have hb2 : w2.heap[b]? = w1.heap[b]? := by
    rw [hch.block b (by simp; omega) (fun e => HP1.out.off e), heap_alloc_old _ _ hbl]
  have c2 : w2.cell? ⟨b, 0, none⟩ = some (.slice ao l.length cap) := (World.cell?_of_block (w := w1) (a := ⟨b, 0, none⟩) hb2).trans cb
  have f2 : w2.frozen? ⟨b, 0, none⟩ = false := (World.frozen?_of_block (w := w1) (a := ⟨b, 0, none⟩) hb2).trans cf
  have HW : Hid (WOk w b (.slice ao l.length cap) (ins (id, tm) (rem r id)) (w2.setCell ⟨b, 0, none⟩ (.slice (some ⟨g', 0, none⟩) (l.length + 1) cap'))) := by
    have hgb : g' ≠ b := fun e => by
      rcases hwh with h | h
      · exact HP1.out.off (by rw [← e]; exact h)
      · omega
    refine ⟨_, l ++ [(id, tm)], ⟨World.cell?_setCell_same _ _ _ c2, by rw [World.frozen?_setCell]; exact f2, ?_, fun e => hgb (by simpa [Value.ownBlock] using e)⟩, HP.out, ?_, ?_⟩
    · have o3 := own_chg hown2 (chg_set w2 ⟨b, 0, none⟩ (.slice (some ⟨g', 0, none⟩) (l.length + 1) cap')) (fun g hg => by
        have : g' = g := by simpa [Value.ownBlock] using hg
        simp only
        omega)
      rw [tcells_append, List.length_append]
      exact o3
    · refine ⟨?_, ?_, ?_, ?_, ?_⟩
      · exact hch.os.trans HB1.out.os
      · exact hch.tape.trans HB1.out.tape
      · exact hch.output.trans HB1.out.output
      · have e1 := hch.size
        have e2 := HB1.out.size
        simp at e1 ⊢
        omega
      · intro k hk hn
        have e2 := HB1.out.size
        rw [Below.heap_setCell w2 _ _ k (fun e => hn (Or.inl e)), hch.block k (by simp; omega) (fun e => hn (Or.inr e)), heap_alloc_old _ _ (by omega)]
        exact HB1.out.block k hk
    · rintro k (rfl | hk)
      · exact Or.inl (Or.inl rfl)
      · have : g' = k := by simpa [Value.ownBlock] using hk
        subst this
        rcases hwh with h | h
        · exact Or.inl (Or.inr h)
        · right
          have e2 := HB1.out.size
          omega
  clear hown hown2 hch hwh hb2 cb cf HP1 HB1 HP H
  go_wp2
  go_ret
  exact ⟨rfl, HW.out⟩

set_option maxHeartbeats 2000000 in
theorem stop_hit (w : World) (b : Nat) (v : Value) (l r : List T) (hl : l.length ≤ 200) (h : PW w b v l) (hp : l.Perm r) (hi : Ids r) (id : Int) (k : Nat) (hk : place l id = some k) :
    Calls Try.prog 39 #[.pointer (some ⟨b, 0, none⟩), .int .i64 id] w fun e w' => e = .returned (.bool true) ∧ WOk w b v (rem r id) w' := by
  obtain ⟨hkl, hid⟩ := place_some hk
  have C : Hid (Calls Try.prog 42 #[.pointer (some ⟨b, 0, none⟩), .int .i64 id] w fun e w' => e = .returned (.int .i64 (k : Int)) ∧ Below w.heap.size w w') := by
    have := place_any w b v l hl h id
    rw [placeI_some hk] at this
    exact this
  have HP : Hid ((l.eraseIdx k).Perm (rem r id)) := perm_stop hp hi hk
  have H : Hid (PW w b v l) := h
  clear h hp hi hk
  go_enter Try.func39, Try.ntmps39
  go_wp2_with fail
  refine C.out.mono ?_
  rintro e w1 ⟨rfl, hb1⟩
  have hP1 := pw_below H.out hb1
  obtain ⟨ao, cap, rfl, hcap, _, hrow⟩ := row_cells hP1.row
  obtain ⟨g, rfl, hg, _, _, _⟩ := hrow k hkl
  have D : Hid (Calls Try.prog 43 #[.slice (some ⟨g, 0, none⟩) l.length cap, .int .i64 (k : Int), .int .i64 ((k : Int) + 1)] w1 fun e w' =>
      e = .returned (.slice (some ⟨g, 0, none⟩) (l.length - 1) cap) ∧ w'.ownsRow 0 70 2 (.slice (some ⟨g, 0, none⟩) (l.length - 1) cap) (l.length - 1) (tcells (l.eraseIdx k)) ∧ Chg (fun j => j = g) w1 w') := delete_any w1 0 g cap l k hkl hl hP1.row
  have HP1 : Hid (PW w1 b (.slice (some ⟨g, 0, none⟩) l.length cap) l) := hP1
  have HB1 : Hid (Below w.heap.size w w1) := hb1
  have cb := hP1.cell
  have dk : decide ((k : Int) < 0) = false := by simp
  have hk2 : k < 200 := by omega
  clear hP1 hrow hb1 C H
  go_wp2_with fail
  refine D.out.mono ?_
  rintro e w2 ⟨rfl, hown2, hch⟩
  have hgb : g ≠ b := fun e => HP1.out.off (by rw [e]; rfl)
  have hb2 : w2.heap[b]? = w1.heap[b]? := hch.block b HP1.out.lt (fun e => hgb e.symm)
  have c2 : w2.cell? ⟨b, 0, none⟩ = some (.slice (some ⟨g, 0, none⟩) l.length cap) := (World.cell?_of_block (w := w1) (a := ⟨b, 0, none⟩) hb2).trans cb
  have f2 : w2.frozen? ⟨b, 0, none⟩ = false := (World.frozen?_of_block (w := w1) (a := ⟨b, 0, none⟩) hb2).trans HP1.out.free
  have HW : Hid (WOk w b (.slice (some ⟨g, 0, none⟩) l.length cap) (rem r id) (w2.setCell ⟨b, 0, none⟩ (.slice (some ⟨g, 0, none⟩) (l.length - 1) cap))) := by
    refine ⟨_, l.eraseIdx k, ⟨World.cell?_setCell_same _ _ _ c2, by rw [World.frozen?_setCell]; exact f2, ?_, fun e => hgb (by simpa [Value.ownBlock] using e)⟩, HP.out, ?_, ?_⟩
    · have hlen : (l.eraseIdx k).length = l.length - 1 := by rw [List.length_eraseIdx_of_lt hkl]
      rw [hlen]
      exact own_chg hown2 (chg_set w2 ⟨b, 0, none⟩ _) (fun g1 hg1 => by
        have : g = g1 := by simpa [Value.ownBlock] using hg1
        simp only
        omega)
    · refine ((chg_below (S := fpw b (.slice (some ⟨g, 0, none⟩) l.length cap)) HB1.out).trans hch (fun j _ e => Or.inr (by rw [e]; rfl))).trans (chg_set w2 ⟨b, 0, none⟩ _) (fun j _ e => Or.inl e)
    · rintro j (rfl | hj)
      · exact Or.inl (Or.inl rfl)
      · exact Or.inl (Or.inr hj)
  clear hown2 hch hb2 cb HP1 HB1 HP D
  go_wp2
  go_ret
  exact ⟨rfl, HW.out⟩
theorem stop_none (w : World) (b : Nat) (v : Value) (l : List T) (hl : l.length ≤ 200) (h : PW w b v l) (id : Int) (hk : place l id = none) :
    Calls Try.prog 39 #[.pointer (some ⟨b, 0, none⟩), .int .i64 id] w fun e w' => e = .returned (.bool false) ∧ Below w.heap.size w w' := by
  have C : Hid (Calls Try.prog 42 #[.pointer (some ⟨b, 0, none⟩), .int .i64 id] w fun e w' => e = .returned (.int .i64 (-1)) ∧ Below w.heap.size w w') := by
    have := place_any w b v l hl h id
    rw [placeI_none hk] at this
    exact this
  clear h hk
  go_enter Try.func39, Try.ntmps39
  go_wp2_with fail
  refine C.out.mono ?_
  rintro e w1 ⟨rfl, hb1⟩
  go_wp2
  go_ret
  exact ⟨rfl, hb1⟩
theorem new_any (w : World) : Calls Try.prog 31 #[] w fun e w' => e = .returned (.pointer (some ⟨w.heap.size, 0, none⟩)) ∧ PW w' w.heap.size (.slice none 0 0) [] ∧ Below w.heap.size w w' := by
  go_enter Try.func31, Try.ntmps31
  go_wp2
  go_ret
  exact ⟨rfl, ⟨by simp, by simp, World.ownsRow_nil _ _ _ _, by simp [Value.ownBlock]⟩, (Below.refl _ _).alloc (Nat.le_refl _) _⟩
end Go.Proofs.Yteadnjagandkfaa
