/- The walks of the pool's methods. -/
import Derived.Test.YtlhbkbjpdpofnaaDelW
import Derived.Deep.RegionHeld3
set_option linter.unusedVariables false
set_option maxRecDepth 100000
namespace Go.Proofs.Ytlhbkbjpdpofnaa
open Go.RowKit

set_option maxHeartbeats 1000000 in
theorem rtake_any (w : World) (b : Nat) (room : Int) (v : Value) (l : List Txt) (h : PP w b room v l) (i : Nat) (hi : i < l.length) (hl : l.length ≤ 200) :
    Calls Try.prog 28 #[.pointer (some ⟨b, 1, none⟩), .int .i64 (i : Int)] w fun e w' => e = .returned (.string l[i]) ∧ POk w b room v (l.eraseIdx i) w' := by
  have hlen : (l.eraseIdx i).length = l.length - 1 := by rw [List.length_eraseIdx_of_lt hi]
  obtain ⟨ao, cap, rfl, hc, _, hr⟩ := srow_own h.row
  obtain ⟨g, o, rfl, hg, c1⟩ := hr i hi
  obtain rfl : o = 0 := by
    obtain ⟨ao', cap', hv, _, _, h3⟩ := own_form h.row
    cases hv
    obtain ⟨g', hg', _⟩ := h3 _ rfl
    cases hg'; rfl
  have H : Hid (PP w b room (.slice (some ⟨g, 0, none⟩) l.length cap) l) := h
  have D : Hid (Calls Try.prog 32 #[.slice (some ⟨g, 0, none⟩) l.length cap, .int .i64 (i : Int), .int .i64 ((i : Int) + 1)] w fun e w' =>
      e = .returned (.slice (some ⟨g, 0, none⟩) (l.length - 1) cap) ∧ w'.ownsRow 0 9 1 (.slice (some ⟨g, 0, none⟩) (l.length - 1) cap) (l.length - 1) (sv (l.eraseIdx i)) ∧ Chg (fun j => j = g) w w') := delete_any w 0 g cap l i hi hl h.row
  have cb := h.cell
  have i1 : (i : Int) < (l.length : Int) := by omega
  have i2 : i < 200 := by omega
  rw [Nat.zero_add] at c1
  clear h hr
  generalize l[i] = s at *
  go_enter Try.func28, Try.ntmps28
  go_wp2_with fail
  refine D.out.mono ?_
  rintro e w2 ⟨rfl, hown2, hch⟩
  obtain ⟨⟨c2, f2⟩, hok⟩ := pok_set (l' := l.eraseIdx i) (ao := some ⟨g, 0, none⟩) (cap := cap) H.out (hch.mono (fun k _ e => by rw [e]; rfl)) (by rw [hlen]; exact hown2) (fun g1 hg1 => Or.inl hg1)
  rw [hlen] at hok
  have HW : Hid (POk w b room (.slice (some ⟨g, 0, none⟩) l.length cap) (l.eraseIdx i) (w2.setCell ⟨b, 1, none⟩ (.slice (some ⟨g, 0, none⟩) (l.length - 1) cap))) := hok
  clear D hown2 hch H hok c1 cb
  go_wp2
  go_ret
  exact ⟨rfl, HW.out⟩

theorem heap_new (w : World) (o : Obj) : (w.alloc o).heap[w.heap.size]? = some o := by
  unfold World.alloc
  simp
/-- What All hands back: a row of its own. -/
def AllOk (w : World) (l : List Txt) (e : Ending) (w' : World) : Prop := ∃ v, e = .returned v ∧ w'.ownsRow w.heap.size 9 1 v l.length (sv l) ∧ Below w.heap.size w w'
theorem clone_any (w : World) (B : Nat) (v : Value) (l : List Txt) (hl : l.length ≤ 200) (h : w.ownsRow B 9 1 v l.length (sv l)) :
    Calls Try.prog 30 #[v] w fun e w' => AllOk w l e w' := by
  obtain ⟨i0, hi, hz0, hz1, hz2⟩ := info_parts infoS
  obtain ⟨ao, cap, rfl, h1, h2, h3⟩ := own_form h
  have he : ∀ (w : World) (a : Option Addr) (n c : Nat), (binOp .eql 30 (.slice a n c) (.slice none 0 0)).run Try.prog w = .ok (.bool a.isNone) w := fun w a n c => Go.Lib.run_eql_slice_nil w 30 9 a n c 0 0 Try.underlying30
  cases ao with
  | none =>
    have he' : ∀ (w : World) (n c : Nat), (binOp .eql 30 (.slice none n c) (.slice none 0 0)).run Try.prog w = .ok (.bool true) w := fun w n c => he w none n c
    clear he
    obtain ⟨h0, rfl⟩ := h2 rfl
    obtain rfl : l = [] := List.eq_nil_of_length_eq_zero h0
    clear h h3
    show Calls Try.prog 30 #[.slice none 0 0] w fun e w' => AllOk w [] e w'
    go_enter Try.func30, Try.ntmps30
    go_wp2
    go_ret
    exact ⟨_, rfl, World.ownsRow_nil _ _ _ _, Below.refl _ _⟩
  | some p =>
    have he' : ∀ (w : World) (p : Addr) (n c : Nat), (binOp .eql 30 (.slice (some p) n c) (.slice none 0 0)).run Try.prog w = .ok (.bool false) w := fun w p n c => he w (some p) n c
    clear he
    obtain ⟨g, rfl, hB, hg, hc, hf, hcm⟩ := h3 p rfl
    have HR : Hid (w.ownsRow B 9 1 (.slice (some ⟨g, 0, none⟩) l.length cap) l.length (sv l)) := h
    have h0 : (w.alloc (.cells #[] 9)).ownsRow w.heap.size 9 1 (.slice (some ⟨w.heap.size, 0, none⟩) 0 0) 0 [] := by
      refine ⟨rfl, Or.inr ⟨w.heap.size, 0, #[], rfl, Nat.le_refl _, heap_new w _, Nat.le_refl _, by unfold maxLen; omega, rfl, rfl⟩⟩
    have hsrc : ∀ j u, (sv l)[j]? = some u → (w.alloc (.cells #[] 9)).cell? ((⟨g, 0, none⟩ : Addr).add j) = some u := fun j u hu => by
      have hj : j < l.length := by rw [← sv_len]; exact (List.getElem?_eq_some_iff.1 hu).1
      rw [Addr.add_lit, Nat.zero_add, ((Below.refl w.heap.size w).alloc (Nat.le_refl _) (.cells #[] 9)).cell (p := ⟨g, j, none⟩) hg, hc j (by omega)]
      exact hu
    clear h hc hf h3 h2
    go_enter Try.func30, Try.ntmps30
    go_wp2_with (at_builtin; refine wpList_append_any _ rfl _ _ 30 rfl w.heap.size 9 i0 (.string ⟨#[]⟩) 1 16 Try.underlying30 hi hz0 hz1 hz2 rfl (by decide) w ((Below.refl _ _).alloc (Nat.le_refl _) _) (by simp) _ 0 [] rfl h0 (some ⟨g, 0, none⟩) l.length cap (sv l) rfl (by rw [sv_len, Nat.mul_one]) (Or.inr ⟨_, rfl, hsrc⟩) (sv_one _) (by unfold maxLen; omega) (by omega) ?_)
    intro ao' cap' w2 k1 k2 k3
    have HK : Hid (w2.ownsRow w.heap.size 9 1 (.slice ao' l.length cap') l.length (sv l)) := k1
    clear k1 hsrc h0
    go_wp2
    go_ret
    exact ⟨_, rfl, HK.out, k2⟩
theorem rall_any (w : World) (b : Nat) (room : Int) (v : Value) (l : List Txt) (h : PP w b room v l) (hl : l.length ≤ 200) :
    Calls Try.prog 22 #[.pointer (some ⟨b, 1, none⟩)] w fun e w' => AllOk w l e w' := by
  have C : Hid (Calls Try.prog 30 #[v] w fun e w' => AllOk w l e w') := clone_any w 0 v l hl h.row
  obtain ⟨ao, cap, rfl, _⟩ := own_form h.row
  have cb := h.cell
  clear h
  go_enter Try.func22, Try.ntmps22
  go_wp2_with fail
  refine C.out.mono ?_
  rintro e w2 ⟨v2, rfl, k1, k2⟩
  obtain ⟨ao2, cap2, rfl, _⟩ := own_form k1
  go_wp2
  go_ret
  exact ⟨_, rfl, k1, k2⟩
theorem all_any (w : World) (b : Nat) (room : Int) (v : Value) (l : List Txt) (h : PP w b room v l) (hl : l.length ≤ 200) :
    Calls Try.prog 10 #[.pointer (some ⟨b, 0, none⟩)] w fun e w' => AllOk w l e w' := by
  have C : Hid (Calls Try.prog 22 #[.pointer (some ⟨b, 1, none⟩)] w fun e w' => AllOk w l e w') := rall_any w b room v l h hl
  clear h
  go_enter Try.func10, Try.ntmps10
  go_wp2_with fail
  refine C.out.mono ?_
  rintro e w2 ⟨v2, rfl, k1, k2⟩
  obtain ⟨ao2, cap2, rfl, _⟩ := own_form k1
  go_wp2
  go_ret
  exact ⟨_, rfl, k1, k2⟩
theorem len_any (w : World) (b : Nat) (room : Int) (v : Value) (l : List Txt) (h : PP w b room v l) :
    Calls Try.prog 9 #[.pointer (some ⟨b, 0, none⟩)] w fun e w' => e = .returned (.int .i64 (l.length : Int)) ∧ w' = w := by
  have C : Hid (Calls Try.prog 21 #[.pointer (some ⟨b, 1, none⟩)] w fun e w' => e = .returned (.int .i64 (l.length : Int)) ∧ w' = w) := rcount_any w b room v l h
  clear h
  go_enter Try.func9, Try.ntmps9
  go_wp2_with fail
  refine C.out.mono ?_
  rintro e w2 ⟨rfl, hw⟩
  rw [hw]
  go_wp2
  go_ret
  exact ⟨rfl, rfl⟩
/-- What Send, Take and Double answer, and what the pool holds then. -/
def aAdd (room : Int) (l : List Txt) (s : Txt) : List Txt × Int := if room ≤ (l.length : Int) then (l, 90) else (l ++ [s], 0)
def aSend (room : Int) (l : List Txt) (s : Txt) : List Txt × Int := if 2000 < s.size then (l, 2) else aAdd room l s
def aTake (l : List Txt) (i : Int) : List Txt × Txt × Int := if i < 0 ∨ (l.length : Int) ≤ i then (l, ⟨#[]⟩, 91) else (l.eraseIdx i.toNat, l.getD i.toNat ⟨#[]⟩, 0)
def aDouble (room : Int) (l : List Txt) (i : Int) : List Txt × Int := if i < 0 ∨ (l.length : Int) ≤ i then (l, 91) else aAdd room l (l.getD i.toNat ⟨#[]⟩)
theorem add_any (w : World) (b : Nat) (room : Int) (v : Value) (l : List Txt) (h : PP w b room v l) (hr : room ≤ 200) (hl : (l.length : Int) ≤ room) (s : Txt) :
    Calls Try.prog 26 #[.pointer (some ⟨b, 0, none⟩), .string s] w fun e w' => e = .returned (.int .i64 (aAdd room l s).2) ∧ POk w b room v (aAdd room l s).1 w' := by
  have hd : Below w.heap.size w w.drew := (Below.refl _ _).drew
  have hP := pp_below h hd
  have C : Hid (Calls Try.prog 21 #[.pointer (some ⟨b, 1, none⟩)] w.drew fun e w' => e = .returned (.int .i64 (l.length : Int)) ∧ w' = w.drew) := rcount_any _ b room v l hP
  have c0 := hP.room
  unfold aAdd
  by_cases hf : room ≤ (l.length : Int)
  · rw [if_pos hf]
    have d : decide (room ≤ (l.length : Int)) = true := by simpa using hf
    have H : Hid (PP w.drew b room v l) := hP
    clear h hP
    go_enter Try.func26, Try.ntmps26
    go_wp2_with fail
    go_region_held3 (fun w' => w' = w.drew) (go_keep) (first | (go_at_call 21; refine C.out.mono ?_; rintro e w2 ⟨rfl, rfl⟩))
    go_wp2
    go_ret
    exact ⟨rfl, v, H.out, chg_below hd, fun k hk => Or.inl hk⟩
  · rw [if_neg hf]
    have d : decide (room ≤ (l.length : Int)) = false := by simpa using hf
    have A1 : Hid (Calls Try.prog 31 #[.pointer (some ⟨b, 1, none⟩), .string s] w.drew fun e w' => e = .returned (.tuple #[]) ∧ POk w.drew b room v (l ++ [s]) w') := radd_any _ b room v l hP (by omega) s
    clear h hP
    go_enter Try.func26, Try.ntmps26
    go_wp2_with fail
    go_region_held3 (fun w' => w' = w.drew) (go_keep) (first | (go_at_call 21; refine C.out.mono ?_; rintro e w2 ⟨rfl, rfl⟩))
    go_wp2_with fail
    refine A1.out.mono ?_
    rintro e w2 ⟨rfl, v', k1, k2, k3⟩
    have HW : Hid (POk w b room v (l ++ [s]) w2) := ⟨v', k1, (chg_below hd).trans k2 (fun _ _ h => h), k3⟩
    clear k1 k2 k3 A1
    go_wp2
    go_ret
    exact ⟨rfl, HW.out⟩
theorem send_any (w : World) (b : Nat) (room : Int) (v : Value) (l : List Txt) (h : PP w b room v l) (hr : room ≤ 200) (hl : (l.length : Int) ≤ room) (s : Txt) :
    Calls Try.prog 17 #[.pointer (some ⟨b, 0, none⟩), .string s] w fun e w' => e = .returned (.int .i64 (aSend room l s).2) ∧ POk w b room v (aSend room l s).1 w' := by
  have A1 : Hid (Calls Try.prog 26 #[.pointer (some ⟨b, 0, none⟩), .string s] w fun e w' => e = .returned (.int .i64 (aAdd room l s).2) ∧ POk w b room v (aAdd room l s).1 w') := add_any w b room v l h hr hl s
  have H : Hid (PP w b room v l) := h
  unfold aSend
  clear h
  by_cases hf : 2000 < s.size
  · rw [if_pos hf]
    have d : decide ((2000 : Int) < (s.size : Int)) = true := by simp; omega
    go_enter Try.func17, Try.ntmps17
    go_wp2
    go_ret
    exact ⟨rfl, v, H.out, Chg.refl _ _, fun k hk => Or.inl hk⟩
  · rw [if_neg hf]
    have d : decide ((2000 : Int) < (s.size : Int)) = false := by simp; omega
    generalize (aAdd room l s).1 = l' at *
    generalize (aAdd room l s).2 = n at *
    clear H
    go_enter Try.func17, Try.ntmps17
    go_wp2_with fail
    refine A1.out.mono ?_
    rintro e w2 ⟨rfl, hok⟩
    have HW : Hid (POk w b room v l' w2) := hok
    clear hok
    go_wp2
    go_ret
    exact ⟨rfl, HW.out⟩
theorem take_any (w : World) (b : Nat) (room : Int) (v : Value) (l : List Txt) (h : PP w b room v l) (hr : l.length ≤ 200) (i : Int) :
    Calls Try.prog 18 #[.pointer (some ⟨b, 0, none⟩), .int .i64 i] w fun e w' => e = .returned (.tuple #[.string (aTake l i).2.1, .int .i64 (aTake l i).2.2]) ∧ POk w b room v (aTake l i).1 w' := by
  have H : Hid (PP w b room v l) := h
  unfold aTake
  by_cases hf : i < 0 ∨ (l.length : Int) ≤ i
  · rw [if_pos hf]
    have A1 : Hid (Calls Try.prog 27 #[.pointer (some ⟨b, 1, none⟩), .int .i64 i] w fun e w' => e = .returned (.bool false) ∧ w' = w) := rhas_no w b room v l h i hf
    clear h hf
    go_enter Try.func18, Try.ntmps18
    go_wp2_with fail
    refine A1.out.mono ?_
    rintro e w2 ⟨rfl, hw⟩
    rw [hw]
    go_wp2
    go_ret2
    exact ⟨rfl, v, H.out, Chg.refl _ _, fun k hk => Or.inl hk⟩
  · rw [if_neg hf]
    obtain ⟨k, rfl⟩ := Int.eq_ofNat_of_zero_le (show 0 ≤ i by omega)
    have hk : k < l.length := by omega
    have A1 : Hid (Calls Try.prog 27 #[.pointer (some ⟨b, 1, none⟩), .int .i64 (k : Int)] w fun e w' => e = .returned (.bool true) ∧ w' = w) := rhas_yes w b room v l h k hk
    have A2 : Hid (Calls Try.prog 28 #[.pointer (some ⟨b, 1, none⟩), .int .i64 (k : Int)] w fun e w' => e = .returned (.string l[k]) ∧ POk w b room v (l.eraseIdx k) w') := rtake_any w b room v l h k hk hr
    rw [Int.toNat_natCast, List.getD_eq_getElem?_getD, List.getElem?_eq_getElem hk, Option.getD_some]
    clear h hf H
    generalize l[k] = s at *
    generalize l.eraseIdx k = l' at *
    go_enter Try.func18, Try.ntmps18
    go_wp2_with fail
    refine A1.out.mono ?_
    rintro e w2 ⟨rfl, hw⟩
    rw [hw]; clear hw w2
    go_wp2_with fail
    refine A2.out.mono ?_
    rintro e w2 ⟨rfl, hok⟩
    have HW : Hid (POk w b room v l' w2) := hok
    clear hok
    go_wp2
    go_ret2
    exact ⟨rfl, HW.out⟩
theorem double_any (w : World) (b : Nat) (room : Int) (v : Value) (l : List Txt) (h : PP w b room v l) (hr : room ≤ 200) (hl : (l.length : Int) ≤ room) (i : Int) :
    Calls Try.prog 19 #[.pointer (some ⟨b, 0, none⟩), .int .i64 i] w fun e w' => e = .returned (.int .i64 (aDouble room l i).2) ∧ POk w b room v (aDouble room l i).1 w' := by
  have H : Hid (PP w b room v l) := h
  unfold aDouble
  by_cases hf : i < 0 ∨ (l.length : Int) ≤ i
  · rw [if_pos hf]
    have A1 : Hid (Calls Try.prog 27 #[.pointer (some ⟨b, 1, none⟩), .int .i64 i] w fun e w' => e = .returned (.bool false) ∧ w' = w) := rhas_no w b room v l h i hf
    clear h hf
    go_enter Try.func19, Try.ntmps19
    go_wp2_with fail
    refine A1.out.mono ?_
    rintro e w2 ⟨rfl, hw⟩
    rw [hw]
    go_wp2
    go_ret
    exact ⟨rfl, v, H.out, Chg.refl _ _, fun k hk => Or.inl hk⟩
  · rw [if_neg hf]
    obtain ⟨k, rfl⟩ := Int.eq_ofNat_of_zero_le (show 0 ≤ i by omega)
    have hk : k < l.length := by omega
    rw [Int.toNat_natCast, List.getD_eq_getElem?_getD, List.getElem?_eq_getElem hk, Option.getD_some]
    have A1 : Hid (Calls Try.prog 27 #[.pointer (some ⟨b, 1, none⟩), .int .i64 (k : Int)] w fun e w' => e = .returned (.bool true) ∧ w' = w) := rhas_yes w b room v l h k hk
    have A2 : Hid (Calls Try.prog 29 #[.pointer (some ⟨b, 1, none⟩), .int .i64 (k : Int)] w fun e w' => e = .returned (.string l[k]) ∧ w' = w) := rat_any w b room v l h k hk (by omega)
    have A3 : Hid (Calls Try.prog 26 #[.pointer (some ⟨b, 0, none⟩), .string l[k]] w fun e w' => e = .returned (.int .i64 (aAdd room l l[k]).2) ∧ POk w b room v (aAdd room l l[k]).1 w') := add_any w b room v l h hr hl l[k]
    clear h hf H
    generalize (aAdd room l l[k]).1 = l' at *
    generalize (aAdd room l l[k]).2 = n at *
    generalize l[k] = s at *
    go_enter Try.func19, Try.ntmps19
    go_wp2_with fail
    refine A1.out.mono ?_
    rintro e w2 ⟨rfl, hw⟩
    rw [hw]; clear hw w2
    go_wp2_with fail
    refine A2.out.mono ?_
    rintro e w2 ⟨rfl, hw⟩
    rw [hw]; clear hw w2
    go_wp2_with fail
    refine A3.out.mono ?_
    rintro e w2 ⟨rfl, hok⟩
    have HW : Hid (POk w b room v l' w2) := hok
    clear hok
    go_wp2
    go_ret
    exact ⟨rfl, HW.out⟩
theorem new_yes (w : World) (room : Int) (h1 : 1 ≤ room) (h2 : room ≤ 200) : Calls Try.prog 7 #[.int .i64 room] w fun e w' => e = .returned (.tuple #[.pointer (some ⟨w.heap.size, 0, none⟩), .int .i64 0]) ∧ PP w' w.heap.size room (.slice none 0 0) [] ∧ Below w.heap.size w w' := by
  have d1 : decide (room < 1) = false := by simp; omega
  have d2 : decide (200 < room) = false := by simp; omega
  go_enter Try.func7, Try.ntmps7
  go_wp2
  go_ret2
  exact ⟨rfl, ⟨by simp, by simp, by simp, World.ownsRow_nil _ _ _ _, by simp [Value.ownBlock]⟩, (Below.refl _ _).alloc (Nat.le_refl _) _⟩
theorem new_no (w : World) (room : Int) (h : room < 1 ∨ 200 < room) : Calls Try.prog 7 #[.int .i64 room] w fun e w' => e = .returned (.tuple #[.pointer none, .int .i64 1]) ∧ w' = w := by
  by_cases h1 : room < 1
  · have d1 : decide (room < 1) = true := by simpa using h1
    clear h
    go_enter Try.func7, Try.ntmps7
    go_wp2
    go_ret2
    exact ⟨rfl, rfl⟩
  · have d1 : decide (room < 1) = false := by simpa using h1
    have d2 : decide (200 < room) = true := by simp; omega
    clear h
    go_enter Try.func7, Try.ntmps7
    go_wp2
    go_ret2
    exact ⟨rfl, rfl⟩
end Go.Proofs.Ytlhbkbjpdpofnaa
