/- The walks of the document's pool. -/
import Derived.Test.YtlhbkbjpdpofnaaPoolW
import Derived.Deep.AppendLies
set_option linter.unusedVariables false
set_option maxRecDepth 100000
namespace Go.Proofs.Ytlhbkbjpdpofnaa
open Go.RowKit

theorem refLen_any (w : World) (b : Nat) (room : Int) (v : Value) (l : List Txt) (h : PP w b room v l) :
    Calls Try.prog 16 #[.pointer (some ⟨b, 0, none⟩)] w fun e w' => e = .returned (.int .i64 (l.length : Int)) ∧ w' = w := by
  obtain ⟨ao, cap, hv, _⟩ := own_form h.row
  have h1 := h.cell
  rw [hv] at h1
  clear h hv
  go_enter Try.func16, Try.ntmps16
  go_wp2
  go_ret
  exact ⟨rfl, rfl⟩
theorem refNew_yes (w : World) (room : Int) (h1 : 1 ≤ room) (h2 : room ≤ 200) : Calls Try.prog 8 #[.int .i64 room] w fun e w' => e = .returned (.tuple #[.pointer (some ⟨w.heap.size, 0, none⟩), .int .i64 0]) ∧ PP w' w.heap.size room (.slice none 0 0) [] ∧ Below w.heap.size w w' := by
  have d1 : decide (room < 1) = false := by simp; omega
  have d2 : decide (200 < room) = false := by simp; omega
  go_enter Try.func8, Try.ntmps8
  go_wp2
  go_ret2
  exact ⟨rfl, ⟨by simp, by simp, by simp, World.ownsRow_nil _ _ _ _, by simp [Value.ownBlock]⟩, (Below.refl _ _).alloc (Nat.le_refl _) _⟩
theorem refNew_no (w : World) (room : Int) (h : room < 1 ∨ 200 < room) : Calls Try.prog 8 #[.int .i64 room] w fun e w' => e = .returned (.tuple #[.pointer none, .int .i64 1]) ∧ w' = w := by
  by_cases h1 : room < 1
  · have d1 : decide (room < 1) = true := by simpa using h1
    clear h
    go_enter Try.func8, Try.ntmps8
    go_wp2
    go_ret2
    exact ⟨rfl, rfl⟩
  · have d1 : decide (room < 1) = false := by simpa using h1
    have d2 : decide (200 < room) = true := by simp; omega
    clear h
    go_enter Try.func8, Try.ntmps8
    go_wp2
    go_ret2
    exact ⟨rfl, rfl⟩
theorem refAll_any (w : World) (b : Nat) (room : Int) (v : Value) (l : List Txt) (h : PP w b room v l) (hl : l.length ≤ 200) :
    Calls Try.prog 15 #[.pointer (some ⟨b, 0, none⟩)] w fun e w' => AllOk w l e w' := by
  obtain ⟨i0, hi, hz0, hz1, hz2⟩ := info_parts infoS
  obtain ⟨ao, cap, rfl, h1, h2, h3⟩ := own_form h.row
  have hsrc : (ao = none ∧ l.length = 0 ∧ cap = 0) ∨ ∃ ad, ao = some ad ∧ ∀ j u, (sv l)[j]? = some u → w.cell? (ad.add j) = some u := by
    cases ao with
    | none => exact Or.inl ⟨rfl, h2 rfl⟩
    | some p =>
      obtain ⟨g, rfl, hB, hg, hc, hf, hcm⟩ := h3 p rfl
      refine Or.inr ⟨_, rfl, fun j u hu => ?_⟩
      have hj : j < l.length := by rw [← sv_len]; exact (List.getElem?_eq_some_iff.1 hu).1
      rw [Addr.add_lit, Nat.zero_add, hc j (by omega)]
      exact hu
  have h0 : w.ownsRow w.heap.size 9 1 (.slice none 0 0) 0 [] := World.ownsRow_nil _ _ _ _
  have cb := h.cell
  clear h h1 h2 h3
  go_enter Try.func15, Try.ntmps15
  go_wp2_with (at_builtin; refine wpList_append_any _ rfl _ _ 30 rfl w.heap.size 9 i0 (.string ⟨#[]⟩) 1 16 Try.underlying30 hi hz0 hz1 hz2 rfl (by decide) w (Below.refl _ _) (Nat.le_refl _) _ 0 [] rfl h0 ao l.length cap (sv l) rfl (by rw [sv_len, Nat.mul_one]) hsrc (sv_one _) (by unfold maxLen; omega) (by omega) ?_)
  intro ao' cap' w2 k1 k2 k3
  have HK : Hid (w2.ownsRow w.heap.size 9 1 (.slice ao' l.length cap') l.length (sv l)) := k1
  clear k1 hsrc h0
  go_wp2
  go_ret
  exact ⟨_, rfl, HK.out, k2⟩
theorem refSend_any (w : World) (b : Nat) (room : Int) (v : Value) (l : List Txt) (h : PP w b room v l) (hr : room ≤ 200) (hl : (l.length : Int) ≤ room) (s : Txt) :
    Calls Try.prog 23 #[.pointer (some ⟨b, 0, none⟩), .string s] w fun e w' => e = .returned (.int .i64 (aSend room l s).2) ∧ POk w b room v (aSend room l s).1 w' := by
  obtain ⟨i0, hi, hz0, hz1, hz2⟩ := info_parts infoS
  have H : Hid (PP w b room v l) := h
  unfold aSend aAdd
  by_cases hf : 2000 < s.size
  · rw [if_pos hf]
    have d : decide ((2000 : Int) < (s.size : Int)) = true := by simp; omega
    clear h
    go_enter Try.func23, Try.ntmps23
    go_wp2
    go_ret
    exact ⟨rfl, v, H.out, Chg.refl _ _, fun k hk => Or.inl hk⟩
  · rw [if_neg hf]
    have d : decide ((2000 : Int) < (s.size : Int)) = false := by simp; omega
    obtain ⟨ao, cap, rfl, _⟩ := own_form h.row
    have c0 := h.room
    have c1 := h.cell
    have c2 := h.free
    by_cases hg : room ≤ (l.length : Int)
    · rw [if_pos hg]
      have d2 : decide (room ≤ (l.length : Int)) = true := by simpa using hg
      clear h
      go_enter Try.func23, Try.ntmps23
      go_wp2_with fail
      go_quiet (fail)
      go_wp2
      go_ret
      exact ⟨rfl, _, pp_below H.out (below_drewN (Below.refl _ _) _), chg_below (below_drewN (Below.refl _ _) _), fun k hk => Or.inl hk⟩
    · rw [if_neg hg]
      have d2 : decide (room ≤ (l.length : Int)) = false := by simpa using hg
      have hl2 : l.length < 200 := by omega
      have HO : Hid (∀ q, (w.drewN q).ownsRow 0 9 1 (.slice ao l.length cap) l.length (sv l)) := fun q => own_below h.row (below_drewN (Below.refl _ _) q)
      clear h
      go_enter Try.func23, Try.ntmps23
      go_wp2_with fail
      go_quiet (fail)
      go_wp2_with (at_builtin; refine wpList_append_more _ rfl _ _ 30 rfl 0 9 i0 (.string ⟨#[]⟩) 1 16 Try.underlying30 hi hz0 hz1 hz2 rfl (by decide) _ l.length (sv l) rfl ((HO.out _).alloc _) ⟨_, 0, none⟩ 1 1 [.string s] rfl rfl (one_new _ _ _) (one_str _) (by decide) (by unfold maxLen; omega) (by omega) ?_)
      intro g' cap' w2 hown2 hwh hch
      have hch' : Chg (fun k => (Value.slice ao l.length cap).ownBlock = some k) w w2 := (chg_below ((below_drewN (Below.refl _ _) _).alloc (by simp) _)).trans hch (fun j _ e => e)
      obtain ⟨⟨c2, f2⟩, hok⟩ := pok_set (l' := l ++ [s]) (ao := some ⟨g', 0, none⟩) (cap := cap') H.out hch' (by rw [sv_append, List.length_append]; exact hown2) (fun g hg => by
        obtain rfl : g' = g := by simpa [Value.ownBlock] using hg
        rcases hwh with e | e
        · exact Or.inl e
        · right; omega)
      rw [List.length_append] at hok
      have HW : Hid (POk w b room (.slice ao l.length cap) (l ++ [s]) (w2.setCell ⟨b, 1, none⟩ (.slice (some ⟨g', 0, none⟩) (l.length + 1) cap'))) := hok
      clear hown2 hch hch' hwh H hok HO
      go_wp2
      go_ret
      exact ⟨rfl, HW.out⟩

theorem erase_step {l : List Txt} {i k : Nat} (hk : k < l.length) (h : k ≠ i) : (l.take k).eraseIdx i ++ [l[k]] = (l.take (k + 1)).eraseIdx i := by
  rw [List.take_succ_eq_append_getElem hk]
  by_cases hi : i < k
  · rw [List.eraseIdx_append_of_lt_length (by simp; omega)]
  · rw [List.eraseIdx_of_length_le (by simp; omega), List.eraseIdx_of_length_le (by simp; omega)]
theorem erase_skip {l : List Txt} {k : Nat} (hk : k < l.length) : (l.take k).eraseIdx k = (l.take (k + 1)).eraseIdx k := by
  rw [List.take_succ_eq_append_getElem hk, List.eraseIdx_append_of_length_le (by simp; omega), List.eraseIdx_of_length_le (by simp; omega)]
  simp [Nat.min_eq_left (Nat.le_of_lt hk)]
theorem erase_len (l : List Txt) (i k : Nat) : ((l.take k).eraseIdx i).length ≤ k := by
  have := List.length_eraseIdx_le (l.take k) i
  rw [List.length_take] at this
  omega
set_option maxHeartbeats 1000000 in
theorem refTake_any (w : World) (b : Nat) (room : Int) (v : Value) (l : List Txt) (h : PP w b room v l) (hl : l.length ≤ 200) (i : Int) :
    Calls Try.prog 24 #[.pointer (some ⟨b, 0, none⟩), .int .i64 i] w fun e w' => e = .returned (.tuple #[.string (aTake l i).2.1, .int .i64 (aTake l i).2.2]) ∧ POk w b room v (aTake l i).1 w' := by
  obtain ⟨i0, hi, hz0, hz1, hz2⟩ := info_parts infoS
  have H : Hid (PP w b room v l) := h
  obtain ⟨ao, cap, rfl, hc, _, hr⟩ := srow_own h.row
  have HR : Hid (∀ j, (h : j < l.length) → ∃ g o, ao = some ⟨g, o, none⟩ ∧ g < w.heap.size ∧ w.cell? ⟨g, o + j, none⟩ = some (.string l[j])) := hr
  have c1 := h.cell
  have hbl := h.lt
  unfold aTake
  clear h hr
  by_cases hf : i < 0
  · rw [if_pos (Or.inl hf)]
    have d : decide (i < 0) = true := by simpa using hf
    go_enter Try.func24, Try.ntmps24
    go_wp2
    go_ret2
    exact ⟨rfl, _, H.out, Chg.refl _ _, fun k hk => Or.inl hk⟩
  · have d : decide (i < 0) = false := by simpa using hf
    by_cases hg : (l.length : Int) ≤ i
    · rw [if_pos (Or.inr hg)]
      have d2 : decide ((l.length : Int) ≤ i) = true := by simpa using hg
      go_enter Try.func24, Try.ntmps24
      go_wp2
      go_ret2
      exact ⟨rfl, _, H.out, Chg.refl _ _, fun k hk => Or.inl hk⟩
    · rw [if_neg (by omega)]
      obtain ⟨n, rfl⟩ := Int.eq_ofNat_of_zero_le (show 0 ≤ i by omega)
      have hn : n < l.length := by omega
      rw [Int.toNat_natCast, List.getD_eq_getElem?_getD, List.getElem?_eq_getElem hn, Option.getD_some]
      have d2 : decide ((l.length : Int) ≤ (n : Int)) = false := by simpa using hg
      have d3 : (n : Int) < (l.length : Int) := by omega
      have d5 : ¬ l.length ≤ n := by omega
      have d6 : decide (l.length ≤ n) = false := by simpa using d5
      obtain ⟨g, o, rfl, hgl, cn⟩ := HR.out n hn
      obtain ⟨S0, hS0⟩ : ∃ S0, S0 = l[n] := ⟨_, rfl⟩
      rw [← hS0] at cn ⊢
      clear hS0 hf hg
      go_enter Try.func24, Try.ntmps24
      go_wp2_with fail
      go_loopw [7, 8] (fun r k wr => ∃ (q : Nat) (ra : Option Addr) (rc : Nat), q ≤ l.length ∧ k = .int .i64 (q : Int) ∧ r = .slice ra ((l.take q).eraseIdx n).length rc ∧ Hid (wr.ownsRow w.heap.size 9 1 (.slice ra ((l.take q).eraseIdx n).length rc) ((l.take q).eraseIdx n).length (sv ((l.take q).eraseIdx n))) ∧ Hid (Below w.heap.size w wr)) (fun _ k _ => l.length - (intOf k).toNat)
      case atStart =>
        have e0 : (l.take 0).eraseIdx n = [] := by simp
        refine ⟨0, none, 0, Nat.zero_le _, rfl, by rw [e0]; rfl, ?_, Below.refl _ _⟩
        rw [e0]
        exact World.ownsRow_nil _ _ _ _
      case round =>
        obtain ⟨q, ra, rc, hq, rfl, rfl, HO, HB⟩ := hrel
        have e1 : wr.cell? ⟨b, 1, none⟩ = some (.slice (some ⟨g, o, none⟩) l.length cap) := (HB.out.cell (p := ⟨b, 1, none⟩) hbl).trans c1
        by_cases hlt : q < l.length
        · have i1 : (q : Int) < (l.length : Int) := by omega
          by_cases hqn : q = n
          · subst hqn
            have HE : Hid ((l.take q).eraseIdx q = (l.take (q + 1)).eraseIdx q) := erase_skip hlt
            have HO' : Hid (wr.ownsRow w.heap.size 9 1 (.slice ra ((l.take q).eraseIdx q).length rc) ((l.take (q + 1)).eraseIdx q).length (sv ((l.take (q + 1)).eraseIdx q))) := by rw [← HE.out]; exact HO
            clear HO cn
            go_wp2
            exact ⟨⟨q + 1, ra, rc, by omega, by go_num, by rw [HE.out], by rw [← HE.out]; rw [← HE.out] at HO'; exact HO', HB⟩, by simp [intOf]; omega⟩
          · obtain ⟨g', o', he, _, cq⟩ := HR.out q hlt
            cases he
            have cq' : wr.cell? ⟨g, o + q, none⟩ = some (.string l[q]) := (HB.out.cell (p := ⟨g, o + q, none⟩) hgl).trans cq
            have HE : Hid ((l.take q).eraseIdx n ++ [l[q]] = (l.take (q + 1)).eraseIdx n) := erase_step hlt hqn
            have dq : ¬ (q : Int) = (n : Int) := by omega
            have dq' : decide ((q : Int) = (n : Int)) = false := by simpa using dq
            have dq2 : ((q : Int) == (n : Int)) = false := by simpa using dq
            have dq3 : ((q : Int) != (n : Int)) = true := by simpa using dq
            have hle := erase_len l n q
            obtain ⟨R, hR⟩ : ∃ R, R = (l.take q).eraseIdx n := ⟨_, rfl⟩
            rw [← hR] at HO HE hle ⊢
            obtain ⟨R', hR'⟩ : ∃ R', R' = (l.take (q + 1)).eraseIdx n := ⟨_, rfl⟩
            rw [← hR'] at HE
            have HR' : Hid (R' = (l.take (q + 1)).eraseIdx n) := hR'
            generalize l[q] = sq at *
            clear hR hR' cq cn
            go_wp2_with (at_builtin; refine wpList_append_any _ rfl _ _ 30 rfl w.heap.size 9 i0 (.string ⟨#[]⟩) 1 16 Try.underlying30 hi hz0 hz1 hz2 rfl (by decide) w (HB.out.alloc HB.out.size _) (by have := HB.out.size; simp; omega) _ R.length (sv R) rfl (HO.out.alloc _) (some ⟨_, 0, none⟩) 1 1 [.string sq] rfl rfl (Or.inr ⟨_, rfl, one_new _ _ _⟩) (one_str _) (by unfold maxLen; omega) (by omega) ?_)
            intro ao' cap' w2 k1 k2 k3
            have HO' : Hid (w2.ownsRow w.heap.size 9 1 (.slice ao' R'.length cap') R'.length (sv R')) := by rw [← HE.out, sv_append, List.length_append]; exact k1
            have hlen : R.length + 1 = R'.length := by rw [← HE.out]; simp
            have HB2 : Hid (Below w.heap.size w w2) := k2
            clear k1 k2 HO HB HE
            rw [hlen]
            go_wp2
            exact ⟨⟨q + 1, ao', cap', by omega, by go_num, by rw [← HR'.out], by rw [← HR'.out]; exact HO', HB2⟩, by simp [intOf]; omega⟩
        · obtain rfl : q = l.length := by omega
          have HO' : Hid (wr.ownsRow w.heap.size 9 1 (.slice ra ((l.take l.length).eraseIdx n).length rc) (l.eraseIdx n).length (sv (l.eraseIdx n))) := by rw [List.take_length] at HO ⊢; exact HO
          rw [List.take_length] at HO' ⊢
          obtain ⟨⟨c2, f2⟩, hok⟩ := pok_set (l' := l.eraseIdx n) (ao := ra) (cap := rc) H.out (chg_below HB.out) (own_base HO'.out (Nat.zero_le _)) (fun g1 hg1 => Or.inr (HO'.out.lt g1 hg1).1)
          have HW : Hid (POk w b room (.slice (some ⟨g, o, none⟩) l.length cap) (l.eraseIdx n) (wr.setCell ⟨b, 1, none⟩ (.slice ra (l.eraseIdx n).length rc))) := hok
          clear hok HO HO' HB HR cn
          go_wp2
          go_ret2
          exact ⟨rfl, HW.out⟩
set_option maxHeartbeats 1000000 in
theorem refDouble_any (w : World) (b : Nat) (room : Int) (v : Value) (l : List Txt) (h : PP w b room v l) (hr : room ≤ 200) (hl : (l.length : Int) ≤ room) (i : Int) :
    Calls Try.prog 25 #[.pointer (some ⟨b, 0, none⟩), .int .i64 i] w fun e w' => e = .returned (.int .i64 (aDouble room l i).2) ∧ POk w b room v (aDouble room l i).1 w' := by
  obtain ⟨i0, hi, hz0, hz1, hz2⟩ := info_parts infoS
  have H : Hid (PP w b room v l) := h
  obtain ⟨ao, cap, rfl, hc, _, hr2⟩ := srow_own h.row
  have HR : Hid (∀ j, (h : j < l.length) → ∃ g o, ao = some ⟨g, o, none⟩ ∧ g < w.heap.size ∧ w.cell? ⟨g, o + j, none⟩ = some (.string l[j])) := hr2
  have HOW : Hid (w.ownsRow 0 9 1 (.slice ao l.length cap) l.length (sv l)) := h.row
  have c0 := h.room
  have c1 := h.cell
  have c1f := h.free
  have hbl := h.lt
  unfold aDouble aAdd
  clear h hr2
  by_cases hf : i < 0
  · rw [if_pos (Or.inl hf)]
    have d : decide (i < 0) = true := by simpa using hf
    go_enter Try.func25, Try.ntmps25
    go_wp2
    go_ret
    exact ⟨rfl, _, H.out, Chg.refl _ _, fun k hk => Or.inl hk⟩
  · have d : decide (i < 0) = false := by simpa using hf
    by_cases hg : (l.length : Int) ≤ i
    · rw [if_pos (Or.inr hg)]
      have d2 : decide ((l.length : Int) ≤ i) = true := by simpa using hg
      go_enter Try.func25, Try.ntmps25
      go_wp2
      go_ret
      exact ⟨rfl, _, H.out, Chg.refl _ _, fun k hk => Or.inl hk⟩
    · rw [if_neg (by omega)]
      obtain ⟨n, rfl⟩ := Int.eq_ofNat_of_zero_le (show 0 ≤ i by omega)
      have hn : n < l.length := by omega
      rw [Int.toNat_natCast, List.getD_eq_getElem?_getD, List.getElem?_eq_getElem hn, Option.getD_some]
      have d2 : decide ((l.length : Int) ≤ (n : Int)) = false := by simpa using hg
      have d3 : (n : Int) < (l.length : Int) := by omega
      have d5 : ¬ l.length ≤ n := by omega
      have d6 : decide (l.length ≤ n) = false := by simpa using d5
      obtain ⟨g, o, rfl, hgl, cn⟩ := HR.out n hn
      obtain ⟨S0, hS0⟩ : ∃ S0, S0 = l[n] := ⟨_, rfl⟩
      rw [← hS0] at cn ⊢
      clear hS0 hf hg
      by_cases hfu : room ≤ (l.length : Int)
      · rw [if_pos hfu]
        have d4 : decide (room ≤ (l.length : Int)) = true := by simpa using hfu
        go_enter Try.func25, Try.ntmps25
        go_wp2_with fail
        go_quiet (fail)
        go_wp2
        go_ret
        exact ⟨rfl, _, pp_below H.out (below_drewN (Below.refl _ _) _), chg_below (below_drewN (Below.refl _ _) _), fun k hk => Or.inl hk⟩
      · rw [if_neg hfu]
        have d4 : decide (room ≤ (l.length : Int)) = false := by simpa using hfu
        have hl2 : l.length < 200 := by omega
        have HN : Hid (∀ (wa w2 : World) (g' cap' : Nat), Below w.heap.size w wa → w2.ownsRow 0 9 1 (.slice (some ⟨g', 0, none⟩) (l.length + 1) cap') (l.length + 1) (sv l ++ [.string S0]) → wa.grownBy w2 (Value.slice (some ⟨g, o, none⟩) l.length cap).ownBlock → ((Value.slice (some ⟨g, o, none⟩) l.length cap).ownBlock = some g' ∨ g' = wa.heap.size) →
            (w2.cell? ⟨b, 1, none⟩ = some (.slice (some ⟨g, o, none⟩) l.length cap) ∧ w2.frozen? ⟨b, 1, none⟩ = false) ∧ POk w b room (.slice (some ⟨g, o, none⟩) l.length cap) (l ++ [S0]) (w2.setCell ⟨b, 1, none⟩ (.slice (some ⟨g', 0, none⟩) (l.length + 1) cap'))) := fun wa w2 g' cap' hb ho hgr hwh => by
          have := pok_set (l' := l ++ [S0]) (ao := some ⟨g', 0, none⟩) (cap := cap') H.out ((chg_below hb).trans (chg_grown hgr) (fun j _ e => e)) (by rw [sv_append, List.length_append]; exact ho) (fun g1 hg1 => by
            obtain rfl : g' = g1 := by simpa [Value.ownBlock] using hg1
            rcases hwh with e | e
            · exact Or.inl e
            · right; have := hb.size; omega)
          rw [List.length_append] at this
          exact this
        go_enter Try.func25, Try.ntmps25
        go_wp2_with fail
        go_quiet (fail)
        rename_i nq
        have hbd : ∀ o, Below w.heap.size w ((w.drewN (nq + 1)).alloc o) := fun o => (below_drewN (Below.refl _ _) _).alloc (by simp) _
        have HOd : Hid (∀ ob, ((w.drewN (nq + 1)).alloc ob).ownsRow 0 9 1 (.slice (some ⟨g, o, none⟩) l.length cap) l.length (sv l)) := fun ob => own_below HOW.out (hbd ob)
        have HNW : Hid (∀ j u, [Value.string S0][j]? = some u → ((w.drewN (nq + 1)).alloc (.cells #[.string S0] 9)).cell? ((⟨w.heap.size, 0, none⟩ : Addr).add j) = some u) := by
          have := one_new (w.drewN (nq + 1)) (.string S0) 9
          rw [show (w.drewN (nq + 1)).heap.size = w.heap.size by simp] at this
          exact this
        have cA : ∀ ob, ((w.drewN (nq + 1)).alloc ob).cell? ⟨b, 1, none⟩ = some (.slice (some ⟨g, o, none⟩) l.length cap) := fun ob => ((hbd ob).cell (p := ⟨b, 1, none⟩) hbl).trans c1
        have HBD : Hid (∀ o, Below w.heap.size w ((w.drewN (nq + 1)).alloc o)) := hbd
        clear hbd
        go_wp2_with fail
        go_region_law (refine step_append_lies _ rfl (.tmp 30) (.tmp 38) 30 rfl 0 9 i0 (.string ⟨#[]⟩) 1 16 Try.underlying30 hi hz0 hz1 hz2 rfl (by decide) (.slice (some ⟨g, o, none⟩) l.length cap) l.length (sv l) (by simp [Act.eval]) (HOd.out _) ⟨w.heap.size, 0, none⟩ 1 1 [.string S0] (by simp [Act.eval]) rfl HNW.out (one_str _) (by decide) (by unfold maxLen; omega) (by omega) (Nat.zero_le _) _ rfl ?_; intro g' cap' w2 ho2 hgr2 hwh2 hlt2; obtain ⟨⟨c2, f2⟩, hok⟩ := HN.out _ _ _ _ (HBD.out _) ho2 hgr2 hwh2; have HW : Hid (POk w b room (.slice (some ⟨g, o, none⟩) l.length cap) (l ++ [S0]) (w2.setCell ⟨b, 1, none⟩ (.slice (some ⟨g', 0, none⟩) (l.length + 1) cap'))) := hok; clear hok ho2 hgr2 hwh2)
        all_goals go_wp2
        all_goals go_ret
        all_goals exact ⟨rfl, Hid.out (by assumption)⟩
end Go.Proofs.Ytlhbkbjpdpofnaa
