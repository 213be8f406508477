/- live, and fit: a table that may be, out of raw numbers. -/
import Derived.Test.YteadnjagandkfaaLawW
set_option linter.unusedVariables false
set_option maxRecDepth 100000
namespace Go.Proofs.Yteadnjagandkfaa
open Go.RowKit
open WheelMath RetryMath
open Go.Maps (Keyed)

theorem irow_new (w : World) (xs : List Int) : IRow (w.alloc (.cells (xs.map fun n => Value.int .i64 n).toArray 3)) (.slice (some ⟨w.heap.size, 0, none⟩) xs.length xs.length) xs := by
  refine ⟨_, _, rfl, Nat.le_refl _, (fun e => by cases e), fun j hj => ⟨_, 0, rfl, by simp, ?_⟩⟩
  rw [Nat.zero_add, World.cell?_alloc_new]
  simp [hj]
theorem w355 : may [3, 5, 5] = true := by decide
theorem w24 : may [2, 4] = true := by decide
def A1 : Ws := begA [2, 4] 10 none0 1 0
theorem A1_is : begA [2, 4] 10 none0 1 0 = A1 := rfl
theorem beg1 : code (begOk none0 1 0) = 0 := by decide
theorem due1 : dueX A1 2 = [1] := by decide +kernel
theorem late1 : lateX A1 2 = [] := by decide +kernel
set_option maxHeartbeats 4000000 in
theorem live_any {B : Nat} {w wr : World} {rs : List Res} (h : Has B w rs wr) : Calls Try.prog 10 #[] wr fun e w' => e = .returned (.bool true) ∧ Has B w rs w' := by
  have H0 : Hid (Has B w rs (wr.alloc (.cells #[.int .i64 3, .int .i64 5, .int .i64 5] 3))) := h.below ((Below.refl _ _).alloc (Nat.le_refl _) _)
  have C1 : Hid (Calls Try.prog 11 #[.slice (some ⟨wr.heap.size, 0, none⟩) 3 3, .int .i64 9] (wr.alloc (.cells #[.int .i64 3, .int .i64 5, .int .i64 5] 3)) fun e w' => e = .returned (.tuple #[.int .i64 5, .int .i64 0]) ∧ Hid (Has B w rs w')) :=
    (delayF_any _ [3, 5, 5] (by decide) (irow_new wr [3, 5, 5]) 9 (by decide)).mono (fun e w' ⟨_, _, h3, hw⟩ => ⟨h3 w355 (by decide), by rw [hw]; exact H0⟩)
  have C2 : Hid (∀ wq, Has B w rs wq → Calls Try.prog 8 #[.slice (some ⟨wq.heap.size, 0, none⟩) 2 2, .int .i64 10] (wq.alloc (.cells #[.int .i64 2, .int .i64 4] 3)) fun e w' => ∃ q, e = .returned (.tuple #[.pointer (some ⟨q, 0, none⟩), .int .i64 0]) ∧ Hid (Has B w (RtR q [2, 4] 10 0 none0 :: rs) w')) := fun wq hq =>
    pNew_yes (hq.below ((Below.refl _ _).alloc (Nat.le_refl _) _)) _ [2, 4] (by decide) (irow_new wq [2, 4]) 10 w24 (by decide) (by decide)
  have C3 : Hid (∀ q wq, Has B w (RtR q [2, 4] 10 0 none0 :: rs) wq → Calls Try.prog 16 #[.pointer (some ⟨q, 0, none⟩), .int .i64 1, .int .i64 0] wq fun e w' => e = .returned (.int .i64 0) ∧ Hid (Has B w (RtR q [2, 4] 10 1 A1 :: rs) w')) := fun q wq hq => by
    have x := pBegin hq w24 (by decide) (by decide) (by decide) (by decide) 1 0 ⟨by decide, by decide⟩
    rw [beg1, A1_is, show (0 : Int) + 1 = 1 from rfl] at x
    exact x
  have C4 : Hid (∀ q wq, Has B w (RtR q [2, 4] 10 1 A1 :: rs) wq → Calls Try.prog 22 #[.pointer (some ⟨q, 0, none⟩), .int .i64 2] wq fun e w' => ∃ ai ci aj cj, e = .returned (.tuple #[.slice ai 1 ci, .slice aj 0 cj]) ∧ Hid (Has B w (IRowR (.slice ai 1 ci) [1] :: rs) w')) := fun q wq hq => by
    have x := pDue hq w24 (by decide) (by decide) 2
    rw [due1, late1] at x
    refine x.mono ?_
    rintro e w' ⟨ai, ci, aj, cj, he, hh⟩
    exact ⟨ai, ci, aj, cj, he, hh.drop.drop⟩
  have C5 : Hid (∀ wq ai ci, Has B w (IRowR (.slice ai 1 ci) [1] :: rs) wq → Calls Try.prog 24 #[.slice ai 1 ci, .slice (some ⟨wq.heap.size, 0, none⟩) 1 1] (wq.alloc (.cells #[.int .i64 1] 3)) fun e w' => e = .returned (.bool true) ∧ Hid (Has B w rs w')) := fun wq ai ci hq => by
    have hb : Has B w (IRowR (.slice ai 1 ci) [1] :: rs) (wq.alloc (.cells #[.int .i64 1] 3)) := hq.below ((Below.refl _ _).alloc (Nat.le_refl _) _)
    refine (same_yes _ _ _ [1] (by decide) (hb.irow List.mem_cons_self) (irow_new wq [1])).mono ?_
    rintro e w' ⟨he, hbb⟩
    exact ⟨he, (hb.below hbb).drop⟩
  clear h
  go_enter Try.func10, Try.ntmps10
  go_wp2_with fail
  refine C1.out.mono ?_
  rintro e w1 ⟨rfl, h1⟩
  have D2 := C2.out _ h1.out
  clear C2 C1
  go_wp2_with fail
  refine D2.mono ?_
  rintro e w2 ⟨q, rfl, h2⟩
  have D3 := C3.out _ _ h2.out
  clear D2 C3 h2 h1 H0
  go_wp2_with fail
  refine D3.mono ?_
  rintro e w3 ⟨rfl, h3⟩
  have D4 := C4.out _ _ h3.out
  clear D3 C4 h3
  go_wp2_with fail
  refine D4.mono ?_
  rintro e w4 ⟨ai, ci, aj, cj, rfl, h4⟩
  have D5 := C5.out _ _ _ h4.out
  clear D4 C5 h4
  go_wp2_with fail
  refine D5.mono ?_
  rintro e w5 ⟨rfl, h5⟩
  clear D5
  go_wp2
  go_ret
  exact ⟨rfl, h5.out⟩

theorem mayFrom_snoc : ∀ (l : List Int) (a z t : Int), mayFrom a (l ++ [z]) = true → z ≤ t → t ≤ 1000 → mayFrom a (l ++ [z] ++ [t]) = true
  | [], a, z, t, h, h1, h2 => by
    simp only [List.nil_append, mayFrom, Bool.and_true, List.cons_append, Bool.and_eq_true, Bool.not_eq_true', Bool.or_eq_false_iff, decide_eq_false_iff_not] at h ⊢
    omega
  | x :: l, a, z, t, h, h1, h2 => by
    simp only [List.cons_append, mayFrom, Bool.and_eq_true] at h ⊢
    exact ⟨h.1, mayFrom_snoc l x z t h.2 h1 h2⟩
theorem may_snoc {m : List Int} {M : Nat} (hM : m.length = M + 1) (h : may m = true) (h8 : m.length < 8) {t : Int} (h1 : m[M]'(by omega) ≤ t) (h2 : t ≤ 1000) : may (m ++ [t]) = true := by
  have hne : m ≠ [] := fun e => by rw [e] at hM; simp at hM
  have hs : m = m.dropLast ++ [m[M]'(by omega)] := by
    have := (List.dropLast_concat_getLast hne).symm
    rw [List.getLast_eq_getElem] at this
    simpa [hM] using this
  simp only [may, Bool.and_eq_true, Bool.not_eq_true', Bool.or_eq_false_iff, decide_eq_false_iff_not, List.length_append, List.length_singleton] at h ⊢
  refine ⟨by omega, ?_⟩
  have h3 := h.2
  generalize hz : m[M]'(by omega) = z at *
  rw [hs] at h3 ⊢
  exact mayFrom_snoc _ 1 z t h3 h1 h2
set_option maxHeartbeats 8000000 in
theorem fit_any {w wr : World} {rs : List Res} (h : Has w.heap.size w rs wr) (v : Value) (raw : List Int) (hl : raw.length ≤ 140737488355328) (hz : ∀ x ∈ raw, I64 x) (hr : IRow w v raw) :
    Calls Try.prog 13 #[v] wr fun e w' => ∃ tab ao cap, may tab = true ∧ e = .returned (.slice ao tab.length cap) ∧ Has w.heap.size w (IRowR (.slice ao tab.length cap) tab :: rs) w' := by
  obtain ⟨i0, hi, hz0, hz1, hz2⟩ := info_parts infoI
  have HR : Hid (∀ wq rs, Has w.heap.size w rs wq → IRow wq v raw) := fun wq rs hq => irow_below hr hq.bel
  have C1 : Hid (∀ wq, Calls Try.prog 14 #[.int .i64 (raw.length : Int), .int .i64 4] wq fun e w' => e = .returned (.int .i64 (pick (raw.length : Int) 4 : Int)) ∧ w' = wq) := fun wq => pick_any (raw.length : Int) 4 (by decide) (by decide) (by omega) wq
  have hp4 := pick_lt (raw.length : Int) 4 (by decide)
  have HS : Hid (Has w.heap.size w (IRowR (.slice (some ⟨wr.heap.size, 0, none⟩) 1 1) [1 + (pick (raw.length : Int) 4 : Int)] :: rs) (wr.alloc (.cells #[.int .i64 (1 + (pick (raw.length : Int) 4 : Int))] 3))) := by
    refine h.row (t := 3) (size := 1) (n := 1) (xs := [.int .i64 (1 + (pick (raw.length : Int) 4 : Int))]) ?_ ((Below.refl _ _).alloc (Nat.le_refl _) _)
    exact ⟨rfl, Or.inr ⟨wr.heap.size, 1, #[.int .i64 (1 + (pick (raw.length : Int) 4 : Int))], rfl, Nat.le_refl _, heap_new wr _, Nat.le_refl _, by unfold maxLen; omega, rfl, rfl⟩⟩
  have HM0 : Hid (may [1 + (pick (raw.length : Int) 4 : Int)] = true) := by
    have x : may [1 + (pick (raw.length : Int) 4 : Int)] = true := by
      simp only [may, mayFrom, Bool.and_true, List.length_singleton, Bool.and_eq_true, Bool.not_eq_true', Bool.or_eq_false_iff, decide_eq_false_iff_not]
      omega
    exact x
  have HZ : Hid (∀ j, (h : j < raw.length) → I64 raw[j]) := fun j hj => hz _ (List.getElem_mem hj)
  have hwr0 : IntKind.i64.wrap (1 + (pick (raw.length : Int) 4 : Int)) = 1 + (pick (raw.length : Int) 4 : Int) := by rw [IntKind.wrap_i64] <;> omega
  obtain ⟨ar, cr, rfl, hcr, _, _⟩ := hr
  clear h hz
  go_enter Try.func13, Try.ntmps13
  go_wp2_with fail
  refine (C1.out _).mono ?_
  rintro e w1 ⟨rfl, hw⟩
  rw [hw]
  clear hw w1 C1
  generalize pick (raw.length : Int) 4 = p4 at *
  go_wp2_with fail
  go_loopw [3, 4] (fun ov iv wq => ∃ (k : Nat) (m : List Int) (ao : Option Addr) (cap : Nat), k ≤ raw.length ∧ m.length ≤ 8 ∧ iv = .int .i64 (k : Int) ∧ ov = .slice ao m.length cap ∧ Hid (may m = true) ∧ Hid (Has w.heap.size w (IRowR (.slice ao m.length cap) m :: rs) wq)) (fun _ iv _ => raw.length - (intOf iv).toNat)
  case atStart => exact ⟨0, _, _, _, Nat.zero_le _, by simp, rfl, rfl, HM0, HS⟩
  case round =>
    obtain ⟨k, m, ao, cap, hk, hm8, rfl, rfl, HM, H⟩ := hrel
    clear HS HM0
    by_cases hlt : k < raw.length
    · have hltI : (k : Int) < (raw.length : Int) := by omega
      by_cases h8 : m.length < 8
      · have h8I : (m.length : Int) < 8 := by omega
        have d8 : decide ((m.length : Int) < 8) = true := by simpa using h8I
        obtain ⟨M, hM⟩ : ∃ M, m.length = M + 1 := ⟨m.length - 1, by have := (may_bounds HM.out).1; omega⟩
        obtain ⟨_, _, e1, _, _, hra⟩ := HR.out _ _ H.out
        cases e1
        obtain ⟨gr, orr, rfl, _, c1⟩ := hra k hlt
        obtain ⟨_, _, e2, hmc, _, hma⟩ := H.out.irow (v := .slice ao m.length cap) (xs := m) List.mem_cons_self
        cases e2
        obtain ⟨g, o, rfl, hgl, c2⟩ := hma M (by omega)
        have hzb := (may_bounds HM.out).2.2 _ (List.getElem_mem (l := m) (show M < m.length by omega))
        have hx := HZ.out k hlt
        have hpk := pick_lt raw[k] 6 (by decide)
        have CP : Hid (∀ wq, Calls Try.prog 14 #[.int .i64 raw[k], .int .i64 6] wq fun e w' => e = .returned (.int .i64 (pick raw[k] 6 : Int)) ∧ w' = wq) := fun wq => pick_any raw[k] 6 (by decide) (by decide) hx wq
        have HN : Hid (∀ t, t = min (m[M]'(by omega) + (pick raw[k] 6 : Int)) 1000 → may (m ++ [t]) = true) := fun t ht => may_snoc hM HM.out h8 (by omega) (by omega)
        have HG : Hid (∀ (wa w2 : World) (g' cap' : Nat) (t : Int), Has w.heap.size w (IRowR (.slice (some ⟨g, o, none⟩) m.length cap) m :: rs) wa → w2.ownsRow 0 3 1 (.slice (some ⟨g', 0, none⟩) (m.length + 1) cap') (m.length + 1) ((m.map fun n => Value.int .i64 n) ++ [.int .i64 t]) → wa.grownBy w2 (Value.slice (some ⟨g, o, none⟩) m.length cap).ownBlock → ((Value.slice (some ⟨g, o, none⟩) m.length cap).ownBlock = some g' ∨ g' = wa.heap.size) →
            Has w.heap.size w (IRowR (.slice (some ⟨g', 0, none⟩) (m ++ [t]).length cap') (m ++ [t]) :: rs) w2) := fun wa w2 g' cap' t ha ho hgr hwh => by
          have hlen : (m ++ [t]).length = m.length + 1 := by simp
          rw [hlen]
          have x := ha.grow (v' := .slice (some ⟨g', 0, none⟩) (m.length + 1) cap') (m := m.length + 1) (ys := (m.map fun n => Value.int .i64 n) ++ [.int .i64 t]) ho (fun g1 hg1 => by
            have : g' = g1 := by simpa [Value.ownBlock] using hg1
            subst this
            rcases hwh with e | e
            · exact Or.inl e
            · right; omega) (chg_grown hgr)
          have e2 : (m ++ [t]).map (fun n => Value.int .i64 n) = (m.map fun n => Value.int .i64 n) ++ [.int .i64 t] := by simp
          show Has w.heap.size w (OwnR 3 1 _ (m ++ [t]).length ((m ++ [t]).map fun n => Value.int .i64 n) :: rs) w2
          rw [hlen, e2]
          exact x
        have HO : Hid (∀ ob, ((wr.drew).alloc ob).ownsRow 0 3 1 (.slice (some ⟨g, o, none⟩) m.length cap) m.length (m.map fun n => Value.int .i64 n)) := fun ob => own_below (H.out.own (t := 3) (size := 1) List.mem_cons_self) ((Below.refl _ _).drew.alloc (by simp) _)
        have HA : Hid (∀ ob, Has w.heap.size w (IRowR (.slice (some ⟨g, o, none⟩) m.length cap) m :: rs) ((wr.drew).alloc ob)) := fun ob => H.out.below ((Below.refl _ _).drew.alloc (by simp) _)
        have HNW : Hid (∀ t j u, [Value.int .i64 t][j]? = some u → ((wr.drew).alloc (.cells #[.int .i64 t] 3)).cell? ((⟨wr.heap.size, 0, none⟩ : Addr).add j) = some u) := fun t => by
          have := one_new (wr.drew) (.int .i64 t) 3
          rw [show (wr.drew).heap.size = wr.heap.size by simp] at this
          exact this
        have hwM : IntKind.i64.wrap ((m.length : Int) - 1) = (M : Int) := by rw [IntKind.wrap_i64] <;> omega
        have hwA : IntKind.i64.wrap (m[M]'(by omega) + (pick raw[k] 6 : Int)) = m[M]'(by omega) + (pick raw[k] 6 : Int) := by rw [IntKind.wrap_i64] <;> omega
        have hML : (M : Int) < (m.length : Int) := by omega
        have hML2 : M < m.length := by omega
        generalize pick raw[k] 6 = pk at *
        generalize raw[k] = x at *
        generalize m[M]'(by omega) = z at *
        obtain ⟨t, ht⟩ : ∃ t, t = min (z + (pk : Int)) 1000 := ⟨_, rfl⟩
        have HN2 : Hid (may (m ++ [t]) = true) := HN.out t ht
        have ht2 : min (z + (pk : Int)) 1000 = t := ht.symm
        clear HN HR HZ H HM hra hma hM hx hzb hpk ht hmc
        go_wp2_with fail
        go_region_law (first | (refine step_append_lies _ rfl (.tmp 21) (.tmp 35) 22 rfl 0 3 i0 (.int .i64 0) 1 8 Try.underlying22 hi hz0 hz1 hz2 rfl (by decide) (.slice (some ⟨g, o, none⟩) m.length cap) m.length (m.map fun n => .int .i64 n) (by first | rfl | simp [Act.eval]) (HO.out _) ⟨wr.heap.size, 0, none⟩ 1 1 [.int .i64 t] (by first | rfl | simp [Act.eval]) rfl (HNW.out t) (one_int _) (by decide) (by unfold maxLen; omega) (by omega) (Nat.zero_le _) _ rfl ?_; intro g' cap' w5 ho2 hgr2 hwh2 hlt2; have HS5 : Hid (Has w.heap.size w (IRowR (.slice (some ⟨g', 0, none⟩) (m ++ [t]).length cap') (m ++ [t]) :: rs) w5) := HG.out _ _ _ _ t (HA.out _) ho2 hgr2 hwh2; clear ho2 hgr2 hwh2) | (go_simp; go_at_call 14; refine (CP.out _).mono ?_; rintro e w2 ⟨rfl, rfl⟩))
        all_goals go_wp2
        all_goals exact ⟨⟨k + 1, m ++ [t], some ⟨g', 0, none⟩, cap', by omega, (by simp; omega), by go_num, (by simp), HN2, HS5⟩, by simp [intOf]; omega⟩
      · have h8I : ¬ (m.length : Int) < 8 := by omega
        have d8 : decide ((m.length : Int) < 8) = false := by simpa using h8I
        have hm := HM.out
        clear HM HR HZ
        go_wp2_with fail
        go_ret
        exact ⟨m, hm, ao, cap, rfl, H.out⟩
    · have hltI : ¬ (k : Int) < (raw.length : Int) := by omega
      have hm := HM.out
      clear HM HR HZ
      go_wp2_with fail
      go_ret
      exact ⟨m, hm, ao, cap, rfl, H.out⟩
end Go.Proofs.Yteadnjagandkfaa
