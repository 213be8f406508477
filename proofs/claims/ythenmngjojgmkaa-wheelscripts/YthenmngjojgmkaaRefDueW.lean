/- The walk of the document's Due. -/
import Derived.Test.YthenmngjojgmkaaRefSetW
set_option linter.unusedVariables false
set_option maxRecDepth 100000
namespace Go.Proofs.Ythenmngjojgmkaa
open Go.RowKit
open WheelMath

theorem due_at (now : Int) : ∀ (r : List T) (k : Nat), k ≤ r.length → (∀ j, (h : j < r.length) → j < k → r[j].2 ≤ now) → ((h : k < r.length) → ¬ r[k].2 ≤ now) → told r now = (r.take k).map (·.1) ∧ left r now = r.drop k
  | [], k, hk, _, _ => by
    obtain rfl : k = 0 := by simpa using hk
    exact ⟨rfl, rfl⟩
  | a :: r, 0, _, _, hn => by
    rw [told_cons, left_cons, if_neg (show ¬ a.2 ≤ now from hn (by simp)), if_neg (show ¬ a.2 ≤ now from hn (by simp))]
    exact ⟨rfl, rfl⟩
  | a :: r, k + 1, hk, hb, hn => by
    have ha : a.2 ≤ now := hb 0 (by simp) (by omega)
    obtain ⟨h1, h2⟩ := due_at now r k (by simpa using hk) (fun j h hj => hb (j + 1) (by simpa using h) (by omega)) (fun h => hn (by simpa using h))
    rw [told_cons, left_cons, if_pos ha, if_pos ha, h1, h2]
    exact ⟨rfl, rfl⟩
theorem irow_below {w w' : World} {v : Value} {xs : List Int} (h : IRow w v xs) (hb : Below w.heap.size w w') : IRow w' v xs := by
  obtain ⟨ao, cap, rfl, h1, h2⟩ := h
  refine ⟨ao, cap, rfl, h1, fun j hj => ?_⟩
  obtain ⟨g, k1, k2, k3⟩ := h2 j hj
  exact ⟨g, k1, Nat.lt_of_lt_of_le k2 hb.size, (hb.cell (p := ⟨g, j, none⟩) k2).trans k3⟩
theorem irow_set {w : World} {v : Value} {xs : List Int} {b : Nat} {u : Value} (h : IRow w v xs) (hn : ∀ g, v.ownBlock = some g → g ≠ b) : IRow (w.setCell ⟨b, 0, none⟩ u) v xs := by
  obtain ⟨ao, cap, rfl, h1, h2⟩ := h
  refine ⟨ao, cap, rfl, h1, fun j hj => ?_⟩
  obtain ⟨g, rfl, k2, k3⟩ := h2 j hj
  have hgb : g ≠ b := hn g rfl
  exact ⟨g, rfl, by simpa using k2, by rw [World.cell?_setCell_other _ _ _ _ (fun e => hgb (by injection e with e1; exact e1.symm))]; exact k3⟩
def RDue (w : World) (b : Nat) (r : List T) (now : Int) (e : Ending) (w' : World) : Prop := ∃ vo, e = .returned vo ∧ IRow w' vo (told r now) ∧ ROk w b (left r now) w'

set_option maxHeartbeats 4000000 in
theorem refDue_any (w : World) (b : Nat) (v : Value) (r : List T) (hl : r.length ≤ 200) (h : RW w b v r) (now : Int) :
    Calls Try.prog 16 #[.pointer (some ⟨b, 0, none⟩), .int .i64 now] w fun e w' => RDue w b r now e w' := by
  obtain ⟨i0, z0, z1, z2, z3⟩ := info_parts infoR
  obtain ⟨j0, y0, y1, y2, y3⟩ := info_parts infoI
  have HR : Hid (RW w b v r) := h
  obtain ⟨ao, cap, rfl, hcap, hcn, hrow⟩ := row_cells h.row
  have HC : Hid (∀ (w' : World), Below w.heap.size w w' → w'.cell? ⟨b, 0, none⟩ = some (.slice ao r.length cap) ∧ w'.frozen? ⟨b, 0, none⟩ = false ∧ RW w' b (.slice ao r.length cap) r) := fun w' hb' => by
    have h' := rw_below h hb'
    exact ⟨h'.cell, h'.free, h'⟩
  clear h hrow
  go_enter Try.func16, Try.ntmps16
  go_wp2_with fail
  go_loopw [5, 6] (fun vo i wr => ∃ (k : Nat) (oa : Option Addr) (oc : Nat), k ≤ r.length ∧ i = .int .i64 (k : Int) ∧ vo = .slice oa k oc ∧ Hid (wr.ownsRow w.heap.size 3 1 (.slice oa k oc) k ((r.take k).map fun t => .int .i64 t.1)) ∧ Hid (Below w.heap.size w wr) ∧ Hid (∀ j, (h : j < r.length) → j < k → r[j].2 ≤ now)) (fun _ i _ => r.length - (intOf i).toNat)
  case atStart => exact ⟨0, none, 0, Nat.zero_le _, rfl, rfl, World.ownsRow_nil _ _ _ _, Below.refl _ _, fun j _ hj => absurd hj (Nat.not_lt_zero _)⟩
  case round =>
    obtain ⟨k, oa, oc, hk, rfl, rfl, HO, HB, HJ⟩ := hrel
    obtain ⟨cb, cf, hRr⟩ := HC.out wr HB.out
    by_cases hgo : ∃ h : k < r.length, r[k].2 ≤ now
    · obtain ⟨hlt, hle⟩ := hgo
      obtain ⟨_, _, he, _, _, hrow⟩ := row_cells hRr.row
      cases he
      obtain ⟨g, rfl, hgl, c1, c2, _⟩ := hrow k hlt
      have i1 : (k : Int) < (r.length : Int) := by omega
      have i2 : k < 200 := by omega
      have HJ' : Hid (∀ j, (h : j < r.length) → j < k + 1 → r[j].2 ≤ now) := fun j h hj => by
        by_cases e : j = k
        · subst e; exact hle
        · exact HJ.out j h (by omega)
      have HTK : Hid ((r.take (k + 1)).map (fun t => Value.int .i64 t.1) = (r.take k).map (fun t => Value.int .i64 t.1) ++ [.int .i64 r[k].1]) := by
        show _ = _
        rw [List.take_succ_eq_append_getElem hlt, List.map_append]
        rfl
      have d1 : decide (r[k].2 ≤ now) = true := by simpa using hle
      have hown := HO.out
      have hbw := HB.out
      have hsz := HB.out.size
      clear hrow hRr HJ cf hle
      generalize r[k].1 = a1 at *
      generalize r[k].2 = a2 at *
      generalize hm : (r.take k).map (fun t => Value.int .i64 t.1) = tk at *
      clear hm
      go_wp2_with (at_builtin; refine wpList_append_any _ rfl _ _ 32 rfl w.heap.size 3 j0 (.int .i64 0) 1 8 Try.underlying32 y0 y1 y2 y3 rfl (by decide) w (hbw.alloc hsz _) (by simp; omega) (.slice oa k oc) k tk rfl (hown.alloc _) (some ⟨wr.heap.size, 0, none⟩) 1 1 [.int .i64 a1] rfl rfl (Or.inr ⟨_, rfl, one_new _ _ _⟩) (one_int _) (by unfold maxLen; omega) (by omega) ?_)
      intro oa2 oc2 w2 o2 b2 s2
      have HO2 : Hid (w2.ownsRow w.heap.size 3 1 (.slice oa2 (k + 1) oc2) (k + 1) ((r.take (k + 1)).map fun t => .int .i64 t.1)) := by rw [HTK.out]; exact o2
      have HB2 : Hid (Below w.heap.size w w2) := b2
      clear o2 b2 s2 hown hbw HO HB HTK
      go_wp2
      exact ⟨⟨k + 1, oa2, oc2, by omega, by go_num, rfl, HO2, HB2, HJ'⟩, by simp [intOf]; omega⟩
    · obtain ⟨e1, e2⟩ := due_at now r k hk HJ.out (fun h hb => hgo ⟨h, hb⟩)
      have E1 : Hid (told r now = (r.take k).map (·.1)) := e1
      have E2 : Hid (left r now = r.drop k) := e2
      have HI : Hid (IRow wr (.slice oa k oc) (told r now)) := by
        have h1 := irow_own (xs := (r.take k).map (·.1)) (w := wr) (v := .slice oa k oc) (B := w.heap.size) (e := 3) (own_cast (by simp; omega) (by rw [List.map_map]; rfl) HO.out)
        rw [e1]
        exact h1
      have HNB : Hid (∀ g, (Value.slice oa k oc).ownBlock = some g → g ≠ b) := fun g hg e => by
        have h1 := (HO.out.lt g hg).1
        have h2 := HR.out.lt
        omega
      have HRr : Hid (RW wr b (.slice ao r.length cap) r) := hRr
      have HCH : Hid (Chg (fun k => k = b) w wr) := chg_below HB.out
      have hsz := HB.out.size
      have i2 : k ≤ 200 := by omega
      have L2 : Hid ((tcells (r.drop k)).length = (r.length - k) * 2) := by show _ = _; rw [tcells_len, List.length_drop]
      clear e1 e2 HJ HO HB HC hRr
      by_cases hlt : k < r.length
      · have hle : ¬ r[k].2 ≤ now := fun hb => hgo ⟨hlt, hb⟩
        obtain ⟨_, _, he, _, _, hrow⟩ := row_cells HRr.out.row
        cases he
        obtain ⟨g, rfl, hgl, c1, c2, _⟩ := hrow k hlt
        have i1 : (k : Int) < (r.length : Int) := by omega
        have d1 : decide (r[k].2 ≤ now) = false := by simpa using hle
        obtain ⟨ad, hA, hsrc⟩ := rest_cells HRr.out.row k hk
        rw [if_neg (by omega)] at hA
        cases hA
        have hkc3 : ¬ cap = k := by omega
        have i9 : (k : Int) ≤ (r.length : Int) := by omega
        have HSRC : Hid (∀ j u, (tcells (r.drop k))[j]? = some u → wr.cell? ((⟨g, k * 2, none⟩ : Addr).add j) = some u) := hsrc wr (fun _ => rfl)
        clear hrow hsrc hle hgo
        generalize r[k].2 = a2 at *
        go_wp2_with (at_builtin; refine wpList_append_any _ rfl _ _ 46 rfl wr.heap.size 51 i0 (.agg #[.int .i64 0, .int .i64 0]) 2 16 Try.underlying46 z0 z1 z2 z3 rfl (by decide) wr (Below.refl _ _) (Nat.le_refl _) (.slice none 0 0) 0 [] (by first | rfl | simp [Act.eval]) (World.ownsRow_nil _ _ _ _) (some ⟨g, k * 2, none⟩) (r.length - k) (cap - k) (tcells (r.drop k)) (by first | rfl | simp [Act.eval]) L2.out (Or.inr ⟨_, rfl, HSRC.out⟩) (tcells_one _) (by unfold maxLen; omega) (by omega) ?_)
        intro ao5 cap5 w5 o5 b5 s5
        have hr5 := rw_below HRr.out b5
        have cb5 := hr5.cell
        have cf5 := hr5.free
        have HOK : Hid (ROk w b (left r now) (w5.setCell ⟨b, 0, none⟩ (.slice ao5 (r.length - k) cap5))) := by
          rw [E2.out]
          exact rok_from HCH.out (rok_set HRr.out b5 (own_cast (by simp) rfl o5))
        have HI5 : Hid (IRow (w5.setCell ⟨b, 0, none⟩ (.slice ao5 (r.length - k) cap5)) (.slice oa k oc) (told r now)) := irow_set (irow_below HI.out b5) HNB.out
        clear o5 b5 s5 hr5 HRr
        go_wp2
        go_ret
        exact ⟨_, rfl, HI5.out, HOK.out⟩
      · have i1 : ¬ (k : Int) < (r.length : Int) := by omega
        have i1' : decide ((k : Int) < (r.length : Int)) = false := by simp; omega
        have hkn : k = r.length := by omega
        cases ao with
        | none =>
            obtain rfl := hcn rfl
            have hz : r = [] := List.eq_nil_of_length_eq_zero (by omega)
            subst hz
            obtain rfl : k = 0 := by simpa using hkn
            simp only [List.length_nil] at cb
            clear hkn i1 i1' i2 hk hl hcap hcn L2 hgo hlt
            go_wp2_with (at_builtin; refine wpList_append_any _ rfl _ _ 46 rfl wr.heap.size 51 i0 (.agg #[.int .i64 0, .int .i64 0]) 2 16 Try.underlying46 z0 z1 z2 z3 rfl (by decide) wr (Below.refl _ _) (Nat.le_refl _) (.slice none 0 0) 0 [] (by first | rfl | simp [Act.eval]) (World.ownsRow_nil _ _ _ _) none 0 0 [] (by first | rfl | simp [Act.eval]) rfl (Or.inl ⟨rfl, rfl, rfl⟩) (fun u hu => by cases hu) (by unfold maxLen; omega) (by omega) ?_)
            intro ao5 cap5 w5 o5 b5 s5
            have hr5 := rw_below HRr.out b5
            have cb5 := hr5.cell
            have cf5 := hr5.free
            have HOK : Hid (ROk w b (left [] now) (w5.setCell ⟨b, 0, none⟩ (.slice ao5 0 cap5))) := by
              rw [E2.out]
              exact rok_from HCH.out (rok_set HRr.out b5 o5)
            have HI5 : Hid (IRow (w5.setCell ⟨b, 0, none⟩ (.slice ao5 0 cap5)) (.slice oa 0 oc) (told [] now)) := irow_set (irow_below HI.out b5) HNB.out
            clear o5 b5 s5 hr5 HRr
            go_wp2
            go_ret
            exact ⟨_, rfl, HI5.out, HOK.out⟩
        | some p =>
            obtain ⟨g, rfl⟩ : ∃ g, p = ⟨g, 0, none⟩ := by
              obtain ⟨_, _, he, _, _, h3⟩ := own_form HRr.out.row
              cases he
              obtain ⟨g, hg, _⟩ := h3 p rfl
              exact ⟨g, hg⟩
            obtain ⟨ad, hA, hsrc⟩ := rest_cells HRr.out.row k hk
            have i9 : (k : Int) ≤ (r.length : Int) := by omega
            have HSRC : Hid (∀ j u, (tcells (r.drop k))[j]? = some u → wr.cell? (ad.add j) = some u) := hsrc wr (fun _ => rfl)
            clear hsrc hgo hkn
            go_wp2_with (at_builtin; refine wpList_append_any _ rfl _ _ 46 rfl wr.heap.size 51 i0 (.agg #[.int .i64 0, .int .i64 0]) 2 16 Try.underlying46 z0 z1 z2 z3 rfl (by decide) wr (Below.refl _ _) (Nat.le_refl _) (.slice none 0 0) 0 [] (by first | rfl | simp [Act.eval]) (World.ownsRow_nil _ _ _ _) (some ad) (r.length - k) (cap - k) (tcells (r.drop k)) (by first | rfl | simp [Act.eval]) L2.out (Or.inr ⟨_, rfl, HSRC.out⟩) (tcells_one _) (by unfold maxLen; omega) (by omega) ?_)
            intro ao5 cap5 w5 o5 b5 s5
            have hr5 := rw_below HRr.out b5
            have cb5 := hr5.cell
            have cf5 := hr5.free
            have HOK : Hid (ROk w b (left r now) (w5.setCell ⟨b, 0, none⟩ (.slice ao5 (r.length - k) cap5))) := by
              rw [E2.out]
              exact rok_from HCH.out (rok_set HRr.out b5 (own_cast (by simp) rfl o5))
            have HI5 : Hid (IRow (w5.setCell ⟨b, 0, none⟩ (.slice ao5 (r.length - k) cap5)) (.slice oa k oc) (told r now)) := irow_set (irow_below HI.out b5) HNB.out
            clear o5 b5 s5 hr5 HRr
            go_wp2
            go_ret
            exact ⟨_, rfl, HI5.out, HOK.out⟩
end Go.Proofs.Ythenmngjojgmkaa
