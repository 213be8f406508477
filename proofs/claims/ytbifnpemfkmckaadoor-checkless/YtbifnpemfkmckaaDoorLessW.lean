/- The walk of CheckLess. -/
import Derived.Test.YtbifnpemfkmckaaDoorLessM
import Derived.Test.YtbifnpemfkmckaaDoorLiveW
import Derived.Deep.RegionHeld3
set_option linter.unusedVariables false
set_option maxRecDepth 100000
namespace Go.Proofs.YtbifnpemfkmckaaDoor
open Go.RowKit CheckMath
open Go.Proofs.YtbifnpemfkmckaaDoor.Nm

set_option maxHeartbeats 8000000 in
theorem checkLess_walk (v : Value) (D : DefD) (at' : Int) (hlo : -9223372036854775808 ≤ at') (hhi : at' ≤ 9223372036854775807) (w : World) (h : DefIn w v D) (h80 : D.steps.length * 80 ≤ 140737488355328) (hok : ∀ s, s ∈ D.steps → StOk s) (hT : Tabs w) :
    Calls Tryd.prog 4 #[v, .int .i64 at'] w fun e w' => e = .returned (.bool true) ∧ Below w.heap.size w w' := by
  have HT : Hid (Tabs w) := hT
  have HDI : Hid (DefIn w v D) := h
  have HSO : Hid (∀ s, s ∈ D.steps → StOk s) := hok
  obtain ⟨sv, rfl, hd⟩ := h
  obtain ⟨ao, cap, rfl, hcap, _, hlen, _⟩ := hd
  have HW : Hid (∀ wq, Below (w.alloc (.cells #[.string D.name, .slice ao D.steps.length cap] 24)).heap.size (w.alloc (.cells #[.string D.name, .slice ao D.steps.length cap] 24)) wq →
      Below w.heap.size w wq ∧ wq.cell? ⟨w.heap.size, 0, none⟩ = some (.string D.name) ∧ wq.cell? ⟨w.heap.size, 1, none⟩ = some (.slice ao D.steps.length cap)) := fun wq hb => by
    have h1 : Below w.heap.size w (w.alloc (.cells #[.string D.name, .slice ao D.steps.length cap] 24)) := (Below.refl _ _).alloc (Nat.le_refl _) _
    refine ⟨h1.trans (hb.mono h1.size), ?_, ?_⟩
    · rw [hb.cell (p := ⟨w.heap.size, 0, none⟩) (by simp), World.cell?_alloc_new]; rfl
    · rw [hb.cell (p := ⟨w.heap.size, 1, none⟩) (by simp), World.cell?_alloc_new]; rfl
  have C1 : Hid (∀ wq, Below w.heap.size w wq → Calls Tryd.prog 7 #[.agg #[.string D.name, .slice ao D.steps.length cap]] wq fun e w' => e = .returned (.tuple #[.int .i64 (checkM D).1, .int .i64 (checkM D).2]) ∧ Below wq.heap.size wq w') := fun wq hq => check_any _ D wq (HDI.out.below hq) (Utf8Tabs_below HT.out hq)
  have CL : Hid (∀ wq, Below w.heap.size w wq → Calls Tryd.prog 10 #[] wq fun e w' => e = .returned (.bool true) ∧ Below w.heap.size w w') := fun wq hq => (live_any wq (Utf8Tabs_below HT.out hq)).mono (fun e w' ⟨he, hb⟩ => ⟨he, hq.trans (hb.mono hq.size)⟩)
  have CC : Hid (∀ wq, Below w.heap.size w wq → Calls Tryd.prog 6 #[.agg #[.string D.name, .slice ao D.steps.length cap]] wq fun e w' => ∃ sv xs, e = .returned (.agg #[.string D.name, sv]) ∧ xs.map (·.st) = D.steps ∧ Has wq.heap.size wq (rowsRes sv xs) w') := fun wq hq => copied_any _ D wq (HDI.out.below hq) h80 HSO.out
  have HB0 := Below.refl (w.alloc (.cells #[.string D.name, .slice ao D.steps.length cap] 24)).heap.size (w.alloc (.cells #[.string D.name, .slice ao D.steps.length cap] 24))
  have HOK : Hid ((checkM D).2 = 0 → Fine D) := (checkM_ok D).1
  obtain ⟨r1, r2, r3, r4, r5⟩ := checkM_range D
  have HR5 : Hid ((checkM D).2 = 0 → (checkM D).1 = -1) := r5
  clear hT hok r5
  generalize (checkM D).1 = m1 at *
  generalize (checkM D).2 = m2 at *
  go_enter Tryd.func4, Tryd.ntmps4
  go_wp2_with fail
  generalize (w.alloc (.cells #[.string D.name, .slice ao D.steps.length cap] 24)) = w0 at *
  refine (C1.out _ (HW.out _ HB0).1).mono ?_
  rintro e w1 ⟨rfl, hb1⟩
  have HB1 : Hid (Below w0.heap.size w0 w1) := hb1
  clear HB0 hb1 C1
  obtain ⟨k1, p0, p1⟩ := HW.out _ HB1.out
  have HK1 : Hid (Below w.heap.size w w1) := k1
  clear k1
  by_cases hm : m2 = 0
  case neg =>
    have hm' : (m2 != (0 : Int)) = true := by simpa using hm
    clear hm
    go_wp2_with fail
    refine (CL.out _ HK1.out).mono ?_
    rintro e w2 ⟨rfl, hb2⟩
    go_wp2_with fail
    go_ret
    exact ⟨rfl, hb2⟩
  have HF : Hid (Fine D) := HOK.out hm
  have hm1 : m1 = -1 := HR5.out hm
  have hm' : (m2 != (0 : Int)) = false := by simpa using hm
  have h8 : D.steps.length ≤ 8 := HF.out.few
  have h1 : 1 ≤ D.steps.length := HF.out.some
  have hl0 : ((D.steps.length : Int) == 0) = false := beq_eq_false_iff_ne.2 (by omega)
  subst hm1
  clear hm HOK HDI HR5 r1 r2 r3 r4
  obtain ⟨q, hq⟩ : ∃ q : Nat, (q : Int) = if at' < 0 then -(at' + 1) else at' := by
    by_cases h : at' < 0
    · exact ⟨(-(at' + 1)).toNat, by rw [if_pos h]; omega⟩
    · exact ⟨at'.toNat, by rw [if_neg h]; omega⟩
  have hqm : (q : Int) ≤ 9223372036854775807 := by rw [hq]; split <;> omega
  have HQ : Hid ((q : Int) = if at' < 0 then -(at' + 1) else at') := hq
  clear hq
  by_cases ha : at' < 0
  case' pos => have ha2 : -(at' + 1) = (q : Int) := by rw [HQ.out, if_pos ha]
  case' neg => have ha2 : at' = (q : Int) := by rw [HQ.out, if_neg ha]
  all_goals (
    clear HQ
    go_wp2_with fail
    refine (CC.out _ HK1.out).mono ?_
    rintro e w2 ⟨sv, xs, rfl, hmap, hhas⟩
    have hxl : xs.length = D.steps.length := by rw [← hmap, List.length_map]
    obtain ⟨g, cp, rfl, _, hgl⟩ := (hhas.own (t := 35) (size := 5) (v := sv) (n := xs.length) (xs := ccells xs) (by simp [rowsRes])).form (by omega)
    have hbox := hhas.box [.string D.name, .slice (some ⟨g, 0, none⟩) xs.length cp] 24
    have hbox2 := hbox.perm (List.perm_append_comm (l₁ := [BlockR w2.heap.size [.string D.name, .slice (some ⟨g, 0, none⟩) xs.length cp]]) (l₂ := rowsRes (.slice (some ⟨g, 0, none⟩) xs.length cp) xs))
    have hj : q % D.steps.length < xs.length := by rw [hxl]; exact Nat.mod_lt _ (by omega)
    obtain ⟨hd1, hh1, hBg⟩ := less_rows hbox2 rfl (by omega) (fun x hx => HSO.out _ (by rw [← hmap]; exact List.mem_map.2 ⟨x, hx, rfl⟩)) (q % D.steps.length) hj
    rw [hmap] at hd1
    have hdr : ∀ x : World, Below x.heap.size x x.drew := fun x => ⟨rfl, rfl, rfl, Nat.le_refl _, fun _ _ => rfl⟩
    have hd2 := hd1.below (hdr _)
    have hh2 := hh1.below (hdr _)
    have hf2 : checkM ⟨D.name, lessS D.steps (q % D.steps.length)⟩ = (-1, 0) := fine_check (less_fine (by omega) HF.out)
    obtain ⟨u0, _⟩ := hh2.cell List.mem_cons_self 0 _ rfl
    obtain ⟨u1, _⟩ := hh2.cell List.mem_cons_self 1 _ rfl
    have hb4 := hh2.bel
    have hb5 : Below w.heap.size w ((w2.alloc (.cells #[.string D.name, .slice (some ⟨g, 0, none⟩) xs.length cp] 24)).setCell ⟨g, q % D.steps.length * 5 + 4, none⟩ (.slice none 0 0)).drew := HK1.out.trans (hb4.mono HK1.out.size)
    have C2 : Hid (Calls Tryd.prog 7 #[.agg #[.string D.name, .slice (some ⟨g, 0, none⟩) xs.length cp]] ((w2.alloc (.cells #[.string D.name, .slice (some ⟨g, 0, none⟩) xs.length cp] 24)).setCell ⟨g, q % D.steps.length * 5 + 4, none⟩ (.slice none 0 0)).drew fun e w' => e = .returned (.tuple #[.int .i64 (-1), .int .i64 0]) ∧ Below w.heap.size w w') := by
      have := check_any (.agg #[.string D.name, .slice (some ⟨g, 0, none⟩) xs.length cp]) ⟨D.name, lessS D.steps (q % D.steps.length)⟩ _ ⟨_, rfl, hd2⟩ (Utf8Tabs_below HT.out hb5)
      rw [hf2] at this
      exact this.mono (fun e w' ⟨he, hb⟩ => ⟨he, hb5.trans (hb.mono hb5.size)⟩)
    have HU0 : Hid _ := u0
    have HU1 : Hid _ := u1
    have hown := hhas.own (t := 35) (size := 5) (v := .slice (some ⟨g, 0, none⟩) xs.length cp) (n := xs.length) (xs := ccells xs) (by simp [rowsRes])
    have hcell : ∃ u, w2.cell? ⟨g, q % D.steps.length * 5 + 4, none⟩ = some u ∧ w2.frozen? ⟨g, q % D.steps.length * 5 + 4, none⟩ = false := by
      obtain ⟨ao', cap', e1, _, _, e4⟩ := own_form hown
      cases e1
      obtain ⟨b', e5, _, _, e6, e7, _⟩ := e4 _ rfl
      cases e5
      obtain ⟨_, _, _, _, t4⟩ := ccells_at xs _ hj
      exact ⟨_, (e6 _ (by omega)).trans t4, e7 _⟩
    obtain ⟨cu, cc, cf⟩ := hcell
    have hrem : Int.tmod (q : Int) (D.steps.length : Int) = ((q % D.steps.length : Nat) : Int) := by rw [Int.tmod_eq_emod_of_nonneg (by omega)]; simp
    rw [hxl] at *
    clear hbox hbox2 hhas hd1 hh1 hd2 hh2 hf2 hb4 hb5 u0 u1 hown HSO HF CC hmap hBg hdr
    have n0 : ¬ D.steps.length = 0 := by omega
    have hgl2 : ¬ g = w2.heap.size := by omega
    have hgl3 : ¬ w2.heap.size = g := by omega
    clear hl0 HK1 HT hlo hhi ha ha2
    generalize D.steps.length = L at *
    have hj1 : (q : Int) % (L : Int) = ((q % L : Nat) : Int) := by simp
    generalize q % L = jj at *
    have hj2 : (jj : Int) < (L : Int) := by omega
    have e1 : (w2.alloc (.cells #[.string D.name, .slice (some ⟨g, 0, none⟩) L cp] 24)).cell? ⟨w2.heap.size, 1, none⟩ = some (.slice (some ⟨g, 0, none⟩) L cp) := by rw [World.cell?_alloc_new]; rfl
    have e2 : (w2.alloc (.cells #[.string D.name, .slice (some ⟨g, 0, none⟩) L cp] 24)).cell? ⟨g, jj * 5 + 4, none⟩ = some cu := by rw [World.cell?_alloc_past _ _ _ hgl]; exact cc
    have e3 : (w2.alloc (.cells #[.string D.name, .slice (some ⟨g, 0, none⟩) L cp] 24)).frozen? ⟨g, jj * 5 + 4, none⟩ = false := by rw [World.frozen?_alloc_past _ _ _ hgl]; exact cf
    go_wp2
    generalize (w2.alloc (.cells #[.string D.name, .slice (some ⟨g, 0, none⟩) L cp] 24)) = w3 at *
    clear cc cf
    go_region_held3 (fun w' => w'.cell? ⟨w2.heap.size, 1, none⟩ = some (.slice (some ⟨g, 0, none⟩) L cp)) (go_keep) (fail)
    have q0 := HU0.out
    have q1 := HU1.out
    generalize (w3.setCell ⟨g, jj * 5 + 4, none⟩ (.slice none 0 0)).drew = w4 at *
    clear e1 e2 e3 HU0 HU1
    go_wp2_with fail
    refine C2.out.mono ?_
    rintro e w5 ⟨rfl, hb5⟩
    have HB5 : Hid (Below w.heap.size w w5) := hb5
    clear q0 q1 C2 hb5
    go_wp2_with fail
    refine (CL.out _ HB5.out).mono ?_
    rintro e w6 ⟨rfl, hb6⟩
    go_wp2_with fail
    go_ret
    exact ⟨rfl, hb6⟩)
end Go.Proofs.YtbifnpemfkmckaaDoor
