/- The walk of Copied, in the law's package. -/
import Derived.Test.YtaeakednekbekaaDoorCopyB
import Derived.Deep.DeepCutAuto
import Derived.Deep.RegionHeld3
import Derived.WideShapes
set_option linter.unusedVariables false
set_option maxRecDepth 100000
namespace Go.Proofs.YtaeakednekbekaaDoor
open Go.RowKit CheckMath

set_option maxHeartbeats 8000000 in
theorem copied_any (v : Value) (D : DefD) (w : World) (h : DefIn w v D) (h80 : D.steps.length * 80 ≤ 140737488355328) (hok : ∀ s, s ∈ D.steps → StOk s) :
    Calls Tryd.prog 6 #[v] w fun e w' => ∃ sv xs, e = .returned (.agg #[.string D.name, sv]) ∧ xs.map (·.st) = D.steps ∧ Has w.heap.size w (rowsRes sv xs) w' := by
  obtain ⟨sv, rfl, hd⟩ := h
  obtain ⟨ao, cap, rfl, hcap, hn0, hlen, hrow⟩ := hd
  have HROW : Hid (∀ j, j < D.steps.length → ∃ g o, ao = some ⟨g, o, none⟩ ∧ g < w.heap.size ∧ StepIn w g (o + j * 5) (nth D.steps j)) := hrow
  have HOK : Hid (∀ s, s ∈ D.steps → StOk s) := hok
  clear hrow hok hn0
  obtain ⟨ii, hii, hi0, hi1, hi2⟩ := info_parts infoI
  obtain ⟨is, his, hs0, hs1, hs2⟩ := info_parts infoS
  obtain ⟨ip, hip, hp0, hp1, hp2⟩ := info_parts infoP
  have HS0 : Hid (Has w.heap.size w [BlockR (w.heap.size + 1 + 1) [.string D.name, .slice none 0 0], BlockR (w.heap.size + 1) [.string ⟨#[]⟩, .slice none 0 0], BlockR w.heap.size [.string D.name, .slice ao D.steps.length cap]]
      (((w.alloc (.cells #[.string D.name, .slice ao D.steps.length cap] 24)).alloc (.cells #[.string ⟨#[]⟩, .slice none 0 0] 24)).alloc (.cells #[.string D.name, .slice none 0 0] 24))) := by
    have h1 := (Has.start w).box [.string D.name, .slice ao D.steps.length cap] 24
    have h2 := h1.box [.string ⟨#[]⟩, .slice none 0 0] 24
    have h3 := h2.box [.string D.name, .slice none 0 0] 24
    have e : ∀ (w : World) (o : Obj), (w.alloc o).heap.size = w.heap.size + 1 := fun w o => by simp
    simp only [e] at h3
    exact h3
  go_enter Tryd.func6, Tryd.ntmps6
  go_wp2_with fail
  go_loopw [4, 5] (fun i _ wr => ∃ (k : Nat) (ov : Value) (xs : List Cm), k ≤ D.steps.length ∧ i = .int .i64 (k : Int) ∧ Hid (xs.length = k) ∧ Hid (xs.map (·.st) = D.steps.take k) ∧
      Hid (Has w.heap.size w (BlockR (w.heap.size + 1 + 1) [.string D.name, ov] :: BlockR (w.heap.size + 1) [.string ⟨#[]⟩, .slice none 0 0] :: BlockR w.heap.size [.string D.name, .slice ao D.steps.length cap] :: rowsRes ov xs) wr)) (fun i _ _ => D.steps.length - (intOf i).toNat)
  case atStart =>
    refine ⟨0, .slice none 0 0, [], Nat.zero_le _, rfl, rfl, (rfl : ([] : List Cm).map (·.st) = D.steps.take 0), ?_⟩
    have := (HS0.out.row (t := 44) (size := 5) (v := .slice none 0 0) (n := 0) (xs := []) (World.ownsRow_nil _ _ _ _) (Below.refl _ _)).perm (List.perm_middle (l₁ := [_, _, _])).symm
    exact this
  case round =>
    obtain ⟨k, ov, xs, hk, rfl, HL, HM, H⟩ := hrel
    obtain ⟨p1, _⟩ := H.out.cell (q := w.heap.size) (vs := [.string D.name, .slice ao D.steps.length cap]) (by simp) 1 _ rfl
    by_cases hlt : k < D.steps.length
    · obtain ⟨g, o, rfl, hg, hs⟩ := HROW.out k hlt
      obtain ⟨c0, c1, c2, kv, nv, c3, c4, c5, c6⟩ := hs
      have hbw := H.out.bel
      have d0 := (hbw.cell (p := ⟨g, o + k * 5, none⟩) hg).trans c0
      have d1 := (hbw.cell (p := ⟨g, o + k * 5 + 1, none⟩) hg).trans c1
      have d2 := (hbw.cell (p := ⟨g, o + k * 5 + 2, none⟩) hg).trans c2
      have hgr : g < wr.heap.size := Nat.lt_of_lt_of_le hg H.out.size
      have hwr : w.heap.size < wr.heap.size := block_lt_of_cell p1
      have hltI : (k : Int) < (D.steps.length : Int) := by omega
      clear c0 c1 c2 hbw
      obtain ⟨ka, kc, rfl, hkc, hk0, ⟨hkl, hks⟩, hkr⟩ := c5
      obtain ⟨na, nc, rfl, hnc, hn0, hnl, hnr⟩ := c6
      obtain ⟨ok1, ok2, ok3⟩ := HOK.out _ (nth_mem hlt)
      have HX : Hid (∀ wq, Below wr.heap.size wr wq → wq.cell? ⟨w.heap.size, 1, none⟩ = some (.slice (some ⟨g, o, none⟩) D.steps.length cap) ∧ wq.cell? ⟨g, o + k * 5 + 3, none⟩ = some (.slice ka (nth D.steps k).keys.length kc) ∧ wq.cell? ⟨g, o + k * 5 + 4, none⟩ = some (.slice na (nth D.steps k).needs.length nc) ∧
          (∀ ad, ka = some ad → ∀ j u, ((nth D.steps k).keys.map fun s => Value.string s)[j]? = some u → wq.cell? (ad.add j) = some u) ∧ (∀ ad, na = some ad → ∀ j u, ((nth D.steps k).needs.map fun n => Value.int .i64 n)[j]? = some u → wq.cell? (ad.add j) = some u)) := fun wq hq => by
        have hb := H.out.bel.trans (hq.mono H.out.size)
        refine ⟨(hq.cell (p := ⟨w.heap.size, 1, none⟩) hwr).trans p1, (hb.cell (p := ⟨g, o + k * 5 + 3, none⟩) hg).trans c3, (hb.cell (p := ⟨g, o + k * 5 + 4, none⟩) hg).trans c4, fun ad e j u hu => ?_, fun ad e j u hu => ?_⟩
        · have hj : j < (nth D.steps k).keys.length := by have := (List.getElem?_eq_some_iff.1 hu).1; simpa using this
          obtain ⟨g2, o2, e2, hg2, e3⟩ := hkr j hj
          rw [e2] at e; cases e
          rw [Go.WideShapes.add_plain, (hb.cell (p := ⟨g2, o2 + j, none⟩) hg2).trans e3]
          rw [← hu]; simp [keyAt, List.getD, hj]
        · have hj : j < (nth D.steps k).needs.length := by have := (List.getElem?_eq_some_iff.1 hu).1; simpa using this
          obtain ⟨g2, o2, e2, hg2, e3⟩ := hnr j hj
          rw [e2] at e; cases e
          rw [Go.WideShapes.add_plain, (hb.cell (p := ⟨g2, o2 + j, none⟩) hg2).trans e3]
          rw [← hu]; simp [needAt, List.getD, hj]
      have HN1 : Hid (ka = none → (nth D.steps k).keys.length = 0 ∧ kc = 0) := fun e => ⟨by have := hk0 e; omega, hk0 e⟩
      have HN2 : Hid (na = none → (nth D.steps k).needs.length = 0 ∧ nc = 0) := fun e => ⟨by have := hn0 e; omega, hn0 e⟩
      have HO1 : Hid (∀ u ∈ (nth D.steps k).keys.map (fun s => Value.string s), u.oneCell' = true) := by
        intro u hu; obtain ⟨x, _, rfl⟩ := List.mem_map.1 hu; rfl
      have HO2 : Hid (∀ u ∈ (nth D.steps k).needs.map (fun n => Value.int .i64 n), u.oneCell' = true) := by
        intro u hu; obtain ⟨x, _, rfl⟩ := List.mem_map.1 hu; rfl
      have HS5 : Hid (Has w.heap.size w (BlockR wr.heap.size [.string (nth D.steps k).name, .int .i64 (nth D.steps k).kind, .int .i64 (nth D.steps k).part, .slice none 0 0, .slice none 0 0] :: BlockR (w.heap.size + 1 + 1) [.string D.name, ov] :: BlockR (w.heap.size + 1) [.string ⟨#[]⟩, .slice none 0 0] :: BlockR w.heap.size [.string D.name, .slice (some ⟨g, o, none⟩) D.steps.length cap] :: rowsRes ov xs)
          (wr.alloc (.cells #[.string (nth D.steps k).name, .int .i64 (nth D.steps k).kind, .int .i64 (nth D.steps k).part, .slice none 0 0, .slice none 0 0] 44)).drew) := (H.out.box [.string (nth D.steps k).name, .int .i64 (nth D.steps k).kind, .int .i64 (nth D.steps k).part, .slice none 0 0, .slice none 0 0] 44).below ⟨rfl, rfl, rfl, Nat.le_refl _, fun _ _ => rfl⟩
      have HB5 : Hid (Below wr.heap.size wr (wr.alloc (.cells #[.string (nth D.steps k).name, .int .i64 (nth D.steps k).kind, .int .i64 (nth D.steps k).part, .slice none 0 0, .slice none 0 0] 44)).drew) := ((Below.refl _ _).alloc (Nat.le_refl _) _).trans ⟨rfl, rfl, rfl, Nat.le_refl _, fun _ _ => rfl⟩
      have HLT : Hid (wr.heap.size ≤ (wr.alloc (.cells #[.string (nth D.steps k).name, .int .i64 (nth D.steps k).kind, .int .i64 (nth D.steps k).part, .slice none 0 0, .slice none 0 0] 44)).drew.heap.size) := HB5.out.size
      clear c3 c4 hkr hnr hk0 hn0 H
      have hne1 : ¬ w.heap.size = wr.heap.size := by omega
      have hne2 : ¬ g = wr.heap.size := by omega
      have hne3 : ¬ wr.heap.size = w.heap.size := by omega
      have hne4 : ¬ wr.heap.size = g := by omega
      go_wp2
      go_region_held3 (fun w' => w'.cell? ⟨w.heap.size, 1, none⟩ = some (.slice (some ⟨g, o, none⟩) D.steps.length cap) ∧ w'.cell? ⟨g, o + k * 5, none⟩ = some (.string (nth D.steps k).name) ∧ w'.cell? ⟨g, o + k * 5 + 1, none⟩ = some (.int .i64 (nth D.steps k).kind) ∧ w'.cell? ⟨g, o + k * 5 + 2, none⟩ = some (.int .i64 (nth D.steps k).part)) (go_keep) (fail)
      generalize (wr.alloc (.cells #[.string (nth D.steps k).name, .int .i64 (nth D.steps k).kind, .int .i64 (nth D.steps k).part, .slice none 0 0, .slice none 0 0] 44)).drew = w5 at *
      generalize hsb : wr.heap.size = sb at *
      have HSB : Hid (wr.heap.size = sb) := hsb
      clear hsb
      obtain ⟨x1, x3, x4, x5, x6⟩ := HX.out _ HB5.out
      obtain ⟨s3, f3⟩ := HS5.out.cell List.mem_cons_self 3 _ rfl
      have HKN : Hid (∀ ad, ka = some ad → ∀ j u, ((nth D.steps k).keys.map fun s => Value.string s)[j]? = some u → w5.drew.cell? (ad.add j) = some u) := x5
      have HS6 : Hid (∀ v' w6, w6.ownsRow w5.drew.heap.size 9 1 v' (nth D.steps k).keys.length ((nth D.steps k).keys.map fun s => .string s) → Below w5.drew.heap.size w5.drew w6 → (w6.cell? ⟨sb, 3, none⟩ = some (.slice none 0 0) ∧ w6.frozen? ⟨sb, 3, none⟩ = false ∧ w6.cell? ⟨w.heap.size, 1, none⟩ = some (.slice (some ⟨g, o, none⟩) D.steps.length cap) ∧ w6.cell? ⟨g, o + k * 5 + 3, none⟩ = some (.slice ka (nth D.steps k).keys.length kc)) ∧
          Has w.heap.size w (BlockR sb [.string (nth D.steps k).name, .int .i64 (nth D.steps k).kind, .int .i64 (nth D.steps k).part, v', .slice none 0 0] :: KR v' (nth D.steps k).keys :: BlockR (w.heap.size + 1 + 1) [.string D.name, ov] :: BlockR (w.heap.size + 1) [.string ⟨#[]⟩, .slice none 0 0] :: BlockR w.heap.size [.string D.name, .slice (some ⟨g, o, none⟩) D.steps.length cap] :: rowsRes ov xs) (w6.setCell ⟨sb, 3, none⟩ v') ∧ Below sb wr (w6.setCell ⟨sb, 3, none⟩ v')) := fun v' w6 ho hb => by
        have h5 := HS5.out.below (w' := w5.drew) ⟨rfl, rfl, rfl, Nat.le_refl _, fun _ _ => rfl⟩
        have h6 := (h5.row ho hb).perm (List.Perm.swap _ _ _)
        have hb5 : Below sb wr w5.drew := HB5.out.trans ⟨rfl, rfl, rfl, Nat.le_refl _, fun _ _ => rfl⟩
        have hb6 : Below sb wr w6 := hb5.trans (hb.mono HLT.out)
        obtain ⟨y1, y2, _⟩ := HX.out _ hb6
        obtain ⟨z1, z2⟩ := h6.cell List.mem_cons_self 3 _ rfl
        refine ⟨⟨z1, z2, y1, y2⟩, h6.put 3 (by simp) v', ?_⟩
        exact hb6.trans (below_chg (chg_set _ _ _) (by have := hb6.size; have := HSB.out; omega) (fun k hk e => by simp only at e; omega))
      clear d0 d1 d2 p1 x5 x6
      go_upto_region 6 with fail
      go_cut [] (fun wx => ∃ ka6 kc6, Hid (Has w.heap.size w (BlockR sb [.string (nth D.steps k).name, .int .i64 (nth D.steps k).kind, .int .i64 (nth D.steps k).part, .slice ka6 (nth D.steps k).keys.length kc6, .slice none 0 0] :: KR (.slice ka6 (nth D.steps k).keys.length kc6) (nth D.steps k).keys :: BlockR (w.heap.size + 1 + 1) [.string D.name, ov] :: BlockR (w.heap.size + 1) [.string ⟨#[]⟩, .slice none 0 0] :: BlockR w.heap.size [.string D.name, .slice (some ⟨g, o, none⟩) D.steps.length cap] :: rowsRes ov xs) wx ∧ Below sb wr wx))
      case first =>
        go_region_law (refine step_append_nil _ rfl (.tmp 36) (.tmp 42) 42 rfl 9 is (.string ⟨#[]⟩) 16 Tryd.underlying42 his hs0 hs1 hs2 rfl (by first | rfl | simp [Act.eval]) ka (nth D.steps k).keys.length kc (by first | rfl | simp [Act.eval]) _ (by simp) HN1.out HKN.out HO1.out (by unfold maxLen; omega) ok1 ?_; intro v6 w6 ho6 hb6; obtain ⟨⟨q5, q6, q7, q8⟩, h7, hb7⟩ := HS6.out _ _ ho6 hb6; obtain ⟨ka6, kc6, rfl, _⟩ := own_form ho6)
        all_goals (
          have hfin : Hid (Has w.heap.size w (BlockR sb [.string (nth D.steps k).name, .int .i64 (nth D.steps k).kind, .int .i64 (nth D.steps k).part, .slice ka6 (nth D.steps k).keys.length kc6, .slice none 0 0] :: KR (.slice ka6 (nth D.steps k).keys.length kc6) (nth D.steps k).keys :: BlockR (w.heap.size + 1 + 1) [.string D.name, ov] :: BlockR (w.heap.size + 1) [.string ⟨#[]⟩, .slice none 0 0] :: BlockR w.heap.size [.string D.name, .slice (some ⟨g, o, none⟩) D.steps.length cap] :: rowsRes ov xs) (w6.setCell ⟨sb, 3, none⟩ (.slice ka6 (nth D.steps k).keys.length kc6)) ∧ Below sb wr (w6.setCell ⟨sb, 3, none⟩ (.slice ka6 (nth D.steps k).keys.length kc6))) := ⟨h7, hb7⟩
          clear HX HS5 HB5 HS6 HKN HN1 HN2 HO1 HO2 HOK HROW HL HM x1 x3 x4 s3 f3 q5 q6 q7 q8 ho6 hb6 h7 hb7
          go_wp2_with fail
          go_meet
          exact ⟨ka6, kc6, hfin⟩)
      case rest =>
        obtain ⟨ka6, kc6, HS7⟩ := hcut
        obtain ⟨x1', x3', x4', x5', x6'⟩ := HX.out _ HS7.out.2
        obtain ⟨s4, f4⟩ := HS7.out.1.cell List.mem_cons_self 4 _ rfl
        have HKN2 : Hid (∀ ad, na = some ad → ∀ j u, ((nth D.steps k).needs.map fun n => Value.int .i64 n)[j]? = some u → wc.drew.cell? (ad.add j) = some u) := x6'
        have HS8 : Hid (∀ v' w6, w6.ownsRow wc.drew.heap.size 3 1 v' (nth D.steps k).needs.length ((nth D.steps k).needs.map fun n => .int .i64 n) → Below wc.drew.heap.size wc.drew w6 → (w6.cell? ⟨sb, 4, none⟩ = some (.slice none 0 0) ∧ w6.frozen? ⟨sb, 4, none⟩ = false) ∧
            Has w.heap.size w (BlockR sb [.string (nth D.steps k).name, .int .i64 (nth D.steps k).kind, .int .i64 (nth D.steps k).part, .slice ka6 (nth D.steps k).keys.length kc6, v'] :: NR v' (nth D.steps k).needs :: KR (.slice ka6 (nth D.steps k).keys.length kc6) (nth D.steps k).keys :: BlockR (w.heap.size + 1 + 1) [.string D.name, ov] :: BlockR (w.heap.size + 1) [.string ⟨#[]⟩, .slice none 0 0] :: BlockR w.heap.size [.string D.name, .slice (some ⟨g, o, none⟩) D.steps.length cap] :: rowsRes ov xs) (w6.setCell ⟨sb, 4, none⟩ v')) := fun v' w6 ho hb => by
          have h5 := HS7.out.1.below (w' := wc.drew) ⟨rfl, rfl, rfl, Nat.le_refl _, fun _ _ => rfl⟩
          have h6 := (h5.row ho hb).perm (List.Perm.swap _ _ _)
          exact ⟨h6.cell List.mem_cons_self 4 _ rfl, h6.put 4 (by simp) v'⟩
        clear HX HS5 HB5 HS6 HKN HN1 HO1 x1 x3 x4 s3 f3 x5' x6' x3' HS7
        go_upto_region 7 with fail
        go_cut [] (fun wx => ∃ na6 nc6, Hid (Has w.heap.size w (BlockR sb [.string (nth D.steps k).name, .int .i64 (nth D.steps k).kind, .int .i64 (nth D.steps k).part, .slice ka6 (nth D.steps k).keys.length kc6, .slice na6 (nth D.steps k).needs.length nc6] :: NR (.slice na6 (nth D.steps k).needs.length nc6) (nth D.steps k).needs :: KR (.slice ka6 (nth D.steps k).keys.length kc6) (nth D.steps k).keys :: BlockR (w.heap.size + 1 + 1) [.string D.name, ov] :: BlockR (w.heap.size + 1) [.string ⟨#[]⟩, .slice none 0 0] :: BlockR w.heap.size [.string D.name, .slice (some ⟨g, o, none⟩) D.steps.length cap] :: rowsRes ov xs) wx))
        case first =>
          go_region_law (refine step_append_nil _ rfl (.tmp 46) (.tmp 52) 32 rfl 3 ii (.int .i64 0) 8 Tryd.underlying32 hii hi0 hi1 hi2 rfl (by first | rfl | simp [Act.eval]) na (nth D.steps k).needs.length nc (by first | rfl | simp [Act.eval]) _ (by simp) HN2.out HKN2.out HO2.out (by unfold maxLen; omega) ok3 ?_; intro v6 w6 ho6 hb6; obtain ⟨⟨q5, q6⟩, h7⟩ := HS8.out _ _ ho6 hb6; obtain ⟨na6, nc6, rfl, _⟩ := own_form ho6)
          all_goals (
            have hfin : Hid (Has w.heap.size w (BlockR sb [.string (nth D.steps k).name, .int .i64 (nth D.steps k).kind, .int .i64 (nth D.steps k).part, .slice ka6 (nth D.steps k).keys.length kc6, .slice na6 (nth D.steps k).needs.length nc6] :: NR (.slice na6 (nth D.steps k).needs.length nc6) (nth D.steps k).needs :: KR (.slice ka6 (nth D.steps k).keys.length kc6) (nth D.steps k).keys :: BlockR (w.heap.size + 1 + 1) [.string D.name, ov] :: BlockR (w.heap.size + 1) [.string ⟨#[]⟩, .slice none 0 0] :: BlockR w.heap.size [.string D.name, .slice (some ⟨g, o, none⟩) D.steps.length cap] :: rowsRes ov xs) (w6.setCell ⟨sb, 4, none⟩ (.slice na6 (nth D.steps k).needs.length nc6))) := h7
            clear HS8 HKN2 HN2 HO2 HOK HROW HL HM x1' x4' s4 f4 q5 q6 ho6 hb6 h7
            go_wp2_with fail
            go_meet
            exact ⟨na6, nc6, hfin⟩)
        case rest =>
          obtain ⟨na6, nc6, HS9⟩ := hcut
          clear HS8 HKN2 HN2 HO2 x1' x4' s4 f4
          have H9 := HS9.out
          obtain ⟨t0, _⟩ := H9.cell List.mem_cons_self 0 _ rfl
          obtain ⟨t1, _⟩ := H9.cell List.mem_cons_self 1 _ rfl
          obtain ⟨t2, _⟩ := H9.cell List.mem_cons_self 2 _ rfl
          obtain ⟨t3, _⟩ := H9.cell List.mem_cons_self 3 _ rfl
          obtain ⟨t4, _⟩ := H9.cell List.mem_cons_self 4 _ rfl
          obtain ⟨t5, t6⟩ := H9.cell (q := w.heap.size + 1 + 1) (vs := [.string D.name, ov]) (by simp) 1 _ rfl
          have hown := H9.own (t := 44) (size := 5) (v := ov) (n := xs.length) (xs := ccells xs) (by simp [rowsRes])
          obtain ⟨oo, oc, rfl, _⟩ := own_form hown
          have HOWN : Hid (wc.ownsRow 0 44 5 (.slice oo xs.length oc) xs.length (ccells xs)) := hown
          clear hown H9
          go_wp2_with (at_builtin; refine wpList_append_more _ rfl _ _ 22 rfl 0 44 ip (.agg #[.string ⟨#[]⟩, .int .i64 0, .int .i64 0, .slice none 0 0, .slice none 0 0]) 5 80 Tryd.underlying22 hip hp0 hp1 hp2 rfl (by decide) _ xs.length (ccells xs) rfl (HOWN.out.alloc _) ⟨_, 0, none⟩ 1 1 [.string (nth D.steps k).name, .int .i64 (nth D.steps k).kind, .int .i64 (nth D.steps k).part, .slice ka6 (nth D.steps k).keys.length kc6, .slice na6 (nth D.steps k).needs.length nc6] rfl rfl (cells_new _ _ _) (one_five _ _ _ _ _ _ _ _ _) (by decide) (by have := HL.out; unfold maxLen; omega) (by have := HL.out; omega) ?_)
          intro g2 cap2 w8 hown8 hwh8 hch8
          have h10 := ((HS9.out.below ((Below.refl _ _).alloc (Nat.le_refl _) _)).perm (List.perm_middle (l₁ := [_, _, _, _, _, _]))).grow (v' := (.slice (some ⟨g2, 0, none⟩) (xs.length + 1) cap2)) (m := xs.length + 1) (ys := ccells xs ++ [.string (nth D.steps k).name, .int .i64 (nth D.steps k).kind, .int .i64 (nth D.steps k).part, .slice ka6 (nth D.steps k).keys.length kc6, .slice na6 (nth D.steps k).needs.length nc6]) (w2 := w8) hown8 (fun g1 hg1 => by
            obtain rfl : g2 = g1 := by simpa [Value.ownBlock] using hg1
            rcases hwh8 with e | e
            · exact Or.inl e
            · exact Or.inr (by simpa using e)) hch8
          have h11 := h10.perm (List.perm_middle (l₁ := [_, _, _, _]))
          obtain ⟨z1, z2⟩ := h11.cell List.mem_cons_self 1 _ rfl
          have h12 := rows_more (xs := xs) (x := ⟨nth D.steps k, .slice ka6 (nth D.steps k).keys.length kc6, .slice na6 (nth D.steps k).needs.length nc6⟩) (h11.put 1 (by simp) (.slice (some ⟨g2, 0, none⟩) (xs.length + 1) cap2)) (by simp) (by rw [ccells_append]; rfl)
          have H12 : Hid _ := h12
          have HL2 : Hid ((xs ++ [(⟨nth D.steps k, .slice ka6 (nth D.steps k).keys.length kc6, .slice na6 (nth D.steps k).needs.length nc6⟩ : Cm)]).length = k + 1) := by show _ = _; rw [List.length_append, HL.out]; rfl
          have HM2 : Hid ((xs ++ [(⟨nth D.steps k, .slice ka6 (nth D.steps k).keys.length kc6, .slice na6 (nth D.steps k).needs.length nc6⟩ : Cm)]).map (·.st) = D.steps.take (k + 1)) := by
            show _ = _
            rw [List.map_append, HM.out, List.map_cons, List.map_nil, nth_eq hlt, List.take_append_getElem]
          clear h10 h11 h12 hown8 hwh8 hch8 t0 t1 t2 t3 t4 t5 t6 HS9 HOWN
          go_wp2
          exact ⟨⟨k + 1, _, _, by omega, by go_num, HL2, HM2, H12⟩, by simp [intOf]; omega⟩
    · obtain rfl : k = D.steps.length := by omega
      have H0 := H.out
      obtain ⟨t0, _⟩ := H0.cell List.mem_cons_self 0 _ rfl
      obtain ⟨t1, _⟩ := H0.cell List.mem_cons_self 1 _ rfl
      have H1 := H0.perm (List.Perm.swap _ _ _)
      obtain ⟨r0, f0⟩ := H1.cell List.mem_cons_self 0 _ rfl
      obtain ⟨r1, f1⟩ := H1.cell List.mem_cons_self 1 _ rfl
      obtain ⟨oo, oc, rfl, _⟩ := own_form (H0.own (t := 44) (size := 5) (v := ov) (n := xs.length) (xs := ccells xs) (by simp [rowsRes]))
      have H2 := (H1.put 0 (by simp) (.string D.name)).put 1 (by simp) (.slice oo xs.length oc)
      obtain ⟨e0, _⟩ := H2.cell List.mem_cons_self 0 _ rfl
      obtain ⟨e1, _⟩ := H2.cell List.mem_cons_self 1 _ rfl
      have HE0 : Hid _ := e0
      have HE1 : Hid _ := e1
      have HFIN : Hid _ := H2.drop.drop.drop
      have HM3 : Hid (xs.map (·.st) = D.steps) := by have := HM.out; rwa [List.take_length] at this
      clear H0 H1 H2 e0 e1 HM H
      go_wp2
      refine bodyPost_ret (results_cell2 rfl _ _ (w.heap.size + 1) _ _ _ rfl HE0.out HE1.out Tryd.underlying24 rfl (by kernel_rfl)) rfl ⟨_, xs, rfl, HM3.out, HFIN.out⟩
end Go.Proofs.YtaeakednekbekaaDoor
