/- The walk of CostGrows where a step more may be. -/
import Derived.Test.YtaeakednekbekaaDoorGrowW
import Derived.Deep.QuietTactic
import Derived.BigQuiet
set_option linter.unusedVariables false
set_option maxRecDepth 100000
namespace Go.Proofs.YtaeakednekbekaaDoor
open Go.RowKit CheckMath
open Go.Proofs.YtaeakednekbekaaDoor.Nm

theorem costM_fine {D : DefD} (h : (checkM D).2 = 0) : fl (costM D) = fl (costF (rec5 D.steps)) := by
  unfold costM
  simp only [if_pos h]
theorem part_quot (p : Int) (h : 0 ≤ p) : ∃ q : Nat, q < 4 ∧ p % 4 = (q : Int) := ⟨(p % 4).toNat, by omega, by omega⟩

set_option maxHeartbeats 8000000 in
theorem grow_b (v : Value) (D : DefD) (part : Int) (w : World) (h : DefIn w v D) (h80 : D.steps.length * 80 ≤ 140737488355328) (hok : ∀ s, s ∈ D.steps → StOk s) (hz : SzD D) (hT : Tabs w) (hc : (checkM D).2 = 0) (h8 : D.steps.length < 8)
    (q : Nat) (hq4 : q < 4) (hp0 : 0 ≤ part) (hq : part % 4 = (q : Int)) (hp63 : part ≤ 9223372036854775807) :
    Calls Tryd.prog 5 #[v, .int .i64 part] w fun e w' => e = .returned (.bool true) ∧ Below w.heap.size w w' := by
  have HT : Hid (Tabs w) := hT
  have HDI : Hid (DefIn w v D) := h
  have HSO : Hid (∀ s, s ∈ D.steps → StOk s) := hok
  have HSZ : Hid (SzD D) := hz
  have HCK : Hid ((checkM D).2 = 0) := hc
  obtain ⟨sv, rfl, hd⟩ := h
  obtain ⟨ao, cap, rfl, hcap, _, hlen, hrow⟩ := hd
  have HROW : Hid (∀ j, j < D.steps.length → ∃ g o, ao = some ⟨g, o, none⟩ ∧ g < w.heap.size ∧ StepIn w g (o + j * 5) (nth D.steps j)) := hrow
  obtain ⟨ip, hip, hpz, hps, hpb⟩ := info_parts infoP
  have CL : Hid (∀ wq, Below w.heap.size w wq → Calls Tryd.prog 13 #[] wq fun e w' => e = .returned (.bool true) ∧ Below w.heap.size w w') := fun wq hq => (live_any wq (Utf8Tabs_below HT.out hq)).mono (fun e w' ⟨he, hb⟩ => ⟨he, hq.trans (hb.mono hq.size)⟩)
  have CC : Hid (∀ wq, Below w.heap.size w wq → Calls Tryd.prog 6 #[.agg #[.string D.name, .slice ao D.steps.length cap]] wq fun e w' => ∃ sv xs, e = .returned (.agg #[.string D.name, sv]) ∧ xs.map (·.st) = D.steps ∧ Has wq.heap.size wq (rowsRes sv xs) w') := fun wq hq => copied_any _ D wq (HDI.out.below hq) h80 HSO.out
  have CR : Hid (∀ wq, Below w.heap.size w wq → Calls Tryd.prog 16 #[.agg #[.string D.name, .slice ao D.steps.length cap]] wq fun e w' => e = .returned (.tuple #[.int .i64 (checkM D).1, .int .i64 0]) ∧ Below wq.heap.size wq w') := fun wq hq => by
    have := refCheck_any _ D HSZ.out wq (HDI.out.below hq)
    rw [hc] at this
    exact this
  have CO : Hid (∀ (D' : DefD) (v' : Value) (wq : World), Below w.heap.size w wq → DefIn wq v' D' → (checkM D').2 = 0 → Calls Tryd.prog 7 #[v'] wq fun e w' => e = .returned (.tuple #[.agg #[.int .i64 (costF (rec5 D'.steps) 0 : Nat), .int .i64 (costF (rec5 D'.steps) 1 : Nat), .int .i64 (costF (rec5 D'.steps) 2 : Nat), .int .i64 (costF (rec5 D'.steps) 3 : Nat), .int .i64 (costF (rec5 D'.steps) 4 : Nat)], .int .i64 0]) ∧ Below wq.heap.size wq w') := fun D' v' wq hq hd hc => of_good v' D' wq hd (Utf8Tabs_below HT.out hq) hc
  have CO1 : Hid (∀ wq, Below w.heap.size w wq → Calls Tryd.prog 7 #[.agg #[.string D.name, .slice ao D.steps.length cap]] wq fun e w' => e = .returned (.tuple #[.agg #[.int .i64 (costF (rec5 D.steps) 0 : Nat), .int .i64 (costF (rec5 D.steps) 1 : Nat), .int .i64 (costF (rec5 D.steps) 2 : Nat), .int .i64 (costF (rec5 D.steps) 3 : Nat), .int .i64 (costF (rec5 D.steps) 4 : Nat)], .int .i64 0]) ∧ Below wq.heap.size wq w') := fun wq hq => CO.out D _ wq hq (HDI.out.below hq) HCK.out
  have HG1 : Hid (costF (rec5 D.steps) 0 < costF (rec5 (D.steps ++ [zStep q])) 0) := grow_orch _ q hq4
  have HG2 : Hid (costF (rec5 D.steps) (1 + q) < costF (rec5 (D.steps ++ [zStep q])) (1 + q)) := grow_part _ q hq4
  have HG3 : Hid (∀ p, p < 4 → costF (rec5 D.steps) (1 + p) ≤ costF (rec5 (D.steps ++ [zStep q])) (1 + p)) := fun p hp => grow_all _ q p hq4 hp
  have HQ : Hid (part % 4 = (q : Int)) := hq
  have HS0 : Hid (Has w.heap.size w [BlockR w.heap.size [.string D.name, .slice ao D.steps.length cap]] (w.alloc (.cells #[.string D.name, .slice ao D.steps.length cap] 24))) := (Has.start w).box [.string D.name, .slice ao D.steps.length cap] 24
  clear hT hok hz hc hrow HT
  generalize (checkM D).1 = m1 at *
  generalize hA : costF (rec5 D.steps) = A at *
  clear hA
  generalize hB : costF (rec5 (D.steps ++ [zStep q])) = Bf at *
  have HBF : Hid (costF (rec5 (D.steps ++ [zStep q])) = Bf) := hB
  clear hB
  have hn8 : ((D.steps.length : Int) == 8) = false := by simp; omega
  have hpn : ¬ part < 0 := by omega
  go_enter Tryd.func5, Tryd.ntmps5
  go_wp2_with fail
  refine (CR.out _ HS0.out.bel).mono ?_
  rintro e w1 ⟨rfl, hb1⟩
  have HS1 : Hid (Has w.heap.size w [BlockR w.heap.size [.string D.name, .slice ao D.steps.length cap]] w1) := HS0.out.below hb1
  clear hb1 HS0
  obtain ⟨p0, _⟩ := HS1.out.cell List.mem_cons_self 0 _ rfl
  obtain ⟨p1, _⟩ := HS1.out.cell List.mem_cons_self 1 _ rfl
  go_wp2_with fail
  refine (CO1.out _ HS1.out.bel).mono ?_
  rintro e w2 ⟨rfl, hb2⟩
  have HS2 : Hid (Has w.heap.size w [BlockR w2.heap.size (fl A), BlockR w.heap.size [.string D.name, .slice ao D.steps.length cap]] (w2.alloc (.cells #[.int .i64 (A 0 : Nat), .int .i64 (A 1 : Nat), .int .i64 (A 2 : Nat), .int .i64 (A 3 : Nat), .int .i64 (A 4 : Nat)] 28))) := (HS1.out.below hb2).box (fl A) 28
  clear p0 p1
  obtain ⟨p0, _⟩ := (HS1.out.below hb2).cell List.mem_cons_self 0 _ rfl
  obtain ⟨p1, _⟩ := (HS1.out.below hb2).cell List.mem_cons_self 1 _ rfl
  have hz1 : w.heap.size < w2.heap.size := block_lt_of_cell p0
  have hz2 : ¬ w.heap.size = w2.heap.size := by omega
  clear hb2 HS1 CR CO1
  go_wp2_with fail
  generalize (w2.alloc (.cells #[.int .i64 (A 0 : Nat), .int .i64 (A 1 : Nat), .int .i64 (A 2 : Nat), .int .i64 (A 3 : Nat), .int .i64 (A 4 : Nat)] 28)) = w3 at *
  generalize w2.heap.size = cb at *
  clear p0 p1 hz1 hz2
  refine (CC.out _ HS2.out.bel).mono ?_
  rintro e w4 ⟨sv, xs, rfl, hmap, hhas⟩
  have HXL : Hid (xs.length = D.steps.length) := by show _ = _; rw [← hmap, List.length_map]
  have HMAP : Hid (xs.map (·.st) = D.steps) := hmap
  obtain ⟨oo, oc, rfl, _⟩ := own_form (hhas.own (t := 44) (size := 5) (v := sv) (n := xs.length) (xs := ccells xs) (by simp [rowsRes]))
  have HS4 : Hid (Has w.heap.size w (rowsRes (.slice oo xs.length oc) xs ++ [BlockR cb (fl A), BlockR w.heap.size [.string D.name, .slice ao D.steps.length cap]]) w4) := by
    obtain ⟨hb4, _, U, hU, hge⟩ := hhas
    exact HS2.out.add hb4 hU hge
  have HS5 := (HS4.out.box [.string D.name, .slice oo xs.length oc] 24).box [.string zName, .int .i64 3, .int .i64 (q : Int), .slice none 0 0, .slice none 0 0] 44
  have e1 : ∀ (w : World) (o : Obj), (w.alloc o).heap.size = w.heap.size + 1 := fun w o => by simp
  simp only [e1] at HS5
  have HS6 : Hid (Has w.heap.size w (BlockR (w4.heap.size + 1) [.string zName, .int .i64 3, .int .i64 (q : Int), .slice none 0 0, .slice none 0 0] :: BlockR w4.heap.size [.string D.name, .slice oo xs.length oc] :: (rowsRes (.slice oo xs.length oc) xs ++ [BlockR cb (fl A), BlockR w.heap.size [.string D.name, .slice ao D.steps.length cap]]))
      ((w4.alloc (.cells #[.string D.name, .slice oo xs.length oc] 24)).alloc (.cells #[.string zName, .int .i64 3, .int .i64 (q : Int), .slice none 0 0, .slice none 0 0] 44))) := HS5
  clear HS5 HS4 HS2 hhas hmap CC e1
  have HZN : Hid (∀ i, i < D.steps.length → ¬ (nth D.steps i).name = zName → True) := fun _ _ _ => trivial
  clear HZN
  obtain ⟨zn, HZN⟩ : ∃ zn, Hid (zName = zn) := ⟨zName, rfl⟩
  unfold zName at *
  go_wp2_with fail
  rw [HZN.out] at HS6
  rw [HZN.out]
  generalize ((w4.alloc (.cells #[.string D.name, .slice oo xs.length oc] 24)).alloc (.cells #[.string zn, .int .i64 3, .int .i64 (q : Int), .slice none 0 0, .slice none 0 0] 44)) = w6 at *
  generalize w4.heap.size = mb at *
  go_loopw [11] (fun i wr => ∃ k nq : Nat, wr = w6.drewN nq ∧ k ≤ D.steps.length ∧ i = .int .i64 (k : Int) ∧ Hid (∀ j, j < k → ¬ (nth D.steps j).name = zn)) (fun i _ => D.steps.length - (intOf i).toNat)
  case atStart => exact ⟨0, 0, rfl, Nat.zero_le _, rfl, fun j hj => absurd hj (Nat.not_lt_zero _)⟩
  case round =>
    obtain ⟨k, nq, rfl, hk, rfl, HNM⟩ := hrel
    obtain ⟨p1, _⟩ := HS6.out.cell (q := w.heap.size) (vs := [.string D.name, .slice ao D.steps.length cap]) (by simp) 1 _ rfl
    obtain ⟨z0, _⟩ := HS6.out.cell List.mem_cons_self 0 _ rfl
    by_cases hlt : k < D.steps.length
    · have hltI : (k : Int) < (D.steps.length : Int) := by omega
      obtain ⟨g, o, rfl, hg, hs⟩ := HROW.out k hlt
      have d0 := (HS6.out.bel.cell (p := ⟨g, o + k * 5, none⟩) hg).trans hs.1
      clear hs
      by_cases hnm : (nth D.steps k).name = zn
      · have hte := txt_eq hnm
        generalize hnn : (nth D.steps k).name = nn at *
        clear hnm hnn
        go_wp2
        go_quiet (fail)
        go_wp2_with fail
        refine (CL.out _ (HS6.out.below (below_drewN (Below.refl _ _) _)).bel).mono ?_
        rintro e w7 ⟨rfl, hb7⟩
        go_wp2_with fail
        go_ret
        exact ⟨rfl, hb7⟩
      · have hte := txt_ne hnm
        have HNM2 : Hid (∀ j, j < k + 1 → ¬ (nth D.steps j).name = zn) := fun j hj => by
          by_cases e : j = k
          · subst e; exact hnm
          · exact HNM.out j (by omega)
        generalize hnn : (nth D.steps k).name = nn at *
        clear hnm hnn
        go_wp2
        go_quiet (fail)
        go_wp2
        exact ⟨⟨k + 1, _, rfl, by omega, by go_num, HNM2⟩, by simp [intOf]; omega⟩
    · have hltI : ¬ (k : Int) < (D.steps.length : Int) := by omega
      have HNE : Hid (∀ j, j < D.steps.length → ¬ (nth D.steps j).name = zName) := fun j hj e => HNM.out j (by omega) (e.trans HZN.out)
      have HS7 : Hid (Has w.heap.size w (BlockR (mb + 1) [.string zn, .int .i64 3, .int .i64 (q : Int), .slice none 0 0, .slice none 0 0] :: BlockR mb [.string D.name, .slice oo xs.length oc] :: (rowsRes (.slice oo xs.length oc) xs ++ [BlockR cb (fl A), BlockR w.heap.size [.string D.name, .slice ao D.steps.length cap]])) (w6.drewN nq)) := HS6.out.below (below_drewN (Below.refl _ _) _)
      clear p1 z0
      obtain ⟨p1, _⟩ := HS7.out.cell (q := w.heap.size) (vs := [.string D.name, .slice ao D.steps.length cap]) (by simp) 1 _ rfl
      obtain ⟨z0, _⟩ := HS7.out.cell List.mem_cons_self 0 _ rfl
      obtain ⟨z1, _⟩ := HS7.out.cell List.mem_cons_self 1 _ rfl
      obtain ⟨z2, _⟩ := HS7.out.cell List.mem_cons_self 2 _ rfl
      obtain ⟨z3, _⟩ := HS7.out.cell List.mem_cons_self 3 _ rfl
      obtain ⟨z4, _⟩ := HS7.out.cell List.mem_cons_self 4 _ rfl
      obtain ⟨y0, _⟩ := HS7.out.cell (q := mb) (vs := [.string D.name, .slice oo xs.length oc]) (by simp) 0 _ rfl
      obtain ⟨y1, y2⟩ := HS7.out.cell (q := mb) (vs := [.string D.name, .slice oo xs.length oc]) (by simp) 1 _ rfl
      have HOWN : Hid ((w6.drewN nq).ownsRow 0 44 5 (.slice oo xs.length oc) xs.length (ccells xs)) := HS7.out.own (by simp [rowsRes])
      have hxb : xs.length < 8 := by have := HXL.out; omega
      clear HS6 HNM
      generalize w6.drewN nq = wr at *
      have hmb : mb < wr.heap.size := block_lt_of_cell y0
      have hmn : ¬ mb = wr.heap.size := by omega
      go_wp2_with (at_builtin; refine wpList_append_more _ rfl _ _ 22 rfl 0 44 ip (.agg #[.string ⟨#[]⟩, .int .i64 0, .int .i64 0, .slice none 0 0, .slice none 0 0]) 5 80 Tryd.underlying22 hip hpz hps hpb rfl (by decide) _ xs.length (ccells xs) rfl (HOWN.out.alloc _) ⟨_, 0, none⟩ 1 1 [.string zn, .int .i64 3, .int .i64 (q : Int), .slice none 0 0, .slice none 0 0] rfl rfl (cells_new _ _ _) (one_five _ _ _ _ _ _ _ _ _) (by decide) (by unfold maxLen; omega) (by omega) ?_)
      intro g2 cap2 w8 hown8 hwh8 hch8
      have h10 := ((HS7.out.below ((Below.refl _ _).alloc (Nat.le_refl _) _)).perm (List.perm_middle (l₁ := [_, _]))).grow (v' := (.slice (some ⟨g2, 0, none⟩) (xs.length + 1) cap2)) (m := xs.length + 1) (ys := ccells xs ++ [.string zn, .int .i64 3, .int .i64 (q : Int), .slice none 0 0, .slice none 0 0]) (w2 := w8) hown8 (fun g1 hg1 => by
        obtain rfl : g2 = g1 := by simpa [Value.ownBlock] using hg1
        rcases hwh8 with e | e
        · exact Or.inl e
        · exact Or.inr (by simpa using e)) hch8
      have H10 : Hid (Has w.heap.size w (BlockR mb [.string D.name, .slice oo xs.length oc] :: OwnR 44 5 (.slice (some ⟨g2, 0, none⟩) (xs.length + 1) cap2) (xs.length + 1) (ccells xs ++ [.string zn, .int .i64 3, .int .i64 (q : Int), .slice none 0 0, .slice none 0 0]) :: BlockR (mb + 1) [.string zn, .int .i64 3, .int .i64 (q : Int), .slice none 0 0, .slice none 0 0] :: (xs.flatMap cRes ++ [BlockR cb (fl A), BlockR w.heap.size [.string D.name, .slice ao D.steps.length cap]])) w8) := h10.perm (List.perm_middle (l₁ := [_, _]))
      have H11 : Hid (Has w.heap.size w (OwnR 3 1 (.slice none 0 0) 0 [] :: OwnR 9 1 (.slice none 0 0) 0 [] :: BlockR mb [.string D.name, (.slice (some ⟨g2, 0, none⟩) (xs.length + 1) cap2)] :: OwnR 44 5 (.slice (some ⟨g2, 0, none⟩) (xs.length + 1) cap2) (xs.length + 1) (ccells xs ++ [.string zn, .int .i64 3, .int .i64 (q : Int), .slice none 0 0, .slice none 0 0]) :: BlockR (mb + 1) [.string zn, .int .i64 3, .int .i64 (q : Int), .slice none 0 0, .slice none 0 0] :: (xs.flatMap cRes ++ [BlockR cb (fl A), BlockR w.heap.size [.string D.name, .slice ao D.steps.length cap]])) (w8.setCell ⟨mb, 1, none⟩ (.slice (some ⟨g2, 0, none⟩) (xs.length + 1) cap2))) :=
        ((H10.out.put 1 (by simp) (.slice (some ⟨g2, 0, none⟩) (xs.length + 1) cap2)).row (World.ownsRow_nil _ _ _ _) (Below.refl _ _)).row (World.ownsRow_nil _ _ _ _) (Below.refl _ _)
      have HD : Hid (DefIn (w8.setCell ⟨mb, 1, none⟩ (.slice (some ⟨g2, 0, none⟩) (xs.length + 1) cap2)) (.agg #[.string D.name, (.slice (some ⟨g2, 0, none⟩) (xs.length + 1) cap2)]) ⟨D.name, D.steps ++ [zStep q]⟩) := by
        refine ⟨_, rfl, ?_⟩
        have hx : ccells [(⟨zStep q, .slice none 0 0, .slice none 0 0⟩ : Cm)] = [.string zn, .int .i64 3, .int .i64 (q : Int), .slice none 0 0, .slice none 0 0] := by
          rw [← HZN.out]; rfl
        have h := drow_own (v := (.slice (some ⟨g2, 0, none⟩) (xs.length + 1) cap2)) (xs := xs ++ [(⟨zStep q, .slice none 0 0, .slice none 0 0⟩ : Cm)]) H11.out (fun r hr => ?_) (by simp; omega) (fun x hx => ?_)
        · rw [List.map_append, HMAP.out] at h
          exact h
        · simp only [rowsRes, List.mem_cons, List.flatMap_append, List.mem_append, List.flatMap_cons, List.flatMap_nil, List.append_nil] at hr
          rcases hr with rfl | hr | hr
          · rw [ccells_append, hx, List.length_append]
            simp
          · simp [hr]
          · simp only [cRes, List.mem_cons, List.not_mem_nil, or_false] at hr
            rcases hr with rfl | rfl
            · exact List.mem_cons_of_mem _ List.mem_cons_self
            · exact List.mem_cons_self
        · rcases List.mem_append.1 hx with hx | hx
          · exact HSO.out _ (by rw [← HMAP.out]; exact List.mem_map.2 ⟨x, hx, rfl⟩)
          · obtain rfl := List.mem_singleton.1 hx
            exact ⟨by simp [zStep], fun y hy => by simp [zStep] at hy, by simp [zStep]⟩
      have HCK2 : Hid ((checkM ⟨D.name, D.steps ++ [zStep q]⟩).2 = 0) := more_check hq4 HCK.out h8 HNE.out
      have HOF : Hid (Calls Tryd.prog 7 #[.agg #[.string D.name, (.slice (some ⟨g2, 0, none⟩) (xs.length + 1) cap2)]] (w8.setCell ⟨mb, 1, none⟩ (.slice (some ⟨g2, 0, none⟩) (xs.length + 1) cap2)) fun e w' => e = .returned (.tuple #[.agg #[.int .i64 (Bf 0 : Nat), .int .i64 (Bf 1 : Nat), .int .i64 (Bf 2 : Nat), .int .i64 (Bf 3 : Nat), .int .i64 (Bf 4 : Nat)], .int .i64 0]) ∧ Below (w8.setCell ⟨mb, 1, none⟩ (.slice (some ⟨g2, 0, none⟩) (xs.length + 1) cap2)).heap.size (w8.setCell ⟨mb, 1, none⟩ (.slice (some ⟨g2, 0, none⟩) (xs.length + 1) cap2)) w') := by
        have h := CO.out _ _ _ H11.out.bel HD.out HCK2.out
        have e : costF (rec5 (⟨D.name, D.steps ++ [zStep q]⟩ : DefD).steps) = Bf := HBF.out
        rw [e] at h
        exact h
      obtain ⟨y3, _⟩ := H10.out.cell List.mem_cons_self 0 _ rfl
      obtain ⟨y4, y5⟩ := H10.out.cell List.mem_cons_self 1 _ rfl
      clear h10 H10 HS7 HOWN hown8 hwh8 hch8 z0 z1 z2 z3 z4 y0 y1 y2 p1 hmb hmn HD HCK2 CO HNE
      go_wp2_with fail
      refine HOF.out.mono ?_
      rintro e w10 ⟨rfl, hb10⟩
      have H12 : Hid (Has w.heap.size w (BlockR w10.heap.size (fl Bf) :: OwnR 3 1 (.slice none 0 0) 0 [] :: OwnR 9 1 (.slice none 0 0) 0 [] :: BlockR mb [.string D.name, (.slice (some ⟨g2, 0, none⟩) (xs.length + 1) cap2)] :: OwnR 44 5 (.slice (some ⟨g2, 0, none⟩) (xs.length + 1) cap2) (xs.length + 1) (ccells xs ++ [.string zn, .int .i64 3, .int .i64 (q : Int), .slice none 0 0, .slice none 0 0]) :: BlockR (mb + 1) [.string zn, .int .i64 3, .int .i64 (q : Int), .slice none 0 0, .slice none 0 0] :: (xs.flatMap cRes ++ [BlockR cb (fl A), BlockR w.heap.size [.string D.name, .slice ao D.steps.length cap]])) (w10.alloc (.cells #[.int .i64 (Bf 0 : Nat), .int .i64 (Bf 1 : Nat), .int .i64 (Bf 2 : Nat), .int .i64 (Bf 3 : Nat), .int .i64 (Bf 4 : Nat)] 28))) := (H11.out.below hb10).box (fl Bf) 28
      clear hb10 H11 HOF y3 y4 y5
      go_upto_region 16 with fail
      generalize (w10.alloc (.cells #[.int .i64 (Bf 0 : Nat), .int .i64 (Bf 1 : Nat), .int .i64 (Bf 2 : Nat), .int .i64 (Bf 3 : Nat), .int .i64 (Bf 4 : Nat)] 28)) = w12 at *
      generalize w10.heap.size = bb at *
      have a0 := (H12.out.five (q := cb) (f := A) (by simp) 0 (by omega)).1
      have a1 := (H12.out.five (q := cb) (f := A) (by simp) (1 + q) (by omega)).1
      have b0 := (H12.out.five List.mem_cons_self 0 (by omega)).1
      have b1 := (H12.out.five List.mem_cons_self (1 + q) (by omega)).1
      have g0 : decide ((Bf 0 : Int) ≤ (A 0 : Int)) = false := by have := HG1.out; simp; omega
      have g1 : decide ((Bf (1 + q) : Int) ≤ (A (1 + q) : Int)) = false := by have := HG2.out; simp; omega
      have g0n : decide (Bf 0 ≤ A 0) = false := by have := HG1.out; simp; omega
      have g1n : decide (Bf (1 + q) ≤ A (1 + q)) = false := by have := HG2.out; simp; omega
      have hq5 : (q : Int) < 4 := by omega
      go_quiet (fail)
      clear g0 g1 g0n g1n a0 a1 b0 b1
      go_wp2_with fail
      have HSQ : Hid (∃ rs, Has w.heap.size w (BlockR bb (fl Bf) :: rs) w12 ∧ BlockR cb (fl A) ∈ rs) := ⟨_, H12.out, by simp⟩
      clear H12 hq
      go_loopw [14] (fun i wr => ∃ p n2 : Nat, wr = w12.drewN n2 ∧ p ≤ 4 ∧ i = .int .i64 (p : Int)) (fun i _ => 4 - (intOf i).toNat)
      case atStart => exact ⟨0, nq, rfl, Nat.zero_le _, rfl⟩
      case round =>
        obtain ⟨p, n2, rfl, hp, rfl⟩ := hrel
        by_cases hlp : p < 4
        · have hlpI : (p : Int) < 4 := by omega
          obtain ⟨rs, hH, hm⟩ := HSQ.out
          have a1 := (hH.five (q := cb) (f := A) (List.mem_cons_of_mem _ hm) (1 + p) (by omega)).1
          have b1 := (hH.five List.mem_cons_self (1 + p) (by omega)).1
          have g1 : ¬ ((Bf (1 + p) : Int) < (A (1 + p) : Int)) := by have := HG3.out p hlp; omega
          have g1n : ¬ (Bf (1 + p) < A (1 + p)) := by have := HG3.out p hlp; omega
          clear hH hm
          go_wp2
          go_quiet (fail)
          go_wp2
          exact ⟨⟨p + 1, _, rfl, by omega, by go_num⟩, by simp [intOf]; omega⟩
        · have hlpI : ¬ (p : Int) < 4 := by omega
          obtain ⟨rs, hH, _⟩ := HSQ.out
          have HB : Hid (Below w.heap.size w (w12.drewN n2)) := (hH.below (below_drewN (Below.refl _ _) _)).bel
          clear hH
          go_wp2_with fail
          refine (CL.out _ HB.out).mono ?_
          rintro e w14 ⟨rfl, hb14⟩
          go_wp2_with fail
          go_ret
          exact ⟨rfl, hb14⟩
end Go.Proofs.YtaeakednekbekaaDoor
