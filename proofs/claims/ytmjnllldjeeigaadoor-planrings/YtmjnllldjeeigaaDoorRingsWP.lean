/- The walk of the law PlanRings. -/
import Derived.Test.YtmjnllldjeeigaaDoorRingsMP
set_option linter.unusedVariables false
set_option maxRecDepth 100000
namespace Go.Proofs.YtmjnllldjeeigaaDoor
open Go.RowKit CheckMath
open Go.Proofs.YtmjnllldjeeigaaDoor.Nm

set_option maxHeartbeats 8000000 in
theorem rings_walk (v : Value) (D : DefD) (w : World) (h : DefIn w v D) (h80 : D.steps.length * 80 ≤ 140737488355328) (hok : ∀ s, s ∈ D.steps → StOk s) (hz : SzD D) (hT : Tabs w) :
    Calls Tryd.prog 5 #[v] w fun e w' => e = .returned (.bool true) ∧ Below w.heap.size w w' := by
  have HD0 : Hid (DefIn w v D) := h
  have HTT : Hid (Tabs w) := hT
  have HOK : Hid ((checkM D).2 = 0 → Fine D) := (checkM_ok D).1
  have HOK2 : Hid (Fine D → (checkM D).2 = 0) := (checkM_ok D).2
  have CK : Hid (∀ wq, Below w.heap.size w wq → Calls Tryd.prog 21 #[v] wq fun e w' => e = .returned (.tuple #[.int .i64 (checkM D).1, .int .i64 (checkM D).2]) ∧ Below wq.heap.size wq w') := fun wq hq => refCheck_any v D hz wq (HD0.out.below hq)
  obtain ⟨sv, rfl, hd⟩ := h
  obtain ⟨ao, cap, rfl, hcap, _, hlen, hrow⟩ := hd
  obtain ⟨w0, hw0⟩ : ∃ w0, w.alloc (.cells #[.string D.name, .slice ao D.steps.length cap] 24) = w0 := ⟨_, rfl⟩
  have HX : Hid (∀ wq, Below w0.heap.size w0 wq → Below w.heap.size w wq ∧ wq.cell? ⟨w.heap.size, 0, none⟩ = some (.string D.name) ∧ wq.cell? ⟨w.heap.size, 1, none⟩ = some (.slice ao D.steps.length cap) ∧ DefIn wq (.agg #[.string D.name, .slice ao D.steps.length cap]) D ∧ Tabs wq) := fun wq hq => by
    subst hw0
    have k0 : Below w.heap.size w wq := ((Below.refl _ w).alloc (Nat.le_refl _) _).trans (hq.mono (by simp))
    refine ⟨k0, (hq.cell (p := ⟨w.heap.size, 0, none⟩) (by simp)).trans ?_, (hq.cell (p := ⟨w.heap.size, 1, none⟩) (by simp)).trans ?_, HD0.out.below k0, Utf8Tabs_below HTT.out k0⟩
    · go_simp
    · go_simp
  obtain ⟨hb0, p0, p1, _⟩ := HX.out w0 (Below.refl _ _)
  have C0 := CK.out _ hb0
  clear hrow hT hok CK h80 HD0 HTT
  generalize (checkM D).1 = m1 at *
  generalize (checkM D).2 = m2 at *
  go_enter Tryd.func5, Tryd.ntmps5
  go_wp2_with fail
  refine C0.mono ?_
  rintro e w1 ⟨rfl, hb1⟩
  have HB1 : Hid (Below w0.heap.size w0 w1) := hb1
  clear C0 hb1 p0 p1 hb0
  by_cases hm : m2 = 0
  case neg =>
    have hm' : (m2 != (0 : Int)) = true := by simpa using hm
    have HNF : Hid (aheadL D ((0 : Nat) : Int) = [] ∧ behindL D ((0 : Nat) : Int) = []) := by
      have hnf : ¬ InD D ((0 : Nat) : Int) := fun h => hm (HOK2.out h.1)
      exact ⟨aheadL_no hnf, behindL_no hnf⟩
    obtain ⟨_, _, _, _, x8⟩ := HX.out w1 HB1.out
    have L := live_any w1 x8
    clear hm x8
    go_wp2_with fail
    refine L.mono ?_
    rintro e w2 ⟨rfl, hb2⟩
    have HB2 : Hid (Below w0.heap.size w0 w2) := HB1.out.trans (hb2.mono HB1.out.size)
    clear L hb2 HB1
    obtain ⟨_, x0, x1, x2, x8⟩ := HX.out w2 HB2.out
    have L := ahead_any _ D (0 : Nat) w2 x2 x8
    rw [HNF.out.1] at L
    clear x2 x8
    go_wp2_with fail
    refine L.mono ?_
    rintro e w3 ⟨v3, rfl, ho3, hb3⟩
    obtain ⟨va, vc, rfl, _⟩ := own_form ho3
    have HB3 : Hid (Below w0.heap.size w0 w3) := HB2.out.trans (hb3.mono HB2.out.size)
    clear L ho3 hb3 HB2 x0 x1
    obtain ⟨_, x0, x1, x2, x8⟩ := HX.out w3 HB3.out
    have L := behind_any _ D (0 : Nat) w3 x2 x8
    rw [HNF.out.2] at L
    clear x2 x8
    go_wp2_with fail
    refine L.mono ?_
    rintro e w4 ⟨v4, rfl, ho4, hb4⟩
    obtain ⟨va4, vc4, rfl, _⟩ := own_form ho4
    have HB4 : Hid (Below w.heap.size w w4) := (HX.out w4 (HB3.out.trans (hb4.mono HB3.out.size))).1
    clear L ho4 hb4 HB3 x0 x1 HX HNF
    go_wp2_with fail
    go_ret
    exact ⟨rfl, HB4.out⟩
  have HF : Hid (Fine D) := HOK.out hm
  have hm' : (m2 != (0 : Int)) = false := by simpa using hm
  have h8l : D.steps.length ≤ 8 := HF.out.few
  obtain ⟨_, x0, x1, _⟩ := HX.out w1 HB1.out
  obtain ⟨ip, hip, hp0, hp1, hp2⟩ := info_parts infoR
  have HS1 : Hid (w0.heap.size ≤ w1.heap.size) := HB1.out.size
  have HXR : Hid (∀ wq, Below w1.heap.size w1 wq → Below w0.heap.size w0 wq) := fun wq hq => HB1.out.trans (hq.mono HS1.out)
  have HH0 : Hid (Has w1.heap.size w1 (OwnR 26 1 (.slice none 0 0) 0 [] :: OwnR 26 1 (.slice none 0 0) 0 [] :: []) w1) := ((Has.start w1).row (World.ownsRow_nil _ _ _ _) (Below.refl _ _)).row (World.ownsRow_nil _ _ _ _) (Below.refl _ _)
  clear hm HOK HOK2
  go_wp2_with fail
  go_loopw [5, 6, 7] (fun lv mv i wr => ∃ (k : Nat) (ls ms : List (Value × List Nat)) (la : Option Addr) (lc : Nat) (ma : Option Addr) (mc : Nat), k ≤ D.steps.length ∧ lv = .slice la k lc ∧ mv = .slice ma k mc ∧ i = .int .i64 (k : Int) ∧
      Hid (ls.map (·.2) = (List.range k).map fun (i : Nat) => aheadL D (i : Int)) ∧ Hid (ms.map (·.2) = (List.range k).map fun (i : Nat) => behindL D (i : Int)) ∧ Hid (Has w1.heap.size w1 (OwnR 26 1 (.slice la k lc) k (ls.map (·.1)) :: OwnR 26 1 (.slice ma k mc) k (ms.map (·.1)) :: (ls.map rr ++ ms.map rr)) wr)) (fun _ _ i _ => D.steps.length - (intOf i).toNat)
  case atStart => exact ⟨0, [], [], none, 0, none, 0, Nat.zero_le _, rfl, rfl, rfl, (rfl : ([] : List (Value × List Nat)).map (·.2) = (List.range 0).map fun (i : Nat) => aheadL D (i : Int)), (rfl : ([] : List (Value × List Nat)).map (·.2) = (List.range 0).map fun (i : Nat) => behindL D (i : Int)), HH0⟩
  case round =>
    obtain ⟨k, ls, ms, la, lc, ma, mc, hk, rfl, rfl, rfl, HLS, HMS, HH⟩ := hrel
    clear HH0 x0 x1
    obtain ⟨_, x0, x1, x2, x8⟩ := HX.out wr (HXR.out _ HH.out.bel)
    by_cases hlt : k < D.steps.length
    · have hltI : (k : Int) < (D.steps.length : Int) := by omega
      have L := ahead_any _ D (k : Int) wr x2 x8
      clear x2 x8
      go_wp2_with fail
      refine L.mono ?_
      rintro e w4 ⟨v4, rfl, ho4, hb4⟩
      obtain ⟨va, vc, rfl, _⟩ := own_form ho4
      have HB4 : Hid (Below w1.heap.size w1 w4) := HH.out.bel.trans (hb4.mono HH.out.size)
      have H5 : Hid (Has w1.heap.size w1 (OwnR 26 1 (.slice la k lc) k (ls.map (·.1)) :: rr (.slice va (aheadL D (k : Int)).length vc, aheadL D (k : Int)) :: OwnR 26 1 (.slice ma k mc) k (ms.map (·.1)) :: (ls.map rr ++ ms.map rr)) (w4.alloc (.cells #[.slice va (aheadL D (k : Int)).length vc] 26))) :=
        ((HH.out.row ho4 hb4).perm (List.Perm.swap _ _ _)).below ((Below.refl _ _).alloc (Nat.le_refl _) _)
      have HOL : Hid ((w4.alloc (.cells #[.slice va (aheadL D (k : Int)).length vc] 26)).ownsRow 0 26 1 (.slice la k lc) k (ls.map (·.1))) := H5.out.own List.mem_cons_self
      have hla := aheadL_len D (k : Int)
      have hlb := behindL_len D (k : Int)
      clear L ho4 hb4 HH x0 x1
      obtain ⟨LA, hLA⟩ : ∃ LA, aheadL D (k : Int) = LA := ⟨_, rfl⟩
      have HLA : Hid (aheadL D (k : Int) = LA) := hLA
      rw [hLA] at H5 HOL hla ⊢
      clear hLA
      go_wp2_with (at_builtin; refine wpList_append_more _ rfl _ _ 38 rfl 0 26 ip (.slice none 0 0) 1 24 Tryd.underlying38 hip hp0 hp1 hp2 rfl (by decide) (.slice la k lc) k (ls.map (·.1)) rfl HOL.out ⟨_, 0, none⟩ 1 1 [.slice va LA.length vc] rfl rfl (cells_new _ _ _) (one_sl _ _ _) (by decide) (by unfold maxLen; omega) (by omega) ?_)
      intro g6 c6 w6 hown6 hwh6 hch6
      have H6 : Hid (Has w1.heap.size w1 (OwnR 26 1 (.slice (some ⟨g6, 0, none⟩) (k + 1) c6) (k + 1) (ls.map (·.1) ++ [.slice va LA.length vc]) :: rr (.slice va LA.length vc, LA) :: OwnR 26 1 (.slice ma k mc) k (ms.map (·.1)) :: (ls.map rr ++ ms.map rr)) w6) := H5.out.grow hown6 (fun g hg => by
        have e : g6 = g := by simpa [Value.ownBlock] using hg
        rw [← e, World.size_alloc]; exact hwh6) hch6
      clear H5 HOL hown6 hwh6 hch6 HB4
      obtain ⟨_, x0, x1, x2, x8⟩ := HX.out w6 (HXR.out _ H6.out.bel)
      have L := behind_any _ D (k : Int) w6 x2 x8
      clear x2 x8
      go_wp2_with fail
      refine L.mono ?_
      rintro e w7 ⟨v7, rfl, ho7, hb7⟩
      obtain ⟨va7, vc7, rfl, _⟩ := own_form ho7
      have H8 : Hid (Has w1.heap.size w1 (OwnR 26 1 (.slice ma k mc) k (ms.map (·.1)) :: rr (.slice va7 (behindL D (k : Int)).length vc7, behindL D (k : Int)) :: OwnR 26 1 (.slice (some ⟨g6, 0, none⟩) (k + 1) c6) (k + 1) (ls.map (·.1) ++ [.slice va LA.length vc]) :: rr (.slice va LA.length vc, LA) :: (ls.map rr ++ ms.map rr)) (w7.alloc (.cells #[.slice va7 (behindL D (k : Int)).length vc7] 26))) :=
        ((H6.out.row ho7 hb7).perm (List.perm_middle (l₁ := [_, _, _]))).below ((Below.refl _ _).alloc (Nat.le_refl _) _)
      have HOL : Hid ((w7.alloc (.cells #[.slice va7 (behindL D (k : Int)).length vc7] 26)).ownsRow 0 26 1 (.slice ma k mc) k (ms.map (·.1))) := H8.out.own List.mem_cons_self
      clear L ho7 hb7 H6 x0 x1
      obtain ⟨LB, hLB⟩ : ∃ LB, behindL D (k : Int) = LB := ⟨_, rfl⟩
      have HLB : Hid (behindL D (k : Int) = LB) := hLB
      rw [hLB] at H8 HOL hlb ⊢
      clear hLB
      go_wp2_with (at_builtin; refine wpList_append_more _ rfl _ _ 38 rfl 0 26 ip (.slice none 0 0) 1 24 Tryd.underlying38 hip hp0 hp1 hp2 rfl (by decide) (.slice ma k mc) k (ms.map (·.1)) rfl HOL.out ⟨_, 0, none⟩ 1 1 [.slice va7 LB.length vc7] rfl rfl (cells_new _ _ _) (one_sl _ _ _) (by decide) (by unfold maxLen; omega) (by omega) ?_)
      intro g9 c9 w9 hown9 hwh9 hch9
      have H9 : Hid (Has w1.heap.size w1 (OwnR 26 1 (.slice (some ⟨g6, 0, none⟩) (k + 1) c6) (k + 1) ((ls ++ [(Value.slice va LA.length vc, LA)]).map (·.1)) :: OwnR 26 1 (.slice (some ⟨g9, 0, none⟩) (k + 1) c9) (k + 1) ((ms ++ [(Value.slice va7 LB.length vc7, LB)]).map (·.1)) :: ((ls ++ [(Value.slice va LA.length vc, LA)]).map rr ++ (ms ++ [(Value.slice va7 LB.length vc7, LB)]).map rr)) w9) := by
        have x := H8.out.grow hown9 (fun g hg => by
          have e : g9 = g := by simpa [Value.ownBlock] using hg
          rw [← e, World.size_alloc]; exact hwh9) hch9
        rw [rr_snoc, rr_snoc, List.map_append, List.map_append]
        exact x.perm (perm_r _ _ _ _ _ _)
      have HLS2 : Hid ((ls ++ [(Value.slice va LA.length vc, LA)]).map (·.2) = (List.range (k + 1)).map fun (i : Nat) => aheadL D (i : Int)) := by
        rw [List.map_append, HLS.out, List.range_succ, List.map_append, ← HLA.out]; rfl
      have HMS2 : Hid ((ms ++ [(Value.slice va7 LB.length vc7, LB)]).map (·.2) = (List.range (k + 1)).map fun (i : Nat) => behindL D (i : Int)) := by
        rw [List.map_append, HMS.out, List.range_succ, List.map_append, ← HLB.out]; rfl
      clear H8 HOL hown9 hwh9 hch9 HLS HMS HLA HLB
      go_wp2_with fail
      exact ⟨⟨k + 1, _, _, _, _, _, _, by omega, rfl, rfl, by go_num, HLS2, HMS2, H9⟩, by simp [intOf]; omega⟩
    · have hltI : ¬ (k : Int) < (D.steps.length : Int) := by omega
      obtain rfl : k = D.steps.length := by omega
      have HRL : Hid (RRow wr (.slice la D.steps.length lc) D.steps.length (fun (i : Nat) => aheadL D (i : Int))) := rrow_own HH.out (by simp) (fun p hp => by simp; exact Or.inr (Or.inr (Or.inl (⟨_, _, hp, rfl⟩)))) HLS.out (fun i _ => by have := aheadL_len D (i : Int); omega)
      have HRM : Hid (RRow wr (.slice ma D.steps.length mc) D.steps.length (fun (i : Nat) => behindL D (i : Int))) := rrow_own HH.out (by simp) (fun p hp => by simp; exact Or.inr (Or.inr (Or.inr (⟨_, _, hp, rfl⟩)))) HMS.out (fun i _ => by have := behindL_len D (i : Int); omega)
      have HBW : Hid (Below w1.heap.size w1 wr) := HH.out.bel
      have h1n : 1 ≤ D.steps.length := HF.out.some
      obtain ⟨_, _, ela, _, hL⟩ := HRL.out
      obtain ⟨_, _, ema, _, hM⟩ := HRM.out
      cases ela
      cases ema
      obtain ⟨gl, ol, _, rfl, _⟩ := hL 0 (by omega)
      obtain ⟨gm, om, _, rfl, _⟩ := hM 0 (by omega)
      have HLC : Hid (∀ i, i < D.steps.length → ∃ sv, ∀ wq, Below wr.heap.size wr wq → wq.cell? ⟨gl, ol + i, none⟩ = some sv ∧ IRow wq sv (castL (aheadL D (i : Int)))) := fun i hi => by
        obtain ⟨g, o, sv, e, k1, k2, k3⟩ := hL i hi
        cases e
        exact ⟨sv, fun wq hq => ⟨(hq.cell (p := ⟨gl, ol + i, none⟩) k1).trans k2, k3.below hq⟩⟩
      have HMC : Hid (∀ i, i < D.steps.length → ∃ sv, ∀ wq, Below wr.heap.size wr wq → wq.cell? ⟨gm, om + i, none⟩ = some sv ∧ IRow wq sv (castL (behindL D (i : Int)))) := fun i hi => by
        obtain ⟨g, o, sv, e, k1, k2, k3⟩ := hM i hi
        cases e
        exact ⟨sv, fun wq hq => ⟨(hq.cell (p := ⟨gm, om + i, none⟩) k1).trans k2, k3.below hq⟩⟩
      have HY : Hid (∀ wq, Below wr.heap.size wr wq → Below w.heap.size w wq ∧ wq.cell? ⟨w.heap.size, 0, none⟩ = some (.string D.name) ∧ wq.cell? ⟨w.heap.size, 1, none⟩ = some (.slice ao D.steps.length cap) ∧ DefIn wq (.agg #[.string D.name, .slice ao D.steps.length cap]) D ∧ Tabs wq) := fun wq hq => HX.out wq (HXR.out _ (HBW.out.trans (hq.mono HBW.out.size)))
      have CH : Hid (∀ wq sv L x, IRow wq sv L → Calls Tryd.prog 22 #[sv, .int .i64 x] wq fun e w' => e = .returned (.bool (tt (x ∈ L))) ∧ Below wq.heap.size wq w') := fun wq sv L x h => lawHas_any sv L x wq h
      clear HH HLS HMS x2 x8 hL hM HRL HRM HX HXR HBW
      obtain ⟨w3, hw3⟩ : ∃ w3, wr = w3 := ⟨_, rfl⟩
      have HB0 : Hid (Below w3.heap.size w3 wr) := by rw [hw3]; exact Below.refl _ _
      have HLC2 : Hid (∀ i, i < D.steps.length → ∃ sv, ∀ wq, Below w3.heap.size w3 wq → wq.cell? ⟨gl, ol + i, none⟩ = some sv ∧ IRow wq sv (castL (aheadL D (i : Int)))) := by rw [← hw3]; exact HLC.out
      have HMC2 : Hid (∀ i, i < D.steps.length → ∃ sv, ∀ wq, Below w3.heap.size w3 wq → wq.cell? ⟨gm, om + i, none⟩ = some sv ∧ IRow wq sv (castL (behindL D (i : Int)))) := by rw [← hw3]; exact HMC.out
      have HY2 : Hid (∀ wq, Below w3.heap.size w3 wq → Below w.heap.size w wq ∧ wq.cell? ⟨w.heap.size, 0, none⟩ = some (.string D.name) ∧ wq.cell? ⟨w.heap.size, 1, none⟩ = some (.slice ao D.steps.length cap) ∧ DefIn wq (.agg #[.string D.name, .slice ao D.steps.length cap]) D ∧ Tabs wq) := by rw [← hw3]; exact HY.out
      clear HLC HMC HY hw3
      go_wp2_with fail
      clear x0 x1
      go_loopw [8] (fun i wr => ∃ a : Nat, a ≤ D.steps.length ∧ i = .int .i64 (a : Int) ∧ Hid (Below w3.heap.size w3 wr)) (fun i _ => D.steps.length - (intOf i).toNat)
      case atStart => exact ⟨0, Nat.zero_le _, rfl, HB0⟩
      case round =>
        clear HB0
        obtain ⟨a, ha, rfl, HB⟩ := hrel
        obtain ⟨_, x0, x1, x2, x8⟩ := HY2.out wr HB.out
        by_cases hlt : a < D.steps.length
        · have hltA : (a : Int) < (D.steps.length : Int) := by omega
          obtain ⟨sa, hsa⟩ := HLC2.out a hlt
          obtain ⟨asa, csa, rfl⟩ := (hsa wr HB.out).2.slice
          have HSA : Hid (∀ wq, Below w3.heap.size w3 wq → wq.cell? ⟨gl, ol + a, none⟩ = some (.slice asa (castL (aheadL D (a : Int))).length csa) ∧ IRow wq (.slice asa (castL (aheadL D (a : Int))).length csa) (castL (aheadL D (a : Int)))) := hsa
          obtain ⟨la, csn⟩ : ∃ z, (castL (aheadL D (a : Int))).length = z := ⟨_, rfl⟩
          rw [csn] at HSA
          obtain ⟨y0, y1⟩ := HSA.out wr HB.out
          have L := CH.out wr _ _ (a : Int) y1
          rw [ring_no HF.out hlt] at L
          clear y1 x2 x8 hsa csn
          go_wp2_with fail
          refine L.mono ?_
          rintro e w5 ⟨rfl, hb5⟩
          have HB5 : Hid (Below w3.heap.size w3 w5) := HB.out.trans (hb5.mono HB.out.size)
          clear L hb5 HB x0 x1 y0
          go_wp2_with fail
          go_loopw [9] (fun i wr => ∃ k : Nat, k ≤ D.steps.length ∧ i = .int .i64 (k : Int) ∧ Hid (Below w3.heap.size w3 wr)) (fun i _ => D.steps.length - (intOf i).toNat)
          case atStart => exact ⟨0, Nat.zero_le _, rfl, HB5⟩
          case round =>
            clear HB5
            obtain ⟨k, hk, rfl, HB⟩ := hrel
            obtain ⟨_, x0, x1, x2, x8⟩ := HY2.out wr HB.out
            clear x2 x8
            by_cases hltk : k < D.steps.length
            · have hltK : (k : Int) < (D.steps.length : Int) := by omega
              obtain ⟨sk, hsk⟩ := HMC2.out k hltk
              have HSK : Hid (∀ wq, Below w3.heap.size w3 wq → wq.cell? ⟨gm, om + k, none⟩ = some sk ∧ IRow wq sk (castL (behindL D (k : Int)))) := hsk
              obtain ⟨y0, _⟩ := HSA.out wr HB.out
              obtain ⟨z0, _⟩ := HSK.out wr HB.out
              have HBd : Hid (Below w3.heap.size w3 wr.drew) := HB.out.drew
              have HR : Hid (tt (((a : Nat) : Int) ∈ castL (behindL D (k : Int))) = tt (((k : Nat) : Int) ∈ castL (aheadL D (a : Int)))) := ring_back HF.out hlt hltk
              have C1 : Hid (∀ wq, Hid (Below w3.heap.size w3 wq) → Calls Tryd.prog 22 #[.slice asa la csa, .int .i64 (k : Int)] wq fun e w' => e = .returned (.bool (tt (((k : Nat) : Int) ∈ castL (aheadL D (a : Int))))) ∧ w'.cell? ⟨gl, ol + a, none⟩ = some (.slice asa la csa) ∧ w'.cell? ⟨gm, om + k, none⟩ = some sk ∧ Hid (Below w3.heap.size w3 w')) := fun wq hq => by
                refine (CH.out wq _ _ (k : Int) (HSA.out wq hq.out).2).mono ?_
                rintro e w' ⟨he, hb⟩
                have h2 := hq.out.trans (hb.mono hq.out.size)
                exact ⟨he, (HSA.out w' h2).1, (HSK.out w' h2).1, h2⟩
              have C2 : Hid (∀ wq, Hid (Below w3.heap.size w3 wq) → Calls Tryd.prog 22 #[sk, .int .i64 (a : Int)] wq fun e w' => e = .returned (.bool (tt (((k : Nat) : Int) ∈ castL (aheadL D (a : Int))))) ∧ w'.cell? ⟨gl, ol + a, none⟩ = some (.slice asa la csa) ∧ w'.cell? ⟨gm, om + k, none⟩ = some sk ∧ Hid (Below w3.heap.size w3 w')) := fun wq hq => by
                rw [← HR.out]
                refine (CH.out wq _ _ (a : Int) (HSK.out wq hq.out).2).mono ?_
                rintro e w' ⟨he, hb⟩
                have h2 := hq.out.trans (hb.mono hq.out.size)
                exact ⟨he, (HSA.out w' h2).1, (HSK.out w' h2).1, h2⟩
              obtain ⟨r1, hr1⟩ : ∃ r1, tt (((k : Nat) : Int) ∈ castL (aheadL D (a : Int))) = r1 := ⟨_, rfl⟩
              have HR1 : Hid (tt (((k : Nat) : Int) ∈ castL (aheadL D (a : Int))) = r1) := hr1
              rw [hr1] at C1 C2
              clear hr1 HR hsk
              go_wp2_with fail
              clear x0 x1
              go_region_held3 (fun w' => w'.cell? ⟨gl, ol + a, none⟩ = some (.slice asa la csa) ∧ w'.cell? ⟨gm, om + k, none⟩ = some sk) (go_keep) (first | (go_at_call 22; with_reducible refine (C1.out _ HBd).mono ?_; rintro e w6 ⟨rfl, m0, m1, HB6⟩) | (go_at_call 22; with_reducible refine (C2.out _ HB6).mono ?_; rintro e w7 ⟨rfl, n0, n1, HB7⟩))
              clear y0 z0 m0 m1 n0 n1 C1 C2 HBd HB6 HB HSK
              go_wp2_with fail
              obtain ⟨sl, hsl⟩ := HLC2.out k hltk
              have HSL : Hid (∀ wq, Below w3.heap.size w3 wq → wq.cell? ⟨gl, ol + k, none⟩ = some sl ∧ IRow wq sl (castL (aheadL D (k : Int)))) := hsl
              clear hsl
              go_loopw [10] (fun i wr => ∃ j : Nat, j ≤ D.steps.length ∧ i = .int .i64 (j : Int) ∧ Hid (Below w3.heap.size w3 wr)) (fun i _ => D.steps.length - (intOf i).toNat)
              case atStart => exact ⟨0, Nat.zero_le _, rfl, HB7⟩
              case round =>
                clear HB7
                obtain ⟨j, hj, rfl, HB⟩ := hrel
                obtain ⟨_, x0, x1, _, _⟩ := HY2.out wr HB.out
                by_cases hltj : j < D.steps.length
                · have hltJ : (j : Int) < (D.steps.length : Int) := by omega
                  obtain ⟨y0, y1⟩ := HSA.out wr HB.out
                  have L := CH.out wr _ _ (k : Int) y1
                  rw [HR1.out] at L
                  clear y1
                  cases r1 with
                  | false =>
                    go_wp2_with fail
                    refine L.mono ?_
                    rintro e w8 ⟨rfl, hb8⟩
                    have HB8 : Hid (Below w3.heap.size w3 w8) := HB.out.trans (hb8.mono HB.out.size)
                    clear L hb8 HB x0 x1 y0
                    go_wp2_with fail
                    exact ⟨⟨j + 1, by omega, by go_num, HB8⟩, by simp [intOf]; omega⟩
                  | true =>
                    go_wp2_with fail
                    refine L.mono ?_
                    rintro e w8 ⟨rfl, hb8⟩
                    have HB8 : Hid (Below w3.heap.size w3 w8) := HB.out.trans (hb8.mono HB.out.size)
                    clear L hb8 HB x0 x1 y0
                    obtain ⟨y0, y1⟩ := HSL.out w8 HB8.out
                    have L := CH.out w8 _ _ (j : Int) y1
                    have HR3 : Hid (tt (((j : Nat) : Int) ∈ castL (aheadL D (k : Int))) = true → tt (((j : Nat) : Int) ∈ castL (aheadL D (a : Int))) = true) := ring_on HF.out hlt hltk HR1.out
                    clear y1
                    generalize tt (((j : Nat) : Int) ∈ castL (aheadL D (k : Int))) = r2 at *
                    cases r2 with
                    | false =>
                      go_wp2_with fail
                      refine L.mono ?_
                      rintro e w9 ⟨rfl, hb9⟩
                      have HB9 : Hid (Below w3.heap.size w3 w9) := HB8.out.trans (hb9.mono HB8.out.size)
                      clear L hb9 HB8 y0 HR3
                      go_wp2_with fail
                      exact ⟨⟨j + 1, by omega, by go_num, HB9⟩, by simp [intOf]; omega⟩
                    | true =>
                      go_wp2_with fail
                      refine L.mono ?_
                      rintro e w9 ⟨rfl, hb9⟩
                      have HB9 : Hid (Below w3.heap.size w3 w9) := HB8.out.trans (hb9.mono HB8.out.size)
                      clear L hb9 HB8 y0
                      obtain ⟨y0, y1⟩ := HSA.out w9 HB9.out
                      have L := CH.out w9 _ _ (j : Int) y1
                      rw [HR3.out trivial] at L
                      clear y1 HR3
                      go_wp2_with fail
                      refine L.mono ?_
                      rintro e w10 ⟨rfl, hb10⟩
                      have HB10 : Hid (Below w3.heap.size w3 w10) := HB9.out.trans (hb10.mono HB9.out.size)
                      clear L hb10 HB9 y0
                      go_wp2_with fail
                      exact ⟨⟨j + 1, by omega, by go_num, HB10⟩, by simp [intOf]; omega⟩
                · have hltJ : ¬ (j : Int) < (D.steps.length : Int) := by omega
                  go_wp2_with fail
                  exact ⟨⟨k + 1, by omega, by go_num, HB⟩, by simp [intOf]; omega⟩
            · have hltK : ¬ (k : Int) < (D.steps.length : Int) := by omega
              go_wp2_with fail
              clear x0 x1
              go_loopw [11] (fun i wr => ∃ y : Nat, y ≤ (nth D.steps a).needs.length ∧ i = .int .i64 (y : Int) ∧ Hid (Below w3.heap.size w3 wr)) (fun i _ => (nth D.steps a).needs.length - (intOf i).toNat)
              case atStart => exact ⟨0, Nat.zero_le _, rfl, HB⟩
              case round =>
                clear HB
                obtain ⟨y, hy, rfl, HB⟩ := hrel
                obtain ⟨_, x0, x1, x2, _⟩ := HY2.out wr HB.out
                obtain ⟨gs, os, rfl, hgs, hstep⟩ := step_of x2 hlt
                have HST : Hid (∀ wq, Below w3.heap.size w3 wq → StepIn wq gs (os + a * 5) (nth D.steps a)) := fun wq hq => by
                  obtain ⟨_, _, _, z2, _⟩ := HY2.out wq hq
                  obtain ⟨g, o, e, _, hs⟩ := step_of z2 hlt
                  cases e
                  exact hs
                obtain ⟨_, _, _, kv, nv, _, c4, _, c6⟩ := hstep
                obtain ⟨na, nc, rfl, hnc, _, hnl, hnr⟩ := c6
                by_cases hlty : y < (nth D.steps a).needs.length
                · have hltY : (y : Int) < ((nth D.steps a).needs.length : Int) := by omega
                  obtain ⟨gn, on, rfl, hgn, cn⟩ := hnr y hlty
                  have HNA : Hid (∀ wq, Below wr.heap.size wr wq → wq.cell? ⟨w.heap.size, 1, none⟩ = some (.slice (some ⟨gs, os, none⟩) D.steps.length cap) ∧ wq.cell? ⟨gs, os + a * 5 + 4, none⟩ = some (.slice (some ⟨gn, on, none⟩) (nth D.steps a).needs.length nc) ∧ wq.cell? ⟨gn, on + y, none⟩ = some (.int .i64 (needAt (nth D.steps a).needs y)) ∧ wq.cell? ⟨gl, ol + a, none⟩ = some (.slice asa la csa)) := fun wq hq => by
                    have h3 := HB.out.trans (hq.mono HB.out.size)
                    exact ⟨(HY2.out wq h3).2.2.1, (hq.cell (p := ⟨gs, os + a * 5 + 4, none⟩) hgs).trans c4, (hq.cell (p := ⟨gn, on + y, none⟩) hgn).trans cn, (HSA.out wq h3).1⟩
                  obtain ⟨y0, y1⟩ := HSA.out wr HB.out
                  have C1 : Hid (Calls Tryd.prog 22 #[.slice asa la csa, .int .i64 (needAt (nth D.steps a).needs y)] wr.drew fun e w' => e = .returned (.bool true) ∧ w'.cell? ⟨w.heap.size, 1, none⟩ = some (.slice (some ⟨gs, os, none⟩) D.steps.length cap) ∧ w'.cell? ⟨gs, os + a * 5 + 4, none⟩ = some (.slice (some ⟨gn, on, none⟩) (nth D.steps a).needs.length nc) ∧ w'.cell? ⟨gn, on + y, none⟩ = some (.int .i64 (needAt (nth D.steps a).needs y)) ∧ w'.cell? ⟨gl, ol + a, none⟩ = some (.slice asa la csa) ∧ Hid (Below w3.heap.size w3 w')) := by
                    have x := CH.out wr.drew _ _ (needAt (nth D.steps a).needs y) (HSA.out wr.drew HB.out.drew).2
                    rw [ring_need HF.out hlt hlty] at x
                    refine x.mono ?_
                    rintro e w' ⟨he, hb⟩
                    have hb2 : Below wr.heap.size wr w' := (Below.refl _ _).drew.trans hb
                    obtain ⟨z1, z2, z3, z4⟩ := HNA.out w' hb2
                    exact ⟨he, z1, z2, z3, z4, HB.out.trans (hb2.mono HB.out.size)⟩
                  clear hnr HST HNA x2 y1 hgs hgn x0
                  generalize needAt (nth D.steps a).needs y = nz at *
                  generalize (nth D.steps a).needs.length = nl0 at *
                  go_wp2_with fail
                  go_region_held3 (fun w' => w'.cell? ⟨w.heap.size, 1, none⟩ = some (.slice (some ⟨gs, os, none⟩) D.steps.length cap) ∧ w'.cell? ⟨gs, os + a * 5 + 4, none⟩ = some (.slice (some ⟨gn, on, none⟩) nl0 nc) ∧ w'.cell? ⟨gn, on + y, none⟩ = some (.int .i64 nz) ∧ w'.cell? ⟨gl, ol + a, none⟩ = some (.slice asa la csa)) (go_keep) ((go_at_call 22; with_reducible refine C1.out.mono ?_; rintro e w6 ⟨rfl, m0, m1, m2, m3, HB6⟩))
                  clear C1 m0 m1 m2 m3 c4 cn y0 x1 HB
                  go_wp2_with fail
                  exact ⟨⟨y + 1, by omega, by go_num, HB6⟩, by simp [intOf]; omega⟩
                · have hltY : ¬ (y : Int) < ((nth D.steps a).needs.length : Int) := by omega
                  clear hnr HST x2 x0
                  go_wp2_with fail
                  exact ⟨⟨a + 1, by omega, by go_num, HB⟩, by simp [intOf]; omega⟩
        · have hltA : ¬ (a : Int) < (D.steps.length : Int) := by omega
          have L := live_any wr x8
          clear x2 x8
          go_wp2_with fail
          refine L.mono ?_
          rintro e w5 ⟨rfl, hb5⟩
          have HB5 : Hid (Below w.heap.size w w5) := (HY2.out w5 (HB.out.trans (hb5.mono HB.out.size))).1
          clear L hb5 HB x0 x1 HY2
          go_wp2_with fail
          go_ret
          exact ⟨rfl, HB5.out⟩
end Go.Proofs.YtmjnllldjeeigaaDoor
