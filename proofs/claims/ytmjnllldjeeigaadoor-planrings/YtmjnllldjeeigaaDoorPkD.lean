/- The texts WeaveW, ThoseW, StandW, RdyW, NmMathN, NmRefN, one behind the other. -/
import Derived.Test.YtmjnllldjeeigaaDoorPkC
import Derived.Deep.RegionHeld3
import Derived.Deep.Light
/- The walk of weave: the web of a definition. -/
set_option linter.unusedVariables false
set_option maxRecDepth 100000
namespace Go.Proofs.YtmjnllldjeeigaaDoor
open Go.RowKit Go.Shelf CheckMath
open Go.Proofs.YtmjnllldjeeigaaDoor.Nm
attribute [local go_sem] Oper.semAt_some

def webL (n : Nat) (a : Nat → Nat) : List Value := [.int .i64 (n : Int), .int .u64 (a 0 : Int), .int .u64 (a 1 : Int), .int .u64 (a 2 : Int), .int .u64 (a 3 : Int), .int .u64 (a 4 : Int), .int .u64 (a 5 : Int), .int .u64 (a 6 : Int), .int .u64 (a 7 : Int)]
def upd8 (a : Nat → Nat) (i v : Nat) : Nat → Nat := fun j => if j = i then v else a j
theorem lt8 {i : Nat} (hi : i < 8) : i = 0 ∨ i = 1 ∨ i = 2 ∨ i = 3 ∨ i = 4 ∨ i = 5 ∨ i = 6 ∨ i = 7 := by omega
theorem webL_at (n : Nat) (a : Nat → Nat) (i : Nat) (hi : i < 8) : (webL n a)[1 + i]? = some (.int .u64 (a i : Int)) := by
  rcases lt8 hi with rfl | rfl | rfl | rfl | rfl | rfl | rfl | rfl <;> rfl
theorem webL_set (n : Nat) (a : Nat → Nat) (i v : Nat) (hi : i < 8) : (webL n a).set (1 + i) (.int .u64 (v : Int)) = webL n (upd8 a i v) := by
  rcases lt8 hi with rfl | rfl | rfl | rfl | rfl | rfl | rfl | rfl <;> rfl
theorem webL_congr {n : Nat} {a b : Nat → Nat} (h : ∀ j, j < 8 → a j = b j) : webL n a = webL n b := by
  unfold webL
  rw [h 0 (by omega), h 1 (by omega), h 2 (by omega), h 3 (by omega), h 4 (by omega), h 5 (by omega), h 6 (by omega), h 7 (by omega)]
theorem blockR_put {w : World} {q : Nat} {vs : List Value} (h : (BlockR q vs).inv w (fun k => k = q)) (j : Nat) (hj : j < vs.length) (u : Value) : (BlockR q (vs.set j u)).inv (w.setCell ⟨q, j, none⟩ u) (fun k => k = q) := by
  obtain ⟨h1, h2, _⟩ := h
  refine ⟨fun i x hx => ?_, by simpa using h2, rfl⟩
  have hil : i < vs.length := by have := (List.getElem?_eq_some_iff.1 hx).1; simpa using this
  refine ⟨?_, by rw [World.frozen?_setCell]; exact (h1 i _ (List.getElem?_eq_getElem hil)).2⟩
  by_cases e : i = j
  · subst e
    rw [World.cell?_setCell_same _ _ _ (h1 i _ (List.getElem?_eq_getElem hil)).1]
    rw [List.getElem?_set_self hil] at hx
    exact hx
  · rw [World.cell?_setCell_other _ _ _ _ (fun h => e (by injection h with _ h2; exact h2.symm))]
    rw [List.getElem?_set_ne (fun h => e h.symm)] at hx
    exact (h1 i x hx).1
/-- The web as the first loop leaves it. -/
def dirA (ss : List StepD) (k : Nat) : Nat → Nat := fun i => if i < k then dirG ss i else 0
theorem dirA_set (n : Nat) (ss : List StepD) (k : Nat) : webL n (upd8 (dirA ss k) k (dirG ss k)) = webL n (dirA ss (k + 1)) := by
  refine webL_congr fun j hj => ?_
  unfold upd8 dirA
  by_cases e : j = k
  · subst e; simp
  · by_cases e2 : j < k
    · simp [e, e2, show j < k + 1 by omega]
    · simp [e, e2, show ¬ j < k + 1 by omega]

/-- What stands in memory while the web is woven: its block, and the block of the result. -/
def WovenIn (w : World) (rb wb : Nat) (n : Nat) (A : Nat → Nat) (wq : World) : Prop := Below w.heap.size w wq ∧ (BlockR wb (webL n A)).inv wq (fun k => k = wb) ∧ (BlockR rb (webL 0 fun _ => 0)).inv wq (fun k => k = rb)
theorem WovenIn.chg {w : World} {rb wb n : Nat} {A : Nat → Nat} {wq wx : World} {S : Nat → Prop} (h : WovenIn w rb wb n A wq) (hc : Chg S wq wx) (hb : w.heap.size ≤ wq.heap.size) (h1 : ¬ S wb) (h2 : ¬ S rb) (h3 : ∀ k, k < w.heap.size → ¬ S k) : WovenIn w rb wb n A wx :=
  ⟨h.1.trans (below_chg hc hb h3), (BlockR _ _).chg h.2.1 hc (fun k hk => by subst hk; exact h1), (BlockR _ _).chg h.2.2 hc (fun k hk => by subst hk; exact h2)⟩

theorem dirG_lt {ss : List StepD} (hN : Needy ss) (h8 : ss.length ≤ 8) {i : Nat} (hi : i < ss.length) : dirG ss i < 256 := by
  refine Nat.lt_pow_two_of_testBit (n := 8) _ fun j hj => ?_
  cases e : (dirG ss i).testBit j with
  | false => rfl
  | true => have := ((dirG_bit hN hi j).1 e).1; omega
theorem dirA_lt {ss : List StepD} (hN : Needy ss) (h8 : ss.length ≤ 8) (i : Nat) : dirA ss ss.length i < 256 := by
  unfold dirA
  split
  · exact dirG_lt hN h8 (by assumption)
  · decide
/-- How far the web is woven. -/
def Far (ss : List StepD) (xs : List Nat) (k : Nat) (A : Nat → Nat) : Prop := (∀ i, i < 8 → A i < 256) ∧ ∀ i, i < ss.length → ∀ j, (A i).testBit j = true ↔ ((i ∈ xs.take k ∧ AheadP ss i j) ∨ (¬ i ∈ xs.take k ∧ Direct ss i j))
theorem far_start {ss : List StepD} (hN : Needy ss) (h8 : ss.length ≤ 8) (xs : List Nat) : Far ss xs 0 (dirA ss ss.length) := by
  refine ⟨fun i _ => dirA_lt hN h8 i, fun i hi j => ?_⟩
  unfold dirA
  rw [if_pos hi, dirG_bit hN hi]
  simp
theorem WovenIn.lt {w : World} {rb wb n : Nat} {A : Nat → Nat} {wq : World} (h : WovenIn w rb wb n A wq) : wb < wq.heap.size ∧ rb < wq.heap.size := ⟨h.2.1.2.1, h.2.2.2.1⟩
theorem WovenIn.at {w : World} {rb wb n : Nat} {A : Nat → Nat} {wq : World} (h : WovenIn w rb wb n A wq) (i : Nat) (hi : i < 8) : wq.cell? ⟨wb, 1 + i, none⟩ = some (.int .u64 (A i : Int)) ∧ wq.frozen? ⟨wb, 1 + i, none⟩ = false := h.2.1.1 _ _ (webL_at n A i hi)

def orF (A : Nat → Nat) (i : Nat) (L : List Nat) : Nat := L.foldl (fun g k => g ||| A k) (A i)
theorem orF_more (A : Nat → Nat) (i k : Nat) (L : List Nat) : orF A i (L ++ [k]) = orF A i L ||| A k := by simp [orF]
theorem orF_bit (A : Nat → Nat) (i j : Nat) (L : List Nat) : (orF A i L).testBit j = true ↔ (A i).testBit j = true ∨ ∃ k, k ∈ L ∧ (A k).testBit j = true := by
  have : ∀ (ys : List Nat) (g : Nat), (ys.foldl (fun g k => g ||| A k) g).testBit j = true ↔ g.testBit j = true ∨ ∃ k, k ∈ ys ∧ (A k).testBit j = true := by
    intro ys
    induction ys with
    | nil => intro g; simp
    | cons y ys ih =>
      intro g
      rw [List.foldl_cons, ih, Nat.testBit_or]
      simp only [Bool.or_eq_true, List.mem_cons]
      constructor
      · rintro ((h | h) | ⟨k, h1, h2⟩)
        · exact Or.inl h
        · exact Or.inr ⟨y, Or.inl rfl, h⟩
        · exact Or.inr ⟨k, Or.inr h1, h2⟩
      · rintro (h | ⟨k, rfl | h1, h2⟩)
        · exact Or.inl (Or.inl h)
        · exact Or.inl (Or.inr h2)
        · exact Or.inr ⟨k, h1, h2⟩
  exact this L (A i)
theorem orF_lt {A : Nat → Nat} (hA : ∀ i, i < 8 → A i < 256) {i : Nat} (hi : i < 8) : ∀ {L : List Nat}, (∀ k, k ∈ L → k < 8) → orF A i L < 256 := by
  intro L hL
  have : ∀ (ys : List Nat) (g : Nat), g < 256 → (∀ k, k ∈ ys → k < 8) → ys.foldl (fun g k => g ||| A k) g < 256 := by
    intro ys
    induction ys with
    | nil => exact fun g hg _ => hg
    | cons y ys ih => exact fun g hg hy => ih _ (Nat.or_lt_two_pow (n := 8) hg (hA y (hy y List.mem_cons_self))) (fun k hk => hy k (List.mem_cons_of_mem _ hk))
  exact this L (A i) (hA i hi) hL
theorem far_more {D : DefD} {A0 : Nat → Nat} {xs : List Nat} (hF : Fine D) (h0 : ∀ i, i < D.steps.length → ∀ j, (A0 i).testBit j = true ↔ Direct D.steps i j) (hX : OrderOf D.steps.length A0 xs) {k : Nat} (hk : k < xs.length) {A : Nat → Nat} (h : Far D.steps xs k A) :
    Far D.steps xs (k + 1) (upd8 A xs[k] (orF A xs[k] (gl (A xs[k]) 8))) := by
  have h8 := hF.few
  have hi : xs[k] < D.steps.length := hX.lt _ (List.getElem_mem hk)
  have hmem : ∀ y, y ∈ xs.take (k + 1) ↔ y ∈ xs.take k ∨ y = xs[k] := fun y => by rw [take_snoc hk]; simp only [List.mem_append, List.mem_singleton]
  have hdir : ∀ j, (A xs[k]).testBit j = true ↔ Direct D.steps xs[k] j := fun j => by
    rw [h.2 _ hi j]
    constructor
    · rintro (⟨h1, _⟩ | ⟨_, h2⟩)
      · exact absurd h1 (hX.new k hk)
      · exact h2
    · exact fun h2 => Or.inr ⟨hX.new k hk, h2⟩
  refine ⟨fun i hi8 => ?_, fun i hin j => ?_⟩
  · unfold upd8
    split
    · exact orF_lt h.1 (by omega) (fun y hy => (gl_mem.1 hy).1)
    · exact h.1 i hi8
  · unfold upd8
    by_cases e : i = xs[k]
    · rw [if_pos e, orF_bit, hdir, hmem]
      rw [e]
      constructor
      · rintro (h1 | ⟨y, h1, h2⟩)
        · exact Or.inl ⟨Or.inr rfl, (aheadP_iff hi j).2 (Or.inl h1)⟩
        · have hd := (hdir y).1 (gl_mem.1 h1).2
          have ht := hX.ripe k hk y ((h0 _ hi y).2 hd)
          refine Or.inl ⟨Or.inr rfl, (aheadP_iff hi j).2 (Or.inr ⟨y, hd, ?_⟩)⟩
          rcases (h.2 y hd.1 j).1 h2 with ⟨_, h3⟩ | ⟨h3, _⟩
          · exact h3
          · exact absurd ht h3
      · rintro (⟨_, h1⟩ | ⟨h1, _⟩)
        · rcases (aheadP_iff hi j).1 h1 with h2 | ⟨y, h2, h3⟩
          · exact Or.inl h2
          · have ht := hX.ripe k hk y ((h0 _ hi y).2 h2)
            exact Or.inr ⟨y, gl_mem.2 ⟨by have := h2.1; omega, (hdir y).2 h2⟩, (h.2 y h2.1 j).2 (Or.inl ⟨ht, h3⟩)⟩
        · exact absurd (Or.inr rfl) h1
    · rw [if_neg e, h.2 i hin j, hmem]
      constructor
      · rintro (⟨h1, h2⟩ | ⟨h1, h2⟩)
        · exact Or.inl ⟨Or.inl h1, h2⟩
        · exact Or.inr ⟨fun h3 => h3.elim h1 e, h2⟩
      · rintro (⟨h1 | h1, h2⟩ | ⟨h1, h2⟩)
        · exact Or.inl ⟨h1, h2⟩
        · exact absurd h1 e
        · exact Or.inr ⟨fun h3 => h1 (Or.inl h3), h2⟩

theorem fill9 {w : World} {q : Nat} (n : Nat) (A : Nat → Nat) (h : (BlockR q (webL 0 fun _ => 0)).inv w (fun k => k = q)) :
    (BlockR q (webL n A)).inv (((((((((w.setCell ⟨q, 0, none⟩ (.int .i64 (n : Int))).setCell ⟨q, 1, none⟩ (.int .u64 (A 0 : Int))).setCell ⟨q, 2, none⟩ (.int .u64 (A 1 : Int))).setCell ⟨q, 3, none⟩ (.int .u64 (A 2 : Int))).setCell ⟨q, 4, none⟩ (.int .u64 (A 3 : Int))).setCell ⟨q, 5, none⟩ (.int .u64 (A 4 : Int))).setCell ⟨q, 6, none⟩ (.int .u64 (A 5 : Int))).setCell ⟨q, 7, none⟩ (.int .u64 (A 6 : Int))).setCell ⟨q, 8, none⟩ (.int .u64 (A 7 : Int))) (fun k => k = q) :=
  blockR_put (blockR_put (blockR_put (blockR_put (blockR_put (blockR_put (blockR_put (blockR_put (blockR_put h 0 (by simp [webL]) _) 1 (by simp [webL]) _) 2 (by simp [webL]) _) 3 (by simp [webL]) _) 4 (by simp [webL]) _) 5 (by simp [webL]) _) 6 (by simp [webL]) _) 7 (by simp [webL]) _) 8 (by simp [webL]) _
theorem chg9 (w : World) (q : Nat) (v0 v1 v2 v3 v4 v5 v6 v7 v8 : Value) : Chg (fun k => k = q) w (((((((((w.setCell ⟨q, 0, none⟩ v0).setCell ⟨q, 1, none⟩ v1).setCell ⟨q, 2, none⟩ v2).setCell ⟨q, 3, none⟩ v3).setCell ⟨q, 4, none⟩ v4).setCell ⟨q, 5, none⟩ v5).setCell ⟨q, 6, none⟩ v6).setCell ⟨q, 7, none⟩ v7).setCell ⟨q, 8, none⟩ v8) :=
  ((((((((chg_set w ⟨q, 0, none⟩ v0).trans (chg_set _ ⟨q, 1, none⟩ v1) (fun _ _ h => h)).trans (chg_set _ ⟨q, 2, none⟩ v2) (fun _ _ h => h)).trans (chg_set _ ⟨q, 3, none⟩ v3) (fun _ _ h => h)).trans (chg_set _ ⟨q, 4, none⟩ v4) (fun _ _ h => h)).trans (chg_set _ ⟨q, 5, none⟩ v5) (fun _ _ h => h)).trans (chg_set _ ⟨q, 6, none⟩ v6) (fun _ _ h => h)).trans (chg_set _ ⟨q, 7, none⟩ v7) (fun _ _ h => h)).trans (chg_set _ ⟨q, 8, none⟩ v8) (fun _ _ h => h)
theorem results_cells {P : Program} {fn : Func} {p : Tmp} {ty : TypeId} (h : fn.results = #[.cell p ty]) (tmps : Array Value) (w : World) (g : Nat) (vs : List Value) (d : TypeDesc) (hp : tmps.getD p undef = .pointer (some ⟨g, 0, none⟩))
    (hv : ∀ j u, vs[j]? = some u → w.cell? ⟨g, j, none⟩ = some u) (hu : P.underlying ty = some d) (hd : d.isRow = true) (hi : (P.info? ty).map (·.size) = some vs.length) : (results fn tmps).run P w = .ok (.agg vs.toArray) w := by
  have hp' : tmps[p]?.getD undef = .pointer (some ⟨g, 0, none⟩) := by simpa using hp
  have hr : w.rangeAt g 0 vs := by
    intro j v hj
    rw [Nat.zero_add]
    exact hv j v hj
  simp [results, h, hp', asAddr, run_loadVar_mid w g 0 ty vs d hr hu hd hi]
theorem bit255 {i : Nat} (hi : i < 8) : (255 : Nat).testBit i = true := by
  rcases lt8 hi with rfl | rfl | rfl | rfl | rfl | rfl | rfl | rfl <;> decide

set_option maxHeartbeats 2000000 in
theorem weave_good (v : Value) (D : DefD) (w : World) (h : DefIn w v D) (hT : Tabs w) (hc : (checkM D).2 = 0) :
    Calls Tryd.prog 24 #[v] w fun e w' => ∃ A, e = .returned (webV D.steps.length A) ∧ (Woven D.steps 255 A ∧ ∀ i, i < 8 → A i < 256) ∧ Below w.heap.size w w' := by
  have HF : Hid (Fine D) := (checkM_ok D).1 hc
  have CX : Hid (∀ wq, Below w.heap.size w wq → Calls Tryd.prog 42 #[v] wq fun e w' => e = .returned (.tuple #[.int .i64 (checkM D).1, .int .i64 0]) ∧ Below wq.heap.size wq w') := fun wq hq => by
    have := check_any v D wq (h.below hq) (Utf8Tabs_below hT hq)
    rw [hc] at this
    exact this
  obtain ⟨sv, rfl, hd⟩ := h
  have HDR : Hid (DRow w sv D.steps) := hd
  obtain ⟨ao, cap, rfl, hcap, hn0, hlen, _⟩ := hd
  have CD : Hid (∀ (i : Nat) (wq : World), i < D.steps.length → Below w.heap.size w wq → Calls Tryd.prog 43 #[.slice ao D.steps.length cap, .int .i64 (i : Int)] wq fun e w' => e = .returned (.int .u64 (dirG D.steps i : Int)) ∧ Below wq.heap.size wq w') := fun i wq hi hq => directly_any _ D.steps HF.out.few (needy_of HF.out.step) i hi wq (HDR.out.below hq)
  clear hT hc hn0
  generalize (checkM D).1 = m1 at *
  have HS0 : Hid (Has w.heap.size w [BlockR (w.heap.size + 1) (webL 0 fun _ => 0), BlockR w.heap.size [.string D.name, .slice ao D.steps.length cap]]
      ((w.alloc (.cells #[.string D.name, .slice ao D.steps.length cap] 24)).alloc (.cells #[.int .i64 0, .int .u64 0, .int .u64 0, .int .u64 0, .int .u64 0, .int .u64 0, .int .u64 0, .int .u64 0, .int .u64 0] 50))) := by
    have h1 := (Has.start w).box [.string D.name, .slice ao D.steps.length cap] 24
    have h2 := h1.box (webL 0 fun _ => 0) 50
    have e : ∀ (w : World) (o : Obj), (w.alloc o).heap.size = w.heap.size + 1 := fun w o => by simp
    simp only [e] at h2
    exact h2
  refine (callsIn_wide (n := 9)).1 ?_
  refine callsIn_of_wp_marks Tryd.func24 rfl trivial ?_ rfl
  simp only [Tryd.ntmps24, List.size_toArray, List.length_cons, List.length_nil, Nat.reduceAdd, Nat.reduceSub, Array.replicate_succ, Array.replicate_zero, List.push_toArray, List.append_toArray, List.nil_append, List.cons_append]
  gi_wp2
  refine ⟨trivial, callsIn_wide.2 ((CX.out _ HS0.out.bel).mono ?_)⟩
  rintro e w1 ⟨rfl, hb1⟩
  have HS1 : Hid (Has w.heap.size w [BlockR (w.heap.size + 1) (webL 0 fun _ => 0), BlockR w.heap.size [.string D.name, .slice ao D.steps.length cap]] w1) := HS0.out.below hb1
  obtain ⟨p1, _⟩ := HS1.out.cell (q := w.heap.size) (vs := [.string D.name, .slice ao D.steps.length cap]) (by simp) 1 _ rfl
  have hz1 : w.heap.size < w1.heap.size := block_lt_of_cell p1
  have hz2 : ¬ w.heap.size = w1.heap.size := by omega
  have HS2 : Hid (Has w.heap.size w [BlockR w1.heap.size (webL D.steps.length (dirA D.steps 0)), BlockR (w.heap.size + 1) (webL 0 fun _ => 0), BlockR w.heap.size [.string D.name, .slice ao D.steps.length cap]]
      (w1.alloc (.cells #[.int .i64 (D.steps.length : Int), .int .u64 0, .int .u64 0, .int .u64 0, .int .u64 0, .int .u64 0, .int .u64 0, .int .u64 0, .int .u64 0] 50))) := HS1.out.box (webL D.steps.length (dirA D.steps 0)) 50
  have HRW : Hid (¬ w.heap.size + 1 = w1.heap.size) := by
    have := (HS1.out.cell (q := w.heap.size + 1) (vs := webL 0 fun _ => 0) (by simp) 0 _ rfl).1
    have := block_lt_of_cell this
    show ¬ _
    simp only at this
    omega
  have HWB : Hid (w.heap.size ≤ w1.heap.size) := HS1.out.size
  clear HS0 HS1 CX hb1
  gi_wp2
  generalize (w1.alloc (.cells #[.int .i64 (D.steps.length : Int), .int .u64 0, .int .u64 0, .int .u64 0, .int .u64 0, .int .u64 0, .int .u64 0, .int .u64 0, .int .u64 0] 50)) = w2 at *
  generalize w1.heap.size = wb at *
  clear p1 hz1
  have hn8 : D.steps.length ≤ 8 := HF.out.few
  gi_loopw [25] (fun i wr => ∃ k : Nat, k ≤ D.steps.length ∧ i = .int .i64 (k : Int) ∧ Hid (Has w.heap.size w [BlockR wb (webL D.steps.length (dirA D.steps k)), BlockR (w.heap.size + 1) (webL 0 fun _ => 0), BlockR w.heap.size [.string D.name, .slice ao D.steps.length cap]] wr)) (fun i _ => D.steps.length - (intOf i).toNat)
  case atStart => exact ⟨0, Nat.zero_le _, rfl, HS2⟩
  case round =>
    obtain ⟨k, hk, rfl, H⟩ := hrel
    clear HS2
    obtain ⟨p1, _⟩ := H.out.cell (q := w.heap.size) (vs := [.string D.name, .slice ao D.steps.length cap]) (by simp) 1 _ rfl
    by_cases hlt : k < D.steps.length
    · have hltI : (k : Int) < (D.steps.length : Int) := by omega
      have hk8 : (k : Int) < 8 := by omega
      have HC : Hid (Calls Tryd.prog 43 #[.slice ao D.steps.length cap, .int .i64 (k : Int)] wr fun e w' => e = .returned (.int .u64 (dirG D.steps k : Int)) ∧ Below wr.heap.size wr w') := CD.out k wr hlt H.out.bel
      gi_wp2
      refine ⟨trivial, callsIn_wide.2 (HC.out.mono ?_)⟩
      rintro e w3 ⟨rfl, hb3⟩
      have H3 := H.out.below hb3
      obtain ⟨x1, x2⟩ := H3.cell List.mem_cons_self (1 + k) _ (webL_at _ _ k (by omega))
      have HE : Hid (Has w.heap.size w [BlockR wb (webL D.steps.length (dirA D.steps (k + 1))), BlockR (w.heap.size + 1) (webL 0 fun _ => 0), BlockR w.heap.size [.string D.name, .slice ao D.steps.length cap]] (w3.setCell ⟨wb, 1 + k, none⟩ (.int .u64 (dirG D.steps k : Int)))) := by
        have h4 := H3.put (1 + k) (by show 1 + k < 9; omega) (.int .u64 (dirG D.steps k : Int))
        rw [webL_set _ _ _ _ (by omega), dirA_set] at h4
        exact h4
      clear H H3 HC hb3
      gi_wp2
      exact ⟨⟨k + 1, by omega, by go_num, HE⟩, by simp [intOf]; omega⟩
    · have hltI : ¬ (k : Int) < (D.steps.length : Int) := by omega
      have HV0 : Hid (WovenIn w (w.heap.size + 1) wb D.steps.length (dirA D.steps D.steps.length) wr) := by
        have h := H.out
        rw [show k = D.steps.length by omega] at h
        obtain ⟨F1, ⟨g1, g2, rfl⟩, _⟩ := h.get (r := BlockR wb (webL D.steps.length (dirA D.steps D.steps.length))) (by simp)
        obtain ⟨F2, ⟨k1, k2, rfl⟩, _⟩ := h.get (r := BlockR (w.heap.size + 1) (webL 0 fun _ => 0)) (by simp)
        exact ⟨h.bel, ⟨g1, g2, rfl⟩, k1, k2, rfl⟩
      have HSZ : Hid (w.heap.size ≤ wr.heap.size) := H.out.size
      have HNE : Hid (¬ w.heap.size + 1 = wb ∧ w.heap.size + 1 < wr.heap.size ∧ w.heap.size ≤ wb) := ⟨HRW.out, HV0.out.lt.2, HWB.out⟩
      have HFAR : Hid (∀ xs, Far D.steps xs 0 (dirA D.steps D.steps.length)) := fun xs => far_start (needy_of HF.out.step) hn8 xs
      have q0 := (HV0.out.2.1.1 0 _ rfl).1
      have q1 := (HV0.out.at 0 (by omega)).1
      have q2 := (HV0.out.at 1 (by omega)).1
      have q3 := (HV0.out.at 2 (by omega)).1
      have q4 := (HV0.out.at 3 (by omega)).1
      have q5 := (HV0.out.at 4 (by omega)).1
      have q6 := (HV0.out.at 5 (by omega)).1
      have q7 := (HV0.out.at 6 (by omega)).1
      have q8 := (HV0.out.at 7 (by omega)).1
      have HBITS : Hid (∀ i, i < D.steps.length → ∀ j, (dirA D.steps D.steps.length i).testBit j = true ↔ Direct D.steps i j) := fun i hi j => by
        unfold dirA
        rw [if_pos hi, dirG_bit (needy_of HF.out.step) hi]
      generalize dirA D.steps D.steps.length = A0 at *
      obtain ⟨xs, hxs⟩ := order_exists D.steps.length A0
      have HX : Hid (OrderOf D.steps.length A0 xs) := hxs
      have HTL : Hid (SeqTells (P := Tryd.prog) Fence.wide (9 - 1) 44 (webV D.steps.length A0) xs wr) := order_tells D.steps.length A0 hn8 (fun i hi => ((HFAR.out []).1 i hi)) xs hxs _ _
      clear H hxs
      generalize wr = wz at *
      gi_wp2
      refine range_told rfl (by decide) rfl trivial (enters_of Tryd.func44 (by kernel_rfl) rfl) HTL.out rfl (fun k W => ∃ A, WovenIn w (w.heap.size + 1) wb D.steps.length A W ∧ Far D.steps xs k A) ?_ ?_ ⟨A0, HV0.out, HFAR.out xs⟩ ?round ?done
      · rintro k2 W1 W2 ⟨A, hV, hFar⟩ hb
        exact ⟨A, hV.chg (S := fun _ => False) (chg_below hb) (by have := hV.1.size; have := HSZ.out; have := hV.lt; omega) (fun h => h) (fun h => h) (fun _ _ h => h), hFar⟩
      · rintro k2 W1 l o o2 ⟨A, hV, hFar⟩ hl ho _
        have hlt := (Array.getElem?_eq_some_iff.1 ho).1
        have h1 := HV0.out.lt
        have h2 := HSZ.out
        exact ⟨A, hV.chg (chg_put W1 l o2) (by omega) (by omega) (by omega) (fun b hb => by omega), hFar⟩
      case round =>
        intro l k2 X hk2
        have hi := HX.out.lt xs[k2] (List.getElem_mem hk2)
        have hi8 : (xs[k2] : Int) < 8 := by omega
        gi_wp2
        refine ⟨trivial, fun W hsz hI => ?_⟩
        obtain ⟨A, hV, hFar⟩ := hI
        have HV : Hid (WovenIn w (w.heap.size + 1) wb D.steps.length A W) := hV
        have HFA : Hid (Far D.steps xs k2 A) := hFar
        obtain ⟨c1, _⟩ := hV.at xs[k2] (by omega)
        have CL : Hid (Calls Tryd.prog 26 #[.int .u64 (A xs[k2] : Int)] W fun e w' => ∃ v, e = .returned v ∧ w'.ownsRow W.heap.size 3 1 v (gl (A xs[k2]) 8).length ((gl (A xs[k2]) 8).map nV) ∧ Below W.heap.size W w') := gList_any _ (hFar.1 _ (by omega)) W
        clear hV hFar
        gi_wp2
        refine ⟨trivial, CallsIn.inRound l (callsIn_wide.2 (CL.out.mono ?_))⟩
        rintro e w5 ⟨v5, rfl, hown5, hb5⟩
        obtain ⟨a5, c5, rfl, _⟩ := own_form hown5
        have HLL : Hid ((gl (A xs[k2]) 8).length ≤ 8 ∧ ∀ y, y ∈ gl (A xs[k2]) 8 → y < 8) := ⟨gl_len _ _, fun y hy => (gl_mem.1 hy).1⟩
        have HFM : Hid (Far D.steps xs (k2 + 1) (upd8 A xs[k2] (orF A xs[k2] (gl (A xs[k2]) 8)))) := far_more HF.out HBITS.out HX.out hk2 HFA.out
        have HNI : Hid (∀ y, y ∈ gl (A xs[k2]) 8 → ¬ y = xs[k2]) := fun y hy e => by
          subst e
          have := (gl_mem.1 hy).2
          rcases (HFA.out.2 _ hi _).1 this with ⟨h1, _⟩ | ⟨_, h2⟩
          · exact HX.out.new k2 hk2 h1
          · exact ahead_no_ring HF.out _ (Path.one ⟨hi, h2⟩)
        have hW5 : WovenIn w (w.heap.size + 1) wb D.steps.length A w5 := HV.out.chg (S := fun _ => False) (chg_below hb5) (by have := HV.out.lt; have := HSZ.out; omega) (fun h => h) (fun h => h) (fun _ _ h => h)
        have HA : Hid (∀ i, i < 8 → A i < 256) := HFA.out.1
        have HW5 : Hid (WovenIn w (w.heap.size + 1) wb D.steps.length (upd8 A xs[k2] (orF A xs[k2] ((gl (A xs[k2]) 8).take 0))) w5) := by
          have e : webL D.steps.length (upd8 A xs[k2] (orF A xs[k2] ((gl (A xs[k2]) 8).take 0))) = webL D.steps.length A := webL_congr fun j hj => by
            unfold upd8 orF
            by_cases e : j = xs[k2]
            · rw [if_pos e, e]; rfl
            · rw [if_neg e]
          show WovenIn _ _ _ _ _ _
          unfold WovenIn
          rw [e]
          exact hW5
        have HO5 : Hid (w5.ownsRow W.heap.size 3 1 (.slice a5 (gl (A xs[k2]) 8).length c5) (gl (A xs[k2]) 8).length ((gl (A xs[k2]) 8).map nV)) := hown5
        have HC5 : Hid (Chg (fun b => b < wz.heap.size) W w5) := chg_below hb5
        have HI8 : Hid (xs[k2] < 8) := (by omega : xs[k2] < 8)
        clear hown5 hb5 hW5 CL HV HFA c1
        generalize gl (A xs[k2]) 8 = L at *
        generalize hii : xs[k2] = i at *
        clear hii
        gi_wp2
        gi_loopw [45] (fun x wq => ∃ m : Nat, m ≤ L.length ∧ x = .int .i64 (m : Int) ∧ Hid (WovenIn w (w.heap.size + 1) wb D.steps.length (upd8 A i (orF A i (L.take m))) wq) ∧ Hid (wq.ownsRow W.heap.size 3 1 (.slice a5 L.length c5) L.length (L.map nV)) ∧ Hid (Chg (fun b => b < wz.heap.size) W wq)) (fun x _ => L.length - (intOf x).toNat)
        case atStart => exact ⟨0, Nat.zero_le _, rfl, HW5, HO5, HC5⟩
        case round =>
          obtain ⟨m, hm, rfl, HWm, HOm, HCm⟩ := hrel
          clear HW5 HO5 HC5
          by_cases hlm : m < L.length
          · have hlmI : (m : Int) < (L.length : Int) := by omega
            obtain ⟨ao5, cap5, e5, o1, o2, o3⟩ := own_form HOm.out
            cases e5
            cases a5 with
            | none => have := (o2 rfl).1; omega
            | some p =>
              obtain ⟨g5, rfl, g6, g7, g8, _, _⟩ := o3 p rfl
              have x1 : wr.cell? ⟨g5, m, none⟩ = some (.int .i64 (L[m] : Nat)) := by
                rw [g8 m (by omega)]
                simp [nV, hlm]
              have hy8 : L[m] < 8 := HLL.out.2 _ (List.getElem_mem hlm)
              have hyn : ¬ L[m] = i := HNI.out _ (List.getElem_mem hlm)
              have HTK : Hid (orF A i (L.take (m + 1)) = orF A i (L.take m) ||| A L[m]) := by
                show _ = _
                rw [List.take_succ_eq_append_getElem hlm, orF_more]
              have hlt1 : orF A i (L.take m) < 256 := orF_lt HA.out HI8.out (fun y hy => HLL.out.2 y (List.mem_of_mem_take hy))
              have hlt2 : A L[m] < 256 := HA.out _ hy8
              obtain ⟨z1, z2⟩ := HWm.out.at i HI8.out
              obtain ⟨z3, _⟩ := HWm.out.at L[m] hy8
              rw [show upd8 A i (orF A i (L.take m)) i = orF A i (L.take m) from if_pos rfl] at z1
              rw [show upd8 A i (orF A i (L.take m)) L[m] = A L[m] from if_neg hyn] at z3
              generalize hy : L[m] = y at *
              clear hy
              have HB : bits BinOp.or IntKind.u64 (orF A i (L.take m) : Int) (A y : Int) = (orF A i (L.take (m + 1)) : Nat) := by
                rw [bits_or_u64_nat _ _ (by omega) (by omega), HTK.out]
              have hwbz : wb < wz.heap.size := HV0.out.lt.1
              have hgn : g5 ≠ wb := by omega
              have HE0 : WovenIn w (w.heap.size + 1) wb D.steps.length (upd8 A i (orF A i (L.take (m + 1)))) (wr.setCell ⟨wb, 1 + i, none⟩ (.int .u64 (orF A i (L.take (m + 1)) : Nat))) := by
                have h1 := HWm.out
                have hp := blockR_put h1.2.1 (1 + i) (by show 1 + i < 9; have := HI8.out; omega) (.int .u64 (orF A i (L.take (m + 1)) : Nat))
                rw [webL_set _ _ _ _ HI8.out, webL_congr (b := upd8 A i (orF A i (L.take (m + 1)))) (fun j hj => by unfold upd8; split <;> rfl)] at hp
                have hn1 := HNE.out
                exact ⟨h1.1.trans (below_chg (chg_set wr ⟨wb, 1 + i, none⟩ _) (by have := h1.lt; omega) (fun b hb e => by have e2 : b = wb := e; omega)), hp, (BlockR _ _).chg h1.2.2 (chg_set wr ⟨wb, 1 + i, none⟩ _) (fun b hb e => by have e2 : b = wb := e; omega)⟩
              have HE : Hid (WovenIn w (w.heap.size + 1) wb D.steps.length (upd8 A i (orF A i (L.take (m + 1)))) (wr.setCell ⟨wb, 1 + i, none⟩ (.int .u64 (orF A i (L.take (m + 1)) : Nat))).drew) := HE0.chg (S := fun _ => False) (chg_below ⟨rfl, rfl, rfl, Nat.le_refl _, fun _ _ => rfl⟩) (by have := HE0.lt; have := HNE.out; omega) (fun h => h) (fun h => h) (fun _ _ h => h)
              clear HE0
              have HO2 : Hid ((wr.setCell ⟨wb, 1 + i, none⟩ (.int .u64 (orF A i (L.take (m + 1)) : Nat))).drew.ownsRow W.heap.size 3 1 (.slice (some ⟨g5, 0, none⟩) L.length c5) L.length (L.map nV)) := own_chg HOm.out ((chg_set wr ⟨wb, 1 + i, none⟩ _).trans (chg_below (S := fun _ => False) ⟨rfl, rfl, rfl, Nat.le_refl _, fun _ _ => rfl⟩) (fun _ _ h => h.elim)) (fun g hg e => by
                have : g = g5 := by simpa [Value.ownBlock] using hg.symm
                simp only at e
                omega)
              have HC2 : Hid (Chg (fun b => b < wz.heap.size) W (wr.setCell ⟨wb, 1 + i, none⟩ (.int .u64 (orF A i (L.take (m + 1)) : Nat))).drew) := (HCm.out.trans (chg_set wr ⟨wb, 1 + i, none⟩ _) (fun b _ e => by simp only at e; omega)).trans (chg_below (S := fun _ => False) ⟨rfl, rfl, rfl, Nat.le_refl _, fun _ _ => rfl⟩) (fun _ _ h => h.elim)
              have hl8 : L.length ≤ 8 := HLL.out.1
              have hi9 : (i : Int) < 8 := by have := HI8.out; omega
              have hy9 : (y : Int) < 8 := by omega
              clear HWm HOm HCm o1 o2 o3 g8 HTK
              have hmx : Tryd.prog.follows .mixedOrders = true := by kernel_rfl
              gi_wp2
              refine region_in hmx (fun ⟨a, w, h⟩ => (h : False)) (fun j o ho c e => ?_) ?_
              · have hm := Array.mem_of_getElem? ho
                simp only [List.mem_toArray, List.mem_cons, List.not_mem_nil, or_false] at hm
                rcases hm with rfl | rfl | rfl | rfl | rfl | rfl | rfl | rfl | rfl | rfl | rfl | rfl
                all_goals cases e
              refine wpAny_take (i := 0) (v := .int .i64 (i : Int)) rfl (by decide +kernel) (by decide +kernel) (by decide +kernel) (fun _ _ _ h => h) (Or.inl ⟨by rfl, fun w => by go_simp⟩) ?_
              refine wpAny_take (i := 1) (v := .pointer (some ⟨wb, 1, none⟩)) rfl (by decide +kernel) (by decide +kernel) (by decide +kernel) (fun _ _ _ h => h) (Or.inl ⟨by rfl, fun w => by go_simp⟩) ?_
              refine wpAny_take (i := 4) (v := .int .i64 (y : Int)) rfl (by decide +kernel) (by decide +kernel) (by decide +kernel) (fun _ _ _ h => h) (Or.inl ⟨by rfl, fun w => by go_simp⟩) ?_
              refine wpAny_take (i := 5) (v := .pointer (some ⟨wb, 1, none⟩)) rfl (by decide +kernel) (by decide +kernel) (by decide +kernel) (fun _ _ _ h => h) (Or.inl ⟨by rfl, fun w => by go_simp⟩) ?_
              refine wpAny_take (i := 9) (v := .pointer (some ⟨wb, 1, none⟩)) rfl (by decide +kernel) (by decide +kernel) (by decide +kernel) (fun _ _ _ h => h) (Or.inl ⟨by rfl, fun w => by go_simp⟩) ?_
              refine wpAny_take (i := 2) (v := .pointer (some ⟨wb, 1 + i, none⟩)) rfl (by decide +kernel) (by decide +kernel) (by decide +kernel) (fun _ _ _ h => h) (Or.inl ⟨by rfl, fun w => by go_simp⟩) ?_
              refine wpAny_take (i := 6) (v := .pointer (some ⟨wb, 1 + y, none⟩)) rfl (by decide +kernel) (by decide +kernel) (by decide +kernel) (fun _ _ _ h => h) (Or.inl ⟨by rfl, fun w => by go_simp⟩) ?_
              refine any_two (i := 3) (j := 7) (by decide +kernel) ?_ ?_
              · refine op_value (v := (.int .u64 (orF A i (L.take m) : Nat))) (w' := wr.drew) rfl (by rfl) (by go_simp) ?_
                refine any_one (i := 7) (by decide +kernel) ?_
                refine op_value (v := (.int .u64 (A y : Nat))) (w' := wr.drew) rfl (by rfl) (by go_simp) ?_
                refine any_one (i := 8) (by decide +kernel) ?_
                refine op_value (v := (.int .u64 (orF A i (L.take (m + 1)) : Nat))) (w' := wr.drew) rfl (by rfl) (by go_simp) ?_
                refine any_one (i := 10) (by decide +kernel) ?_
                refine op_value (v := (.pointer (some ⟨wb, 1 + i, none⟩))) (w' := wr.drew) rfl (by rfl) (by go_simp) ?_
                refine any_one (i := 11) (by decide +kernel) ?_
                refine op_skip (w' := (wr.setCell ⟨wb, 1 + i, none⟩ (.int .u64 (orF A i (L.take (m + 1)) : Nat))).drew) rfl (by rfl) (by go_simp) ?_
                refine wpAny_done (by decide +kernel) ?_ _
                gi_wp2
                exact ⟨⟨m + 1, by omega, by go_num, HE, HO2, HC2⟩, by simp [intOf]; omega⟩
              · refine op_value (v := (.int .u64 (A y : Nat))) (w' := wr.drew) rfl (by rfl) (by go_simp) ?_
                refine any_one (i := 3) (by decide +kernel) ?_
                refine op_value (v := (.int .u64 (orF A i (L.take m) : Nat))) (w' := wr.drew) rfl (by rfl) (by go_simp) ?_
                refine any_one (i := 8) (by decide +kernel) ?_
                refine op_value (v := (.int .u64 (orF A i (L.take (m + 1)) : Nat))) (w' := wr.drew) rfl (by rfl) (by go_simp) ?_
                refine any_one (i := 10) (by decide +kernel) ?_
                refine op_value (v := (.pointer (some ⟨wb, 1 + i, none⟩))) (w' := wr.drew) rfl (by rfl) (by go_simp) ?_
                refine any_one (i := 11) (by decide +kernel) ?_
                refine op_skip (w' := (wr.setCell ⟨wb, 1 + i, none⟩ (.int .u64 (orF A i (L.take (m + 1)) : Nat))).drew) rfl (by rfl) (by go_simp) ?_
                refine wpAny_done (by decide +kernel) ?_ _
                gi_wp2
                exact ⟨⟨m + 1, by omega, by go_num, HE, HO2, HC2⟩, by simp [intOf]; omega⟩
          · have hlmI : ¬ (m : Int) < (L.length : Int) := by omega
            have HE : Hid (Chg (fun b => b < wz.heap.size ∨ wz.heap.size + 2 < b) W wr ∧ ∃ A, WovenIn w (w.heap.size + 1) wb D.steps.length A wr ∧ Far D.steps xs (k2 + 1) A) := by
              refine ⟨HCm.out.mono (fun b _ h => Or.inl h), _, ?_, HFM.out⟩
              have h := HWm.out
              rw [show m = L.length by omega, List.take_length] at h
              exact h
            gi_wp2
            exact HE.out
      case done =>
        rintro Dn W hD ⟨A, hV, hFar⟩ hdef
        have HV : Hid (WovenIn w (w.heap.size + 1) wb D.steps.length A W) := hV
        have HFA : Hid (Far D.steps xs xs.length A) := hFar
        have hq := fun (j : Nat) (u : Value) (hu : (webL D.steps.length A)[j]? = some u) => (hV.2.1.1 j u hu).1
        have hr := fun (j : Nat) (u : Value) (hu : (webL 0 fun _ => 0)[j]? = some u) => hV.2.2.1 j u hu
        have q0 := hq 0 _ rfl
        have q1 := hq 1 _ rfl
        have q2 := hq 2 _ rfl
        have q3 := hq 3 _ rfl
        have q4 := hq 4 _ rfl
        have q5 := hq 5 _ rfl
        have q6 := hq 6 _ rfl
        have q7 := hq 7 _ rfl
        have q8 := hq 8 _ rfl
        obtain ⟨r0, f0⟩ := hr 0 _ rfl
        obtain ⟨r1, f1⟩ := hr 1 _ rfl
        obtain ⟨r2, f2⟩ := hr 2 _ rfl
        obtain ⟨r3, f3⟩ := hr 3 _ rfl
        obtain ⟨r4, f4⟩ := hr 4 _ rfl
        obtain ⟨r5, f5⟩ := hr 5 _ rfl
        obtain ⟨r6, f6⟩ := hr 6 _ rfl
        obtain ⟨r7, f7⟩ := hr 7 _ rfl
        obtain ⟨r8, f8⟩ := hr 8 _ rfl
        have hlt := hV.lt
        have HWV : Hid (Woven D.steps 255 A ∧ ∀ i, i < 8 → A i < 256) := by
          refine ⟨fun i hi => ?_, HFA.out.1⟩
          refine ⟨HFA.out.1 i (by omega), fun j => ?_⟩
          rw [bit255 (by omega), if_pos rfl, HFA.out.2 i hi j, List.take_length]
          have hm := HX.out.all HF.out (fun i hi j hj => Path.one ⟨hi, (HBITS.out i hi j).1 hj⟩) i hi
          exact ⟨fun h => h.elim (fun h => h.2) (fun h => absurd hm h.1), fun h => Or.inl ⟨hm, h⟩⟩
        have hDn : ¬ Dn = w.heap.size + 1 := by have := HNE.out; omega
        have hdl : Dn < W.heap.size := (Array.getElem?_eq_some_iff.1 hdef).1
        have hF9 := fill9 D.steps.length A hV.2.2
        have hC9 := chg9 W (w.heap.size + 1) (.int .i64 (D.steps.length : Int)) (.int .u64 (A 0 : Int)) (.int .u64 (A 1 : Int)) (.int .u64 (A 2 : Int)) (.int .u64 (A 3 : Int)) (.int .u64 (A 4 : Int)) (.int .u64 (A 5 : Int)) (.int .u64 (A 6 : Int)) (.int .u64 (A 7 : Int))
        have HD9 := HidMk ((hC9.block Dn hdl hDn).trans hdef)
        have HC9 := HidMk ((hC9.mono (T := fun k => k = w.heap.size + 1 ∨ k = Dn) (fun _ _ h => Or.inl h)).trans (chg_put _ Dn (.deferred none)) (fun _ _ h => Or.inr h))
        have HF9 := HidMk ((BlockR _ _).chg hF9 (chg_put _ Dn (.deferred none)) (fun b hb e => hDn (e.symm.trans hb)))
        have HBL : Hid (Below w.heap.size w W) := hV.1
        have HSW : Hid (w.heap.size ≤ W.heap.size) := (by omega : w.heap.size ≤ W.heap.size)
        clear hq hr hV hFar hdef hF9 hC9
        gi_wp2
        refine ⟨by simp, .inl ⟨_, _, rfl, run_takeDeferred HD9.out, ?_⟩⟩
        refine ⟨_, results_cells rfl _ _ (w.heap.size + 1) (webL D.steps.length A) _ rfl (fun j u hu => (HF9.out.1 j u hu).1) Tryd.underlying50 rfl (by kernel_rfl), A, rfl, HWV.out, ?_⟩
        exact HBL.out.trans (below_chg HC9.out HSW.out (fun b hb e => by have := HNE.out; omega))

set_option maxHeartbeats 2000000 in
theorem weave_bad (v : Value) (D : DefD) (w : World) (h : DefIn w v D) (hT : Tabs w) (hc : (checkM D).2 ≠ 0) :
    Calls Tryd.prog 24 #[v] w fun e w' => e = .returned (webV 0 fun _ => 0) ∧ Below w.heap.size w w' := by
  have CX : Hid (∀ wq, Below w.heap.size w wq → Calls Tryd.prog 42 #[v] wq fun e w' => e = .returned (.tuple #[.int .i64 (checkM D).1, .int .i64 (checkM D).2]) ∧ Below wq.heap.size wq w') := fun wq hq => check_any v D wq (h.below hq) (Utf8Tabs_below hT hq)
  obtain ⟨sv, rfl, hd⟩ := h
  obtain ⟨ao, cap, rfl, hcap, hn0, hlen, _⟩ := hd
  have hm2 : ((checkM D).2 == 0) = false := by simpa using hc
  clear hT hc hn0
  generalize (checkM D).1 = m1 at *
  generalize (checkM D).2 = m2 at *
  have HS0 : Hid (Has w.heap.size w [BlockR (w.heap.size + 1) (webL 0 fun _ => 0), BlockR w.heap.size [.string D.name, .slice ao D.steps.length cap]]
      ((w.alloc (.cells #[.string D.name, .slice ao D.steps.length cap] 24)).alloc (.cells #[.int .i64 0, .int .u64 0, .int .u64 0, .int .u64 0, .int .u64 0, .int .u64 0, .int .u64 0, .int .u64 0, .int .u64 0] 50))) := by
    have h1 := (Has.start w).box [.string D.name, .slice ao D.steps.length cap] 24
    have h2 := h1.box (webL 0 fun _ => 0) 50
    have e : ∀ (w : World) (o : Obj), (w.alloc o).heap.size = w.heap.size + 1 := fun w o => by simp
    simp only [e] at h2
    exact h2
  go_enter Tryd.func24, Tryd.ntmps24
  go_wp2_with fail
  refine (CX.out _ HS0.out.bel).mono ?_
  rintro e w1 ⟨rfl, hb1⟩
  have H := HS0.out.below hb1
  obtain ⟨F, ⟨g1, g2, rfl⟩, _⟩ := H.get (r := BlockR (w.heap.size + 1) (webL 0 fun _ => 0)) (by simp)
  have hF9 := fill9 0 (fun _ => 0) (⟨g1, g2, rfl⟩ : (BlockR (w.heap.size + 1) (webL 0 fun _ => 0)).inv w1 (fun k => k = w.heap.size + 1))
  have HF9 := HidMk hF9
  have HBB := HidMk (H.bel.trans (below_chg (chg9 w1 (w.heap.size + 1) (.int .i64 0) (.int .u64 0) (.int .u64 0) (.int .u64 0) (.int .u64 0) (.int .u64 0) (.int .u64 0) (.int .u64 0) (.int .u64 0)) H.size (fun b hb e => by omega)))
  obtain ⟨r0, f0⟩ := g1 0 _ rfl
  obtain ⟨r1, f1⟩ := g1 1 _ rfl
  obtain ⟨r2, f2⟩ := g1 2 _ rfl
  obtain ⟨r3, f3⟩ := g1 3 _ rfl
  obtain ⟨r4, f4⟩ := g1 4 _ rfl
  obtain ⟨r5, f5⟩ := g1 5 _ rfl
  obtain ⟨r6, f6⟩ := g1 6 _ rfl
  obtain ⟨r7, f7⟩ := g1 7 _ rfl
  obtain ⟨r8, f8⟩ := g1 8 _ rfl
  clear HS0 CX hb1 H g1 hF9
  go_wp2_with fail
  exact bodyPost_ret (results_cells rfl _ _ (w.heap.size + 1) (webL 0 fun _ => 0) _ rfl (fun j u hu => (HF9.out.1 j u hu).1) Tryd.underlying50 rfl (by kernel_rfl)) rfl ⟨rfl, HBB.out⟩
/-- The web of a definition: of one that may not be, an empty one. -/
def WebOf (D : DefD) (n : Nat) (A : Nat → Nat) : Prop := n ≤ 8 ∧ (∀ i, i < 8 → A i < 256) ∧ ((Fine D ∧ n = D.steps.length ∧ Woven D.steps 255 A) ∨ (¬ Fine D ∧ n = 0))
theorem weave_any (v : Value) (D : DefD) (w : World) (h : DefIn w v D) (hT : Tabs w) : Calls Tryd.prog 24 #[v] w fun e w' => ∃ n A, e = .returned (webV n A) ∧ WebOf D n A ∧ Below w.heap.size w w' := by
  by_cases hc : (checkM D).2 = 0
  · have hF := (checkM_ok D).1 hc
    exact (weave_good v D w h hT hc).mono (fun e w' ⟨A, he, ⟨h1, h2⟩, hb⟩ => ⟨_, A, he, ⟨hF.few, h2, Or.inl ⟨hF, rfl, h1⟩⟩, hb⟩)
  · exact (weave_bad v D w h hT hc).mono (fun e w' ⟨he, hb⟩ => ⟨0, fun _ => 0, he, ⟨by omega, fun _ _ => (show (0 : Nat) < 256 by decide), Or.inr ⟨fun hF => hc ((checkM_ok D).2 hF), rfl⟩⟩, hb⟩)
theorem WebOf.bit {D : DefD} {n : Nat} {A : Nat → Nat} (h : WebOf D n A) {i : Nat} (hi : i < n) (j : Nat) : (A i).testBit j = true ↔ AheadP D.steps i j := by
  rcases h.2.2 with ⟨_, rfl, hw⟩ | ⟨_, rfl⟩
  · rw [(hw i hi).2 j, bit255 (by have := h.1; omega), if_pos rfl]
  · omega
theorem WebOf.inD {D : DefD} {n : Nat} {A : Nat → Nat} (h : WebOf D n A) {i : Nat} (hi : i < n) : Fine D ∧ i < D.steps.length := by
  rcases h.2.2 with ⟨hF, rfl, _⟩ | ⟨_, rfl⟩
  · exact ⟨hF, hi⟩
  · omega
end Go.Proofs.YtmjnllldjeeigaaDoor

/- The walks of stand's done and open, and of web's those, in package plan. -/
set_option linter.unusedVariables false
set_option maxRecDepth 100000
namespace Go.Proofs.YtmjnllldjeeigaaDoor
open Go.RowKit CheckMath
open Go.Proofs.YtmjnllldjeeigaaDoor.Nm

/-- A stand: a web, and the states. -/
def standC (n : Nat) (a : Nat → Nat) (so : Option Addr) (sl sc : Nat) : Array Value := #[.int .i64 (n : Int), .int .u64 (a 0 : Int), .int .u64 (a 1 : Int), .int .u64 (a 2 : Int), .int .u64 (a 3 : Int), .int .u64 (a 4 : Int), .int .u64 (a 5 : Int), .int .u64 (a 6 : Int), .int .u64 (a 7 : Int), .slice so sl sc]
def standV (n : Nat) (a : Nat → Nat) (so : Option Addr) (sl sc : Nat) : Value := .agg (standC n a so sl sc)

set_option maxHeartbeats 2000000 in
theorem done_any (n : Nat) (a : Nat → Nat) (so : Option Addr) (sc : Nat) (st : List Int) (i : Nat) (hi : i < st.length) (w : World) (h : IRow w (.slice so st.length sc) st) :
    Calls Tryd.prog 50 #[standV n a so st.length sc, .int .i64 (i : Int)] w fun e w' => e = .returned (.bool (tt (needAt st i = 2))) ∧ Below w.heap.size w w' := by
  obtain ⟨ao, cap, e, hcap, _, hlen, hrow⟩ := h
  cases e
  obtain ⟨g, o, rfl, hg, c0⟩ := hrow i hi
  have hiI : (i : Int) < (st.length : Int) := by omega
  clear hrow
  unfold standV standC
  by_cases hq : needAt st i = 2
  · have HE : Hid (tt (needAt st i = 2) = true) := tt_yes hq
    have hq' : (needAt st i == (2 : Int)) = true := by simpa using hq
    generalize tt (needAt st i = 2) = r at *
    clear hq
    generalize needAt st i = x at *
    go_enter Tryd.func50, Tryd.ntmps50
    go_wp2
    go_ret
    rw [HE.out]
    exact ⟨rfl, (Below.refl _ _).alloc (Nat.le_refl _) _⟩
  · have HE : Hid (tt (needAt st i = 2) = false) := tt_no hq
    have hq' : (needAt st i == (2 : Int)) = false := by simpa using hq
    generalize tt (needAt st i = 2) = r at *
    clear hq
    generalize needAt st i = x at *
    go_enter Tryd.func50, Tryd.ntmps50
    go_wp2
    go_ret
    rw [HE.out]
    exact ⟨rfl, (Below.refl _ _).alloc (Nat.le_refl _) _⟩

/-- The group of those of which something is so, of those less than m. -/
noncomputable def thoseG (P : Nat → Prop) : Nat → Nat
  | 0 => 0
  | m + 1 => if tt (P m) = true then plus (thoseG P m) m else thoseG P m
theorem thoseG_lt (P : Nat → Prop) : ∀ m, m ≤ 8 → thoseG P m < 256
  | 0, _ => by show 0 < 256; decide
  | m + 1, h => by
    unfold thoseG
    split
    · exact plus_lt (thoseG_lt P m (by omega)) (by omega)
    · exact thoseG_lt P m (by omega)
theorem thoseG_yes {P : Nat → Prop} {m : Nat} (h : P m) : thoseG P (m + 1) = plus (thoseG P m) m := by rw [thoseG, if_pos (tt_yes h)]
theorem thoseG_no {P : Nat → Prop} {m : Nat} (h : ¬ P m) : thoseG P (m + 1) = thoseG P m := by rw [thoseG, if_neg (by rw [tt_no h]; simp)]
theorem thoseG_bit (P : Nat → Prop) : ∀ m j, (thoseG P m).testBit j = true ↔ j < m ∧ P j
  | 0, j => by simp [thoseG]
  | m + 1, j => by
    by_cases h : P m
    · rw [thoseG_yes h, plus_bit, Bool.or_eq_true, thoseG_bit P m j, decide_eq_true_eq]
      constructor
      · rintro (⟨h1, h2⟩ | rfl)
        · exact ⟨by omega, h2⟩
        · exact ⟨by omega, h⟩
      · rintro ⟨h1, h2⟩
        by_cases e : m = j
        · exact Or.inr e
        · exact Or.inl ⟨by omega, h2⟩
    · rw [thoseG_no h, thoseG_bit P m j]
      constructor
      · rintro ⟨h1, h2⟩; exact ⟨by omega, h2⟩
      · rintro ⟨h1, h2⟩
        by_cases e : j = m
        · subst e; exact absurd h2 h
        · exact ⟨by omega, h2⟩
set_option maxHeartbeats 4000000 in
theorem those_any (f : Nat) (hf : f = 35 ∨ f = 36 ∨ f = 50 ∨ f = 51) (P : Nat → Prop) (sv : Value) (n : Nat) (a : Nat → Nat) (hn : n ≤ 8) (w : World)
    (hc : ∀ (i : Nat) (wq : World), i < n → Below w.heap.size w wq → Calls Tryd.prog f #[sv, .int .i64 (i : Int)] wq fun e w' => e = .returned (.bool (tt (P i))) ∧ Below wq.heap.size wq w') :
    Calls Tryd.prog 34 #[webV n a, .func (.func f) #[sv] #[]] w fun e w' => e = .returned (.int .u64 (thoseG P n : Int)) ∧ Below w.heap.size w w' := by
  have HW : Hid (∀ wq, Below (w.alloc (.cells (webC n a) 50)).heap.size (w.alloc (.cells (webC n a) 50)) wq → Below w.heap.size w wq ∧ wq.cell? ⟨w.heap.size, 0, none⟩ = some (.int .i64 (n : Int)) ∧ ∀ i, i < 8 → wq.cell? ⟨w.heap.size, 1 + i, none⟩ = some (.int .u64 (a i : Int))) := fun wq hb => box_web n a w wq hb
  have HB0 : Hid (Below (w.alloc (.cells (webC n a) 50)).heap.size (w.alloc (.cells (webC n a) 50)) (w.alloc (.cells (webC n a) 50))) := Below.refl _ _
  have HC : Hid (∀ (i : Nat) (wq : World), i < n → Below w.heap.size w wq → Calls Tryd.prog f #[sv, .int .i64 (i : Int)] wq fun e w' => e = .returned (.bool (tt (P i))) ∧ Below wq.heap.size wq w') := hc
  clear hc
  unfold webV
  unfold webC at *
  rcases hf with rfl | rfl | rfl | rfl
  all_goals (
    go_enter Tryd.func34, Tryd.ntmps34
    go_wp2
    generalize (w.alloc (.cells #[.int .i64 (n : Int), .int .u64 (a 0 : Int), .int .u64 (a 1 : Int), .int .u64 (a 2 : Int), .int .u64 (a 3 : Int), .int .u64 (a 4 : Int), .int .u64 (a 5 : Int), .int .u64 (a 6 : Int), .int .u64 (a 7 : Int)] 50)) = w0 at *
    go_loopw [5, 6, 9] (fun g _ k wr => ∃ m : Nat, m ≤ n ∧ k = .int .i64 (m : Int) ∧ g = .int .u64 (thoseG P m : Int) ∧ Hid (Below w0.heap.size w0 wr)) (fun _ _ k _ => n - (intOf k).toNat)
    case atStart => exact ⟨0, Nat.zero_le _, rfl, rfl, HB0⟩
    case round =>
      obtain ⟨m, hm, rfl, rfl, HB⟩ := hrel
      obtain ⟨hbw, p0, p1⟩ := HW.out _ HB.out
      clear p1
      by_cases hlt : m < n
      · have hltI : (m : Int) < (n : Int) := by omega
        have C1 : Hid (Calls Tryd.prog _ #[sv, .int .i64 (m : Int)] wr fun e w' => e = .returned (.bool (tt (P m))) ∧ Below wr.heap.size wr w') := HC.out m wr hlt hbw
        have C2 : Hid (∀ wq, Calls Tryd.prog 46 #[.int .u64 (thoseG P m : Int), .int .i64 (m : Int)] wq fun e w' => e = .returned (.int .u64 (plus (thoseG P m) m : Int)) ∧ w' = wq) := fun wq => gWith_any (thoseG P m) m (thoseG_lt P m (by omega)) (by omega) wq
        clear hbw p0
        by_cases hb : P m
        · rw [tt_yes hb] at C1
          have HG : Hid (thoseG P (m + 1) = plus (thoseG P m) m) := thoseG_yes hb
          clear hb
          go_wp2_with fail
          refine C1.out.mono ?_
          rintro e w1 ⟨rfl, hb1⟩
          have HB1 : Hid (Below w0.heap.size w0 w1) := HB.out.trans (hb1.mono HB.out.size)
          clear hb1 C1
          go_wp2_with fail
          refine (C2.out _).mono ?_
          rintro e w2 ⟨rfl, hw2⟩
          rw [hw2]
          clear hw2 w2 C2
          go_wp2
          exact ⟨⟨m + 1, by omega, by go_num, by rw [HG.out], HB1⟩, by simp [intOf]; omega⟩
        · rw [tt_no hb] at C1
          have HG : Hid (thoseG P (m + 1) = thoseG P m) := thoseG_no hb
          clear hb C2
          go_wp2_with fail
          refine C1.out.mono ?_
          rintro e w1 ⟨rfl, hb1⟩
          have HB1 : Hid (Below w0.heap.size w0 w1) := HB.out.trans (hb1.mono HB.out.size)
          clear hb1 C1
          go_wp2
          exact ⟨⟨m + 1, by omega, by go_num, by rw [HG.out], HB1⟩, by simp [intOf]; omega⟩
      · have hltI : ¬ (m : Int) < (n : Int) := by omega
        have HE : Hid (n = m) := by show n = m; omega
        go_wp2
        go_ret
        rw [HE.out]
        exact ⟨rfl, hbw⟩)
end Go.Proofs.YtmjnllldjeeigaaDoor

/- The walks of stand's open and mayBe, in package plan. -/
set_option linter.unusedVariables false
set_option maxRecDepth 100000
namespace Go.Proofs.YtmjnllldjeeigaaDoor
open Go.RowKit CheckMath
open Go.Proofs.YtmjnllldjeeigaaDoor.Nm

def OpenS (x : Int) : Prop := x = 1 ∨ x = 2
set_option maxHeartbeats 2000000 in
theorem open_any (n : Nat) (a : Nat → Nat) (so : Option Addr) (sc : Nat) (st : List Int) (i : Nat) (hi : i < st.length) (w : World) (h : IRow w (.slice so st.length sc) st) :
    Calls Tryd.prog 51 #[standV n a so st.length sc, .int .i64 (i : Int)] w fun e w' => e = .returned (.bool (tt (OpenS (needAt st i)))) ∧ Below w.heap.size w w' := by
  obtain ⟨ao, cap, e, hcap, _, hlen, hrow⟩ := h
  cases e
  obtain ⟨g, o, rfl, hg, c0⟩ := hrow i hi
  have hiI : (i : Int) < (st.length : Int) := by omega
  clear hrow
  unfold standV standC
  by_cases hq : needAt st i = 1
  · have HE : Hid (tt (OpenS (needAt st i)) = true) := tt_yes (Or.inl hq)
    have hq' : (needAt st i == (1 : Int)) = true := by simpa using hq
    generalize tt (OpenS (needAt st i)) = r at *
    clear hq
    generalize needAt st i = x at *
    go_enter Tryd.func51, Tryd.ntmps51
    go_wp2
    go_ret
    rw [HE.out]
    exact ⟨rfl, (Below.refl _ _).alloc (Nat.le_refl _) _⟩
  have hq' : (needAt st i == (1 : Int)) = false := by simpa using hq
  by_cases hq2 : needAt st i = 2
  · have HE : Hid (tt (OpenS (needAt st i)) = true) := tt_yes (Or.inr hq2)
    have hq2' : (needAt st i == (2 : Int)) = true := by simpa using hq2
    generalize tt (OpenS (needAt st i)) = r at *
    clear hq hq2
    generalize needAt st i = x at *
    go_enter Tryd.func51, Tryd.ntmps51
    go_wp2
    go_ret
    rw [HE.out]
    exact ⟨rfl, (Below.refl _ _).alloc (Nat.le_refl _) _⟩
  · have HE : Hid (tt (OpenS (needAt st i)) = false) := tt_no (fun h => h.elim hq hq2)
    have hq2' : (needAt st i == (2 : Int)) = false := by simpa using hq2
    generalize tt (OpenS (needAt st i)) = r at *
    clear hq hq2
    generalize needAt st i = x at *
    go_enter Tryd.func51, Tryd.ntmps51
    go_wp2
    go_ret
    rw [HE.out]
    exact ⟨rfl, (Below.refl _ _).alloc (Nat.le_refl _) _⟩

/-- The states are as many as the steps, each from 0 to 5. -/
def FitS (n : Nat) (st : List Int) : Prop := st.length = n ∧ ∀ i, i < st.length → 0 ≤ needAt st i ∧ needAt st i ≤ 5
set_option maxHeartbeats 2000000 in
theorem mayBe_stand (n : Nat) (a : Nat → Nat) (so : Option Addr) (sc : Nat) (st : List Int) (w : World) (h : IRow w (.slice so st.length sc) st) :
    Calls Tryd.prog 33 #[standV n a so st.length sc] w fun e w' => e = .returned (.bool (tt (FitS n st))) ∧ Below w.heap.size w w' := by
  obtain ⟨ao, cap, e, hcap, _, hlen, hrow⟩ := h
  cases e
  have HR : Hid (∀ j, j < st.length → ∃ g o, so = some ⟨g, o, none⟩ ∧ g < w.heap.size ∧ w.cell? ⟨g, o + j, none⟩ = some (.int .i64 (needAt st j))) := hrow
  have HE1 : Hid (¬ st.length = n → tt (FitS n st) = false) := fun h => tt_no (fun k => h k.1)
  have HE2 : Hid (∀ i, i < st.length → ¬ (0 ≤ needAt st i ∧ needAt st i ≤ 5) → tt (FitS n st) = false) := fun i hi h => tt_no (fun k => h (k.2 i hi))
  have HE3 : Hid (st.length = n → (∀ i, i < st.length → 0 ≤ needAt st i ∧ needAt st i ≤ 5) → tt (FitS n st) = true) := fun h k => tt_yes ⟨h, k⟩
  clear hrow
  generalize tt (FitS n st) = r at *
  unfold standV standC
  by_cases hn : st.length = n
  case neg =>
    have HE : Hid (r = false) := HE1.out hn
    have hn' : ((st.length : Int) != (n : Int)) = true := by simp; omega
    clear HE1 HE2 HE3 hn HR
    go_enter Tryd.func33, Tryd.ntmps33
    go_wp2
    go_ret
    rw [HE.out]
    exact ⟨rfl, (Below.refl _ _).alloc (Nat.le_refl _) _⟩
  have hn' : ((st.length : Int) != (n : Int)) = false := by simp; omega
  have HN : Hid (st.length = n) := hn
  have HBX : Hid (Below w.heap.size w (w.alloc (.cells #[.int .i64 (n : Int), .int .u64 (a 0 : Int), .int .u64 (a 1 : Int), .int .u64 (a 2 : Int), .int .u64 (a 3 : Int), .int .u64 (a 4 : Int), .int .u64 (a 5 : Int), .int .u64 (a 6 : Int), .int .u64 (a 7 : Int), .slice so st.length sc] 61))) := (Below.refl _ _).alloc (Nat.le_refl _) _
  clear HE1 hn
  go_enter Tryd.func33, Tryd.ntmps33
  go_wp2
  generalize (w.alloc (.cells #[.int .i64 (n : Int), .int .u64 (a 0 : Int), .int .u64 (a 1 : Int), .int .u64 (a 2 : Int), .int .u64 (a 3 : Int), .int .u64 (a 4 : Int), .int .u64 (a 5 : Int), .int .u64 (a 6 : Int), .int .u64 (a 7 : Int), .slice so st.length sc] 61)) = w0 at *
  go_loopw [4, 15] (fun _ k wr => ∃ m : Nat, m ≤ st.length ∧ k = .int .i64 (m : Int) ∧ Hid (Below w.heap.size w wr) ∧ Hid (∀ i, i < m → 0 ≤ needAt st i ∧ needAt st i ≤ 5)) (fun _ k _ => st.length - (intOf k).toNat)
  case atStart => exact ⟨0, Nat.zero_le _, rfl, HBX, fun i hi => absurd hi (Nat.not_lt_zero _)⟩
  case round =>
    obtain ⟨m, hm, rfl, HB, HT⟩ := hrel
    by_cases hlt : m < st.length
    · obtain ⟨g, o, rfl, hg, c0⟩ := HR.out m hlt
      have d0 := (HB.out.cell (p := ⟨g, o + m, none⟩) hg).trans c0
      have hltI : (m : Int) < (st.length : Int) := by omega
      have HNO : Hid (¬ (0 ≤ needAt st m ∧ needAt st m ≤ 5) → r = false) := HE2.out m hlt
      have HYES : Hid ((0 ≤ needAt st m ∧ needAt st m ≤ 5) → ∀ i, i < m + 1 → 0 ≤ needAt st i ∧ needAt st i ≤ 5) := fun h i hi => by
        by_cases e : i = m
        · subst e; exact h
        · exact HT.out i (by omega)
      clear c0 HR HE2 HE3 HT
      by_cases h1 : needAt st m < 0
      · have HE : Hid (r = false) := HNO.out (by omega)
        clear HNO HYES
        generalize needAt st m = x at *
        go_wp2
        go_ret
        rw [HE.out]
        exact ⟨rfl, HB.out⟩
      by_cases h2 : 5 < needAt st m
      · have HE : Hid (r = false) := HNO.out (by omega)
        clear HNO HYES
        generalize needAt st m = x at *
        go_wp2
        go_ret
        rw [HE.out]
        exact ⟨rfl, HB.out⟩
      · have HT2 : Hid (∀ i, i < m + 1 → 0 ≤ needAt st i ∧ needAt st i ≤ 5) := HYES.out (by omega)
        clear HNO HYES
        generalize needAt st m = x at d0 h1 h2
        go_wp2
        exact ⟨⟨m + 1, by omega, by go_num, HB, HT2⟩, by simp [intOf]; omega⟩
    · have hltI : ¬ (m : Int) < (st.length : Int) := by omega
      have HE : Hid (r = true) := HE3.out HN.out (fun i hi => HT.out i (by omega))
      clear HR HE2 HE3 HT
      go_wp2
      go_ret
      rw [HE.out]
      exact ⟨rfl, HB.out⟩
end Go.Proofs.YtmjnllldjeeigaaDoor

/- The walks of stand's ready and undo. -/
set_option linter.unusedVariables false
set_option maxRecDepth 100000
namespace Go.Proofs.YtmjnllldjeeigaaDoor
open Go.RowKit CheckMath
open Go.Proofs.YtmjnllldjeeigaaDoor.Nm

def standL (n : Nat) (a : Nat → Nat) (so : Option Addr) (sl sc : Nat) : List Value := [.int .i64 (n : Int), .int .u64 (a 0 : Int), .int .u64 (a 1 : Int), .int .u64 (a 2 : Int), .int .u64 (a 3 : Int), .int .u64 (a 4 : Int), .int .u64 (a 5 : Int), .int .u64 (a 6 : Int), .int .u64 (a 7 : Int), .slice so sl sc]
def DoneG (n : Nat) (st : List Int) : Nat → Prop := fun k => needAt st k = 2
def ReadyS (a : Nat → Nat) (n : Nat) (st : List Int) (i : Nat) : Prop := needAt st i = 0 ∧ ∀ j, (a i).testBit j = true → (thoseG (DoneG n st) n).testBit j = true
theorem IRow.keep {w wq : World} {v : Value} {xs : List Int} (h : IRow w v xs) (hb : Below w.heap.size w wq) : IRow wq v xs := h.below hb
theorem standL_at {n : Nat} {a : Nat → Nat} {so : Option Addr} {sl sc i : Nat} (hi : i < 8) : (standL n a so sl sc)[1 + i]? = some (.int .u64 (a i : Int)) := by
  have h8 : i = 0 ∨ i = 1 ∨ i = 2 ∨ i = 3 ∨ i = 4 ∨ i = 5 ∨ i = 6 ∨ i = 7 := by omega
  rcases h8 with rfl | rfl | rfl | rfl | rfl | rfl | rfl | rfl <;> rfl

set_option maxHeartbeats 2000000 in
theorem ready_any (a : Nat → Nat) (st : List Int) (hn : st.length ≤ 8) (ha : ∀ i, i < 8 → a i < 256) (so : Option Addr) (sc : Nat) (i : Nat) (hi : i < st.length) (w : World) (h : IRow w (.slice so st.length sc) st) :
    Calls Tryd.prog 35 #[standV st.length a so st.length sc, .int .i64 (i : Int)] w fun e w' => e = .returned (.bool (tt (ReadyS a st.length st i))) ∧ Below w.heap.size w w' := by
  have HI : Hid (IRow w (.slice so st.length sc) st) := h
  obtain ⟨ao, cap, e, hcap, _, hlen, hrow⟩ := h
  cases e
  obtain ⟨g, o, rfl, hg, c0⟩ := hrow i (by omega)
  have hiI : (i : Int) < (st.length : Int) := by omega
  have hi8 : (i : Int) < 8 := by omega
  have HS0 : Hid (Has w.heap.size w [BlockR w.heap.size (standL st.length a (some ⟨g, o, none⟩) st.length sc)] (w.alloc (.cells #[.int .i64 (st.length : Int), .int .u64 (a 0 : Int), .int .u64 (a 1 : Int), .int .u64 (a 2 : Int), .int .u64 (a 3 : Int), .int .u64 (a 4 : Int), .int .u64 (a 5 : Int), .int .u64 (a 6 : Int), .int .u64 (a 7 : Int), .slice (some ⟨g, o, none⟩) st.length sc] 61))) := (Has.start w).box (standL st.length a (some ⟨g, o, none⟩) st.length sc) 61
  have HW : Hid (∀ wq, Below (w.alloc (.cells #[.int .i64 (st.length : Int), .int .u64 (a 0 : Int), .int .u64 (a 1 : Int), .int .u64 (a 2 : Int), .int .u64 (a 3 : Int), .int .u64 (a 4 : Int), .int .u64 (a 5 : Int), .int .u64 (a 6 : Int), .int .u64 (a 7 : Int), .slice (some ⟨g, o, none⟩) st.length sc] 61)).heap.size (w.alloc (.cells #[.int .i64 (st.length : Int), .int .u64 (a 0 : Int), .int .u64 (a 1 : Int), .int .u64 (a 2 : Int), .int .u64 (a 3 : Int), .int .u64 (a 4 : Int), .int .u64 (a 5 : Int), .int .u64 (a 6 : Int), .int .u64 (a 7 : Int), .slice (some ⟨g, o, none⟩) st.length sc] 61)) wq → Below w.heap.size w wq ∧ wq.cell? ⟨w.heap.size, 0, none⟩ = some (.int .i64 (st.length : Int)) ∧ wq.cell? ⟨w.heap.size, 1, none⟩ = some (.int .u64 (a 0 : Int)) ∧ wq.cell? ⟨w.heap.size, 2, none⟩ = some (.int .u64 (a 1 : Int)) ∧ wq.cell? ⟨w.heap.size, 3, none⟩ = some (.int .u64 (a 2 : Int)) ∧ wq.cell? ⟨w.heap.size, 4, none⟩ = some (.int .u64 (a 3 : Int)) ∧ wq.cell? ⟨w.heap.size, 5, none⟩ = some (.int .u64 (a 4 : Int)) ∧ wq.cell? ⟨w.heap.size, 6, none⟩ = some (.int .u64 (a 5 : Int)) ∧ wq.cell? ⟨w.heap.size, 7, none⟩ = some (.int .u64 (a 6 : Int)) ∧ wq.cell? ⟨w.heap.size, 8, none⟩ = some (.int .u64 (a 7 : Int)) ∧ wq.cell? ⟨w.heap.size, 9, none⟩ = some (.slice (some ⟨g, o, none⟩) st.length sc) ∧ wq.cell? ⟨w.heap.size, 1 + i, none⟩ = some (.int .u64 (a i : Int)) ∧ wq.cell? ⟨g, o + i, none⟩ = some (.int .i64 (needAt st i))) := fun wq hq => by
    have hh := HS0.out.below hq
    have hc := fun (j : Nat) (u : Value) (hu : (standL st.length a (some ⟨g, o, none⟩) st.length sc)[j]? = some u) => (hh.cell List.mem_cons_self j u hu).1
    exact ⟨hh.bel, hc 0 _ rfl, hc 1 _ rfl, hc 2 _ rfl, hc 3 _ rfl, hc 4 _ rfl, hc 5 _ rfl, hc 6 _ rfl, hc 7 _ rfl, hc 8 _ rfl, hc 9 _ rfl, hc _ _ (standL_at (by omega)), (hh.bel.cell (p := ⟨g, o + i, none⟩) hg).trans c0⟩
  have HB0 : Hid (Below (w.alloc (.cells #[.int .i64 (st.length : Int), .int .u64 (a 0 : Int), .int .u64 (a 1 : Int), .int .u64 (a 2 : Int), .int .u64 (a 3 : Int), .int .u64 (a 4 : Int), .int .u64 (a 5 : Int), .int .u64 (a 6 : Int), .int .u64 (a 7 : Int), .slice (some ⟨g, o, none⟩) st.length sc] 61)).heap.size (w.alloc (.cells #[.int .i64 (st.length : Int), .int .u64 (a 0 : Int), .int .u64 (a 1 : Int), .int .u64 (a 2 : Int), .int .u64 (a 3 : Int), .int .u64 (a 4 : Int), .int .u64 (a 5 : Int), .int .u64 (a 6 : Int), .int .u64 (a 7 : Int), .slice (some ⟨g, o, none⟩) st.length sc] 61)) (w.alloc (.cells #[.int .i64 (st.length : Int), .int .u64 (a 0 : Int), .int .u64 (a 1 : Int), .int .u64 (a 2 : Int), .int .u64 (a 3 : Int), .int .u64 (a 4 : Int), .int .u64 (a 5 : Int), .int .u64 (a 6 : Int), .int .u64 (a 7 : Int), .slice (some ⟨g, o, none⟩) st.length sc] 61)).drew) := ⟨rfl, rfl, rfl, Nat.le_refl _, fun _ _ => rfl⟩
  have C1 : Hid (∀ wq, Below (w.alloc (.cells #[.int .i64 (st.length : Int), .int .u64 (a 0 : Int), .int .u64 (a 1 : Int), .int .u64 (a 2 : Int), .int .u64 (a 3 : Int), .int .u64 (a 4 : Int), .int .u64 (a 5 : Int), .int .u64 (a 6 : Int), .int .u64 (a 7 : Int), .slice (some ⟨g, o, none⟩) st.length sc] 61)).heap.size (w.alloc (.cells #[.int .i64 (st.length : Int), .int .u64 (a 0 : Int), .int .u64 (a 1 : Int), .int .u64 (a 2 : Int), .int .u64 (a 3 : Int), .int .u64 (a 4 : Int), .int .u64 (a 5 : Int), .int .u64 (a 6 : Int), .int .u64 (a 7 : Int), .slice (some ⟨g, o, none⟩) st.length sc] 61)) wq → Calls Tryd.prog 34 #[.agg #[.int .i64 (st.length : Int), .int .u64 (a 0 : Int), .int .u64 (a 1 : Int), .int .u64 (a 2 : Int), .int .u64 (a 3 : Int), .int .u64 (a 4 : Int), .int .u64 (a 5 : Int), .int .u64 (a 6 : Int), .int .u64 (a 7 : Int)], .func (.func 50) #[.agg #[.int .i64 (st.length : Int), .int .u64 (a 0 : Int), .int .u64 (a 1 : Int), .int .u64 (a 2 : Int), .int .u64 (a 3 : Int), .int .u64 (a 4 : Int), .int .u64 (a 5 : Int), .int .u64 (a 6 : Int), .int .u64 (a 7 : Int), .slice (some ⟨g, o, none⟩) st.length sc]] #[]] wq fun e w' => e = .returned (.int .u64 (thoseG (DoneG st.length st) st.length : Int)) ∧ (w'.cell? ⟨w.heap.size, 0, none⟩ = some (.int .i64 (st.length : Int)) ∧ w'.cell? ⟨w.heap.size, 1, none⟩ = some (.int .u64 (a 0 : Int)) ∧ w'.cell? ⟨w.heap.size, 2, none⟩ = some (.int .u64 (a 1 : Int)) ∧ w'.cell? ⟨w.heap.size, 3, none⟩ = some (.int .u64 (a 2 : Int)) ∧ w'.cell? ⟨w.heap.size, 4, none⟩ = some (.int .u64 (a 3 : Int)) ∧ w'.cell? ⟨w.heap.size, 5, none⟩ = some (.int .u64 (a 4 : Int)) ∧ w'.cell? ⟨w.heap.size, 6, none⟩ = some (.int .u64 (a 5 : Int)) ∧ w'.cell? ⟨w.heap.size, 7, none⟩ = some (.int .u64 (a 6 : Int)) ∧ w'.cell? ⟨w.heap.size, 8, none⟩ = some (.int .u64 (a 7 : Int)) ∧ w'.cell? ⟨w.heap.size, 9, none⟩ = some (.slice (some ⟨g, o, none⟩) st.length sc) ∧ w'.cell? ⟨w.heap.size, 1 + i, none⟩ = some (.int .u64 (a i : Int)) ∧ w'.cell? ⟨g, o + i, none⟩ = some (.int .i64 (needAt st i))) ∧ Hid (Below (w.alloc (.cells #[.int .i64 (st.length : Int), .int .u64 (a 0 : Int), .int .u64 (a 1 : Int), .int .u64 (a 2 : Int), .int .u64 (a 3 : Int), .int .u64 (a 4 : Int), .int .u64 (a 5 : Int), .int .u64 (a 6 : Int), .int .u64 (a 7 : Int), .slice (some ⟨g, o, none⟩) st.length sc] 61)).heap.size (w.alloc (.cells #[.int .i64 (st.length : Int), .int .u64 (a 0 : Int), .int .u64 (a 1 : Int), .int .u64 (a 2 : Int), .int .u64 (a 3 : Int), .int .u64 (a 4 : Int), .int .u64 (a 5 : Int), .int .u64 (a 6 : Int), .int .u64 (a 7 : Int), .slice (some ⟨g, o, none⟩) st.length sc] 61)) w')) := fun wq hq => by
    have hb := (HW.out wq hq).1
    refine (those_any _ (by simp) (DoneG st.length st) _ st.length a hn wq (fun j wx hj hx => done_any st.length a _ sc st j hj wx ((HI.out.below hb).below hx))).mono (fun e w' ⟨he, hb2⟩ => ?_)
    have hq2 := hq.trans (hb2.mono hq.size)
    exact ⟨he, (HW.out w' hq2).2, hq2⟩
  have C2 : Hid (∀ wq, Below (w.alloc (.cells #[.int .i64 (st.length : Int), .int .u64 (a 0 : Int), .int .u64 (a 1 : Int), .int .u64 (a 2 : Int), .int .u64 (a 3 : Int), .int .u64 (a 4 : Int), .int .u64 (a 5 : Int), .int .u64 (a 6 : Int), .int .u64 (a 7 : Int), .slice (some ⟨g, o, none⟩) st.length sc] 61)).heap.size (w.alloc (.cells #[.int .i64 (st.length : Int), .int .u64 (a 0 : Int), .int .u64 (a 1 : Int), .int .u64 (a 2 : Int), .int .u64 (a 3 : Int), .int .u64 (a 4 : Int), .int .u64 (a 5 : Int), .int .u64 (a 6 : Int), .int .u64 (a 7 : Int), .slice (some ⟨g, o, none⟩) st.length sc] 61)) wq → Calls Tryd.prog 49 #[.int .u64 (a i : Int), .int .u64 (thoseG (DoneG st.length st) st.length : Int)] wq fun e w' => e = .returned (.bool (tt (∀ j, (a i).testBit j = true → (thoseG (DoneG st.length st) st.length).testBit j = true))) ∧ (w'.cell? ⟨w.heap.size, 0, none⟩ = some (.int .i64 (st.length : Int)) ∧ w'.cell? ⟨w.heap.size, 1, none⟩ = some (.int .u64 (a 0 : Int)) ∧ w'.cell? ⟨w.heap.size, 2, none⟩ = some (.int .u64 (a 1 : Int)) ∧ w'.cell? ⟨w.heap.size, 3, none⟩ = some (.int .u64 (a 2 : Int)) ∧ w'.cell? ⟨w.heap.size, 4, none⟩ = some (.int .u64 (a 3 : Int)) ∧ w'.cell? ⟨w.heap.size, 5, none⟩ = some (.int .u64 (a 4 : Int)) ∧ w'.cell? ⟨w.heap.size, 6, none⟩ = some (.int .u64 (a 5 : Int)) ∧ w'.cell? ⟨w.heap.size, 7, none⟩ = some (.int .u64 (a 6 : Int)) ∧ w'.cell? ⟨w.heap.size, 8, none⟩ = some (.int .u64 (a 7 : Int)) ∧ w'.cell? ⟨w.heap.size, 9, none⟩ = some (.slice (some ⟨g, o, none⟩) st.length sc) ∧ w'.cell? ⟨w.heap.size, 1 + i, none⟩ = some (.int .u64 (a i : Int)) ∧ w'.cell? ⟨g, o + i, none⟩ = some (.int .i64 (needAt st i))) ∧ Hid (Below (w.alloc (.cells #[.int .i64 (st.length : Int), .int .u64 (a 0 : Int), .int .u64 (a 1 : Int), .int .u64 (a 2 : Int), .int .u64 (a 3 : Int), .int .u64 (a 4 : Int), .int .u64 (a 5 : Int), .int .u64 (a 6 : Int), .int .u64 (a 7 : Int), .slice (some ⟨g, o, none⟩) st.length sc] 61)).heap.size (w.alloc (.cells #[.int .i64 (st.length : Int), .int .u64 (a 0 : Int), .int .u64 (a 1 : Int), .int .u64 (a 2 : Int), .int .u64 (a 3 : Int), .int .u64 (a 4 : Int), .int .u64 (a 5 : Int), .int .u64 (a 6 : Int), .int .u64 (a 7 : Int), .slice (some ⟨g, o, none⟩) st.length sc] 61)) w')) := fun wq hq => by
    refine (gWithin_any (a i) (thoseG (DoneG st.length st) st.length) (ha i (by omega)) (thoseG_lt _ st.length hn) wq).mono (fun e w' ⟨he, hw⟩ => ?_)
    rw [hw]
    exact ⟨he, (HW.out wq hq).2, hq⟩
  obtain ⟨_, n0, n1, n2, n3, n4, n5, n6, n7, n8, n9, n10, n11⟩ := HW.out _ HB0.out
  simp only [World.cell?_drew] at n0 n1 n2 n3 n4 n5 n6 n7 n8 n9 n10 n11
  have HWB : Hid (∀ wq, Below (w.alloc (.cells #[.int .i64 (st.length : Int), .int .u64 (a 0 : Int), .int .u64 (a 1 : Int), .int .u64 (a 2 : Int), .int .u64 (a 3 : Int), .int .u64 (a 4 : Int), .int .u64 (a 5 : Int), .int .u64 (a 6 : Int), .int .u64 (a 7 : Int), .slice (some ⟨g, o, none⟩) st.length sc] 61)).heap.size (w.alloc (.cells #[.int .i64 (st.length : Int), .int .u64 (a 0 : Int), .int .u64 (a 1 : Int), .int .u64 (a 2 : Int), .int .u64 (a 3 : Int), .int .u64 (a 4 : Int), .int .u64 (a 5 : Int), .int .u64 (a 6 : Int), .int .u64 (a 7 : Int), .slice (some ⟨g, o, none⟩) st.length sc] 61)) wq → Below w.heap.size w wq) := fun wq hq => (HW.out wq hq).1
  clear hrow HS0 HI HW
  unfold standV standC
  by_cases hz : needAt st i = 0
  · have hzb : (needAt st i == 0) = true := by simpa using hz
    have HT : Hid (tt (ReadyS a st.length st i) = tt (∀ j, (a i).testBit j = true → (thoseG (DoneG st.length st) st.length).testBit j = true)) := tt_congr ⟨fun h => h.2, fun h => ⟨hz, h⟩⟩
    clear hz
    generalize thoseG (DoneG st.length st) st.length = tg at *
    go_enter Tryd.func35, Tryd.ntmps35
    go_wp2_with fail
    generalize (w.alloc (.cells #[.int .i64 (st.length : Int), .int .u64 (a 0 : Int), .int .u64 (a 1 : Int), .int .u64 (a 2 : Int), .int .u64 (a 3 : Int), .int .u64 (a 4 : Int), .int .u64 (a 5 : Int), .int .u64 (a 6 : Int), .int .u64 (a 7 : Int), .slice (some ⟨g, o, none⟩) st.length sc] 61)) = w0 at *
    go_region_held3 (fun w' => w'.cell? ⟨w.heap.size, 0, none⟩ = some (.int .i64 (st.length : Int)) ∧ w'.cell? ⟨w.heap.size, 1, none⟩ = some (.int .u64 (a 0 : Int)) ∧ w'.cell? ⟨w.heap.size, 2, none⟩ = some (.int .u64 (a 1 : Int)) ∧ w'.cell? ⟨w.heap.size, 3, none⟩ = some (.int .u64 (a 2 : Int)) ∧ w'.cell? ⟨w.heap.size, 4, none⟩ = some (.int .u64 (a 3 : Int)) ∧ w'.cell? ⟨w.heap.size, 5, none⟩ = some (.int .u64 (a 4 : Int)) ∧ w'.cell? ⟨w.heap.size, 6, none⟩ = some (.int .u64 (a 5 : Int)) ∧ w'.cell? ⟨w.heap.size, 7, none⟩ = some (.int .u64 (a 6 : Int)) ∧ w'.cell? ⟨w.heap.size, 8, none⟩ = some (.int .u64 (a 7 : Int)) ∧ w'.cell? ⟨w.heap.size, 9, none⟩ = some (.slice (some ⟨g, o, none⟩) st.length sc) ∧ w'.cell? ⟨w.heap.size, 1 + i, none⟩ = some (.int .u64 (a i : Int)) ∧ w'.cell? ⟨g, o + i, none⟩ = some (.int .i64 (needAt st i))) (go_keep) (first | (go_at_call 34; refine (C1.out _ HB0.out).mono ?_; rintro e w2 ⟨rfl, ⟨m0, m1, m2, m3, m4, m5, m6, m7, m8, m9, m10, m11⟩, HB2⟩) | (go_at_call 49; refine (C2.out _ HB2.out).mono ?_; rintro e w3 ⟨rfl, ⟨m0, m1, m2, m3, m4, m5, m6, m7, m8, m9, m10, m11⟩, HB3⟩))
    all_goals go_wp2_with fail
    all_goals go_ret
    all_goals exact ⟨by rw [HT.out]; rfl, HWB.out _ HB3.out⟩
  · have hzb : (needAt st i == 0) = false := by simpa using hz
    have HT : Hid (tt (ReadyS a st.length st i) = false) := tt_no (fun h => hz h.1)
    clear hz
    go_enter Tryd.func35, Tryd.ntmps35
    go_wp2_with fail
    generalize (w.alloc (.cells #[.int .i64 (st.length : Int), .int .u64 (a 0 : Int), .int .u64 (a 1 : Int), .int .u64 (a 2 : Int), .int .u64 (a 3 : Int), .int .u64 (a 4 : Int), .int .u64 (a 5 : Int), .int .u64 (a 6 : Int), .int .u64 (a 7 : Int), .slice (some ⟨g, o, none⟩) st.length sc] 61)) = w0 at *
    go_quiet (fail)
    go_wp2_with fail
    go_ret
    exact ⟨by rw [HT.out]; rfl, HWB.out _ (below_drewN (Below.refl _ _) _)⟩
end Go.Proofs.YtmjnllldjeeigaaDoor

/- The document's own reading of a rune, and the model's: the same. -/
set_option linter.unusedVariables false
set_option linter.unusedSimpArgs false
set_option maxRecDepth 100000
namespace NameMath

def longN (b : Nat) : Nat := if b < 128 then 1 else if 194 ≤ b ∧ b ≤ 223 then 2 else if 224 ≤ b ∧ b ≤ 239 then 3 else if 240 ≤ b ∧ b ≤ 244 then 4 else 0
def secondB (f b : Nat) : Bool := decide ((f = 224 ∧ 160 ≤ b ∧ b ≤ 191) ∨ (f = 237 ∧ 128 ≤ b ∧ b ≤ 159) ∨ (f = 240 ∧ 144 ≤ b ∧ b ≤ 191) ∨ (f = 244 ∧ 128 ≤ b ∧ b ≤ 143) ∨ (f ≠ 224 ∧ f ≠ 237 ∧ f ≠ 240 ∧ f ≠ 244 ∧ 128 ≤ b ∧ b ≤ 191))
theorem second_iff (f b : Nat) : secondB f b = false ↔ ¬ ((f = 224 ∧ 160 ≤ b ∧ b ≤ 191) ∨ (f = 237 ∧ 128 ≤ b ∧ b ≤ 159) ∨ (f = 240 ∧ 144 ≤ b ∧ b ≤ 191) ∨ (f = 244 ∧ 128 ≤ b ∧ b ≤ 143) ∨ (f ≠ 224 ∧ f ≠ 237 ∧ f ≠ 240 ∧ f ≠ 244 ∧ 128 ≤ b ∧ b ≤ 191)) := by
  unfold secondB; rw [decide_eq_false_iff_not]
/-- The loop: so many bytes more, from the i-th on. -/
def nxF (l : List UInt8) (n : Nat) : Nat → Nat → Nat → Nat × Nat × Bool
  | 0, i, r => (r, n, true)
  | f + 1, i, r => if byt l i < 128 ∨ 191 < byt l i ∨ (i = 1 ∧ secondB (byt l 0) (byt l 1) = false) then (65533, 1, false) else nxF l n f (i + 1) (r * 64 + byt l i % 64)

theorem nx_bad (l : List UInt8) (n f i r : Nat) (h : byt l i < 128 ∨ 191 < byt l i ∨ (i = 1 ∧ secondB (byt l 0) (byt l 1) = false)) : nxF l n (f + 1) i r = (65533, 1, false) := by rw [nxF, if_pos h]
theorem nx_good (l : List UInt8) (n f i r : Nat) (h : ¬ (byt l i < 128 ∨ 191 < byt l i ∨ (i = 1 ∧ secondB (byt l 0) (byt l 1) = false))) : nxF l n (f + 1) i r = nxF l n f (i + 1) (r * 64 + byt l i % 64) := by rw [nxF, if_neg h]
def okFor (x : Nat × Nat) (y : Nat × Nat × Bool) : Prop := y.1 = x.1 ∧ y.2.1 = x.2 ∧ (y.2.2 = false → x.1 = 65533)
theorem long_cases (b : Nat) : (b < 128 ∧ longN b = 1) ∨ (194 ≤ b ∧ b ≤ 223 ∧ longN b = 2) ∨ (224 ≤ b ∧ b ≤ 239 ∧ longN b = 3) ∨ (240 ≤ b ∧ b ≤ 244 ∧ longN b = 4) ∨ (((128 ≤ b ∧ b ≤ 193) ∨ 245 ≤ b) ∧ longN b = 0) := by
  unfold longN
  repeat' split
  all_goals omega

set_option maxHeartbeats 4000000 in
theorem nx2 (l : List UInt8) (h : longN (byt l 0) = 2) : okFor (dec l) (nxF l 2 1 1 (byt l 0 % 32)) := by
  have h0 : 194 ≤ byt l 0 ∧ byt l 0 ≤ 223 := by have := long_cases (byt l 0); omega
  have h1 := byt_lt l 1
  have h2 := byt_lt l 2
  have h3 := byt_lt l 3
  unfold dec d4
  simp only [nxF, second_iff, Nat.reduceAdd, Nat.reduceEqDiff, false_and, or_false, true_and]
  generalize byt l 0 = b0 at *
  generalize byt l 1 = b1 at *
  generalize byt l 2 = b2 at *
  generalize byt l 3 = b3 at *
  by_cases g1 : (¬ (b1 < 128 ∨ 191 < b1 ∨ ¬ ((b0 = 224 ∧ 160 ≤ b1 ∧ b1 ≤ 191) ∨ (b0 = 237 ∧ 128 ≤ b1 ∧ b1 ≤ 159) ∨ (b0 = 240 ∧ 144 ≤ b1 ∧ b1 ≤ 191) ∨ (b0 = 244 ∧ 128 ≤ b1 ∧ b1 ≤ 143) ∨ (b0 ≠ 224 ∧ b0 ≠ 237 ∧ b0 ≠ 240 ∧ b0 ≠ 244 ∧ 128 ≤ b1 ∧ b1 ≤ 191))))
  · rw [if_neg g1]
    rw [if_neg (show ¬ b0 < 128 by omega)]
    rw [if_pos (by omega)]
    exact ⟨by first | rfl | (simp only; omega), rfl, fun h => by cases h⟩
  · rw [if_pos (Classical.not_not.1 g1)]
    rw [if_neg (show ¬ b0 < 128 by omega), if_neg (by omega), if_neg (by omega), if_neg (by omega)]
    exact ⟨rfl, rfl, fun _ => rfl⟩

set_option maxHeartbeats 4000000 in
theorem nx3 (l : List UInt8) (h : longN (byt l 0) = 3) : okFor (dec l) (nxF l 3 2 1 (byt l 0 % 16)) := by
  have h0 : 224 ≤ byt l 0 ∧ byt l 0 ≤ 239 := by have := long_cases (byt l 0); omega
  have h1 := byt_lt l 1
  have h2 := byt_lt l 2
  have h3 := byt_lt l 3
  unfold dec d4
  simp only [nxF, second_iff, Nat.reduceAdd, Nat.reduceEqDiff, false_and, or_false, true_and]
  generalize byt l 0 = b0 at *
  generalize byt l 1 = b1 at *
  generalize byt l 2 = b2 at *
  generalize byt l 3 = b3 at *
  by_cases g1 : (¬ (b1 < 128 ∨ 191 < b1 ∨ ¬ ((b0 = 224 ∧ 160 ≤ b1 ∧ b1 ≤ 191) ∨ (b0 = 237 ∧ 128 ≤ b1 ∧ b1 ≤ 159) ∨ (b0 = 240 ∧ 144 ≤ b1 ∧ b1 ≤ 191) ∨ (b0 = 244 ∧ 128 ≤ b1 ∧ b1 ≤ 143) ∨ (b0 ≠ 224 ∧ b0 ≠ 237 ∧ b0 ≠ 240 ∧ b0 ≠ 244 ∧ 128 ≤ b1 ∧ b1 ≤ 191))))
  · rw [if_neg g1]
    by_cases g2 : ¬ (b2 < 128 ∨ 191 < b2)
    · rw [if_neg g2]
      rw [if_neg (show ¬ b0 < 128 by omega)]
      rw [if_neg (by omega), if_pos (by omega)]
      exact ⟨by first | rfl | (simp only; omega), rfl, fun h => by cases h⟩
    · rw [if_pos (Classical.not_not.1 g2)]
      rw [if_neg (show ¬ b0 < 128 by omega), if_neg (by omega), if_neg (by omega), if_neg (by omega)]
      exact ⟨rfl, rfl, fun _ => rfl⟩
  · rw [if_pos (Classical.not_not.1 g1)]
    rw [if_neg (show ¬ b0 < 128 by omega), if_neg (by omega), if_neg (by omega), if_neg (by omega)]
    exact ⟨rfl, rfl, fun _ => rfl⟩

set_option maxHeartbeats 4000000 in
theorem nx4 (l : List UInt8) (h : longN (byt l 0) = 4) : okFor (dec l) (nxF l 4 3 1 (byt l 0 % 8)) := by
  have h0 : 240 ≤ byt l 0 ∧ byt l 0 ≤ 244 := by have := long_cases (byt l 0); omega
  have h1 := byt_lt l 1
  have h2 := byt_lt l 2
  have h3 := byt_lt l 3
  unfold dec d4
  simp only [nxF, second_iff, Nat.reduceAdd, Nat.reduceEqDiff, false_and, or_false, true_and]
  generalize byt l 0 = b0 at *
  generalize byt l 1 = b1 at *
  generalize byt l 2 = b2 at *
  generalize byt l 3 = b3 at *
  by_cases g1 : (¬ (b1 < 128 ∨ 191 < b1 ∨ ¬ ((b0 = 224 ∧ 160 ≤ b1 ∧ b1 ≤ 191) ∨ (b0 = 237 ∧ 128 ≤ b1 ∧ b1 ≤ 159) ∨ (b0 = 240 ∧ 144 ≤ b1 ∧ b1 ≤ 191) ∨ (b0 = 244 ∧ 128 ≤ b1 ∧ b1 ≤ 143) ∨ (b0 ≠ 224 ∧ b0 ≠ 237 ∧ b0 ≠ 240 ∧ b0 ≠ 244 ∧ 128 ≤ b1 ∧ b1 ≤ 191))))
  · rw [if_neg g1]
    by_cases g2 : ¬ (b2 < 128 ∨ 191 < b2)
    · rw [if_neg g2]
      by_cases g3 : ¬ (b3 < 128 ∨ 191 < b3)
      · rw [if_neg g3]
        rw [if_neg (show ¬ b0 < 128 by omega)]
        rw [if_neg (by omega), if_neg (by omega), if_pos (by omega)]
        exact ⟨by first | rfl | (simp only; omega), rfl, fun h => by cases h⟩
      · rw [if_pos (Classical.not_not.1 g3)]
        rw [if_neg (show ¬ b0 < 128 by omega), if_neg (by omega), if_neg (by omega), if_neg (by omega)]
        exact ⟨rfl, rfl, fun _ => rfl⟩
    · rw [if_pos (Classical.not_not.1 g2)]
      rw [if_neg (show ¬ b0 < 128 by omega), if_neg (by omega), if_neg (by omega), if_neg (by omega)]
      exact ⟨rfl, rfl, fun _ => rfl⟩
  · rw [if_pos (Classical.not_not.1 g1)]
    rw [if_neg (show ¬ b0 < 128 by omega), if_neg (by omega), if_neg (by omega), if_neg (by omega)]
    exact ⟨rfl, rfl, fun _ => rfl⟩

theorem nx1 (l : List UInt8) (h : byt l 0 < 128) : dec l = (byt l 0, 1) := by
  unfold dec d4; rw [if_pos h]
theorem nx0 (l : List UInt8) (h : longN (byt l 0) = 0) : dec l = (65533, 1) := by
  have h0 := byt_lt l 0
  have h1 := long_cases (byt l 0)
  have h2 := byt_lt l 1
  have h3 := byt_lt l 2
  have h4 := byt_lt l 3
  unfold dec d4
  rw [if_neg (by omega), if_neg (by omega), if_neg (by omega), if_neg (by omega)]
theorem nxShort (l : List UInt8) (h : 2 ≤ longN (byt l 0)) (hl : l.length < longN (byt l 0)) : dec l = (65533, 1) := by
  have h0 := byt_lt l 0
  have h1 := long_cases (byt l 0)
  have z1 : l.length ≤ 1 → byt l 1 = 0 := fun hk => by simp [byt, List.getD, List.getElem?_eq_none hk]
  have z2 : l.length ≤ 2 → byt l 2 = 0 := fun hk => by simp [byt, List.getD, List.getElem?_eq_none hk]
  have z3 : l.length ≤ 3 → byt l 3 = 0 := fun hk => by simp [byt, List.getD, List.getElem?_eq_none hk]
  unfold dec d4
  rw [if_neg (by omega), if_neg (by omega), if_neg (by omega), if_neg (by omega)]
end NameMath

/- The walks of the document's own reading of runes. -/
set_option linter.unusedVariables false
set_option maxRecDepth 100000
namespace Go.Proofs.YtmjnllldjeeigaaDoor.Nm
open Go.RowKit

set_option maxRecDepth 100000 in
set_option maxHeartbeats 1000000 in
theorem long_any (b : Nat) (hb : b < 256) (w : World) :
    Calls Tryd.prog 65 #[.int .i64 (b : Int)] w fun e w' => e = .returned (.int .i64 ((NameMath.longN b : Nat) : Int)) ∧ w' = w := by
  have hc := NameMath.long_cases b
  rcases hc with ⟨h1, h2⟩ | ⟨h1, h1', h2⟩ | ⟨h1, h1', h2⟩ | ⟨h1, h1', h2⟩ | ⟨h1 | h1, h2⟩
  all_goals
    rw [h2]
    clear h2
    go_enter Tryd.func65, Tryd.ntmps65
    go_wp2
    go_ret
    exact ⟨rfl, rfl⟩

set_option maxHeartbeats 1000000 in
theorem second_any (f b : Nat) (w : World) :
    Calls Tryd.prog 66 #[.int .i64 (f : Int), .int .i64 (b : Int)] w fun e w' => e = .returned (.bool (NameMath.secondB f b)) ∧ w' = w := by
  rcases (show f = 224 ∨ f = 237 ∨ f = 240 ∨ f = 244 ∨ (f ≠ 224 ∧ f ≠ 237 ∧ f ≠ 240 ∧ f ≠ 244) by omega) with rfl | rfl | rfl | rfl | ⟨k1, k2, k3, k4⟩
  case' inr.inr.inr.inr =>
    have e1 : ((f : Int) == 224) = false := beq_eq_false_iff_ne.2 (by omega)
    have e2 : ((f : Int) == 237) = false := beq_eq_false_iff_ne.2 (by omega)
    have e3 : ((f : Int) == 240) = false := beq_eq_false_iff_ne.2 (by omega)
    have e4 : ((f : Int) == 244) = false := beq_eq_false_iff_ne.2 (by omega)
  all_goals go_enter Tryd.func66, Tryd.ntmps66
  all_goals go_wp2
  all_goals go_ret
  all_goals go_light
  all_goals refine ⟨ret_bool ?_, rfl⟩
  all_goals unfold NameMath.secondB
  all_goals rw [Bool.eq_iff_iff]
  all_goals first | (simp; omega) | (simp; done)

theorem byt_at (s : ByteArray) (at_ j : Nat) (h : at_ + j < s.size) : NameMath.byt (s.data.toList.drop at_) j = (s[at_ + j]'h).toNat := by
  rw [NameMath.byt_drop]
  unfold NameMath.byt
  have : s.data[at_ + j]? = some (s.data[at_ + j]'h) := Array.getElem?_eq_getElem h
  simp [List.getD, this]
  rfl

theorem okFor_of {x : Nat × Nat} {y : Nat × Nat × Bool} (h : NameMath.okFor x y) {r k : Nat} {ok : Bool} (e : y = (r, k, ok)) : x = (r, k) ∧ (ok = false → r = 65533) := by
  subst e
  obtain ⟨h1, h2, h3⟩ := h
  exact ⟨Prod.ext h1.symm h2.symm, fun h => by rw [← h3 h]; exact h1⟩

def NextPost (L : List UInt8) (w : World) (e : Ending) (w' : World) : Prop :=
  ∃ (r k : Nat) (ok : Bool), e = .returned (.tuple #[.int .i64 (r : Int), .int .i64 (k : Int), .bool ok]) ∧ w' = w ∧ NameMath.dec L = (r, k) ∧ (ok = false → r = 65533)
theorem nextPost {L : List UInt8} {w : World} {r k : Nat} {ok : Bool} (h : NameMath.dec L = (r, k)) (h2 : ok = false → r = 65533) : NextPost L w (.returned (.tuple #[.int .i64 (r : Int), .int .i64 (k : Int), .bool ok])) w := ⟨r, k, ok, rfl, rfl, h, h2⟩
def NextSays (s : ByteArray) (a : Nat) (w : World) : Prop :=
  Calls Tryd.prog 53 #[.string s, .int .i64 (a : Int)] w fun e w' => NextPost (s.data.toList.drop a) w e w'

set_option maxRecDepth 100000 in
set_option maxHeartbeats 1000000 in
theorem next_1 (s : ByteArray) (a : Nat) (ha : a < s.size) (hs : s.size ≤ 140737488351232) (w : World) (h1 : NameMath.byt (s.data.toList.drop a) 0 < 128) : NextSays s a w := by
  have hg0 : (s[a]'ha).toNat = NameMath.byt (s.data.toList.drop a) 0 := (byt_at s a 0 (by omega)).symm
  have haI : (a : Int) < (s.size : Int) := by omega
  have hlt := NameMath.byt_lt (s.data.toList.drop a) 0
  have hL := NameMath.long_cases (NameMath.byt (s.data.toList.drop a) 0)
  have hD : NameMath.dec (s.data.toList.drop a) = (NameMath.byt (s.data.toList.drop a) 0, 1) := NameMath.nx1 _ h1
  have hL1 : NameMath.longN (NameMath.byt (s.data.toList.drop a) 0) = 1 := by omega
  unfold NextSays
  generalize s.data.toList.drop a = L at *
  have HD : Hid (NameMath.dec L = (NameMath.byt L 0, 1)) := hD
  have HL : Hid (NameMath.longN (NameMath.byt L 0) = 1) := hL1
  clear hD hL hL1
  generalize NameMath.byt L 0 = b0 at *
  go_enter Tryd.func53, Tryd.ntmps53
  go_wp2_with fail
  refine (long_any _ hlt _).mono ?_
  rintro e w1 ⟨rfl, rfl⟩
  rw [HL.out]
  go_wp2
  go_ret3
  exact nextPost HD.out (fun h => by cases h)

set_option maxRecDepth 100000 in
set_option maxHeartbeats 1000000 in
theorem next_0 (s : ByteArray) (a : Nat) (ha : a < s.size) (hs : s.size ≤ 140737488351232) (w : World) (h2 : NameMath.longN (NameMath.byt (s.data.toList.drop a) 0) = 0) : NextSays s a w := by
  have hg0 : (s[a]'ha).toNat = NameMath.byt (s.data.toList.drop a) 0 := (byt_at s a 0 (by omega)).symm
  have haI : (a : Int) < (s.size : Int) := by omega
  have hlt := NameMath.byt_lt (s.data.toList.drop a) 0
  have hL := NameMath.long_cases (NameMath.byt (s.data.toList.drop a) 0)
  have hD : NameMath.dec (s.data.toList.drop a) = (65533, 1) := NameMath.nx0 _ h2
  have hL1 : NameMath.longN (NameMath.byt (s.data.toList.drop a) 0) = 0 := by omega
  unfold NextSays
  generalize s.data.toList.drop a = L at *
  have HD : Hid (NameMath.dec L = (65533, 1)) := hD
  have HL : Hid (NameMath.longN (NameMath.byt L 0) = 0) := hL1
  clear hD hL hL1
  generalize NameMath.byt L 0 = b0 at *
  go_enter Tryd.func53, Tryd.ntmps53
  go_wp2_with fail
  refine (long_any _ hlt _).mono ?_
  rintro e w1 ⟨rfl, rfl⟩
  rw [HL.out]
  go_wp2
  go_ret3
  exact nextPost HD.out (fun h => rfl)

set_option maxRecDepth 100000 in
set_option maxHeartbeats 1000000 in
theorem next_s2 (s : ByteArray) (a : Nat) (ha : a < s.size) (hs : s.size ≤ 140737488351232) (w : World) (h2 : NameMath.longN (NameMath.byt (s.data.toList.drop a) 0) = 2) (hsh : s.size - a < 2) : NextSays s a w := by
  have hg0 : (s[a]'ha).toNat = NameMath.byt (s.data.toList.drop a) 0 := (byt_at s a 0 (by omega)).symm
  have haI : (a : Int) < (s.size : Int) := by omega
  have hlt := NameMath.byt_lt (s.data.toList.drop a) 0
  have hL := NameMath.long_cases (NameMath.byt (s.data.toList.drop a) 0)
  have hlen : (s.data.toList.drop a).length = s.size - a := by rw [List.length_drop]; congr 1
  have hD : NameMath.dec (s.data.toList.drop a) = (65533, 1) := NameMath.nxShort _ (by omega) (by omega)
  clear hlen
  unfold NextSays
  generalize s.data.toList.drop a = L at *
  have HD : Hid (NameMath.dec L = (65533, 1)) := hD
  have HL : Hid (NameMath.longN (NameMath.byt L 0) = 2) := h2
  clear hD hL h2
  generalize NameMath.byt L 0 = b0 at *
  go_enter Tryd.func53, Tryd.ntmps53
  go_wp2_with fail
  refine (long_any _ hlt _).mono ?_
  rintro e w1 ⟨rfl, rfl⟩
  rw [HL.out]
  go_wp2
  go_ret3
  exact nextPost HD.out (fun h => rfl)

set_option maxRecDepth 100000 in
set_option maxHeartbeats 1000000 in
theorem next_s3 (s : ByteArray) (a : Nat) (ha : a < s.size) (hs : s.size ≤ 140737488351232) (w : World) (h2 : NameMath.longN (NameMath.byt (s.data.toList.drop a) 0) = 3) (hsh : s.size - a < 3) : NextSays s a w := by
  have hg0 : (s[a]'ha).toNat = NameMath.byt (s.data.toList.drop a) 0 := (byt_at s a 0 (by omega)).symm
  have haI : (a : Int) < (s.size : Int) := by omega
  have hlt := NameMath.byt_lt (s.data.toList.drop a) 0
  have hL := NameMath.long_cases (NameMath.byt (s.data.toList.drop a) 0)
  have hlen : (s.data.toList.drop a).length = s.size - a := by rw [List.length_drop]; congr 1
  have hD : NameMath.dec (s.data.toList.drop a) = (65533, 1) := NameMath.nxShort _ (by omega) (by omega)
  clear hlen
  unfold NextSays
  generalize s.data.toList.drop a = L at *
  have HD : Hid (NameMath.dec L = (65533, 1)) := hD
  have HL : Hid (NameMath.longN (NameMath.byt L 0) = 3) := h2
  clear hD hL h2
  generalize NameMath.byt L 0 = b0 at *
  go_enter Tryd.func53, Tryd.ntmps53
  go_wp2_with fail
  refine (long_any _ hlt _).mono ?_
  rintro e w1 ⟨rfl, rfl⟩
  rw [HL.out]
  go_wp2
  go_ret3
  exact nextPost HD.out (fun h => rfl)

set_option maxRecDepth 100000 in
set_option maxHeartbeats 1000000 in
theorem next_s4 (s : ByteArray) (a : Nat) (ha : a < s.size) (hs : s.size ≤ 140737488351232) (w : World) (h2 : NameMath.longN (NameMath.byt (s.data.toList.drop a) 0) = 4) (hsh : s.size - a < 4) : NextSays s a w := by
  have hg0 : (s[a]'ha).toNat = NameMath.byt (s.data.toList.drop a) 0 := (byt_at s a 0 (by omega)).symm
  have haI : (a : Int) < (s.size : Int) := by omega
  have hlt := NameMath.byt_lt (s.data.toList.drop a) 0
  have hL := NameMath.long_cases (NameMath.byt (s.data.toList.drop a) 0)
  have hlen : (s.data.toList.drop a).length = s.size - a := by rw [List.length_drop]; congr 1
  have hD : NameMath.dec (s.data.toList.drop a) = (65533, 1) := NameMath.nxShort _ (by omega) (by omega)
  clear hlen
  unfold NextSays
  generalize s.data.toList.drop a = L at *
  have HD : Hid (NameMath.dec L = (65533, 1)) := hD
  have HL : Hid (NameMath.longN (NameMath.byt L 0) = 4) := h2
  clear hD hL h2
  generalize NameMath.byt L 0 = b0 at *
  go_enter Tryd.func53, Tryd.ntmps53
  go_wp2_with fail
  refine (long_any _ hlt _).mono ?_
  rintro e w1 ⟨rfl, rfl⟩
  rw [HL.out]
  go_wp2
  go_ret3
  exact nextPost HD.out (fun h => rfl)

end Go.Proofs.YtmjnllldjeeigaaDoor.Nm