/- Rows of rows of numbers; what the law of rings needs of the order. -/
import Derived.Test.YtmjnllldjeeigaaDoorDoneMP
set_option linter.unusedVariables false
set_option maxRecDepth 100000
namespace Go.Proofs.YtmjnllldjeeigaaDoor
open Go.RowKit CheckMath

abbrev castL (L : List Nat) : List Int := L.map fun (x : Nat) => (x : Int)
/-- A row of rows, read. -/
def RRow (w : World) (v : Value) (n : Nat) (f : Nat → List Nat) : Prop := ∃ ao cap, v = .slice ao n cap ∧ n ≤ cap ∧
  ∀ j, j < n → ∃ g o sv, ao = some ⟨g, o, none⟩ ∧ g < w.heap.size ∧ w.cell? ⟨g, o + j, none⟩ = some sv ∧ IRow w sv (castL (f j))
theorem RRow.below {w w' : World} {v : Value} {n : Nat} {f : Nat → List Nat} (h : RRow w v n f) (hb : Below w.heap.size w w') : RRow w' v n f := by
  obtain ⟨ao, cap, h1, h2, h3⟩ := h
  refine ⟨ao, cap, h1, h2, fun j hj => ?_⟩
  obtain ⟨g, o, sv, k1, k2, k3, k4⟩ := h3 j hj
  exact ⟨g, o, sv, k1, Nat.lt_of_lt_of_le k2 hb.size, (hb.cell (p := ⟨g, o + j, none⟩) k2).trans k3, k4.below hb⟩
/-- A row of one's own, as a thing held. -/
abbrev rr (p : Value × List Nat) : Res := OwnR 3 1 p.1 p.2.length (p.2.map nV)
theorem rrow_own {B : Nat} {w wr : World} {rs : List Res} {la : Option Addr} {lc n : Nat} {ls : List (Value × List Nat)} {f : Nat → List Nat} (h : Has B w rs wr) (hm : OwnR 26 1 (.slice la n lc) n (ls.map (·.1)) ∈ rs) (hr : ∀ p, p ∈ ls → rr p ∈ rs)
    (hf : ls.map (·.2) = (List.range n).map f) (h8 : ∀ i, i < n → (f i).length ≤ 1000) : RRow wr (.slice la n lc) n f := by
  have ho := h.own hm
  obtain ⟨ao, cap, e, hc, h0, hrow⟩ := own_form ho
  injection e with e1 e2 e3
  subst e1 e3
  have hl : ls.length = n := by
    have := congrArg List.length hf
    simpa using this
  refine ⟨la, lc, rfl, hc, fun j hj => ?_⟩
  cases la with
  | none =>
    have := (h0 rfl).1
    omega
  | some p =>
    obtain ⟨b, rfl, _, hb, hcell, _⟩ := hrow p rfl
    have hjl : j < ls.length := by omega
    have hfj : ls[j].2 = f j := by
      have := congrArg (fun l => l[j]?) hf
      simpa [hjl, hj] using this
    refine ⟨b, 0, ls[j].1, rfl, hb, ?_, ?_⟩
    · rw [Nat.zero_add, hcell j (by omega)]
      simp [hjl]
    · have := h.own (hr _ (List.getElem_mem hjl))
      rw [hfj] at this
      exact irowN_own (h8 j hj) this
theorem perm_r (M r5 L r4 : Res) (A C : List Res) : (M :: r5 :: L :: r4 :: (A ++ C)).Perm (L :: M :: ((A ++ [r4]) ++ (C ++ [r5]))) := by
  have h1 : ((A ++ [r4]) ++ (C ++ [r5])).Perm (r4 :: r5 :: (A ++ C)) := by
    rw [List.append_assoc, List.singleton_append]
    refine List.perm_middle.trans (List.Perm.cons _ ?_)
    rw [← List.append_assoc]
    exact List.perm_append_comm (l₁ := A ++ C) (l₂ := [r5])
  refine List.Perm.trans ?_ ((h1.symm.cons M).cons L)
  refine ((List.Perm.swap L r5 _).cons M).trans ?_
  refine (List.Perm.swap L M _).trans ?_
  exact ((List.Perm.swap r4 r5 _).cons M).cons L
theorem rr_snoc (ls : List (Value × List Nat)) (p : Value × List Nat) : (ls ++ [p]).map rr = ls.map rr ++ [rr p] := by simp
theorem infoR : (Tryd.prog.info? 26).map (fun i => (i.zero, i.size, i.bytes)) = some (some (.slice none 0 0), 1, 24) := by kernel_rfl
theorem one_sl (a : Option Addr) (n c : Nat) : ∀ u ∈ [Value.slice a n c], u.oneCell' = true := by intro u hu; simp at hu; subst hu; rfl

theorem step_of {w : World} {nm : ByteArray} {ao : Option Addr} {n cap : Nat} {D : DefD} (h : DefIn w (.agg #[.string nm, .slice ao n cap]) D) {a : Nat} (ha : a < D.steps.length) : ∃ g o, ao = some ⟨g, o, none⟩ ∧ g < w.heap.size ∧ StepIn w g (o + a * 5) (nth D.steps a) := by
  obtain ⟨sv, ev, hdr⟩ := h
  injection ev with ev
  have e2 : sv = .slice ao n cap := by
    have := congrArg Array.toList ev
    simp at this
    exact this.2.symm
  subst e2
  obtain ⟨a2, c2, ed, _, _, _, hst⟩ := hdr
  injection ed with e3 _ _
  subst e3
  exact hst a ha
theorem cast_mem (L : List Nat) (x : Nat) : ((x : Nat) : Int) ∈ castL L ↔ x ∈ L := by
  unfold castL
  rw [List.mem_map]
  constructor
  · rintro ⟨y, hy, e⟩
    have : y = x := by omega
    rw [← this]; exact hy
  · exact fun h => ⟨x, h, rfl⟩
theorem ring_no {D : DefD} (hF : Fine D) {i : Nat} (hi : i < D.steps.length) : tt (((i : Nat) : Int) ∈ castL (aheadL D (i : Int))) = false := tt_no (fun h => by
  rw [cast_mem, ahead_iff hF hi] at h
  exact ahead_no_ring hF i h.2)
theorem ring_back {D : DefD} (hF : Fine D) {i k : Nat} (hi : i < D.steps.length) (hk : k < D.steps.length) : tt (((i : Nat) : Int) ∈ castL (behindL D (k : Int))) = tt (((k : Nat) : Int) ∈ castL (aheadL D (i : Int))) := by
  by_cases h : AheadP D.steps i k
  · rw [tt_yes ((cast_mem _ _).2 ((behind_iff hF hk i).2 ⟨hi, h⟩)), tt_yes ((cast_mem _ _).2 ((ahead_iff hF hi k).2 ⟨hk, h⟩))]
  · rw [tt_no (fun x => h ((behind_iff hF hk i).1 ((cast_mem _ _).1 x)).2), tt_no (fun x => h ((ahead_iff hF hi k).1 ((cast_mem _ _).1 x)).2)]
theorem ring_on {D : DefD} (hF : Fine D) {i k j : Nat} (hi : i < D.steps.length) (hk : k < D.steps.length) (h1 : tt (((k : Nat) : Int) ∈ castL (aheadL D (i : Int))) = true) (h2 : tt (((j : Nat) : Int) ∈ castL (aheadL D (k : Int))) = true) : tt (((j : Nat) : Int) ∈ castL (aheadL D (i : Int))) = true := by
  rw [tt_iff, cast_mem, ahead_iff hF hi] at h1
  rw [tt_iff, cast_mem, ahead_iff hF hk] at h2
  exact tt_yes ((cast_mem _ _).2 ((ahead_iff hF hi j).2 ⟨h2.1, Path.trans h1.2 h2.2⟩))
theorem ring_need {D : DefD} (hF : Fine D) {i y : Nat} (hi : i < D.steps.length) (hy : y < (nth D.steps i).needs.length) : tt (needAt (nth D.steps i).needs y ∈ castL (aheadL D (i : Int))) = true := by
  obtain ⟨_, _, _, _, _, hNO⟩ := fault_none (hF.step i hi)
  obtain ⟨h0, h2, _⟩ := hNO y hy
  have e : needAt (nth D.steps i).needs y = (((needAt (nth D.steps i).needs y).toNat : Nat) : Int) := (Int.toNat_of_nonneg h0).symm
  have hm : (((needAt (nth D.steps i).needs y).toNat : Nat) : Int) ∈ (nth D.steps i).needs := by rw [← e]; exact needAt_mem hy
  rw [e]
  refine tt_yes ((cast_mem _ _).2 ((ahead_iff hF hi _).2 ⟨by omega, (aheadP_iff hi _).2 (Or.inl ⟨by omega, Or.inl hm⟩)⟩))
end Go.Proofs.YtmjnllldjeeigaaDoor
