/- The walk of the journal's look, all of it. -/
import Derived.Test.YtahkecdlibkokaaDoorLookW
import Derived.Deep.MidRow
import Derived.Laws.Rows
set_option linter.unusedVariables false
set_option maxRecDepth 100000
namespace Go.Proofs.YtahkecdlibkokaaDoor
open Go.RowKit
open JournalMath DiskMath
open FrameMath (scan)
open Fr (Tab tab_below tab_drewN)
open Dk (PDisk Chg fp DIn din_below din_same din_drewN pdisk_below pdisk_chg fp_lt)

theorem srow_cell {w : World} {ao : Option Addr} {n cap : Nat} {xs : List (List UInt8)} (h : SRow w (.slice ao n cap) xs) (j : Nat) (hj : j < xs.length) : ∃ g o, ao = some ⟨g, o, none⟩ ∧ w.cell? ⟨g, o + j, none⟩ = some (strV xs[j]) := by
  obtain ⟨ao', cap', hv, _, hrow⟩ := h
  obtain ⟨rfl, _, _⟩ : ao = ao' ∧ n = xs.length ∧ cap = cap' := by simpa using hv
  exact hrow j hj
/-- What look answers. -/
def LookOk (w1 : World) (x : JournalMath.Found) (e : Ending) (w' : World) : Prop :=
  ∃ v, e = .returned (.agg #[.int .i64 (x.gen : Int), .string ⟨x.snap.toArray⟩, v, .int .i64 (x.size : Int)]) ∧ w'.ownsRow w1.heap.size 9 1 v x.recs.length (x.recs.map strV) ∧ Below w1.heap.size w1 w'

/-- The result of a call whose result is a struct of four cells in memory. -/
theorem results_cell4 {P : Program} {fn : Func} {p : Tmp} {ty : TypeId} (h : fn.results = #[.cell p ty]) (tmps : Array Value) (w : World) (g : Nat) (c0 c1 c2 c3 : Value) (d : TypeDesc)
    (hp : tmps.getD p undef = .pointer (some ⟨g, 0, none⟩)) (h0 : w.cell? ⟨g, 0, none⟩ = some c0) (h1 : w.cell? ⟨g, 1, none⟩ = some c1) (h2 : w.cell? ⟨g, 2, none⟩ = some c2) (h3 : w.cell? ⟨g, 3, none⟩ = some c3)
    (hu : P.underlying ty = some d) (hd : d.isRow = true) (hi : (P.info? ty).map (·.size) = some 4) : (results fn tmps).run P w = .ok (.agg #[c0, c1, c2, c3]) w := by
  have hp' : tmps[p]?.getD undef = .pointer (some ⟨g, 0, none⟩) := by simpa using hp
  have hr : w.rangeAt g 0 [c0, c1, c2, c3] := by
    intro j v hj
    rw [Nat.zero_add]
    match j, hj with
    | 0, hj => cases hj; exact h0
    | 1, hj => cases hj; exact h1
    | 2, hj => cases hj; exact h2
    | 3, hj => cases hj; exact h3
  simp [results, h, hp', asAddr, run_loadVar_mid w g 0 ty [c0, c1, c2, c3] d hr hu hd hi]
theorem set4 {w : World} {g : Nat} {x0 x1 x2 x3 : Value} (a b c d : Value) (h0 : w.cell? ⟨g, 0, none⟩ = some x0) (h1 : w.cell? ⟨g, 1, none⟩ = some x1) (h2 : w.cell? ⟨g, 2, none⟩ = some x2) (h3 : w.cell? ⟨g, 3, none⟩ = some x3) :
    ((((w.setCell ⟨g, 0, none⟩ a).setCell ⟨g, 1, none⟩ b).setCell ⟨g, 2, none⟩ c).setCell ⟨g, 3, none⟩ d).cell? ⟨g, 0, none⟩ = some a ∧ ((((w.setCell ⟨g, 0, none⟩ a).setCell ⟨g, 1, none⟩ b).setCell ⟨g, 2, none⟩ c).setCell ⟨g, 3, none⟩ d).cell? ⟨g, 1, none⟩ = some b ∧
    ((((w.setCell ⟨g, 0, none⟩ a).setCell ⟨g, 1, none⟩ b).setCell ⟨g, 2, none⟩ c).setCell ⟨g, 3, none⟩ d).cell? ⟨g, 2, none⟩ = some c ∧ ((((w.setCell ⟨g, 0, none⟩ a).setCell ⟨g, 1, none⟩ b).setCell ⟨g, 2, none⟩ c).setCell ⟨g, 3, none⟩ d).cell? ⟨g, 3, none⟩ = some d := by
  have o : ∀ (w : World) (i j : Nat) (u : Value), i ≠ j → (w.setCell ⟨g, j, none⟩ u).cell? ⟨g, i, none⟩ = w.cell? ⟨g, i, none⟩ := fun w i j u h => World.cell?_setCell_other w _ _ _ (fun e => h (congrArg Addr.off e).symm)
  refine ⟨?_, ?_, ?_, ?_⟩
  · rw [o _ 0 3 _ (by decide), o _ 0 2 _ (by decide), o _ 0 1 _ (by decide)]; exact World.cell?_setCell_same w _ _ h0
  · rw [o _ 1 3 _ (by decide), o _ 1 2 _ (by decide)]; exact World.cell?_setCell_same _ _ _ ((o _ 1 0 _ (by decide)).trans h1)
  · rw [o _ 2 3 _ (by decide)]; exact World.cell?_setCell_same _ _ _ ((o _ 2 1 _ (by decide)).trans ((o _ 2 0 _ (by decide)).trans h2))
  · exact World.cell?_setCell_same _ _ _ ((o _ 3 2 _ (by decide)).trans ((o _ 3 1 _ (by decide)).trans ((o _ 3 0 _ (by decide)).trans h3)))
theorem look_end {B w1z g n : Nat} {sn : ByteArray} {v : Value} {acc : List (List UInt8)} {w1 wr : World} {x : JournalMath.Found} (hL : LookAt B g sn v acc n wr) (hB : Below w1.heap.size w1 wr) (hlt : w1.heap.size < B) (hx : x = ⟨g, sn.data.toList, acc, n⟩) (hz : w1z = w1.heap.size) :
    LookOk w1 x (.returned (.agg #[.int .i64 (g : Int), .string sn, v, .int .i64 (n : Int)])) ((((wr.setCell ⟨w1z, 0, none⟩ (.int .i64 (g : Int))).setCell ⟨w1z, 1, none⟩ (.string sn)).setCell ⟨w1z, 2, none⟩ v).setCell ⟨w1z, 3, none⟩ (.int .i64 (n : Int))) := by
  subst hx hz
  have hne : v.ownBlock ≠ some w1.heap.size := fun e => by have := (hL.own.lt _ e).1; omega
  refine ⟨v, by simp, ?_, (((hB.setCell (p := ⟨w1.heap.size, 0, none⟩) (Nat.le_refl _) _).setCell (p := ⟨w1.heap.size, 1, none⟩) (Nat.le_refl _) _).setCell (p := ⟨w1.heap.size, 2, none⟩) (Nat.le_refl _) _).setCell (p := ⟨w1.heap.size, 3, none⟩) (Nat.le_refl _) _⟩
  have h0 := own_base hL.own (show w1.heap.size ≤ B + 1 by omega)
  exact ownsRow_setCell_other (ownsRow_setCell_other (ownsRow_setCell_other (ownsRow_setCell_other h0 (a := ⟨w1.heap.size, 0, none⟩) hne _) (a := ⟨w1.heap.size, 1, none⟩) hne _) (a := ⟨w1.heap.size, 2, none⟩) hne _) (a := ⟨w1.heap.size, 3, none⟩) hne _
theorem upto_zero (xs : List (List UInt8)) : Upto xs 0 0 ⟨#[]⟩ [] 0 := ⟨fun _ => ⟨rfl, rfl, rfl, rfl⟩, fun h t e h0 => absurd h0 (by decide)⟩

set_option maxHeartbeats 4000000 in
theorem look_any {T : Nat → Prop} {w w1 : World} {b : Nat} {d : DS} (i : Nat) (hi4 : i < 4) (hD : DIn T w b d w1) (hk : Ok d) (hG : T 0) (hT : Tab w) :
    Calls Tryd.prog 47 #[.pointer (some ⟨b, 0, none⟩), .int .i64 (i : Int)] w1 fun e w' => LookOk w1 (found (d.F i)) e w' := by
  obtain ⟨i0, hi, hz0, hz1, hz2⟩ := info_parts infoS
  have hlen : (d.F i).length ≤ 1048576 := by have h1 := file_le d i hi4; have h2 := hk.room; have h3 := hk.most; omega
  obtain ⟨V, hP, _, _⟩ := id hD
  obtain ⟨wa, hwa⟩ : ∃ wa, wa = w1.alloc (.cells #[.int .i64 0, .string ⟨#[]⟩, .slice none 0 0, .int .i64 0] 91) := ⟨_, rfl⟩
  have hba : Below w1.heap.size w1 wa := by rw [hwa]; exact (Below.refl _ _).alloc (Nat.le_refl _) _
  have hsa : wa.heap.size = w1.heap.size + 1 := by rw [hwa]; simp
  have C1 : Hid (Calls Tryd.prog 33 #[.pointer (some ⟨b, 0, none⟩), .int .i64 (i : Int)] wa fun e w' => e = .returned (.tuple #[.string ⟨(d.F i).toArray⟩, .int .i64 0]) ∧ Below wa.heap.size wa w') := Dk.read_any wa b V d i hi4 (pdisk_below hP hba) hk
  have c2 := fun w hT => Fr.scan_any ⟨(d.F i).toArray⟩ (by rw [strV_size]; omega) w hT
  unfold Fr.ScanV at c2
  rw [mk_data] at c2
  have hfit := (FrameMath.scan_stands (d.F i)).1
  have hul := FrameMath.used_le (d.F i)
  have hxl := FrameMath.scan_length (d.F i)
  unfold found
  generalize scan (d.F i) = xs at *
  have C2 : Hid (∀ w, Tab w → Calls Tryd.prog 60 #[.string ⟨(d.F i).toArray⟩] w fun e w' => ∃ v, e = .returned (.tuple #[v, .int .i64 ((FrameMath.used xs : Nat) : Int)]) ∧ w'.ownsRow (w.heap.size + 3) 9 1 v xs.length (xs.map strV) ∧ Below w.heap.size w w') := c2
  have HT1 : Hid (Tab wa) := tab_below (tab_din hD hG hT) hba
  have HWA : Hid (wa = w1.alloc (.cells #[.int .i64 0, .string ⟨#[]⟩, .slice none 0 0, .int .i64 0] 91)) := hwa
  have HBA : Hid (Below w1.heap.size w1 wa) := hba
  have HSA : Hid (wa.heap.size = w1.heap.size + 1) := hsa
  have HFIT : Hid (∀ r ∈ xs, r.length ≤ 200000) := hfit
  have HUL : Hid (FrameMath.used xs ≤ 1048576) := by show _ ≤ _; omega
  have hx : xs.length ≤ 1048576 := by omega
  generalize ByteArray.mk (d.F i).toArray = bytes at *
  generalize hus : FrameMath.used xs = us at *
  have HUS : Hid (FrameMath.used xs = us) := hus
  clear hus
  clear c2 hD hP hwa hba hsa hfit hlen hul hxl
  go_enter Tryd.func47, Tryd.ntmps47
  go_wp2_with fail
  rw [← HWA.out]
  go_step3
  go_wp2_with fail
  refine C1.out.mono ?_
  rintro e w2 ⟨rfl, hb2⟩
  have HT2 : Hid (Tab w2) := tab_below HT1.out hb2
  have HB2 : Hid (Below wa.heap.size wa w2) := hb2
  clear hb2 C1 HT1
  go_wp2_with fail
  refine (C2.out _ HT2.out).mono ?_
  rintro e w3 ⟨vs, rfl, hown3, hb3⟩
  have hs3 : SRow w3 vs xs := srow_own hown3
  obtain ⟨ao, cao, rfl, _, _⟩ := own_row hown3
  have hb13 : Below wa.heap.size wa w3 := HB2.out.trans (hb3.mono HB2.out.size)
  have HB3 : Hid (Below wa.heap.size wa w3) := hb13
  have HS3 : Hid (SRow w3 (.slice ao xs.length cao) xs) := hs3
  have HL0 : Hid (LookAt w3.heap.size 0 ⟨#[]⟩ (.slice none 0 0) [] 0 (w3.alloc (.cells #[.int .i64 0, .string ⟨#[]⟩, .slice none 0 0, .int .i64 0] 91))) :=
    ⟨by simp, by simp, by simp, by simp, fun j => by rw [World.frozen?, heap_alloc_new w3 _]; simp, World.ownsRow_nil _ _ _ _⟩
  have HB4 : Hid (Below w3.heap.size w3 (w3.alloc (.cells #[.int .i64 0, .string ⟨#[]⟩, .slice none 0 0, .int .i64 0] 91))) := (Below.refl _ _).alloc (Nat.le_refl _) _
  generalize hwf : w3.alloc (.cells #[.int .i64 0, .string ⟨#[]⟩, .slice none 0 0, .int .i64 0] 91) = wf at *
  have HWF : Hid (w3.alloc (.cells #[.int .i64 0, .string ⟨#[]⟩, .slice none 0 0, .int .i64 0] 91) = wf) := hwf
  clear hown3 hb3 hs3 hb13 HB2 HT2 C2 hwf
  go_wp2_with fail
  rw [HWF.out]
  go_step3
  go_wp2_with fail
  have HRB : Hid (∀ wr, Below w3.heap.size w3 wr → Below w1.heap.size w1 wr ∧ w1.heap.size < w3.heap.size ∧ (∀ j, wr.frozen? ⟨w1.heap.size, j, none⟩ = false) ∧ wr.cell? ⟨w1.heap.size, 0, none⟩ = some (.int .i64 0) ∧ wr.cell? ⟨w1.heap.size, 1, none⟩ = some (.string ⟨#[]⟩) ∧ wr.cell? ⟨w1.heap.size, 2, none⟩ = some (.slice none 0 0) ∧ wr.cell? ⟨w1.heap.size, 3, none⟩ = some (.int .i64 0)) := by
    intro wr hbr
    have hsa := HSA.out
    have hs3 := HB3.out.size
    have hb1 : Below wa.heap.size wa wr := HB3.out.trans (hbr.mono hs3)
    have c := fun j => hb1.cell (p := ⟨w1.heap.size, j, none⟩) (by simp; omega)
    have f := fun j => hb1.frozen (p := ⟨w1.heap.size, j, none⟩) (by simp; omega)
    refine ⟨HBA.out.trans (hb1.mono HBA.out.size), by omega, fun j => (f j).trans ?_, (c 0).trans ?_, (c 1).trans ?_, (c 2).trans ?_, (c 3).trans ?_⟩
    · rw [HWA.out, World.frozen?, heap_alloc_new w1 _]; simp
    all_goals (rw [HWA.out]; simp)
  clear HWF HWA HBA HSA HB3
  go_loopw [25] (fun i wr => ∃ k g sn v acc n, k ≤ xs.length ∧ i = .int .i64 (k : Int) ∧ Hid (Upto xs k g sn acc n) ∧ Hid (LookAt w3.heap.size g sn v acc n wr) ∧ Hid (Below w3.heap.size w3 wr)) (fun i _ => xs.length - (intOf i).toNat)
  case atStart => exact ⟨0, 0, _, _, _, _, Nat.zero_le _, rfl, upto_zero xs, HL0, HB4⟩
  case round =>
    obtain ⟨k, g, sn, v, acc, n, hkx, rfl, HU, HL, HB⟩ := hrel
    clear HL0 HB4
    by_cases hlt : k < xs.length
    · obtain ⟨gx, ox, rfl, hcx⟩ := srow_cell (srow_below HS3.out HB.out) k hlt
      have hr2 := HFIT.out xs[k] (List.getElem_mem hlt)
      have hrz := strV_size xs[k]
      have hxk : xs[k]? = some xs[k] := List.getElem?_eq_getElem hlt
      unfold strV at hcx
      have i1 : (k : Int) < (xs.length : Int) := by omega
      obtain ⟨hb1, hlt1, hfr, r0, r1, r2, r3⟩ := HRB.out _ HB.out
      have HB1 : Hid (Below w1.heap.size w1 wr) := hb1
      have HLT1 : Hid (w1.heap.size < w3.heap.size) := hlt1
      obtain ⟨ag, cg, hv, _, _⟩ := own_row HL.out.own
      subst hv
      clear hb1 hlt1
      by_cases hk0 : k = 0
      · subst hk0
        obtain ⟨rfl, rfl, rfl, rfl⟩ := HU.out.zero rfl
        obtain ⟨h, tl, hxs⟩ : ∃ h tl, xs = h :: tl := by
          cases xs with
          | nil => exact absurd hlt (by simp)
          | cons h tl => exact ⟨h, tl, rfl⟩
        have hx0 : xs[0] = h := by subst hxs; rfl
        have HXS : Hid (xs = h :: tl) := hxs
        rw [hx0] at hcx hr2 hrz
        rw [Nat.add_zero] at hcx
        clear hxs
        have C3 : Hid (∀ w, Calls Tryd.prog 61 #[.string ⟨h.toArray⟩] w fun e w' => e = .returned (.tuple #[.int .i64 ((readHead h).1 : Int), .string ⟨(readHead h).2.toArray⟩]) ∧ ∃ q, w' = w.drewN q) := by
          intro w
          have := takeHead_any ⟨h.toArray⟩ (by rw [hrz]; exact hr2) w
          rw [mk_data] at this
          exact this
        have hgl := (readHead_le h).1
        by_cases hg0 : (readHead h).1 = 0
        · have HE : Hid (foundOf xs = ⟨0, (ByteArray.mk #[]).data.toList, [], 0⟩) := by
            show _ = _
            rw [HXS.out]; exact foundOf_no h tl hg0
          rw [readHead_none h hg0] at C3
          clear hxk hx0 hgl hg0
          generalize ByteArray.mk h.toArray = rb at *
          go_wp2_with fail
          refine (C3.out _).mono ?_
          rintro e w4 ⟨rfl, hq⟩
          have hb4 : Below wr.heap.size wr w4 := by obtain ⟨q, rfl⟩ := hq; exact below_drewN (Below.refl _ _) q
          have HL4 : Hid (LookAt w3.heap.size 0 ⟨#[]⟩ (.slice ag 0 cg) [] 0 ((w4.setCell ⟨w3.heap.size, 0, none⟩ (.int .i64 0)).setCell ⟨w3.heap.size, 1, none⟩ (.string ⟨#[]⟩))) := (HL.out.below hb4).head 0 ⟨#[]⟩
          have hL4' := HL.out.below hb4
          have s0 := hL4'.cg
          have s1 := hL4'.cs
          have f0 := hL4'.free 0
          have f1 := hL4'.free 1
          have hb34 : Below w3.heap.size w3 ((w4.setCell ⟨w3.heap.size, 0, none⟩ (.int .i64 0)).setCell ⟨w3.heap.size, 1, none⟩ (.string ⟨#[]⟩)) := ((HB.out.trans (hb4.mono HB.out.size)).setCell (p := ⟨w3.heap.size, 0, none⟩) (Nat.le_refl _) _).setCell (p := ⟨w3.heap.size, 1, none⟩) (Nat.le_refl _) _
          have s2 := hL4'.cr
          have s3 := hL4'.cn
          clear hfr r0 r1 r2 r3 HB1 hcx
          obtain ⟨_, _, hfr, q0, q1, q2, q3⟩ := HRB.out _ (HB.out.trans (hb4.mono HB.out.size))
          obtain ⟨hb1, _, _, r0, r1, r2, r3⟩ := HRB.out _ hb34
          have HB1 : Hid (Below w1.heap.size w1 ((w4.setCell ⟨w3.heap.size, 0, none⟩ (.int .i64 0)).setCell ⟨w3.heap.size, 1, none⟩ (.string ⟨#[]⟩))) := hb1
          have HR0 : Hid (((w4.setCell ⟨w3.heap.size, 0, none⟩ (.int .i64 0)).setCell ⟨w3.heap.size, 1, none⟩ (.string ⟨#[]⟩)).cell? ⟨w1.heap.size, 0, none⟩ = some (.int .i64 0)) := r0
          have HR1 : Hid (((w4.setCell ⟨w3.heap.size, 0, none⟩ (.int .i64 0)).setCell ⟨w3.heap.size, 1, none⟩ (.string ⟨#[]⟩)).cell? ⟨w1.heap.size, 1, none⟩ = some (.string ⟨#[]⟩)) := r1
          have HR2 : Hid (((w4.setCell ⟨w3.heap.size, 0, none⟩ (.int .i64 0)).setCell ⟨w3.heap.size, 1, none⟩ (.string ⟨#[]⟩)).cell? ⟨w1.heap.size, 2, none⟩ = some (.slice none 0 0)) := r2
          have HR3 : Hid (((w4.setCell ⟨w3.heap.size, 0, none⟩ (.int .i64 0)).setCell ⟨w3.heap.size, 1, none⟩ (.string ⟨#[]⟩)).cell? ⟨w1.heap.size, 3, none⟩ = some (.int .i64 0)) := r3
          have ne1 : w1.heap.size ≠ w3.heap.size := by have := HLT1.out; omega
          have ne2 : w3.heap.size ≠ w1.heap.size := by omega
          clear hL4' hb4 hq hb34 hb1 HL HB r0 r1 r2 r3
          go_wp2_with fail
          rw [Exit.noGoto_ret]
          refine bodyPost_ret (results_cell4 rfl _ _ w1.heap.size (.int .i64 0) (.string ⟨#[]⟩) (.slice ag 0 cg) (.int .i64 0) _ rfl (set4 _ _ _ _ HR0.out HR1.out HR2.out HR3.out).1 (set4 _ _ _ _ HR0.out HR1.out HR2.out HR3.out).2.1 (set4 _ _ _ _ HR0.out HR1.out HR2.out HR3.out).2.2.1 (set4 _ _ _ _ HR0.out HR1.out HR2.out HR3.out).2.2.2 Tryd.underlying91 rfl (by kernel_rfl)) rfl (look_end HL4.out HB1.out HLT1.out HE.out rfl)
        · have HU2 : Hid (Upto xs 1 (readHead h).1 ⟨(readHead h).2.toArray⟩ [] (8 + h.length)) := by
            refine ⟨fun e => absurd e (by decide), fun h' t' e' _ => ?_⟩
            rw [HXS.out] at e'
            obtain ⟨rfl, rfl⟩ := List.cons.inj e'
            refine ⟨rfl, hg0, rfl, rfl, fun r hr => absurd hr (by simp), ?_⟩
            show 8 + h.length = h.length + 8 + 0
            omega
          have i4 : (((readHead h).1 : Int) == 0) = false := by rw [beq_eq_false_iff_ne]; omega
          generalize (readHead h).1 = g1 at *
          generalize ByteArray.mk (readHead h).2.toArray = sn1 at *
          clear hxk hx0 hg0 r0 r1 r2 r3 hfr
          generalize ByteArray.mk h.toArray = rb at *
          have HLT : Hid (0 < xs.length) := hlt
          go_wp2_with fail
          refine (C3.out _).mono ?_
          rintro e w4 ⟨rfl, hq⟩
          have hb4 : Below wr.heap.size wr w4 := by obtain ⟨q, rfl⟩ := hq; exact below_drewN (Below.refl _ _) q
          have hL4 := HL.out.below hb4
          have HL5 : Hid (LookAt w3.heap.size g1 sn1 (.slice ag 0 cg) [] (8 + h.length) (((w4.setCell ⟨w3.heap.size, 0, none⟩ (.int .i64 (g1 : Int))).setCell ⟨w3.heap.size, 1, none⟩ (.string sn1)).setCell ⟨w3.heap.size, 3, none⟩ (.int .i64 (8 + (h.length : Int))))) := by
            have := (hL4.head g1 sn1).size (8 + h.length)
            rw [Int.natCast_add] at this
            exact this
          have HB5 : Hid (Below w3.heap.size w3 (((w4.setCell ⟨w3.heap.size, 0, none⟩ (.int .i64 (g1 : Int))).setCell ⟨w3.heap.size, 1, none⟩ (.string sn1)).setCell ⟨w3.heap.size, 3, none⟩ (.int .i64 (8 + (h.length : Int))))) := (((HB.out.trans (hb4.mono HB.out.size)).setCell (p := ⟨w3.heap.size, 0, none⟩) (Nat.le_refl _) _).setCell (p := ⟨w3.heap.size, 1, none⟩) (Nat.le_refl _) _).setCell (p := ⟨w3.heap.size, 3, none⟩) (Nat.le_refl _) _
          have s0 := hL4.cg
          have s1 := hL4.cs
          have s3 := hL4.cn
          have f0 := hL4.free 0
          have f1 := hL4.free 1
          have f3 := hL4.free 3
          clear hL4 hb4 hq HL HB hcx
          go_wp2
          exact ⟨⟨1, g1, sn1, _, [], 8 + h.length, HLT.out, rfl, HU2, HL5, HB5⟩, by have := HLT.out; simp [intOf]; omega⟩
      · have HK0 : Hid (0 < k) := by show 0 < k; omega
        have i2 : ((k : Int) == 0) = false := by rw [beq_eq_false_iff_ne]; omega
        have l2 := HL.out.cr
        have l3 := HL.out.cn
        have HXK : Hid (xs[k]? = some xs[k]) := hxk
        by_cases hs : xs[k].length ≤ 4000
        · have i3 : ¬ (4000 : Int) < ((ByteArray.mk xs[k].toArray).size : Int) := by rw [hrz]; omega
          obtain ⟨h, tl, hxs⟩ : ∃ h tl, xs = h :: tl := by
            cases xs with
            | nil => exact absurd hlt (by simp)
            | cons h tl => exact ⟨h, tl, rfl⟩
          obtain ⟨hg1, hg2, hsn, hacc, hsh, hn⟩ := HU.out.more h tl hxs HK0.out
          have hktl : k - 1 < tl.length := by rw [hxs] at hlt; simp at hlt; omega
          have hxt : xs[k] = tl[k - 1] := by
            have : xs[k]? = tl[k - 1]? := by rw [hxs, show k = (k - 1) + 1 by omega]; rfl
            rw [hxk, List.getElem?_eq_getElem hktl] at this
            exact Option.some.inj this
          have etk : tl.take (k + 1 - 1) = tl.take (k - 1) ++ [xs[k]] := by
            rw [hxt, show k + 1 - 1 = (k - 1) + 1 by omega]
            exact List.take_succ_eq_append_getElem hktl
          have hn2 : n + (8 + xs[k].length) = FrameMath.used (h :: tl.take (k + 1 - 1)) := by
            rw [etk, hn]
            show h.length + 8 + FrameMath.used (tl.take (k - 1)) + (8 + xs[k].length) = h.length + 8 + FrameMath.used (tl.take (k - 1) ++ [xs[k]])
            rw [FrameMath.used_append]
            show _ = h.length + 8 + (FrameMath.used (tl.take (k - 1)) + (xs[k].length + 8 + 0))
            omega
          have hle : n + (8 + xs[k].length) ≤ 1048576 := by
            have h1 := FrameMath.used_append (tl.take (k + 1 - 1)) (tl.drop (k + 1 - 1))
            rw [List.take_append_drop] at h1
            have h2 := HUS.out
            have h3 := HUL.out
            rw [hxs] at h2
            have h4 : h.length + 8 + FrameMath.used tl = us := h2
            rw [hn2]
            show h.length + 8 + FrameMath.used (tl.take (k + 1 - 1)) ≤ _
            omega
          have HU2 : Hid (Upto xs (k + 1) g sn (acc ++ [xs[k]]) (n + (8 + xs[k].length))) := by
            refine ⟨fun e => absurd e (by omega), fun h' t' e' _ => ?_⟩
            rw [hxs] at e'
            obtain ⟨rfl, rfl⟩ := List.cons.inj e'
            refine ⟨hg1, hg2, hsn, by rw [etk, hacc], fun r hr => ?_, hn2⟩
            rw [etk] at hr
            rcases List.mem_append.1 hr with hr | hr
            · exact hsh r hr
            · obtain rfl := List.mem_singleton.1 hr
              unfold short; simpa using hs
          have hpl : acc.length ≤ 1048576 := by rw [hacc, List.length_take]; omega
          have HLT : Hid (k < xs.length) := hlt
          have hL := HL.out
          have hown := hL.own
          clear hxk HXK etk hn2 hxt hktl hg1 hg2 hsn hacc hsh hn hxs r0 r1 r2 r3 hfr
          generalize hX : xs[k] = r at *
          have HRBX : Hid (Value.string ⟨r.toArray⟩ = strV r) := by show _ = _; rfl
          generalize ByteArray.mk r.toArray = rb at *
          clear hX hL
          go_wp2_with (at_builtin; refine wpList_append_own _ rfl _ _ 47 rfl (w3.heap.size + 1) 9 i0 (.string ⟨#[]⟩) 1 16 Tryd.underlying47 hi hz0 hz1 hz2 rfl (by decide) _ _ _ rfl (hown.alloc _) ⟨_, 0, none⟩ 1 1 [.string rb] rfl rfl (one_new _ _ _) (one_cell _) (by unfold maxLen; omega) (by omega) (by have := block_lt_of_cell HL.out.cg; simp at this ⊢; omega) ?_)
          intro v' w5 hown' hgrow hnn
          have hown'' : w5.ownsRow (w3.heap.size + 1) 9 1 v' (acc.length + 1) (acc.map strV ++ [strV r]) := by
            rw [← HRBX.out]
            exact hown'
          obtain ⟨ag', cg', hv', _, _⟩ := own_row hown''
          subst hv'
          obtain ⟨_, d1, d2, hL5, hB5⟩ := HL.out.push hown'' hgrow
          have HL6 : Hid (LookAt w3.heap.size g sn (.slice ag' (acc.length + 1) cg') (acc ++ [r]) (n + (8 + r.length)) ((w5.setCell ⟨w3.heap.size, 2, none⟩ (.slice ag' (acc.length + 1) cg')).setCell ⟨w3.heap.size, 3, none⟩ (.int .i64 ((n : Int) + (8 + (r.length : Int)))))) := by
            have := hL5.size (n + (8 + r.length))
            rw [Int.natCast_add, Int.natCast_add] at this
            exact this
          have HB6 : Hid (Below w3.heap.size w3 ((w5.setCell ⟨w3.heap.size, 2, none⟩ (.slice ag' (acc.length + 1) cg')).setCell ⟨w3.heap.size, 3, none⟩ (.int .i64 ((n : Int) + (8 + (r.length : Int)))))) := (hB5 _ _ (Nat.le_refl _) HB.out).setCell (p := ⟨w3.heap.size, 3, none⟩) (Nat.le_refl _) _
          have s3 : w5.cell? ⟨w3.heap.size, 3, none⟩ = some (.int .i64 (n : Int)) := by
            have := hL5.cn
            rwa [World.cell?_setCell_other _ _ _ _ (by simp)] at this
          have f3 : w5.frozen? ⟨w3.heap.size, 3, none⟩ = false := by
            have := hL5.free 3
            rwa [World.frozen?_setCell] at this
          clear hown' hown'' hgrow hnn hL5 hB5 HL HB hown l2 l3 hcx
          go_wp2
          exact ⟨⟨k + 1, g, sn, _, acc ++ [r], n + (8 + r.length), HLT.out, by go_num, HU2, HL6, HB6⟩, by have := HLT.out; simp [intOf]; omega⟩
        · have i3 : (4000 : Int) < ((ByteArray.mk xs[k].toArray).size : Int) := by rw [hrz]; omega
          have HE : Hid (foundOf xs = ⟨g, sn.data.toList, acc, n⟩) := HU.out.ends hkx (fun r hr => by
            rw [hxk] at hr
            obtain rfl := Option.some.inj hr
            exact ⟨HK0.out, by unfold short; simp; omega⟩)
          have l0 := HL.out.cg
          have l1 := HL.out.cs
          clear hrz hxk HXK
          generalize xs[k] = r at *
          generalize ByteArray.mk r.toArray = rb at *
          go_wp2_with fail
          rw [Exit.noGoto_ret]
          refine bodyPost_ret (results_cell4 rfl _ _ w1.heap.size (.int .i64 (g : Int)) (.string sn) (.slice ag acc.length cg) (.int .i64 (n : Int)) _ rfl (set4 _ _ _ _ r0 r1 r2 r3).1 (set4 _ _ _ _ r0 r1 r2 r3).2.1 (set4 _ _ _ _ r0 r1 r2 r3).2.2.1 (set4 _ _ _ _ r0 r1 r2 r3).2.2.2 Tryd.underlying91 rfl (by kernel_rfl)) rfl (look_end HL.out HB1.out HLT1.out HE.out rfl)
    · have HE : Hid (foundOf xs = ⟨g, sn.data.toList, acc, n⟩) := HU.out.ends hkx (fun r hr => by rw [List.getElem?_eq_none (by omega)] at hr; cases hr)
      obtain ⟨hb1, hlt1, hfr, r0, r1, r2, r3⟩ := HRB.out _ HB.out
      have HB1 : Hid (Below w1.heap.size w1 wr) := hb1
      have HLT1 : Hid (w1.heap.size < w3.heap.size) := hlt1
      have l0 := HL.out.cg
      have l1 := HL.out.cs
      have l2 := HL.out.cr
      have l3 := HL.out.cn
      obtain ⟨ag, cg, hv, _, _⟩ := own_row HL.out.own
      subst hv
      clear hb1 hlt1 HRB
      go_wp2_with fail
      rw [Exit.noGoto_ret]
      refine bodyPost_ret (results_cell4 rfl _ _ w1.heap.size (.int .i64 (g : Int)) (.string sn) (.slice ag acc.length cg) (.int .i64 (n : Int)) _ rfl (set4 _ _ _ _ r0 r1 r2 r3).1 (set4 _ _ _ _ r0 r1 r2 r3).2.1 (set4 _ _ _ _ r0 r1 r2 r3).2.2.1 (set4 _ _ _ _ r0 r1 r2 r3).2.2.2 Tryd.underlying91 rfl (by kernel_rfl)) rfl (look_end HL.out HB1.out HLT1.out HE.out rfl)
end Go.Proofs.YtahkecdlibkokaaDoor
