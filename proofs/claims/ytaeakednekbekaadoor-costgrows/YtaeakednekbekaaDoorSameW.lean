/- The walks of texts, ints and Same, in the law's package. -/
import Derived.Test.YtaeakednekbekaaDoorCBase
set_option linter.unusedVariables false
set_option maxRecDepth 100000
namespace Go.Proofs.YtaeakednekbekaaDoor
open Go.RowKit CheckMath
open Go.Proofs.YtaeakednekbekaaDoor.Nm

set_option maxHeartbeats 2000000 in
theorem textsSame_any (u v : Value) (xs : List ByteArray) (w : World) (hu : KRow w u xs) (hv : KRow w v xs) :
    Calls Tryd.prog 18 #[u, v] w fun e w' => e = .returned (.bool true) ∧ Below w.heap.size w w' := by
  obtain ⟨ao, cap, rfl, hcap, _, ⟨hlen, _⟩, hrow⟩ := hu
  obtain ⟨bo, cbp, rfl, hcbp, _, _, hrow2⟩ := hv
  have HR : Hid (∀ j, j < xs.length → ∃ g o, ao = some ⟨g, o, none⟩ ∧ g < w.heap.size ∧ w.cell? ⟨g, o + j, none⟩ = some (.string (keyAt xs j))) := hrow
  have HR2 : Hid (∀ j, j < xs.length → ∃ g o, bo = some ⟨g, o, none⟩ ∧ g < w.heap.size ∧ w.cell? ⟨g, o + j, none⟩ = some (.string (keyAt xs j))) := hrow2
  clear hrow hrow2
  go_enter Tryd.func18, Tryd.ntmps18
  go_wp2
  go_loopw [5] (fun k wr => ∃ n : Nat, n ≤ xs.length ∧ k = .int .i64 (n : Int) ∧ Hid (Below w.heap.size w wr)) (fun k _ => xs.length - (intOf k).toNat)
  case atStart => exact ⟨0, Nat.zero_le _, rfl, Below.refl _ _⟩
  case round =>
    obtain ⟨n, hn, rfl, HB⟩ := hrel
    by_cases hlt : n < xs.length
    · obtain ⟨g, o, rfl, hg, c0⟩ := HR.out n hlt
      obtain ⟨g2, o2, rfl, hg2, c2⟩ := HR2.out n hlt
      have d0 := (HB.out.cell (p := ⟨g, o + n, none⟩) hg).trans c0
      have d2 := (HB.out.cell (p := ⟨g2, o2 + n, none⟩) hg2).trans c2
      have hltI : (n : Int) < (xs.length : Int) := by omega
      clear c0 c2 HR HR2
      generalize keyAt xs n = z at *
      go_wp2
      go_quiet (fail)
      go_wp2
      exact ⟨⟨n + 1, by omega, by go_num, below_drewN HB.out _⟩, by simp [intOf]; omega⟩
    · have hltI : ¬ (n : Int) < (xs.length : Int) := by omega
      clear HR HR2
      go_wp2
      go_ret
      exact ⟨rfl, HB.out⟩
set_option maxHeartbeats 2000000 in
theorem intsSame_any (u v : Value) (xs : List Int) (w : World) (hu : IRow w u xs) (hv : IRow w v xs) :
    Calls Tryd.prog 19 #[u, v] w fun e w' => e = .returned (.bool true) ∧ Below w.heap.size w w' := by
  obtain ⟨ao, cap, rfl, hcap, _, hlen, hrow⟩ := hu
  obtain ⟨bo, cbp, rfl, hcbp, _, _, hrow2⟩ := hv
  have HR : Hid (∀ j, j < xs.length → ∃ g o, ao = some ⟨g, o, none⟩ ∧ g < w.heap.size ∧ w.cell? ⟨g, o + j, none⟩ = some (.int .i64 (needAt xs j))) := hrow
  have HR2 : Hid (∀ j, j < xs.length → ∃ g o, bo = some ⟨g, o, none⟩ ∧ g < w.heap.size ∧ w.cell? ⟨g, o + j, none⟩ = some (.int .i64 (needAt xs j))) := hrow2
  clear hrow hrow2
  go_enter Tryd.func19, Tryd.ntmps19
  go_wp2
  go_loopw [5] (fun k wr => ∃ n : Nat, n ≤ xs.length ∧ k = .int .i64 (n : Int) ∧ Hid (Below w.heap.size w wr)) (fun k _ => xs.length - (intOf k).toNat)
  case atStart => exact ⟨0, Nat.zero_le _, rfl, Below.refl _ _⟩
  case round =>
    obtain ⟨n, hn, rfl, HB⟩ := hrel
    by_cases hlt : n < xs.length
    · obtain ⟨g, o, rfl, hg, c0⟩ := HR.out n hlt
      obtain ⟨g2, o2, rfl, hg2, c2⟩ := HR2.out n hlt
      have d0 := (HB.out.cell (p := ⟨g, o + n, none⟩) hg).trans c0
      have d2 := (HB.out.cell (p := ⟨g2, o2 + n, none⟩) hg2).trans c2
      have hltI : (n : Int) < (xs.length : Int) := by omega
      clear c0 c2 HR HR2
      generalize needAt xs n = z at *
      go_wp2
      go_quiet (fail)
      go_wp2
      exact ⟨⟨n + 1, by omega, by go_num, below_drewN HB.out _⟩, by simp [intOf]; omega⟩
    · have hltI : ¬ (n : Int) < (xs.length : Int) := by omega
      clear HR HR2
      go_wp2
      go_ret
      exact ⟨rfl, HB.out⟩

theorem box_two {w : World} {n1 n2 : ByteArray} {ao bo : Option Addr} {k1 c1 k2 c2 : Nat} (wq : World) (hb : Below ((w.alloc (.cells #[.string n1, .slice ao k1 c1] 24)).alloc (.cells #[.string n2, .slice bo k2 c2] 24)).heap.size ((w.alloc (.cells #[.string n1, .slice ao k1 c1] 24)).alloc (.cells #[.string n2, .slice bo k2 c2] 24)) wq) :
    Below w.heap.size w wq ∧ wq.cell? ⟨w.heap.size, 1, none⟩ = some (.slice ao k1 c1) ∧ wq.cell? ⟨w.heap.size + 1, 1, none⟩ = some (.slice bo k2 c2) := by
  have hb0 : Below w.heap.size w (w.alloc (.cells #[.string n1, .slice ao k1 c1] 24)) := (Below.refl _ _).alloc (Nat.le_refl _) _
  have hs1 : (w.alloc (.cells #[.string n1, .slice ao k1 c1] 24)).heap.size = w.heap.size + 1 := by simp
  generalize hw0 : w.alloc (.cells #[.string n1, .slice ao k1 c1] 24) = w0 at *
  have h1 : Below w0.heap.size w0 (w0.alloc (.cells #[.string n2, .slice bo k2 c2] 24)) := (Below.refl _ _).alloc (Nat.le_refl _) _
  have h2 : Below w0.heap.size w0 wq := h1.trans (hb.mono h1.size)
  refine ⟨hb0.trans (h2.mono hb0.size), ?_, ?_⟩
  · rw [h2.cell (p := ⟨w.heap.size, 1, none⟩) (by show w.heap.size < _; omega), ← hw0, World.cell?_alloc_new]; rfl
  · rw [hb.cell (p := ⟨w.heap.size + 1, 1, none⟩) (by simp; omega), ← hs1, World.cell?_alloc_new]; rfl
set_option maxHeartbeats 6000000 in
theorem sameDef_any (u v : Value) (D : DefD) (w : World) (hu : DefIn w u D) (hv : DefIn w v D) :
    Calls Tryd.prog 12 #[u, v] w fun e w' => e = .returned (.bool true) ∧ Below w.heap.size w w' := by
  obtain ⟨sv, rfl, hd⟩ := hu
  obtain ⟨tv, rfl, hd2⟩ := hv
  obtain ⟨ao, cap, rfl, hcap, _, hlen, hrow⟩ := hd
  obtain ⟨bo, cbp, rfl, hcbp, _, _, hrow2⟩ := hd2
  have HR : Hid (∀ j, j < D.steps.length → ∃ g o, ao = some ⟨g, o, none⟩ ∧ g < w.heap.size ∧ StepIn w g (o + j * 5) (nth D.steps j)) := hrow
  have HR2 : Hid (∀ j, j < D.steps.length → ∃ g o, bo = some ⟨g, o, none⟩ ∧ g < w.heap.size ∧ StepIn w g (o + j * 5) (nth D.steps j)) := hrow2
  have HW : Hid (∀ wq, Below ((w.alloc (.cells #[.string D.name, .slice ao D.steps.length cap] 24)).alloc (.cells #[.string D.name, .slice bo D.steps.length cbp] 24)).heap.size ((w.alloc (.cells #[.string D.name, .slice ao D.steps.length cap] 24)).alloc (.cells #[.string D.name, .slice bo D.steps.length cbp] 24)) wq → Below w.heap.size w wq ∧ wq.cell? ⟨w.heap.size, 1, none⟩ = some (.slice ao D.steps.length cap) ∧ wq.cell? ⟨w.heap.size + 1, 1, none⟩ = some (.slice bo D.steps.length cbp)) := fun wq hb => box_two wq hb
  have HB0 : Hid (Below ((w.alloc (.cells #[.string D.name, .slice ao D.steps.length cap] 24)).alloc (.cells #[.string D.name, .slice bo D.steps.length cbp] 24)).heap.size ((w.alloc (.cells #[.string D.name, .slice ao D.steps.length cap] 24)).alloc (.cells #[.string D.name, .slice bo D.steps.length cbp] 24)) ((w.alloc (.cells #[.string D.name, .slice ao D.steps.length cap] 24)).alloc (.cells #[.string D.name, .slice bo D.steps.length cbp] 24))) := Below.refl _ _
  clear hrow hrow2
  go_enter Tryd.func12, Tryd.ntmps12
  go_wp2
  generalize ((w.alloc (.cells #[.string D.name, .slice ao D.steps.length cap] 24)).alloc (.cells #[.string D.name, .slice bo D.steps.length cbp] 24)) = w0 at *
  go_loopw [5, 6, 7] (fun k _ _ wr => ∃ n : Nat, n ≤ D.steps.length ∧ k = .int .i64 (n : Int) ∧ Hid (Below w0.heap.size w0 wr)) (fun k _ _ _ => D.steps.length - (intOf k).toNat)
  case atStart => exact ⟨0, Nat.zero_le _, rfl, HB0⟩
  case round =>
    obtain ⟨n, hn, rfl, HB⟩ := hrel
    obtain ⟨hbw, p1, p2⟩ := HW.out _ HB.out
    by_cases hlt : n < D.steps.length
    · obtain ⟨g, o, rfl, hg, hs⟩ := HR.out n hlt
      obtain ⟨g2, o2, rfl, hg2, hs2⟩ := HR2.out n hlt
      obtain ⟨c0, c1, c2, kv, nv, c3, c4, c5, c6⟩ := hs.below hg hbw
      obtain ⟨d0, d1, d2, kv2, nv2, d3, d4, d5, d6⟩ := hs2.below hg2 hbw
      have hltI : (n : Int) < (D.steps.length : Int) := by omega
      have hgr : g < wr.heap.size := Nat.lt_of_lt_of_le hg hbw.size
      have hgr2 : g2 < wr.heap.size := Nat.lt_of_lt_of_le hg2 hbw.size
      have hlt1 : w.heap.size < wr.heap.size := block_lt_of_cell p1
      have hlt2 : w.heap.size + 1 < wr.heap.size := block_lt_of_cell p2
      have HBX : Hid (Below wr.heap.size wr ((wr.alloc (.cells #[.string (nth D.steps n).name, .int .i64 (nth D.steps n).kind, .int .i64 (nth D.steps n).part, kv, nv] 44)).alloc (.cells #[.string (nth D.steps n).name, .int .i64 (nth D.steps n).kind, .int .i64 (nth D.steps n).part, kv2, nv2] 44))) := ((Below.refl _ _).alloc (Nat.le_refl _) _).alloc (by simp) _
      have CT : Hid (∀ wq, Below wr.heap.size wr wq → Calls Tryd.prog 18 #[kv, kv2] wq fun e w' => e = .returned (.bool true) ∧ Below wq.heap.size wq w') := fun wq hq => textsSame_any _ _ _ wq (c5.below hq) (d5.below hq)
      have CI : Hid (∀ wq, Below wr.heap.size wr wq → Calls Tryd.prog 19 #[nv, nv2] wq fun e w' => e = .returned (.bool true) ∧ Below wq.heap.size wq w') := fun wq hq => intsSame_any _ _ _ wq (c6.below hq) (d6.below hq)
      have HU : Hid (∀ wq, Below ((wr.alloc (.cells #[.string (nth D.steps n).name, .int .i64 (nth D.steps n).kind, .int .i64 (nth D.steps n).part, kv, nv] 44)).alloc (.cells #[.string (nth D.steps n).name, .int .i64 (nth D.steps n).kind, .int .i64 (nth D.steps n).part, kv2, nv2] 44)).heap.size ((wr.alloc (.cells #[.string (nth D.steps n).name, .int .i64 (nth D.steps n).kind, .int .i64 (nth D.steps n).part, kv, nv] 44)).alloc (.cells #[.string (nth D.steps n).name, .int .i64 (nth D.steps n).kind, .int .i64 (nth D.steps n).part, kv2, nv2] 44)) wq → wq.cell? ⟨wr.heap.size, 4, none⟩ = some nv ∧ wq.cell? ⟨wr.heap.size + 1, 4, none⟩ = some nv2) := fun wq hb => by
        have hs1 : (wr.alloc (.cells #[.string (nth D.steps n).name, .int .i64 (nth D.steps n).kind, .int .i64 (nth D.steps n).part, kv, nv] 44)).heap.size = wr.heap.size + 1 := by simp
        refine ⟨?_, ?_⟩
        · rw [hb.cell (p := ⟨wr.heap.size, 4, none⟩) (by simp; omega), World.cell?_alloc_past _ _ _ (by rw [hs1]; omega), World.cell?_alloc_new]; rfl
        · rw [hb.cell (p := ⟨wr.heap.size + 1, 4, none⟩) (by simp), ← hs1, World.cell?_alloc_new]; rfl
      obtain ⟨ka, kc, hkv⟩ := c5.slice
      obtain ⟨na, nc, hnv⟩ := c6.slice
      obtain ⟨ka2, kc2, hkv2⟩ := d5.slice
      obtain ⟨na2, nc2, hnv2⟩ := d6.slice
      subst hkv hnv hkv2 hnv2
      clear c5 c6 d5 d6 HR HR2 hs hs2 hbw
      go_wp2_with fail
      refine (CT.out _ HBX.out).mono ?_
      rintro e w1 ⟨rfl, hb1⟩
      have HB1 : Hid (Below wr.heap.size wr w1) := HBX.out.trans (hb1.mono HBX.out.size)
      obtain ⟨q1, q2⟩ := HU.out _ hb1
      clear hb1 HBX CT c0 c1 c2 c3 c4 d0 d1 d2 d3 d4 p1 p2
      go_wp2_with fail
      refine (CI.out _ HB1.out).mono ?_
      rintro e w2 ⟨rfl, hb2⟩
      have HB2 : Hid (Below w0.heap.size w0 w2) := HB.out.trans ((HB1.out.trans (hb2.mono HB1.out.size)).mono HB.out.size)
      clear hb2 HB1 CI q1 q2 HU
      go_wp2_with fail
      exact ⟨⟨n + 1, by omega, by go_num, HB2⟩, by simp [intOf]; omega⟩
    · have hltI : ¬ (n : Int) < (D.steps.length : Int) := by omega
      clear HR HR2
      go_wp2
      go_ret
      exact ⟨rfl, hbw⟩
end Go.Proofs.YtaeakednekbekaaDoor
