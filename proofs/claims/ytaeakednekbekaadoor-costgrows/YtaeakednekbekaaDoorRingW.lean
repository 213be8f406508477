/- The walks of inRing and of the closure that looks for rings, in package check. -/
import Derived.Test.YtaeakednekbekaaDoorCBase
import Derived.Laws.EntriesVeiled
set_option linter.unusedVariables false
set_option maxRecDepth 100000
namespace Go.Proofs.YtaeakednekbekaaDoor
open Go.RowKit CheckMath
open Go.Proofs.YtaeakednekbekaaDoor.Nm

def upd (l : Nat → Bool) (x : Nat) : Nat → Bool := fun j => if j = x then true else l j
theorem upd_at (l : Nat → Bool) (x : Nat) : upd l x x = true := by simp [upd]
theorem upd_le {l : Nat → Bool} {x y : Nat} (h : l y = true) : upd l x y = true := by unfold upd; split <;> simp [*]
theorem upd_cases {l : Nat → Bool} {x y : Nat} (h : upd l x y = true) : y = x ∨ l y = true := by
  unfold upd at h
  by_cases e : y = x
  · exact Or.inl e
  · rw [if_neg e] at h; exact Or.inr h
/-- The closure's own variables. -/
def leadV (bb sb ib lb : Nat) : Value := .func (.func 58) #[] #[.pointer (some ⟨bb, 0, none⟩), .pointer (some ⟨sb, 0, none⟩), .pointer (some ⟨ib, 0, none⟩), .pointer (some ⟨lb, 0, none⟩)]
structure RingAt (w0 : World) (bb sb ib lb : Nat) (v : Value) (i : Nat) (l : Nat → Bool) (wr : World) : Prop where
  bel : Below w0.heap.size w0 wr
  base : w0.heap.size ≤ bb ∧ bb < wr.heap.size
  been : ∀ j, j < 8 → wr.cell? ⟨bb, j, none⟩ = some (.bool (l j)) ∧ wr.frozen? ⟨bb, j, none⟩ = false
  st : wr.cell? ⟨sb, 0, none⟩ = some v
  ii : wr.cell? ⟨ib, 0, none⟩ = some (.int .i64 (i : Int))
  lf : wr.cell? ⟨lb, 0, none⟩ = some (leadV bb sb ib lb)
  ne : bb ≠ sb ∧ bb ≠ ib ∧ bb ≠ lb
theorem RingAt.set {w0 : World} {bb sb ib lb : Nat} {v : Value} {i : Nat} {l : Nat → Bool} {wr : World} (h : RingAt w0 bb sb ib lb v i l wr) (x : Nat) : RingAt w0 bb sb ib lb v i (upd l x) (wr.setCell ⟨bb, x, none⟩ (.bool true)) := by
  obtain ⟨h1, h2, h3, h4, h5, h6, n1, n2, n3⟩ := h
  have hc := chg_set wr ⟨bb, x, none⟩ (.bool true)
  have hb : Below w0.heap.size wr (wr.setCell ⟨bb, x, none⟩ (.bool true)) := below_chg hc h1.size (fun k hk e => by simp only at e; omega)
  refine ⟨h1.trans hb, ⟨h2.1, Nat.lt_of_lt_of_le h2.2 hc.size⟩, fun j hj => ?_, ?_, ?_, ?_, n1, n2, n3⟩
  · refine ⟨?_, ?_⟩
    · by_cases e : j = x
      · subst e
        rw [upd_at]
        exact World.cell?_setCell_same _ _ _ (h3 j hj).1
      · unfold upd
        rw [if_neg e, World.cell?_setCell_other wr _ _ _ (fun e' => e (congrArg Addr.off e').symm)]
        exact (h3 j hj).1
    · rw [World.frozen?_setCell]; exact (h3 j hj).2
  · rw [World.cell?_setCell_other wr _ _ _ (fun e' => n1 (congrArg Addr.block e'))]; exact h4
  · rw [World.cell?_setCell_other wr _ _ _ (fun e' => n2 (congrArg Addr.block e'))]; exact h5
  · rw [World.cell?_setCell_other wr _ _ _ (fun e' => n3 (congrArg Addr.block e'))]; exact h6
def LeadOk (ss : List StepD) (i : Nat) (l : Nat → Bool) (x : Nat) (b : Bool) (l' : Nat → Bool) : Prop :=
  (∀ y, l y = true → l' y = true) ∧ l' x = true ∧ (b = true → Path (CheckMath.Edge ss) x i) ∧ (b = false → ∀ y, l' y = true → ¬ l y = true → ∀ z, CheckMath.Edge ss y z → l' z = true ∧ z ≠ i)
/-- What stands when some of a step's needs were gone along. -/
def LoopOk (ss : List StepD) (i : Nat) (l : Nat → Bool) (x : Nat) (l1 : Nat → Bool) (k : Nat) : Prop :=
  (∀ y, upd l x y = true → l1 y = true) ∧ (∀ y, l1 y = true → ¬ upd l x y = true → ∀ z, CheckMath.Edge ss y z → l1 z = true ∧ z ≠ i) ∧ ∀ j, j < k → l1 (needAt (nth ss x).needs j).toNat = true ∧ (needAt (nth ss x).needs j).toNat ≠ i
theorem LoopOk.start (ss : List StepD) (i : Nat) (l : Nat → Bool) (x : Nat) : LoopOk ss i l x (upd l x) 0 := ⟨fun y h => h, fun y h h2 => absurd h h2, fun j hj => absurd hj (Nat.not_lt_zero _)⟩
theorem LoopOk.more {ss : List StepD} {i : Nat} {l l1 l2 : Nat → Bool} {x k y : Nat} (h : LoopOk ss i l x l1 k) (hy : needAt (nth ss x).needs k = (y : Int)) (hl : LeadOk ss i l1 y false l2) (hi : y ≠ i) : LoopOk ss i l x l2 (k + 1) := by
  obtain ⟨h1, h2, h3⟩ := h
  obtain ⟨k1, k2, k3, k4⟩ := hl
  refine ⟨fun z hz => k1 z (h1 z hz), fun z hz hn t ht => ?_, fun j hj => ?_⟩
  · by_cases e : l1 z = true
    · exact ⟨k1 _ (h2 z e hn t ht).1, (h2 z e hn t ht).2⟩
    · exact k4 rfl z hz e t ht
  · by_cases e : j = k
    · subst e; rw [hy]; exact ⟨k2, hi⟩
    · exact ⟨k1 _ (h3 j (by omega)).1, (h3 j (by omega)).2⟩
theorem LoopOk.skip {ss : List StepD} {i : Nat} {l l1 : Nat → Bool} {x k y : Nat} (h : LoopOk ss i l x l1 k) (hy : needAt (nth ss x).needs k = (y : Int)) (hl : l1 y = true) (hi : y ≠ i) : LoopOk ss i l x l1 (k + 1) :=
  h.more hy ⟨fun z hz => hz, hl, fun e => (by cases e), fun _ z hz hn => absurd hz hn⟩ hi
theorem LoopOk.found {ss : List StepD} {i : Nat} {l l1 l2 : Nat → Bool} {x k y : Nat} (h : LoopOk ss i l x l1 k) (he : CheckMath.Edge ss x y) (hl : LeadOk ss i l1 y true l2) : LeadOk ss i l x true l2 :=
  ⟨fun z hz => hl.1 z (h.1 z (upd_le hz)), hl.1 x (h.1 x (upd_at l x)), fun _ => .cons he (hl.2.2.1 rfl), fun e => (by cases e)⟩
theorem LoopOk.here {ss : List StepD} {i : Nat} {l l1 : Nat → Bool} {x k : Nat} (h : LoopOk ss i l x l1 k) (he : CheckMath.Edge ss x i) : LeadOk ss i l x true l1 :=
  ⟨fun z hz => h.1 z (upd_le hz), h.1 x (upd_at l x), fun _ => .one he, fun e => (by cases e)⟩
theorem LoopOk.done {ss : List StepD} {i : Nat} {l l1 : Nat → Bool} {x : Nat} (h : LoopOk ss i l x l1 (nth ss x).needs.length) : LeadOk ss i l x false l1 := by
  obtain ⟨h1, h2, h3⟩ := h
  refine ⟨fun z hz => h1 z (upd_le hz), h1 x (upd_at l x), fun e => (by cases e), fun _ y hy hn z hz => ?_⟩
  by_cases e : upd l x y = true
  · rcases upd_cases e with rfl | e
    · obtain ⟨k, hk, e2⟩ := mem_needAt hz.2.2
      have := h3 k hk
      rw [e2] at this
      simpa using this
    · exact absurd e hn
  · exact h2 y hy e z hz
theorem LoopOk.less {ss : List StepD} {i : Nat} {l l1 : Nat → Bool} {x k m : Nat} (h : LoopOk ss i l x l1 k) (hx : x < 8) (hl : l x = false) (hm : cnt (fun j => l j = false) 8 ≤ m + 1) : cnt (fun j => l1 j = false) 8 ≤ m := by
  have : cnt (fun j => l1 j = false) 8 < cnt (fun j => l j = false) 8 := cnt_lt 8 (fun y _ hy => by
    cases e : l y with
    | false => rfl
    | true =>
      have := h.1 y (upd_le e)
      rw [hy] at this
      cases this) x hx hl (fun e => by have e' : l1 x = false := e; rw [h.1 x (upd_at l x)] at e'; cases e')
  omega

set_option maxHeartbeats 4000000 in
theorem leads_any (w0 : World) (bb sb ib lb : Nat) (v : Value) (ss : List StepD) (i : Nat) (h8 : ss.length ≤ 8) (hN : Needy ss) (hi : i < ss.length) (hD : DRow w0 v ss) : ∀ (m : Nat) (l : Nat → Bool) (x : Nat) (w : World), x < ss.length → l x = false → RingAt w0 bb sb ib lb v i l w → cnt (fun j => l j = false) 8 ≤ m →
    Calls Tryd.prog 58 #[.int .i64 (x : Int), .pointer (some ⟨bb, 0, none⟩), .pointer (some ⟨sb, 0, none⟩), .pointer (some ⟨ib, 0, none⟩), .pointer (some ⟨lb, 0, none⟩)] w fun e w' => ∃ b l', e = .returned (.bool b) ∧ RingAt w0 bb sb ib lb v i l' w' ∧ LeadOk ss i l x b l'
  | 0, l, x, w, hx, hlx, hR, hm => by
    exfalso
    have : 0 < cnt (fun j => l j = false) 8 := Nat.lt_of_le_of_lt (Nat.zero_le (cnt (fun _ => False) 8)) (cnt_lt 8 (fun _ _ h => h.elim) x (by omega) hlx (fun h => h))
    omega
  | m + 1, l, x, w, hx, hlx, hR, hm => by
    have IH : Hid (∀ (l : Nat → Bool) (x : Nat) (w : World), x < ss.length → l x = false → RingAt w0 bb sb ib lb v i l w → cnt (fun j => l j = false) 8 ≤ m →
      Calls Tryd.prog 58 #[.int .i64 (x : Int), .pointer (some ⟨bb, 0, none⟩), .pointer (some ⟨sb, 0, none⟩), .pointer (some ⟨ib, 0, none⟩), .pointer (some ⟨lb, 0, none⟩)] w fun e w' => ∃ b l', e = .returned (.bool b) ∧ RingAt w0 bb sb ib lb v i l' w' ∧ LeadOk ss i l x b l') := leads_any w0 bb sb ib lb v ss i h8 hN hi hD m
    have HLT : Hid (∀ l1 k, LoopOk ss i l x l1 k → cnt (fun j => l1 j = false) 8 ≤ m) := fun l1 k h => h.less (by omega) hlx hm
    have HR0 : Hid (RingAt w0 bb sb ib lb v i (upd l x) (w.setCell ⟨bb, x, none⟩ (.bool true))) := hR.set x
    obtain ⟨ao, cap, hv, hcap, _, hlen, hrow⟩ := hD
    obtain ⟨g, o, hao, hg, hst⟩ := hrow x hx
    have HE : Hid (∀ y : Nat, (y : Int) ∈ (nth ss x).needs → CheckMath.Edge ss x y) := fun y hy => ⟨hx, by have := hN x hx _ hy; omega, hy⟩
    have HNY : Hid (∀ k, k < (nth ss x).needs.length → ∃ y : Nat, needAt (nth ss x).needs k = (y : Int) ∧ y < ss.length ∧ CheckMath.Edge ss x y) := fun k hk => by
      obtain ⟨h0, h1, _⟩ := hN x hx _ (needAt_mem hk)
      refine ⟨(needAt (nth ss x).needs k).toNat, (Int.toNat_of_nonneg h0).symm, by omega, hx, by omega, ?_⟩
      rw [Int.toNat_of_nonneg h0]
      exact needAt_mem hk
    obtain ⟨_, _, _, kv, nv, _, n4, _, n6⟩ := hst
    obtain ⟨na, nc, rfl, hnc, _, hnl, hnr⟩ := n6
    have HNR : Hid (∀ j, j < (nth ss x).needs.length → ∃ g o, na = some ⟨g, o, none⟩ ∧ g < w0.heap.size ∧ w0.cell? ⟨g, o + j, none⟩ = some (.int .i64 (needAt (nth ss x).needs j))) := hnr
    obtain ⟨c0, f0⟩ := hR.been x (by omega)
    have HV : Hid (∀ l1 wq, RingAt w0 bb sb ib lb v i l1 wq → wq.cell? ⟨sb, 0, none⟩ = some (.slice (some ⟨g, o, none⟩) ss.length cap) ∧ wq.cell? ⟨ib, 0, none⟩ = some (.int .i64 (i : Int)) ∧ wq.cell? ⟨lb, 0, none⟩ = some (leadV bb sb ib lb) ∧ wq.cell? ⟨g, o + x * 5 + 4, none⟩ = some (.slice na (nth ss x).needs.length nc)) := fun l1 wq h =>
      ⟨by rw [h.st, hv, hao], h.ii, h.lf, (h.bel.cell (p := ⟨g, o + x * 5 + 4, none⟩) hg).trans n4⟩
    obtain ⟨s1, s2, s3, s4⟩ := HV.out _ _ HR0.out
    have hxl : (x : Int) < 8 := by omega
    clear hR hrow hnr hN n4 hm
    go_enter Tryd.func58, Tryd.ntmps58
    go_wp2
    clear s1 s2 s3 s4 c0 f0
    go_loopw [8, 17] (fun _ k wr => ∃ (n : Nat) (l1 : Nat → Bool), n ≤ (nth ss x).needs.length ∧ k = .int .i64 (n : Int) ∧ Hid (RingAt w0 bb sb ib lb v i l1 wr) ∧ Hid (LoopOk ss i l x l1 n)) (fun _ k _ => (nth ss x).needs.length - (intOf k).toNat)
    case atStart => exact ⟨0, upd l x, Nat.zero_le _, rfl, HR0, LoopOk.start ss i l x⟩
    case round =>
      obtain ⟨n, l1, hn, rfl, HR, HL⟩ := hrel
      obtain ⟨s1, s2, s3, s4⟩ := HV.out _ _ HR.out
      by_cases hlt : n < (nth ss x).needs.length
      · obtain ⟨y, hy, hyl, hed⟩ := HNY.out n hlt
        obtain ⟨g2, o2, rfl, hg2, d0⟩ := HNR.out n hlt
        rw [hy] at d0
        have d1 : wr.cell? ⟨g2, o2 + n, none⟩ = some (.int .i64 (y : Int)) := (HR.out.bel.cell (p := ⟨g2, o2 + n, none⟩) hg2).trans d0
        obtain ⟨b1, _⟩ := HR.out.been y (by omega)
        have HY : Hid (needAt (nth ss x).needs n = (y : Int)) := hy
        have HED : Hid (CheckMath.Edge ss x y) := hed
        have hy8 : (y : Int) < 8 := by omega
        clear d0 hy hed HNR HNY HV HR0
        by_cases hyi : y = i
        · have hyi' : ((y : Int) == (i : Int)) = true := by rw [hyi]; exact beq_self_eq_true _
          have HF : Hid (LeadOk ss i l x true l1) := HL.out.here (by rw [← hyi]; exact HED.out)
          clear hyi HED IH HLT
          go_wp2
          go_ret
          exact ⟨true, l1, rfl, HR.out, HF.out⟩
        · have hyi' : ((y : Int) == (i : Int)) = false := by simp; omega
          by_cases hb : l1 y = true
          · have HL2 : Hid (LoopOk ss i l x l1 (n + 1)) := HL.out.skip HY.out hb hyi
            rw [hb] at b1
            clear hyi HED IH HLT HL
            go_wp2
            exact ⟨⟨n + 1, l1, by omega, by go_num, HR, HL2⟩, by simp [intOf]; omega⟩
          · have hb' : l1 y = false := by simpa using hb
            have C : Hid (Calls Tryd.prog 58 #[.int .i64 (y : Int), .pointer (some ⟨bb, 0, none⟩), .pointer (some ⟨sb, 0, none⟩), .pointer (some ⟨ib, 0, none⟩), .pointer (some ⟨lb, 0, none⟩)] wr fun e w' => ∃ b l', e = .returned (.bool b) ∧ RingAt w0 bb sb ib lb v i l' w' ∧ LeadOk ss i l1 y b l') := IH.out l1 y wr hyl hb' HR.out (HLT.out l1 n HL.out)
            have HYI : Hid (¬ y = i) := hyi
            rw [hb'] at b1
            unfold leadV at s3
            clear hyi IH HLT hb hb'
            go_wp2_with fail
            refine C.out.mono ?_
            rintro e w1 ⟨b, l2, rfl, hr2, hl2⟩
            have HR2 : Hid (RingAt w0 bb sb ib lb v i l2 w1) := hr2
            cases b with
            | true =>
              have HF : Hid (LeadOk ss i l x true l2) := HL.out.found HED.out hl2
              clear C hr2 hl2 s1 s2 s3 s4 b1 d1
              go_wp2
              go_ret
              exact ⟨true, l2, rfl, HR2.out, HF.out⟩
            | false =>
              have HL2 : Hid (LoopOk ss i l x l2 (n + 1)) := HL.out.more HY.out hl2 HYI.out
              clear C hr2 hl2 s1 s2 s3 s4 b1 d1
              go_wp2
              exact ⟨⟨n + 1, l2, by omega, by go_num, HR2, HL2⟩, by simp [intOf]; omega⟩
      · obtain rfl : n = (nth ss x).needs.length := by omega
        have HF : Hid (LeadOk ss i l x false l1) := HL.out.done
        clear HL IH HLT HNR HNY HV
        go_wp2
        go_ret
        exact ⟨false, l1, rfl, HR.out, HF.out⟩

theorem ring_start (w : World) (v : Value) (i : Nat) : RingAt w (w.heap.size + 1 + 1) w.heap.size (w.heap.size + 1) (w.heap.size + 1 + 1 + 1) v i (fun _ => false)
    ((((w.alloc (.cells #[v] 22)).alloc (.cells #[.int .i64 (i : Int)] 3)).alloc (.cells #[.bool false, .bool false, .bool false, .bool false, .bool false, .bool false, .bool false, .bool false] 72)).alloc
      (.cells #[.func (.func 58) #[] #[.pointer (some ⟨w.heap.size + 1 + 1, 0, none⟩), .pointer (some ⟨w.heap.size, 0, none⟩), .pointer (some ⟨w.heap.size + 1, 0, none⟩), .pointer (some ⟨w.heap.size + 1 + 1 + 1, 0, none⟩)]] 58)) := by
  have s1 : (w.alloc (.cells #[v] 22)).heap.size = w.heap.size + 1 := by simp
  generalize hw1 : w.alloc (.cells #[v] 22) = w1 at *
  have s2 : (w1.alloc (.cells #[.int .i64 (i : Int)] 3)).heap.size = w.heap.size + 1 + 1 := by simp [s1]
  generalize hw2 : w1.alloc (.cells #[.int .i64 (i : Int)] 3) = w2 at *
  have s3 : (w2.alloc (.cells #[.bool false, .bool false, .bool false, .bool false, .bool false, .bool false, .bool false, .bool false] 72)).heap.size = w.heap.size + 1 + 1 + 1 := by simp [s2]
  generalize hw3 : w2.alloc (.cells #[.bool false, .bool false, .bool false, .bool false, .bool false, .bool false, .bool false, .bool false] 72) = w3 at *
  have b1 : Below w.heap.size w w1 := by rw [← hw1]; exact (Below.refl _ w).alloc (Nat.le_refl _) _
  have b2 : Below w.heap.size w w2 := by rw [← hw2]; exact b1.alloc (by omega) _
  have b3 : Below w.heap.size w w3 := by rw [← hw3]; exact b2.alloc (by omega) _
  refine ⟨b3.alloc (by omega) _, ⟨by omega, by simp [s3]⟩, fun j hj => ?_, ?_, ?_, ?_, by omega, by omega, by omega⟩
  · rw [World.cell?_alloc_past _ _ _ (by omega), World.frozen?_alloc_past _ _ _ (by omega), ← hw3, World.cell?_alloc_at _ _ _ _ (by omega), World.frozen?_alloc_at _ _ _ _ (by omega)]
    have : j = 0 ∨ j = 1 ∨ j = 2 ∨ j = 3 ∨ j = 4 ∨ j = 5 ∨ j = 6 ∨ j = 7 := by omega
    rcases this with rfl | rfl | rfl | rfl | rfl | rfl | rfl | rfl <;> exact ⟨rfl, rfl⟩
  · rw [World.cell?_alloc_past _ _ _ (by omega), ← hw3, World.cell?_alloc_past _ _ _ (by omega), ← hw2, World.cell?_alloc_past _ _ _ (by omega), ← hw1, World.cell?_alloc_at _ _ _ _ (by omega)]; rfl
  · rw [World.cell?_alloc_past _ _ _ (by omega), ← hw3, World.cell?_alloc_past _ _ _ (by omega), ← hw2, World.cell?_alloc_at _ _ _ _ (by omega)]; rfl
  · rw [World.cell?_alloc_at _ _ _ _ (by omega)]; rfl

set_option maxHeartbeats 2000000 in
theorem inRing_any (v : Value) (ss : List StepD) (h8 : ss.length ≤ 8) (hN : Needy ss) (i : Nat) (hi : i < ss.length) (w : World) (h : DRow w v ss) :
    Calls Tryd.prog 51 #[v, .int .i64 (i : Int)] w fun e w' => e = .returned (.bool (tt (Ring ss i))) ∧ Below w.heap.size w w' := by
  have HC : Hid (∀ wq, RingAt w (w.heap.size + 1 + 1) w.heap.size (w.heap.size + 1) (w.heap.size + 1 + 1 + 1) v i (fun _ => false) wq → Calls Tryd.prog 58 #[.int .i64 (i : Int), .pointer (some ⟨w.heap.size + 1 + 1, 0, none⟩), .pointer (some ⟨w.heap.size, 0, none⟩), .pointer (some ⟨w.heap.size + 1, 0, none⟩), .pointer (some ⟨w.heap.size + 1 + 1 + 1, 0, none⟩)] wq fun e w' => e = .returned (.bool (tt (Ring ss i))) ∧ Below w.heap.size w w') := fun wq hq => by
    refine (leads_any w _ _ _ _ v ss i h8 hN hi h 8 (fun _ => false) i wq hi rfl hq (cnt_le _ _)).mono ?_
    rintro e w' ⟨b, l', rfl, hr, h1, h2, h3, h4⟩
    refine ⟨?_, hr.bel⟩
    cases b with
    | true => rw [show tt (Ring ss i) = true from tt_yes (h3 rfl)]
    | false => rw [show tt (Ring ss i) = false from tt_no (no_ring (V := fun y => l' y = true) h2 (fun x hx y hy => h4 rfl x hx (by simp) y hy))]
  obtain ⟨ao, cap, rfl, _⟩ := h.slice
  have hmf : ∀ (fn : Fn) (first cap : Array Value) (w : World), (Instr.makeFunc fn first cap).run Tryd.prog w = .ok (.func fn first cap) w := fun _ _ _ _ => rfl
  clear h
  go_enter Tryd.func51, Tryd.ntmps51
  go_wp2_with fail
  refine (HC.out _ (ring_start w _ i)).mono ?_
  rintro e w1 ⟨rfl, hb1⟩
  go_wp2
  go_ret
  exact ⟨rfl, hb1⟩
end Go.Proofs.YtaeakednekbekaaDoor
