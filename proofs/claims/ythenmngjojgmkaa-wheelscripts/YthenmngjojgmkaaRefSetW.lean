/- The walks of the document's Set and Due. -/
import Derived.Test.YthenmngjojgmkaaRefW
import Derived.Deep.DeepCutAuto
set_option linter.unusedVariables false
set_option maxRecDepth 100000
namespace Go.Proofs.Ythenmngjojgmkaa
open Go.RowKit
open WheelMath

theorem refSet_bad (p : Value) (id tm : Int) (h : id < 0 ∨ tm < 0 ∨ 1073741824 < tm) (w : World) : Calls Try.prog 10 #[p, .int .i64 id, .int .i64 tm] w fun e w' => e = .returned (.int .i64 1) ∧ w' = w := by
  by_cases h1 : id < 0
  · have d1 : decide (id < 0) = true := by simpa using h1
    clear h
    go_enter Try.func10, Try.ntmps10
    go_wp2
    go_ret
    exact ⟨rfl, rfl⟩
  · have d1 : decide (id < 0) = false := by simpa using h1
    by_cases h2 : tm < 0
    · have d2 : decide (tm < 0) = true := by simpa using h2
      clear h
      go_enter Try.func10, Try.ntmps10
      go_wp2
      go_ret
      exact ⟨rfl, rfl⟩
    · have d2 : decide (tm < 0) = false := by simpa using h2
      have h3 : 1073741824 < tm := by omega
      have d3 : decide (1073741824 < tm) = true := by simpa using h3
      clear h
      go_enter Try.func10, Try.ntmps10
      go_wp2
      go_ret
      exact ⟨rfl, rfl⟩
theorem refSet_full (w : World) (b : Nat) (v : Value) (r : List T) (hl : r.length = 200) (h : RW w b v r) (id tm : Int) (hk : place r id = none) (h1 : 0 ≤ id) (h2 : 0 ≤ tm) (h3 : tm ≤ 1073741824) :
    Calls Try.prog 10 #[.pointer (some ⟨b, 0, none⟩), .int .i64 id, .int .i64 tm] w fun e w' => e = .returned (.int .i64 2) ∧ w' = w := by
  have C : Hid (Calls Try.prog 25 #[.pointer (some ⟨b, 0, none⟩), .int .i64 id] w fun e w' => e = .returned (.int .i64 (-1)) ∧ w' = w) := by
    have := refFind_any w b v r (by omega) h id
    rw [placeI_none hk] at this
    exact this
  have d1 : decide (id < 0) = false := by simp; omega
  have d2 : decide (tm < 0) = false := by simp; omega
  have d3 : decide (1073741824 < tm) = false := by simp; omega
  obtain ⟨ao, cap, hv, _⟩ := own_form h.row
  have cb := h.cell
  rw [hv, hl] at cb
  clear h hk hv hl
  go_enter Try.func10, Try.ntmps10
  go_wp2_with fail
  refine C.out.mono ?_
  rintro e w1 ⟨rfl, hw⟩
  rw [hw]; clear hw w1
  go_wp2
  go_ret
  exact ⟨rfl, rfl⟩
/-- Where a timer is put in. -/
theorem ins_at (t : T) : ∀ (r : List T) (k : Nat), k ≤ r.length → (∀ j, (h : j < r.length) → j < k → before r[j] t) → ((h : k < r.length) → ¬ before r[k] t) → ins t r = r.take k ++ t :: r.drop k
  | [], k, hk, _, _ => by
    obtain rfl : k = 0 := by simpa using hk
    rfl
  | a :: r, 0, _, _, hn => by
    unfold ins
    rw [if_neg (show ¬ before a t from hn (by simp))]
    rfl
  | a :: r, k + 1, hk, hb, hn => by
    unfold ins
    rw [if_pos (show before a t from hb 0 (by simp) (by omega)), ins_at t r k (by simpa using hk) (fun j h hj => hb (j + 1) (by simpa using h) (by omega)) (fun h => hn (by simpa using h))]
    rfl
/-- Behind Stop: the wheel without the id; nothing but its own cell has changed. -/
def StopOk (w : World) (b : Nat) (r1 : List T) (w1 : World) : Prop := ∃ v1, RW w1 b v1 r1 ∧ Chg (fun k => k = b) w w1
theorem refStop_ok (w : World) (b : Nat) (v : Value) (r : List T) (hg : WheelMath.Good r) (h : RW w b v r) (id : Int) :
    Calls Try.prog 13 #[.pointer (some ⟨b, 0, none⟩), .int .i64 id] w fun e w' => ∃ q, e = .returned (.bool q) ∧ StopOk w b (rem r id) w' := by
  cases hk : place r id with
  | some k =>
    refine (refStop_hit w b v r hg.len hg.ids h id k hk).mono ?_
    rintro e w' ⟨h1, v', h2, h3, _⟩
    exact ⟨true, h1, v', h2, h3⟩
  | none =>
    refine (refStop_none w b v r hg.len h id hk).mono ?_
    rintro e w' ⟨h1, h2⟩
    rw [rem_none (place_none hk), h2]
    exact ⟨false, h1, v, h, Chg.refl _ _⟩
theorem rok_from {w w1 w2 : World} {b : Nat} {r' : List T} (h : Chg (fun k => k = b) w w1) (h2 : ROk w1 b r' w2) : ROk w b r' w2 := by
  obtain ⟨v', k1, k2, k3⟩ := h2
  have := h.size
  exact ⟨v', k1, h.trans k2 (fun _ _ e => e), fun g hg => by have := k3 g hg; omega⟩

set_option maxHeartbeats 4000000 in
theorem refSet_go (w : World) (b : Nat) (v : Value) (r : List T) (hg : WheelMath.Good r) (h : RW w b v r) (id tm : Int) (h1 : 0 ≤ id) (h2 : 0 ≤ tm) (h3 : tm ≤ 1073741824) (hf : has r id ∨ r.length < 200) :
    Calls Try.prog 10 #[.pointer (some ⟨b, 0, none⟩), .int .i64 id, .int .i64 tm] w fun e w' => e = .returned (.int .i64 0) ∧ ROk w b (ins (id, tm) (rem r id)) w' := by
  obtain ⟨i0, z0, z1, z2, z3⟩ := info_parts infoR
  have CS : Hid (Calls Try.prog 13 #[.pointer (some ⟨b, 0, none⟩), .int .i64 id] w fun e w' => ∃ q, e = .returned (.bool q) ∧ StopOk w b (rem r id) w') := refStop_ok w b v r hg h id
  have hl1 : (rem r id).length ≤ 200 := (good_rem hg id).len
  have hl := hg.len
  generalize hr1 : rem r id = r1 at *
  have CF : Hid (200 ≤ r.length → ∃ k : Nat, Calls Try.prog 25 #[.pointer (some ⟨b, 0, none⟩), .int .i64 id] w fun e w' => e = .returned (.int .i64 (k : Int)) ∧ w' = w) := fun hfull => by
    have hh : has r id := hf.resolve_right (by omega)
    cases hk : place r id with
    | none => exact absurd hh (place_none hk)
    | some k =>
      refine ⟨k, ?_⟩
      have := refFind_any w b v r hl h id
      rw [placeI_some hk] at this
      exact this
  have d1 : decide (id < 0) = false := by simp; omega
  have d2 : decide (tm < 0) = false := by simp; omega
  have d3 : decide (1073741824 < tm) = false := by simp; omega
  obtain ⟨ao0, cap0, hv0, _⟩ := own_form h.row
  have cb := h.cell
  rw [hv0] at cb
  obtain ⟨rl, hrl⟩ : ∃ n, n = r.length := ⟨_, rfl⟩
  rw [← hrl] at cb CF hl
  clear h hv0 hg hf hr1 hrl
  go_enter Try.func10, Try.ntmps10
  go_upto_region 3 with fail
  go_cut [31] (fun s31 wx => s31 = .bool false ∧ wx = w)
  case first =>
    by_cases hfull : 200 ≤ rl
    · obtain ⟨k, C⟩ := CF.out hfull
      have f1 : decide ((200 : Int) ≤ (rl : Int)) = true := by simp; omega
      have f2 : decide ((k : Int) < 0) = false := by simp
      have HC : Hid (Calls Try.prog 25 #[.pointer (some ⟨b, 0, none⟩), .int .i64 id] w fun e w' => e = .returned (.int .i64 (k : Int)) ∧ w' = w) := C
      clear CF CS C
      go_wp2_with fail
      refine HC.out.mono ?_
      rintro e w1 ⟨rfl, hw⟩
      rw [hw]; clear hw w1
      go_wp2_with fail
      go_meet
      exact ⟨rfl, rfl⟩
    · have f1 : decide ((200 : Int) ≤ (rl : Int)) = false := by simp; omega
      clear CF CS
      go_wp2_with fail
      go_meet
      exact ⟨rfl, rfl⟩
  case rest =>
    obtain ⟨rfl, hwc⟩ := hcut
    rw [hwc]
    clear hwc wc CF cb
    go_wp2_with fail
    refine CS.out.mono ?_
    rintro e w1 ⟨q, rfl, v1, hR1, hch1⟩
    have HCH : Hid (Chg (fun k => k = b) w w1) := hch1
    have HR1 : Hid (RW w1 b v1 r1) := hR1
    obtain ⟨ao, cap, rfl, hcap, hcn, hrow⟩ := row_cells hR1.row
    obtain ⟨W, hW⟩ : ∃ W, W = w1.alloc (.cells #[.int .i64 id, .int .i64 tm] 51) := ⟨_, rfl⟩
    have HW : Hid (W = w1.alloc (.cells #[.int .i64 id, .int .i64 tm] 51)) := hW
    obtain ⟨X, hX⟩ : ∃ X, X = w1.heap.size := ⟨_, rfl⟩
    have HX : Hid (X = w1.heap.size) := hX
    have hbW : Below w1.heap.size w1 W := by rw [hW]; exact (Below.refl _ _).alloc (Nat.le_refl _) _
    have HBW : Hid (Below w1.heap.size w1 W) := hbW
    have hRW := rw_below hR1 hbW
    have HRW : Hid (RW W b (.slice ao r1.length cap) r1) := hRW
    have x0 : W.cell? ⟨X, 0, none⟩ = some (.int .i64 id) := by rw [hW, hX]; simp
    have x1 : W.cell? ⟨X, 1, none⟩ = some (.int .i64 tm) := by rw [hW, hX]; simp
    have hXl : X < W.heap.size := by rw [hW, hX]; simp
    -- what stands in every world behind W
    have HC : Hid (∀ (w' : World), Below W.heap.size W w' → w'.cell? ⟨b, 0, none⟩ = some (.slice ao r1.length cap) ∧ w'.frozen? ⟨b, 0, none⟩ = false ∧ w'.cell? ⟨X, 0, none⟩ = some (.int .i64 id) ∧ w'.cell? ⟨X, 1, none⟩ = some (.int .i64 tm) ∧ RW w' b (.slice ao r1.length cap) r1) := fun w' hb' => by
      have h := rw_below hRW hb'
      exact ⟨h.cell, h.free, (hb'.cell (p := ⟨X, 0, none⟩) hXl).trans x0, (hb'.cell (p := ⟨X, 1, none⟩) hXl).trans x1, h⟩
    have HBF : Hid (∀ (a : T) (wa : World), Calls Try.prog 26 #[.agg #[.int .i64 a.1, .int .i64 a.2], .agg #[.int .i64 id, .int .i64 tm]] wa fun e w' => e = .returned (.bool (decide (before a (id, tm)))) ∧ Below wa.heap.size wa w') := fun a wa => by
      by_cases hb : before a (id, tm)
      · rw [decide_eq_true hb]; exact refBefore_yes a (id, tm) wa hb
      · rw [decide_eq_false hb]; exact refBefore_no a (id, tm) wa hb
    clear hch1 hR1 hrow hW hbW hRW x0 x1 CS HR1
    go_wp2_with fail
    rw [← HW.out, ← HX.out]
    clear HW HX hX
    go_loopw [8] (fun i wr => ∃ k : Nat, k ≤ r1.length ∧ i = .int .i64 (k : Int) ∧ Hid (Below W.heap.size W wr) ∧ Hid (∀ j, (h : j < r1.length) → j < k → before r1[j] (id, tm))) (fun i _ => r1.length - (intOf i).toNat)
    case atStart => exact ⟨0, Nat.zero_le _, rfl, Below.refl _ _, fun j _ hj => absurd hj (Nat.not_lt_zero _)⟩
    case round =>
      obtain ⟨k, hk, rfl, HB, HJ⟩ := hrel
      obtain ⟨cb, cf, y0, y1, hRr⟩ := HC.out wr HB.out
      have HRr : Hid (RW wr b (.slice ao r1.length cap) r1) := hRr
      by_cases hgo : ∃ h : k < r1.length, before r1[k] (id, tm)
      · obtain ⟨hlt, hbf⟩ := hgo
        obtain ⟨_, _, he, _, _, hrow⟩ := row_cells hRr.row
        cases he
        obtain ⟨g, rfl, hgl, c1, c2, _⟩ := hrow k hlt
        have hgW : Hid (∀ (w' : World), Below W.heap.size W w' → w'.cell? ⟨b, 0, none⟩ = some (.slice (some ⟨g, 0, none⟩) r1.length cap) ∧ w'.cell? ⟨g, k * 2, none⟩ = some (.int .i64 r1[k].1) ∧ w'.cell? ⟨g, k * 2 + 1, none⟩ = some (.int .i64 r1[k].2) ∧ w'.cell? ⟨X, 0, none⟩ = some (.int .i64 id) ∧ w'.cell? ⟨X, 1, none⟩ = some (.int .i64 tm)) := fun w' hb' => by
          obtain ⟨q1, q2, q3, q4, q5⟩ := HC.out w' hb'
          obtain ⟨_, _, he, _, _, hrow'⟩ := row_cells q5.row
          cases he
          obtain ⟨g', hg', _, s1, s2, _⟩ := hrow' k hlt
          cases hg'
          exact ⟨q1, s1, s2, q3, q4⟩
        have CB : Hid (∀ wa, Hid (Below W.heap.size W wa) → Calls Try.prog 26 #[.agg #[.int .i64 r1[k].1, .int .i64 r1[k].2], .agg #[.int .i64 id, .int .i64 tm]] wa fun e w' => e = .returned (.bool true) ∧ (w'.cell? ⟨b, 0, none⟩ = some (.slice (some ⟨g, 0, none⟩) r1.length cap) ∧ w'.cell? ⟨g, k * 2, none⟩ = some (.int .i64 r1[k].1) ∧ w'.cell? ⟨g, k * 2 + 1, none⟩ = some (.int .i64 r1[k].2) ∧ w'.cell? ⟨X, 0, none⟩ = some (.int .i64 id) ∧ w'.cell? ⟨X, 1, none⟩ = some (.int .i64 tm)) ∧ Hid (Below W.heap.size W w')) := fun wa ha => by
          have := HBF.out r1[k] wa
          rw [decide_eq_true hbf] at this
          exact this.mono fun e w' ⟨k1, k2⟩ => by
            have hb' := ha.out.trans (k2.mono ha.out.size)
            exact ⟨k1, hgW.out w' hb', hb'⟩
        have HJ' : Hid (∀ j, (h : j < r1.length) → j < k + 1 → before r1[j] (id, tm)) := fun j h hj => by
          by_cases e : j = k
          · subst e; exact hbf
          · exact HJ.out j h (by omega)
        have HBd : Hid (Below W.heap.size W wr.drew) := HB.out.drew
        have i1 : (k : Int) < (r1.length : Int) := by omega
        have i2 : k < 200 := by omega
        clear hrow hRr HRr hbf HJ cf HB hgW
        generalize r1[k].1 = a1 at *
        generalize r1[k].2 = a2 at *
        go_wp2_with fail
        go_region_held3 (fun w' => w'.cell? ⟨b, 0, none⟩ = some (.slice (some ⟨g, 0, none⟩) r1.length cap) ∧ w'.cell? ⟨g, k * 2, none⟩ = some (.int .i64 a1) ∧ w'.cell? ⟨g, k * 2 + 1, none⟩ = some (.int .i64 a2) ∧ w'.cell? ⟨X, 0, none⟩ = some (.int .i64 id) ∧ w'.cell? ⟨X, 1, none⟩ = some (.int .i64 tm)) (go_keep) (first | (go_at_call 26; refine (CB.out _ HBd).mono ?_; rintro e w2 ⟨rfl, ⟨n1, n2, n3, n4, n5⟩, HB2⟩))
        go_wp2
        exact ⟨⟨k + 1, by omega, by go_num, HB2, HJ'⟩, by simp [intOf]; omega⟩
      · have HINS : Hid (ins (id, tm) r1 = r1.take k ++ (id, tm) :: r1.drop k) := ins_at _ _ _ hk HJ.out (fun h hb => hgo ⟨h, hb⟩)
        by_cases hlt : k < r1.length
        · have hbf : ¬ before r1[k] (id, tm) := fun hb => hgo ⟨hlt, hb⟩
          obtain ⟨_, _, he, _, _, hrow⟩ := row_cells hRr.row
          cases he
          obtain ⟨g, rfl, hgl, c1, c2, _⟩ := hrow k hlt
          have hgW : Hid (∀ (w' : World), Below W.heap.size W w' → w'.cell? ⟨b, 0, none⟩ = some (.slice (some ⟨g, 0, none⟩) r1.length cap) ∧ w'.cell? ⟨g, k * 2, none⟩ = some (.int .i64 r1[k].1) ∧ w'.cell? ⟨g, k * 2 + 1, none⟩ = some (.int .i64 r1[k].2) ∧ w'.cell? ⟨X, 0, none⟩ = some (.int .i64 id) ∧ w'.cell? ⟨X, 1, none⟩ = some (.int .i64 tm)) := fun w' hb' => by
            obtain ⟨q1, q2, q3, q4, q5⟩ := HC.out w' hb'
            obtain ⟨_, _, he, _, _, hrow'⟩ := row_cells q5.row
            cases he
            obtain ⟨g', hg', _, s1, s2, _⟩ := hrow' k hlt
            cases hg'
            exact ⟨q1, s1, s2, q3, q4⟩
          have CB : Hid (∀ wa, Hid (Below W.heap.size W wa) → Calls Try.prog 26 #[.agg #[.int .i64 r1[k].1, .int .i64 r1[k].2], .agg #[.int .i64 id, .int .i64 tm]] wa fun e w' => e = .returned (.bool false) ∧ (w'.cell? ⟨b, 0, none⟩ = some (.slice (some ⟨g, 0, none⟩) r1.length cap) ∧ w'.cell? ⟨g, k * 2, none⟩ = some (.int .i64 r1[k].1) ∧ w'.cell? ⟨g, k * 2 + 1, none⟩ = some (.int .i64 r1[k].2) ∧ w'.cell? ⟨X, 0, none⟩ = some (.int .i64 id) ∧ w'.cell? ⟨X, 1, none⟩ = some (.int .i64 tm)) ∧ Hid (Below W.heap.size W w')) := fun wa ha => by
            have := HBF.out r1[k] wa
            rw [decide_eq_false hbf] at this
            exact this.mono fun e w' ⟨k1, k2⟩ => by
              have hb' := ha.out.trans (k2.mono ha.out.size)
              exact ⟨k1, hgW.out w' hb', hb'⟩
          have HBd : Hid (Below W.heap.size W wr.drew) := HB.out.drew
          have i1 : (k : Int) < (r1.length : Int) := by omega
          have i2 : k < 200 := by omega
          clear hrow hRr HRr hbf HJ cf HB hgW hgo c1 c2 cb y0 y1
          have cbk := (HC.out wr.drew HBd.out)
          obtain ⟨cb, _, y0, y1, hRd⟩ := cbk
          obtain ⟨_, _, he, _, _, hrow⟩ := row_cells hRd.row
          cases he
          obtain ⟨g', hg', _, c1, c2, _⟩ := hrow k hlt
          cases hg'
          clear hrow hRd
          have cb : wr.cell? ⟨b, 0, none⟩ = some (.slice (some ⟨g, 0, none⟩) r1.length cap) := cb
          have y0 : wr.cell? ⟨X, 0, none⟩ = some (.int .i64 id) := y0
          have y1 : wr.cell? ⟨X, 1, none⟩ = some (.int .i64 tm) := y1
          have c1 : wr.cell? ⟨g, k * 2, none⟩ = some (.int .i64 r1[k].1) := c1
          have c2 : wr.cell? ⟨g, k * 2 + 1, none⟩ = some (.int .i64 r1[k].2) := c2
          generalize r1[k].1 = a1 at *
          generalize r1[k].2 = a2 at *
          go_wp2_with fail
          go_region_held3 (fun w' => w'.cell? ⟨b, 0, none⟩ = some (.slice (some ⟨g, 0, none⟩) r1.length cap) ∧ w'.cell? ⟨g, k * 2, none⟩ = some (.int .i64 a1) ∧ w'.cell? ⟨g, k * 2 + 1, none⟩ = some (.int .i64 a2) ∧ w'.cell? ⟨X, 0, none⟩ = some (.int .i64 id) ∧ w'.cell? ⟨X, 1, none⟩ = some (.int .i64 tm)) (go_keep) (first | (go_at_call 26; refine (CB.out _ HBd).mono ?_; rintro e w2 ⟨rfl, ⟨n1, n2, n3, n4, n5⟩, HB2⟩))
          clear n1 n2 n3 n4 n5 CB HBd cb y0 y1 c1 c2
          obtain ⟨cb, cf, y0, y1, hR2⟩ := HC.out w2 HB2.out
          have HR2 : Hid (RW w2 b (.slice (some ⟨g, 0, none⟩) r1.length cap) r1) := hR2
          have hgl2 : g < w2.heap.size := (hR2.row.lt g rfl).2
          have hbl2 := hR2.lt
          have hXl2 := block_lt_of_cell y0
          simp only at hXl2
          obtain ⟨ad, hA, hsrc⟩ := rest_cells hR2.row k hk
          rw [if_neg (by omega)] at hA
          cases hA
          have hkc3 : ¬ cap = k := by omega
          have HSRC : Hid (∀ (w' : World), (∀ j, w'.cell? ⟨g, j, none⟩ = w2.cell? ⟨g, j, none⟩) → ∀ j u, (tcells (r1.drop k))[j]? = some u → w'.cell? ((⟨g, k * 2, none⟩ : Addr).add j) = some u) := hsrc
          have HT : Hid (∀ j u, (tcells (r1.take k))[j]? = some u → w2.cell? ((⟨g, 0, none⟩ : Addr).add j) = some u) := fun j u hu => (own_cut hR2.row (m := k) hk).cells (g := g) rfl j u (by rw [tcells_take]; exact hu)
          have L1 : Hid ((tcells (r1.take k)).length = k * 2) := by show _ = _; rw [tcells_len, List.length_take]; omega
          have L2 : Hid ((tcells (r1.drop k)).length = (r1.length - k) * 2) := by show _ = _; rw [tcells_len, List.length_drop]
          have HC2 : Hid (∀ (w' : World), Below w2.heap.size w2 w' → w'.cell? ⟨b, 0, none⟩ = some (.slice (some ⟨g, 0, none⟩) r1.length cap) ∧ w'.frozen? ⟨b, 0, none⟩ = false ∧ w'.cell? ⟨X, 0, none⟩ = some (.int .i64 id) ∧ w'.cell? ⟨X, 1, none⟩ = some (.int .i64 tm) ∧ ∀ j, w'.cell? ⟨g, j, none⟩ = w2.cell? ⟨g, j, none⟩) := fun w' hb' =>
            ⟨(hb'.cell (p := ⟨b, 0, none⟩) hbl2).trans cb, (hb'.frozen (p := ⟨b, 0, none⟩) hbl2).trans cf, (hb'.cell (p := ⟨X, 0, none⟩) hXl2).trans y0, (hb'.cell (p := ⟨X, 1, none⟩) hXl2).trans y1, fun j => hb'.cell (p := ⟨g, j, none⟩) hgl2⟩
          have HFR : Hid (Chg (fun k => k = b) w w2) := (HCH.out.trans (chg_below (S := fun _ => False) HBW.out) (fun _ _ h => h.elim)).trans (chg_below (S := fun _ => False) HB2.out) (fun _ _ h => h.elim)
          have hkc : k ≤ cap := by omega
          have hkn2 : k ≤ r1.length := hk
          have i8 : (k : Int) ≤ (cap : Int) := by omega
          have i9 : (k : Int) ≤ (r1.length : Int) := by omega
          clear hR2 hsrc HC HBF HCH HBW HRW HB2
          go_wp2_with (at_builtin; refine wpList_append_any _ rfl _ _ 46 rfl w2.heap.size 51 i0 (.agg #[.int .i64 0, .int .i64 0]) 2 16 Try.underlying46 z0 z1 z2 z3 rfl (by decide) w2 (Below.refl _ _) (Nat.le_refl _) _ 0 [] rfl (World.ownsRow_nil _ _ _ _) (some ⟨g, 0, none⟩) k cap (tcells (r1.take k)) rfl L1.out (Or.inr ⟨_, rfl, HT.out⟩) (tcells_one _) (by unfold maxLen; omega) (by omega) ?_)
          intro ao3 cap3 w3 o3 b3 s3
          obtain ⟨cb3, cf3, y03, y13, _⟩ := HC2.out w3 b3
          have hXl3 : X < w3.heap.size := block_lt_of_cell y03
          clear cb cf y0 y1
          go_wp2_with (at_builtin; refine wpList_append_any _ rfl _ _ 46 rfl w2.heap.size 51 i0 (.agg #[.int .i64 0, .int .i64 0]) 2 16 Try.underlying46 z0 z1 z2 z3 rfl (by decide) w2 (b3.alloc s3 _) (by simp; omega) _ k (tcells (r1.take k)) rfl (o3.alloc _) (some ⟨w3.heap.size, 0, none⟩) 1 1 [.int .i64 id, .int .i64 tm] rfl rfl (Or.inr ⟨_, rfl, two_new _ _ _ _⟩) (two_int _ _) (by unfold maxLen; omega) (by omega) ?_)
          intro ao4 cap4 w4 o4 b4 s4
          obtain ⟨cb4, cf4, _, _, cg4⟩ := HC2.out w4 b4
          have HG4 : Hid (∀ j, w4.cell? ⟨g, j, none⟩ = w2.cell? ⟨g, j, none⟩) := cg4
          clear cb3 cf3 y03 y13 cg4 o3 b3 s3
          go_wp2_with (at_builtin; refine wpList_append_any _ rfl _ _ 46 rfl w2.heap.size 51 i0 (.agg #[.int .i64 0, .int .i64 0]) 2 16 Try.underlying46 z0 z1 z2 z3 rfl (by decide) w2 b4 s4 (.slice ao4 (k + 1) cap4) (k + 1) (tcells (r1.take k) ++ [.int .i64 id, .int .i64 tm]) (by first | rfl | simp [Act.eval]) o4 (some ⟨g, k * 2, none⟩) (r1.length - k) (cap - k) (tcells (r1.drop k)) (by first | rfl | simp [Act.eval]) L2.out (Or.inr ⟨_, rfl, HSRC.out _ HG4.out⟩) (tcells_one _) (by unfold maxLen; omega) (by omega) ?_)
          intro ao5 cap5 w5 o5 b5 s5
          obtain ⟨cb5, cf5, _⟩ := HC2.out w5 b5
          have HO : Hid (ROk w b (ins (id, tm) r1) (w5.setCell ⟨b, 0, none⟩ (.slice ao5 (k + 1 + (r1.length - k)) cap5))) := by
            refine rok_from HFR.out (rok_set HR2.out b5 ?_)
            rw [HINS.out]
            refine own_cast ?_ ?_ o5
            · simp; omega
            · rw [tcells_append]; rfl
          clear o4 o5 b4 b5 s4 s5 cb4 cf4 HC2 HR2 HT HSRC HG4 HFR
          go_wp2
          go_ret
          exact ⟨rfl, HO.out⟩
        · have hkn : k = r1.length := by omega
          have i1 : ¬ (k : Int) < (r1.length : Int) := by omega
          have i1' : decide ((k : Int) < (r1.length : Int)) = false := by simp; omega
          have i2 : k ≤ 200 := by omega
          clear hRr HRr HJ cf hgo
          cases ao with
          | none =>
            obtain rfl := hcn rfl
            have hz : r1 = [] := List.eq_nil_of_length_eq_zero (by omega)
            subst hz
            obtain rfl : k = 0 := by simpa using hkn
            simp only [List.length_nil] at cb
            clear hkn i1 i1' i2 hk hl1 hcap hcn
            go_wp2_with fail
            go_quiet (fail)
            rename_i nq
            have HB2 : Hid (Below W.heap.size W (wr.drewN nq)) := below_drewN HB.out nq
            obtain ⟨w2, hw2⟩ : ∃ w2, w2 = wr.drewN nq := ⟨_, rfl⟩
            rw [← hw2] at HB2 ⊢
            clear hw2 cb y0 y1 HB
            obtain ⟨cb, cf, y0, y1, hR2⟩ := HC.out w2 HB2.out
            simp only [List.length_nil] at cb
            have HR2 : Hid (RW w2 b (.slice none 0 0) []) := hR2
            have hbl2 := hR2.lt
            have hXl2 := block_lt_of_cell y0
            simp only at hXl2
            have HC2 : Hid (∀ (w' : World), Below w2.heap.size w2 w' → w'.cell? ⟨b, 0, none⟩ = some (.slice none 0 0) ∧ w'.frozen? ⟨b, 0, none⟩ = false ∧ w'.cell? ⟨X, 0, none⟩ = some (.int .i64 id) ∧ w'.cell? ⟨X, 1, none⟩ = some (.int .i64 tm)) := fun w' hb' =>
              ⟨(hb'.cell (p := ⟨b, 0, none⟩) hbl2).trans cb, (hb'.frozen (p := ⟨b, 0, none⟩) hbl2).trans cf, (hb'.cell (p := ⟨X, 0, none⟩) hXl2).trans y0, (hb'.cell (p := ⟨X, 1, none⟩) hXl2).trans y1⟩
            have HFR : Hid (Chg (fun k => k = b) w w2) := (HCH.out.trans (chg_below (S := fun _ => False) HBW.out) (fun _ _ h => h.elim)).trans (chg_below (S := fun _ => False) HB2.out) (fun _ _ h => h.elim)
            clear hR2 HC HBF HCH HBW HRW HB2
            go_wp2_with (at_builtin; refine wpList_append_any _ rfl _ _ 46 rfl w2.heap.size 51 i0 (.agg #[.int .i64 0, .int .i64 0]) 2 16 Try.underlying46 z0 z1 z2 z3 rfl (by decide) w2 (Below.refl _ _) (Nat.le_refl _) (.slice none 0 0) 0 [] (by first | rfl | simp [Act.eval]) (World.ownsRow_nil _ _ _ _) none 0 0 [] (by first | rfl | simp [Act.eval]) rfl (Or.inl ⟨rfl, rfl, rfl⟩) (fun u hu => by cases hu) (by unfold maxLen; omega) (by omega) ?_)
            intro ao3 cap3 w3 o3 b3 s3
            obtain ⟨cb3, cf3, y03, y13⟩ := HC2.out w3 b3
            have hXl3 : X < w3.heap.size := block_lt_of_cell y03
            clear cb cf y0 y1
            go_wp2_with (at_builtin; refine wpList_append_any _ rfl _ _ 46 rfl w2.heap.size 51 i0 (.agg #[.int .i64 0, .int .i64 0]) 2 16 Try.underlying46 z0 z1 z2 z3 rfl (by decide) w2 (b3.alloc s3 _) (by simp; omega) _ 0 [] rfl (o3.alloc _) (some ⟨w3.heap.size, 0, none⟩) 1 1 [.int .i64 id, .int .i64 tm] rfl rfl (Or.inr ⟨_, rfl, two_new _ _ _ _⟩) (two_int _ _) (by unfold maxLen; omega) (by omega) ?_)
            intro ao4 cap4 w4 o4 b4 s4
            obtain ⟨cb4, cf4, _, _⟩ := HC2.out w4 b4
            clear cb3 cf3 y03 y13 o3 b3 s3
            go_wp2_with (at_builtin; refine wpList_append_any _ rfl _ _ 46 rfl w2.heap.size 51 i0 (.agg #[.int .i64 0, .int .i64 0]) 2 16 Try.underlying46 z0 z1 z2 z3 rfl (by decide) w2 b4 s4 (.slice ao4 1 cap4) 1 [.int .i64 id, .int .i64 tm] (by first | rfl | simp [Act.eval]) o4 none 0 0 [] (by first | rfl | simp [Act.eval]) rfl (Or.inl ⟨rfl, rfl, rfl⟩) (fun u hu => by cases hu) (by unfold maxLen; omega) (by omega) ?_)
            intro ao5 cap5 w5 o5 b5 s5
            obtain ⟨cb5, cf5, _⟩ := HC2.out w5 b5
            have HO : Hid (ROk w b (ins (id, tm) []) (w5.setCell ⟨b, 0, none⟩ (.slice ao5 1 cap5))) := rok_from HFR.out (rok_set HR2.out b5 o5)
            clear o4 o5 b4 b5 s4 s5 cb4 cf4 HC2 HR2 HFR
            go_wp2
            go_ret
            exact ⟨rfl, HO.out⟩
          | some p =>
            obtain ⟨g, rfl⟩ : ∃ g, p = ⟨g, 0, none⟩ := by
              obtain ⟨_, _, he, _, _, h3⟩ := own_form HRW.out.row
              cases he
              obtain ⟨g, hg, _⟩ := h3 p rfl
              exact ⟨g, hg⟩
            clear hkn
            go_wp2_with fail
            go_quiet (fail)
            rename_i nq
            have HB2 : Hid (Below W.heap.size W (wr.drewN nq)) := below_drewN HB.out nq
            obtain ⟨w2, hw2⟩ : ∃ w2, w2 = wr.drewN nq := ⟨_, rfl⟩
            rw [← hw2] at HB2 ⊢
            clear hw2 cb y0 y1 HB
            obtain ⟨cb, cf, y0, y1, hR2⟩ := HC.out w2 HB2.out
            have HR2 : Hid (RW w2 b (.slice (some ⟨g, 0, none⟩) r1.length cap) r1) := hR2
            have hgl2 : g < w2.heap.size := (hR2.row.lt g rfl).2
            have hbl2 := hR2.lt
            have hXl2 := block_lt_of_cell y0
            simp only at hXl2
            obtain ⟨ad, hA, hsrc⟩ := rest_cells hR2.row k hk
            have HSRC : Hid (∀ (w' : World), (∀ j, w'.cell? ⟨g, j, none⟩ = w2.cell? ⟨g, j, none⟩) → ∀ j u, (tcells (r1.drop k))[j]? = some u → w'.cell? (ad.add j) = some u) := hsrc
            have HT : Hid (∀ j u, (tcells (r1.take k))[j]? = some u → w2.cell? ((⟨g, 0, none⟩ : Addr).add j) = some u) := fun j u hu => (own_cut hR2.row (m := k) hk).cells (g := g) rfl j u (by rw [tcells_take]; exact hu)
            have L1 : Hid ((tcells (r1.take k)).length = k * 2) := by show _ = _; rw [tcells_len, List.length_take]; omega
            have L2 : Hid ((tcells (r1.drop k)).length = (r1.length - k) * 2) := by show _ = _; rw [tcells_len, List.length_drop]
            have HC2 : Hid (∀ (w' : World), Below w2.heap.size w2 w' → w'.cell? ⟨b, 0, none⟩ = some (.slice (some ⟨g, 0, none⟩) r1.length cap) ∧ w'.frozen? ⟨b, 0, none⟩ = false ∧ w'.cell? ⟨X, 0, none⟩ = some (.int .i64 id) ∧ w'.cell? ⟨X, 1, none⟩ = some (.int .i64 tm) ∧ ∀ j, w'.cell? ⟨g, j, none⟩ = w2.cell? ⟨g, j, none⟩) := fun w' hb' =>
              ⟨(hb'.cell (p := ⟨b, 0, none⟩) hbl2).trans cb, (hb'.frozen (p := ⟨b, 0, none⟩) hbl2).trans cf, (hb'.cell (p := ⟨X, 0, none⟩) hXl2).trans y0, (hb'.cell (p := ⟨X, 1, none⟩) hXl2).trans y1, fun j => hb'.cell (p := ⟨g, j, none⟩) hgl2⟩
            have HFR : Hid (Chg (fun k => k = b) w w2) := (HCH.out.trans (chg_below (S := fun _ => False) HBW.out) (fun _ _ h => h.elim)).trans (chg_below (S := fun _ => False) HB2.out) (fun _ _ h => h.elim)
            have hkc : k ≤ cap := by omega
            have hkn2 : k ≤ r1.length := hk
            have i8 : (k : Int) ≤ (cap : Int) := by omega
            have i9 : (k : Int) ≤ (r1.length : Int) := by omega
            clear hR2 hsrc HC HBF HCH HBW HRW HB2
            go_wp2_with (at_builtin; refine wpList_append_any _ rfl _ _ 46 rfl w2.heap.size 51 i0 (.agg #[.int .i64 0, .int .i64 0]) 2 16 Try.underlying46 z0 z1 z2 z3 rfl (by decide) w2 (Below.refl _ _) (Nat.le_refl _) _ 0 [] rfl (World.ownsRow_nil _ _ _ _) (some ⟨g, 0, none⟩) k cap (tcells (r1.take k)) rfl L1.out (Or.inr ⟨_, rfl, HT.out⟩) (tcells_one _) (by unfold maxLen; omega) (by omega) ?_)
            intro ao3 cap3 w3 o3 b3 s3
            obtain ⟨cb3, cf3, y03, y13, _⟩ := HC2.out w3 b3
            have hXl3 : X < w3.heap.size := block_lt_of_cell y03
            clear cb cf y0 y1
            go_wp2_with (at_builtin; refine wpList_append_any _ rfl _ _ 46 rfl w2.heap.size 51 i0 (.agg #[.int .i64 0, .int .i64 0]) 2 16 Try.underlying46 z0 z1 z2 z3 rfl (by decide) w2 (b3.alloc s3 _) (by simp; omega) _ k (tcells (r1.take k)) rfl (o3.alloc _) (some ⟨w3.heap.size, 0, none⟩) 1 1 [.int .i64 id, .int .i64 tm] rfl rfl (Or.inr ⟨_, rfl, two_new _ _ _ _⟩) (two_int _ _) (by unfold maxLen; omega) (by omega) ?_)
            intro ao4 cap4 w4 o4 b4 s4
            obtain ⟨cb4, cf4, _, _, cg4⟩ := HC2.out w4 b4
            have HG4 : Hid (∀ j, w4.cell? ⟨g, j, none⟩ = w2.cell? ⟨g, j, none⟩) := cg4
            clear cb3 cf3 y03 y13 cg4 o3 b3 s3
            go_wp2_with (at_builtin; refine wpList_append_any _ rfl _ _ 46 rfl w2.heap.size 51 i0 (.agg #[.int .i64 0, .int .i64 0]) 2 16 Try.underlying46 z0 z1 z2 z3 rfl (by decide) w2 b4 s4 (.slice ao4 (k + 1) cap4) (k + 1) (tcells (r1.take k) ++ [.int .i64 id, .int .i64 tm]) (by first | rfl | simp [Act.eval]) o4 (some ad) (r1.length - k) (cap - k) (tcells (r1.drop k)) (by first | rfl | simp [Act.eval]) L2.out (Or.inr ⟨_, rfl, HSRC.out _ HG4.out⟩) (tcells_one _) (by unfold maxLen; omega) (by omega) ?_)
            intro ao5 cap5 w5 o5 b5 s5
            obtain ⟨cb5, cf5, _⟩ := HC2.out w5 b5
            have HO : Hid (ROk w b (ins (id, tm) r1) (w5.setCell ⟨b, 0, none⟩ (.slice ao5 (k + 1 + (r1.length - k)) cap5))) := by
              refine rok_from HFR.out (rok_set HR2.out b5 ?_)
              rw [HINS.out]
              refine own_cast ?_ ?_ o5
              · simp; omega
              · rw [tcells_append]; rfl
            clear o4 o5 b4 b5 s4 s5 cb4 cf4 HC2 HR2 HT HSRC HG4 HFR
            go_wp2
            go_ret
            exact ⟨rfl, HO.out⟩
end Go.Proofs.Ythenmngjojgmkaa
