/- The walk of the law WheelOnce. -/
import Derived.Test.YthenmngjojgmkaaOneW
import Derived.Deep.RegionHeld3
import Derived.Deep.DeepCutAuto
set_option linter.unusedVariables false
set_option maxRecDepth 100000
namespace Go.Proofs.Ythenmngjojgmkaa
open Go.RowKit
open WheelMath

/-- The law's state: the wheel, its table at block A, and whatever else is kept. -/
structure OSt (w : World) (b A : Nat) (N : Nat → Prop) (r : List T) (m : Nat → Int) (wr : World) : Prop where
  one : One w.heap.size w (fun k => k = A ∨ N k) b r wr
  arr : Arr wr A m
  ge : w.heap.size ≤ A
theorem OSt.set {w : World} {b A : Nat} {N : Nat → Prop} {r : List T} {m : Nat → Int} {wr : World} (h : OSt w b A N r m wr) (i : Nat) (hi : i < 20) (x : Int) : OSt w b A N r (updm m i x) (wr.setCell ⟨A, i, none⟩ (.int .i64 x)) :=
  ⟨h.one.chg (chg_set wr ⟨A, i, none⟩ _) (fun k e => Or.inl e) (fun k e => by have := h.ge; simp only at e; omega), h.arr.set i hi x, h.ge⟩
theorem OSt.below {w : World} {b A : Nat} {N : Nat → Prop} {r : List T} {m : Nat → Int} {wr w' : World} (h : OSt w b A N r m wr) (hb : Below wr.heap.size wr w') : OSt w b A N r m w' :=
  ⟨h.one.below hb, h.arr.chg (S := fun _ => False) (chg_below hb) id, h.ge⟩
theorem OSt.mono {w : World} {b A : Nat} {N M : Nat → Prop} {r : List T} {m : Nat → Int} {wr : World} (h : OSt w b A N r m wr) (hM : ∀ k, M k → N k) : OSt w b A M r m wr :=
  ⟨h.one.mono (fun k hk => hk.imp id (hM k)), h.arr, h.ge⟩

theorem Arr.congr {wr : World} {A : Nat} {m m' : Nat → Int} (h : Arr wr A m) (e : ∀ j, j < 20 → m j = m' j) : Arr wr A m' := ⟨fun j hj => by rw [← e j hj]; exact h.cell j hj, h.free⟩
/-- The table while it is laid out. -/
def laid (k : Nat) : Nat → Int := fun j => if j < k then -1 else 0
theorem laid_step (k : Nat) : updm (laid k) k (-1) = laid (k + 1) := by
  funext j
  unfold updm laid
  by_cases e : j = k
  · rw [if_pos e, if_pos (by omega)]
  · rw [if_neg e]
    by_cases h : j < k
    · rw [if_pos h, if_pos (by omega)]
    · rw [if_neg h, if_neg (by omega)]
theorem ost_begins {w w1 : World} {b : Nat} (h : WIn (fun k => k < w.heap.size) w b r0 w1) : OSt w b w1.heap.size (fun _ => False) r0 (laid 0) (w1.alloc (.cells #[.int .i64 0, .int .i64 0, .int .i64 0, .int .i64 0, .int .i64 0, .int .i64 0, .int .i64 0, .int .i64 0, .int .i64 0, .int .i64 0, .int .i64 0, .int .i64 0, .int .i64 0, .int .i64 0, .int .i64 0, .int .i64 0, .int .i64 0, .int .i64 0, .int .i64 0, .int .i64 0] 42)) := by
  have hb := below_of_win h (Nat.le_refl _)
  have hs := hb.size
  obtain ⟨v, l, h1, h2, h3, h4⟩ := h
  have hb2 : Below w1.heap.size w1 (w1.alloc (.cells #[.int .i64 0, .int .i64 0, .int .i64 0, .int .i64 0, .int .i64 0, .int .i64 0, .int .i64 0, .int .i64 0, .int .i64 0, .int .i64 0, .int .i64 0, .int .i64 0, .int .i64 0, .int .i64 0, .int .i64 0, .int .i64 0, .int .i64 0, .int .i64 0, .int .i64 0, .int .i64 0] 42)) := (Below.refl _ _).alloc (Nat.le_refl _) _
  refine ⟨⟨v, l, pw_below h1 hb2, h2, fun k hk => ?_, fun k hk => ?_, hb.trans (hb2.mono hs), by simp; omega⟩, ⟨fun j hj => ?_, fun j hj => ?_⟩, hs⟩
  · by_cases hlt : k < w.heap.size
    · exact absurd hlt (h3 k hk hlt)
    · omega
  · rcases hk with rfl | hk
    · exact ⟨by simp, fun hf => by have := fpw_lt h1 _ hf; omega⟩
    · exact hk.elim
  · rw [World.cell?_alloc_new]
    unfold laid
    rw [if_neg (by omega)]
    match j, hj with
    | 0, _ | 1, _ | 2, _ | 3, _ | 4, _ | 5, _ | 6, _ | 7, _ | 8, _ | 9, _ | 10, _ | 11, _ | 12, _ | 13, _ | 14, _ | 15, _ | 16, _ | 17, _ | 18, _ | 19, _ => rfl
    | j + 20, h => omega
  · rw [World.frozen?_alloc_at _ _ _ _ rfl]
set_option maxHeartbeats 4000000 in
theorem wheelOnce_walk (v : Value) (l : List Op) (hl : l.length ≤ 140737488355328) (hok : ∀ o ∈ l, OpOk o) (w : World) (hO : ORow w v l) :
    Calls Try.prog 5 #[v] w fun e w' => e = .returned (.bool true) ∧ Below w.heap.size w w' := by
  have CB : Hid (Calls Try.prog 8 #[] w fun e w' => ∃ b, e = .returned (.pointer (some ⟨b, 0, none⟩)) ∧ WIn (fun k => k < w.heap.size) w b r0 w') := begun_any w
  have HO : Hid (ORow w v l) := hO
  have HOK : Hid (∀ o ∈ l, OpOk o) := hok
  obtain ⟨ao, cap, rfl, _⟩ := hO
  clear hok
  go_enter Try.func5, Try.ntmps5
  go_wp2_with fail
  refine CB.out.mono ?_
  rintro e w1 ⟨b, rfl, d1⟩
  have hb1 := below_of_win d1 (Nat.le_refl _)
  have hs1 := hb1.size
  have HD1 : Hid (WIn (fun k => k < w.heap.size) w b r0 w1) := d1
  have H0 : Hid (OSt w b w1.heap.size (fun _ => False) r0 (laid 0) (w1.alloc (.cells #[.int .i64 0, .int .i64 0, .int .i64 0, .int .i64 0, .int .i64 0, .int .i64 0, .int .i64 0, .int .i64 0, .int .i64 0, .int .i64 0, .int .i64 0, .int .i64 0, .int .i64 0, .int .i64 0, .int .i64 0, .int .i64 0, .int .i64 0, .int .i64 0, .int .i64 0, .int .i64 0] 42))) := ost_begins d1
  obtain ⟨w2, hw2⟩ : ∃ w2, w2 = w1.alloc (.cells #[.int .i64 0, .int .i64 0, .int .i64 0, .int .i64 0, .int .i64 0, .int .i64 0, .int .i64 0, .int .i64 0, .int .i64 0, .int .i64 0, .int .i64 0, .int .i64 0, .int .i64 0, .int .i64 0, .int .i64 0, .int .i64 0, .int .i64 0, .int .i64 0, .int .i64 0, .int .i64 0] 42) := ⟨_, rfl⟩
  rw [← hw2] at H0
  have HW2 : Hid (w2 = w1.alloc (.cells #[.int .i64 0, .int .i64 0, .int .i64 0, .int .i64 0, .int .i64 0, .int .i64 0, .int .i64 0, .int .i64 0, .int .i64 0, .int .i64 0, .int .i64 0, .int .i64 0, .int .i64 0, .int .i64 0, .int .i64 0, .int .i64 0, .int .i64 0, .int .i64 0, .int .i64 0, .int .i64 0] 42)) := hw2
  clear d1 CB hw2 HD1
  go_wp2_with fail
  rw [← HW2.out]
  obtain ⟨A, hA⟩ : ∃ A, A = w1.heap.size := ⟨_, rfl⟩
  rw [← hA] at H0 ⊢
  clear HW2 hA hb1 hs1
  go_loopw [5] (fun i wr => ∃ k : Nat, k ≤ 20 ∧ i = .int .i64 (k : Int) ∧ Hid (OSt w b A (fun _ => False) r0 (laid k) wr)) (fun i _ => 20 - (intOf i).toNat)
  case atStart => exact ⟨0, Nat.zero_le _, rfl, H0⟩
  case round =>
    obtain ⟨k, hk, rfl, HI⟩ := hrel
    clear H0
    by_cases hlt : k < 20
    · have c1 := HI.out.arr.cell k hlt
      have f1 := HI.out.arr.free k hlt
      have i1 : (k : Int) < 20 := by omega
      have HI' : Hid (OSt w b A (fun _ => False) r0 (laid (k + 1)) (wr.setCell ⟨A, k, none⟩ (.int .i64 (-1)))) := by rw [← laid_step]; exact HI.out.set k hlt (-1)
      generalize laid k k = lk at *
      clear HI
      go_wp2
      exact ⟨⟨k + 1, by omega, by go_num, HI'⟩, by simp [intOf]; omega⟩
    · have hkl : ¬ (k : Int) < 20 := by omega
      have HM : Hid (OSt w b A (fun _ => False) r0 (fun _ => -1) wr) := ⟨HI.out.one, HI.out.arr.congr (fun j hj => by unfold laid; rw [if_pos (by omega)]), HI.out.ge⟩
      clear HI hlt hk
      go_wp2_with fail
      rename_i w3
      go_loopw [6] (fun i wr => ∃ (k : Nat) (r : List T) (m : Nat → Int), k ≤ l.length ∧ i = .int .i64 (k : Int) ∧ Hid (OSt w b A (fun _ => False) r m wr) ∧ Hid (Holds r m)) (fun i _ => l.length - (intOf i).toNat)
      case atStart => exact ⟨0, r0, _, Nat.zero_le _, rfl, HM, holds_begun⟩
      case round =>
        obtain ⟨k2, r, m, hk2, rfl, HS, HH⟩ := hrel
        clear HM
        by_cases hlt : k2 < l.length
        · obtain ⟨_, _, he, _, _, hrow⟩ := HO.out
          cases he
          obtain ⟨g, o, rfl, hgl, c0, c1, c2⟩ := hrow k2 hlt
          have hcell : ∀ w2 x, Below w.heap.size w w2 → w2.cell? ⟨g, x, none⟩ = w.cell? ⟨g, x, none⟩ := fun w2 x hb => hb.cell (p := ⟨g, x, none⟩) hgl
          have e0 := (hcell wr _ HS.out.one.bel).trans c0
          have e1 := (hcell wr _ HS.out.one.bel).trans c1
          have e2 := (hcell wr _ HS.out.one.bel).trans c2
          obtain ⟨o1, o2, o3⟩ := HOK.out _ (List.getElem_mem hlt)
          have P1 : Hid (∀ w1, Calls Try.prog 22 #[.int .i64 l[k2].Id, .int .i64 20] w1 fun e w' => e = .returned (.int .i64 (pick l[k2].Id 20 : Int)) ∧ w' = w1) := fun w1 => pick_any _ 20 (by decide) (by decide) o2 w1
          have P2 : Hid (∀ w1, Calls Try.prog 22 #[.int .i64 l[k2].At, .int .i64 1000] w1 fun e w' => e = .returned (.int .i64 (pick l[k2].At 1000 : Int)) ∧ w' = w1) := fun w1 => pick_any _ 1000 (by decide) (by decide) o3 w1
          have P3 : Hid (∀ w1, Calls Try.prog 22 #[.int .i64 l[k2].Do, .int .i64 3] w1 fun e w' => e = .returned (.int .i64 (pick l[k2].Do 3 : Int)) ∧ w' = w1) := fun w1 => pick_any _ 3 (by decide) (by decide) o1 w1
          have hid := pick_lt l[k2].Id 20 (by decide)
          have htm := pick_lt l[k2].At 1000 (by decide)
          have hdo := pick_lt l[k2].Do 3 (by decide)
          generalize pick l[k2].Id 20 = id at *
          generalize pick l[k2].At 1000 = tm at *
          generalize pick l[k2].Do 3 = dd at *
          generalize l[k2].Id = x1 at *
          generalize l[k2].At = x2 at *
          generalize l[k2].Do = x0 at *
          have i1 : (k2 : Int) < (l.length : Int) := by omega
          clear hcell c0 c1 c2 hrow o1 o2 o3
          go_wp2_with fail
          refine (P1.out _).mono ?_
          rintro e w2 ⟨rfl, hw⟩
          rw [hw]; clear hw w2 P1
          go_wp2_with fail
          refine (P2.out _).mono ?_
          rintro e w2 ⟨rfl, hw⟩
          rw [hw]; clear hw w2 P2
          go_wp2_with fail
          refine (P3.out _).mono ?_
          rintro e w2 ⟨rfl, hw⟩
          rw [hw]; clear hw w2 P3 e0 e1 e2
          have hi20 : (id : Int) < 20 := by omega
          rcases (show dd = 0 ∨ dd = 1 ∨ dd = 2 by omega) with rfl | rfl | rfl
          · have C : Hid (Calls Try.prog 11 #[.pointer (some ⟨b, 0, none⟩), .int .i64 (id : Int), .int .i64 (tm : Int)] wr fun e w' => e = .returned (.int .i64 0) ∧ OSt w b A (fun _ => False) (aSet r (id : Int) (tm : Int)).1 m w') := by
              have := HS.out.one.set HH.out.good (id : Int) (tm : Int)
              rw [(HH.out.set id hid tm htm).1] at this
              exact this.mono fun e w' ⟨k1, k2, k3⟩ => ⟨k1, k2, HS.out.arr.chg k3 (fun h => h (Or.inl rfl)), HS.out.ge⟩
            have HH' : Hid (Holds (aSet r (id : Int) (tm : Int)).1 (updm m id (tm : Int))) := (HH.out.set id hid tm htm).2
            generalize (aSet r (id : Int) (tm : Int)).1 = r' at *
            clear HS HH
            go_wp2_with fail
            refine C.out.mono ?_
            rintro e w2 ⟨rfl, hs2⟩
            have HS2 : Hid (OSt w b A (fun _ => False) r' (updm m id (tm : Int)) (w2.setCell ⟨A, id, none⟩ (.int .i64 (tm : Int)))) := hs2.set id hid _
            have c1 := hs2.arr.cell id hid
            have f1 := hs2.arr.free id hid
            clear hs2 C
            go_wp2
            exact ⟨⟨k2 + 1, _, _, by omega, by go_num, HS2, HH'⟩, by simp [intOf]; omega⟩
          · have hb : decide (has r (id : Int)) = decide (0 ≤ m id) := by rw [decide_eq_decide]; exact HH.out.has id hid
            have C : Hid (∀ wa, Hid (OSt w b A (fun _ => False) r m wa) → Calls Try.prog 12 #[.pointer (some ⟨b, 0, none⟩), .int .i64 (id : Int)] wa fun e w' => e = .returned (.bool (decide (0 ≤ m id))) ∧ w'.cell? ⟨A, id, none⟩ = some (.int .i64 (m id)) ∧ Hid (OSt w b A (fun _ => False) (rem r (id : Int)) m w')) := fun wa ha => by
              have := ha.out.one.stop HH.out.good (id : Int)
              rw [hb] at this
              exact this.mono fun e w' ⟨k1, k2, k3⟩ => by
                have har := ha.out.arr.chg k3 (fun h => h (Or.inl rfl))
                exact ⟨k1, har.cell id hid, ⟨k2, har, ha.out.ge⟩⟩
            have HH' : Hid (Holds (rem r (id : Int)) (updm m id (-1))) := HH.out.stop id hid
            have HSd : Hid (OSt w b A (fun _ => False) r m wr.drew) := HS.out.below ((Below.refl _ _).drew)
            have c1 := HS.out.arr.cell id hid
            generalize rem r (id : Int) = r' at *
            have HMI : Hid (∀ w2 : World, OSt w b A (fun _ => False) r' m w2 → w2.frozen? ⟨A, id, none⟩ = false) := fun w2 h => h.arr.free id hid
            have HST : Hid (∀ w2 : World, OSt w b A (fun _ => False) r' m w2 → OSt w b A (fun _ => False) r' (updm m id (-1)) (w2.setCell ⟨A, id, none⟩ (.int .i64 (-1)))) := fun w2 h => h.set id hid _
            generalize updm m id (-1) = m' at *
            generalize hmi : m id = mi at *
            clear HS HH hb
            go_wp2_with fail
            go_region_held3 (fun w' => w'.cell? ⟨A, id, none⟩ = some (.int .i64 mi)) (go_keep) (first | (go_at_call 12; refine (C.out _ HSd).mono ?_; rintro e w2 ⟨rfl, n1, HS2⟩))
            have f1 := HMI.out _ HS2.out
            have HS3 : Hid (OSt w b A (fun _ => False) r' m' (w2.setCell ⟨A, id, none⟩ (.int .i64 (-1)))) := HST.out _ HS2.out
            clear C HMI HST HSd HS2
            go_wp2
            exact ⟨⟨k2 + 1, _, _, by omega, by go_num, HS3, HH'⟩, by simp [intOf]; omega⟩
          · have C : Hid (Calls Try.prog 14 #[.pointer (some ⟨b, 0, none⟩), .int .i64 (tm : Int)] wr fun e w' => OneDue w.heap.size w (fun k => k = A ∨ False) b r (tm : Int) wr e w') := HS.out.one.due HH.out.good (tm : Int)
            obtain ⟨d1, d2, d3, d4⟩ := HH.out.due tm htm
            have D1 : Hid (Holds (left r (tm : Int)) (gone m (told r (tm : Int)))) := d1
            have D2 : Hid (∀ j, j < 20 → ¬ (0 ≤ gone m (told r (tm : Int)) j ∧ gone m (told r (tm : Int)) j ≤ (tm : Int))) := d2
            have D3 : Hid (nextB (left r (tm : Int)) = true) := d3
            have D4 : Hid ((tm : Int) < nextI (left r (tm : Int))) := d4
            have TL : Hid (∀ k, (hk : k < (told r (tm : Int)).length) → ∃ i : Nat, (told r (tm : Int))[k] = (i : Int) ∧ i < 20 ∧ 0 ≤ m i ∧ m i ≤ (tm : Int) ∧ gone m ((told r (tm : Int)).take k) i = m i ∧
              (∀ j, (hj : j < k) → ∃ i' : Nat, (told r (tm : Int))[j] = (i' : Int) ∧ i' < 20 ∧ m i' ≤ m i)) := fun k hk => HH.out.told tm htm k hk
            have HLN : (told r (tm : Int)).length ≤ 200 := Nat.le_trans (told_len r (tm : Int)) HH.out.good.len
            have HAL : Hid (A < wr.heap.size) := HS.out.arr.lt
            clear d1 d2 d3 d4
            go_wp2_with fail
            refine C.out.mono ?_
            rintro e w2 ⟨vi, rfl, ow2, t2, ch2⟩
            obtain ⟨ia, ic, rfl, _⟩ := own_form ow2
            have hgA : ∀ g, (Value.slice ia (told r (tm : Int)).length ic).ownBlock = some g → g ≠ A := fun g hg e => by
              have := (ow2.lt g hg).1
              have := HAL.out
              omega
            have HGA : Hid (∀ g, (Value.slice ia (told r (tm : Int)).length ic).ownBlock = some g → g ≠ A) := hgA
            have HOW : Hid (w2.ownsRow 0 3 1 (.slice ia (told r (tm : Int)).length ic) (told r (tm : Int)).length ((told r (tm : Int)).map fun n => .int .i64 n)) := own_base ow2 (Nat.zero_le _)
            have HS2 : Hid (OSt w b A (fun _ => False) (left r (tm : Int)) (gone m ((told r (tm : Int)).take 0)) w2) := ⟨t2.mono (fun k hk => Or.inl hk), (HS.out.arr.chg ch2 (fun h => h (Or.inl rfl))).congr (fun j hj => by simp [gone]), HS.out.ge⟩
            clear ow2 t2 ch2 C HS HAL hgA
            go_wp2_with fail
            go_loopw [9, 11] (fun la kk wr => ∃ (k : Nat) (x : Int), k ≤ (told r (tm : Int)).length ∧ kk = .int .i64 (k : Int) ∧ la = .int .i64 x ∧ Hid (OSt w b A (fun _ => False) (left r (tm : Int)) (gone m ((told r (tm : Int)).take k)) wr) ∧ Hid (wr.ownsRow 0 3 1 (.slice ia (told r (tm : Int)).length ic) (told r (tm : Int)).length ((told r (tm : Int)).map fun n => .int .i64 n)) ∧
              Hid (∀ (i : Nat), (hk : k < (told r (tm : Int)).length) → (told r (tm : Int))[k] = (i : Int) → i < 20 → x ≤ m i)) (fun _ kk _ => (told r (tm : Int)).length - (intOf kk).toNat)
            case atStart => exact ⟨0, -1, Nat.zero_le _, rfl, rfl, HS2, HOW, fun i hk he hi => (HH.out.rng i hi).1⟩
            case round =>
              obtain ⟨k3, x, hk3, rfl, rfl, HS3, HR3, HX⟩ := hrel
              clear HS2 HOW
              by_cases hlt3 : k3 < (told r (tm : Int)).length
              · obtain ⟨i, hi, hi2, h0, h1, hgo, hpr⟩ := TL.out k3 hlt3
                have hx := HX.out i hlt3 hi hi2
                obtain ⟨_, _, he, _, hrow3⟩ := irow_own HR3.out
                cases he
                obtain ⟨g3, rfl, hg3, c3⟩ := hrow3 k3 hlt3
                rw [hi] at c3
                have ca := HS3.out.arr.cell i hi2
                rw [hgo] at ca
                have cf := HS3.out.arr.free i hi2
                have HS4 : Hid (OSt w b A (fun _ => False) (left r (tm : Int)) (gone m ((told r (tm : Int)).take (k3 + 1))) (wr.setCell ⟨A, i, none⟩ (.int .i64 (-1)))) := by
                  rw [← gone_snoc m _ k3 hlt3 i hi]
                  exact HS3.out.set i hi2 _
                have hgne : g3 ≠ A := HGA.out g3 rfl
                have HR4 : Hid ((wr.setCell ⟨A, i, none⟩ (.int .i64 (-1))).ownsRow 0 3 1 (.slice (some ⟨g3, 0, none⟩) (told r (tm : Int)).length ic) (told r (tm : Int)).length ((told r (tm : Int)).map fun n => .int .i64 n)) :=
                  own_chg HR3.out (chg_set wr ⟨A, i, none⟩ _) (fun g hg => by
                    have : g3 = g := by simpa [Value.ownBlock] using hg
                    simp only
                    omega)
                have HX4 : Hid (∀ (i' : Nat), (hk : k3 + 1 < (told r (tm : Int)).length) → (told r (tm : Int))[k3 + 1] = (i' : Int) → i' < 20 → m i ≤ m i') := fun i' hk he hi' => by
                  obtain ⟨i2, q1, _, _, _, _, q6⟩ := TL.out (k3 + 1) hk
                  obtain ⟨i3, z1, _, z3⟩ := q6 k3 (by omega)
                  have e1 : i2 = i' := by rw [he] at q1; omega
                  have e2 : i3 = i := by rw [hi] at z1; omega
                  rw [← e1, ← e2]
                  exact z3
                have a1 : (k3 : Int) < ((told r (tm : Int)).length : Int) := by omega
                have a2 : decide ((i : Int) < 0) = false := by simp
                have a3 : decide ((20 : Int) ≤ (i : Int)) = false := by simp; omega
                have a3' : (i : Int) < 20 := by omega
                have a4 : decide (m i < 0) = false := by simp; omega
                have a5 : decide ((tm : Int) < m i) = false := by simp; omega
                have a6 : decide (m i < x) = false := by simp; omega
                clear hgo hpr HX HS3 HR3 hrow3 hi h0 h1 hx
                generalize m i = mi at *
                go_wp2
                exact ⟨⟨k3 + 1, mi, by omega, by go_num, rfl, HS4, HR4, HX4⟩, by simp [intOf]; omega⟩
              · have a1 : ¬ (k3 : Int) < ((told r (tm : Int)).length : Int) := by omega
                have HS4 : Hid (OSt w b A (fun _ => False) (left r (tm : Int)) (gone m (told r (tm : Int))) wr) := by
                  have := HS3.out
                  rw [List.take_of_length_le (by omega)] at this
                  exact this
                clear HS3 HR3 HX TL
                generalize gone m (told r (tm : Int)) = m' at *
                generalize left r (tm : Int) = r' at *
                have HC : Hid (∀ j, j < 20 → wr.cell? ⟨A, j, none⟩ = some (.int .i64 (m' j))) := HS4.out.arr.cell
                go_wp2_with fail
                go_loop [12] (fun kk => ∃ k : Nat, k ≤ 20 ∧ kk = .int .i64 (k : Int)) (fun kk => 20 - (intOf kk).toNat)
                case atStart => exact ⟨0, Nat.zero_le _, rfl⟩
                case round =>
                  obtain ⟨k4, hk4, rfl⟩ := hrel
                  by_cases hlt4 : k4 < 20
                  · have c4 := HC.out k4 hlt4
                    have n4 := D2.out k4 hlt4
                    have b1 : (k4 : Int) < 20 := by omega
                    generalize m' k4 = mk at *
                    by_cases z : 0 ≤ mk
                    · have z1 : decide (0 ≤ mk) = true := by simpa using z
                      have z2 : decide (mk ≤ (tm : Int)) = false := by simp; omega
                      go_wp2
                      exact ⟨⟨k4 + 1, by omega, by go_num⟩, by simp [intOf]; omega⟩
                    · have z1 : decide (0 ≤ mk) = false := by simpa using z
                      go_wp2
                      exact ⟨⟨k4 + 1, by omega, by go_num⟩, by simp [intOf]; omega⟩
                  · have b1 : ¬ (k4 : Int) < 20 := by omega
                    have CN : Hid (Calls Try.prog 18 #[.pointer (some ⟨b, 0, none⟩)] wr fun e w' => e = .returned (.tuple #[.int .i64 (nextI r'), .bool true]) ∧ OSt w b A (fun _ => False) r' m' w') := by
                      have := HS4.out.one.next D1.out.good
                      rw [D3.out] at this
                      exact this.mono fun e w' ⟨k1, k2, k3⟩ => ⟨k1, k2, HS4.out.arr.chg (S := fun _ => False) (chg_below k3) (fun h => h), HS4.out.ge⟩
                    have dn : decide (nextI r' ≤ (tm : Int)) = false := by have := D4.out; simp; omega
                    generalize nextI r' = ni at *
                    clear HC D2 HS4
                    go_wp2_with fail
                    refine CN.out.mono ?_
                    rintro e w5 ⟨rfl, hs5⟩
                    have HS5 : Hid (OSt w b A (fun _ => False) r' m' w5) := hs5
                    clear hs5 CN
                    go_wp2
                    exact ⟨⟨k2 + 1, r', m', by omega, by go_num, HS5, D1⟩, by simp [intOf]; omega⟩
        · have HBE : Hid (Below w.heap.size w wr) := HS.out.one.bel
          obtain rfl : k2 = l.length := by omega
          go_wp2
          go_ret
          exact ⟨rfl, HBE.out⟩
end Go.Proofs.Ythenmngjojgmkaa
