/- Two wheels beside each other, and rows that are kept. -/
import Derived.Test.YthenmngjojgmkaaSetsW
import Derived.Deep.DeepCutAuto
set_option linter.unusedVariables false
set_option maxRecDepth 100000
namespace Go.Proofs.Ythenmngjojgmkaa
open Go.RowKit
open WheelMath

/-- Two wheels, from block B on; the blocks of N are neither's. -/
def Two (B : Nat) (w : World) (N : Nat → Prop) (x : Nat) (rx : List T) (y : Nat) (ry : List T) (wr : World) : Prop :=
  ∃ vx lx vy ly, PW wr x vx lx ∧ lx.Perm rx ∧ PW wr y vy ly ∧ ly.Perm ry ∧ (∀ k, fpw x vx k → B ≤ k ∧ ¬ fpw y vy k) ∧ (∀ k, fpw y vy k → B ≤ k) ∧ (∀ k, N k → k < wr.heap.size ∧ ¬ fpw x vx k ∧ ¬ fpw y vy k) ∧ Below B w wr ∧ B ≤ wr.heap.size
theorem Two.swap {B : Nat} {w : World} {N : Nat → Prop} {x y : Nat} {rx ry : List T} {wr : World} (h : Two B w N x rx y ry wr) : Two B w N y ry x rx wr := by
  obtain ⟨vx, lx, vy, ly, h1, h2, h3, h4, h5, h6, h7, h8, h9⟩ := h
  exact ⟨vy, ly, vx, lx, h3, h4, h1, h2, fun k hk => ⟨h6 k hk, fun hx => (h5 k hx).2 hk⟩, fun k hk => (h5 k hk).1, fun k hk => ⟨(h7 k hk).1, (h7 k hk).2.2, (h7 k hk).2.1⟩, h8, h9⟩
theorem Two.below {B : Nat} {w : World} {N : Nat → Prop} {x y : Nat} {rx ry : List T} {wr w' : World} (h : Two B w N x rx y ry wr) (hb : Below wr.heap.size wr w') : Two B w N x rx y ry w' := by
  obtain ⟨vx, lx, vy, ly, h1, h2, h3, h4, h5, h6, h7, h8, h9⟩ := h
  have hs := hb.size
  exact ⟨vx, lx, vy, ly, pw_below h1 hb, h2, pw_below h3 hb, h4, h5, h6, fun k hk => ⟨by have := (h7 k hk).1; omega, (h7 k hk).2⟩, h8.trans (hb.mono h9), by omega⟩
/-- What changed elsewhere. -/
theorem Two.chg {S : Nat → Prop} {B : Nat} {w : World} {N : Nat → Prop} {x y : Nat} {rx ry : List T} {wr w' : World} (h : Two B w N x rx y ry wr) (hc : Chg S wr w') (hS : ∀ k, S k → N k) (hB : ∀ k, S k → B ≤ k) : Two B w N x rx y ry w' := by
  obtain ⟨vx, lx, vy, ly, h1, h2, h3, h4, h5, h6, h7, h8, h9⟩ := h
  have hs := hc.size
  refine ⟨vx, lx, vy, ly, pw_chg h1 hc (fun k hk hs => (h7 k (hS k hs)).2.1 hk), h2, pw_chg h3 hc (fun k hk hs => (h7 k (hS k hs)).2.2 hk), h4, h5, h6, fun k hk => ⟨by have := (h7 k hk).1; omega, (h7 k hk).2⟩, h8.trans (below_chg hc h9 (fun k hk hs => by have := hB k hs; omega)), by omega⟩
/-- A call on the first: what it says of the wheel alone, whatever else is to be kept. -/
theorem Two.call {B : Nat} {w : World} {N : Nat → Prop} {x y : Nat} {rx ry rx' : List T} {wr : World} {f : Nat} {args : Array Value} {Q : Ending → World → Prop} (h : Two B w N x rx y ry wr)
    (hc : ∀ S, WIn S wr x rx wr → Calls Try.prog f args wr fun e w' => Q e w' ∧ WIn S wr x rx' w') :
    Calls Try.prog f args wr fun e w' => Q e w' ∧ Two B w N x rx' y ry w' ∧ Chg (fun k => ¬ N k) wr w' ∧ w'.cell? ⟨y, 0, none⟩ = wr.cell? ⟨y, 0, none⟩ := by
  obtain ⟨vx, lx, vy, ly, h1, h2, h3, h4, h5, h6, h7, h8, h9⟩ := h
  refine (hc (fun k => ¬ fpw x vx k) ⟨vx, lx, h1, h2, fun k hk _ hn => hn hk, Chg.refl _ _⟩).mono ?_
  rintro e w' ⟨hq, vx', lx', k1, k2, k3, k4⟩
  have hs := k4.size
  have k3' : ∀ k, fpw x vx' k → k < wr.heap.size → fpw x vx k := fun k hk hlt => Classical.not_not.1 (k3 k hk hlt)
  refine ⟨hq, ⟨vx', lx', vy, ly, k1, k2, pw_chg h3 k4 (fun k hk hn => hn (fun hx => (h5 k hx).2 hk)), h4, fun k hk => ?_, h6, fun k hk => ?_, h8.trans (below_chg k4 h9 (fun k hk hn => hn (fun hx => by have := (h5 k hx).1; omega))), by omega⟩, ?_, World.cell?_of_block (w := wr) (a := ⟨y, 0, none⟩) (k4.block y h3.lt (fun hn => hn (fun hx => (h5 y hx).2 (Or.inl rfl))))⟩
  · by_cases hlt : k < wr.heap.size
    · exact h5 k (k3' k hk hlt)
    · exact ⟨by omega, fun hy => by have := fpw_lt h3 k hy; omega⟩
  · obtain ⟨q1, q2, q3⟩ := h7 k hk
    exact ⟨by omega, fun hx => q2 (k3' k hx q1), q3⟩
  · exact k4.mono fun k _ hn hN => hn (fun hx => (h7 k hN).2.1 hx)
/-- Due on the first: a row of its own, which is kept from then on. -/
def TwoDue (B : Nat) (w : World) (N : Nat → Prop) (x : Nat) (rx : List T) (y : Nat) (ry : List T) (now : Int) (wr : World) (e : Ending) (w' : World) : Prop :=
  ∃ vi, e = .returned vi ∧ w'.ownsRow wr.heap.size 3 1 vi (told rx now).length ((told rx now).map fun n => .int .i64 n) ∧ Two B w (fun k => N k ∨ vi.ownBlock = some k) x (left rx now) y ry w' ∧ Chg (fun k => ¬ N k) wr w'
theorem Two.due {B : Nat} {w : World} {N : Nat → Prop} {x y : Nat} {rx ry : List T} {wr : World} (h : Two B w N x rx y ry wr) (hg : WheelMath.Good rx) (now : Int) :
    Calls Try.prog 14 #[.pointer (some ⟨x, 0, none⟩), .int .i64 now] wr fun e w' => TwoDue B w N x rx y ry now wr e w' := by
  have hy : ∀ k, N k → k < wr.heap.size := by
    obtain ⟨vx, lx, vy, ly, h1, h2, h3, h4, h5, h6, h7, h8, h9⟩ := h
    exact fun k hk => (h7 k hk).1
  have hyy : ∃ vy, wr.cell? ⟨y, 0, none⟩ = some vy ∧ ∀ k, fpw y vy k → k < wr.heap.size := by
    obtain ⟨vx, lx, vy, ly, h1, h2, h3, h4, h5, h6, h7, h8, h9⟩ := h
    exact ⟨vy, h3.cell, fpw_lt h3⟩
  refine (h.call (Q := fun e w' => ∃ vi, e = .returned vi ∧ w'.ownsRow wr.heap.size 3 1 vi (told rx now).length ((told rx now).map fun n => .int .i64 n) ∧ ∀ v', w'.cell? ⟨x, 0, none⟩ = some v' → ∀ g, vi.ownBlock = some g → ¬ fpw x v' g) (rx' := left rx now) (fun S hS => (due_all hS hg now).mono fun e w' ⟨vi, k1, k2, k3, k4⟩ => ⟨⟨vi, k1, k2, k4⟩, k3⟩)).mono ?_
  rintro e w' ⟨⟨vi, k1, k2, k4⟩, ht, hc, hcy⟩
  refine ⟨vi, k1, k2, ?_, hc⟩
  obtain ⟨vx, lx, vy, ly, h1, h2, h3, h4, h5, h6, h7, h8, h9⟩ := ht
  refine ⟨vx, lx, vy, ly, h1, h2, h3, h4, h5, h6, fun k hk => ?_, h8, h9⟩
  rcases hk with hk | hk
  · exact h7 k hk
  · refine ⟨(k2.lt k hk).2, k4 vx h1.cell k hk, fun hf => ?_⟩
    have := (k2.lt k hk).1
    obtain ⟨vy0, c0, l0⟩ := hyy
    have k5 := h3.cell
    rw [hcy, c0] at k5
    cases k5
    have := l0 k hf
    omega
/-- Two wheels made one behind the other. -/
theorem two_made {w w1 w2 : World} {x y : Nat} {rx ry : List T} (h1 : WIn (fun k => k < w.heap.size) w x rx w1) (h2 : WIn (fun k => k < w1.heap.size) w1 y ry w2) : Two w.heap.size w (fun _ => False) x rx y ry w2 := by
  have b1 := below_of_win h1 (Nat.le_refl _)
  have b2 := below_of_win h2 (Nat.le_refl _)
  obtain ⟨vx, lx, p1, q1, s1, c1⟩ := h1
  obtain ⟨vy, ly, p2, q2, s2, c2⟩ := h2
  have z1 := b1.size
  have z2 := b2.size
  have hx : ∀ k, fpw x vx k → w.heap.size ≤ k := fun k hk => by
    by_cases hlt : k < w.heap.size
    · exact absurd hlt (s1 k hk hlt)
    · omega
  have hy : ∀ k, fpw y vy k → w1.heap.size ≤ k := fun k hk => by
    by_cases hlt : k < w1.heap.size
    · exact absurd hlt (s2 k hk hlt)
    · omega
  exact ⟨vx, lx, vy, ly, pw_below p1 b2, q1, p2, q2, fun k hk => ⟨hx k hk, fun hf => by have := hy k hf; have := fpw_lt p1 k hk; omega⟩, fun k hk => by have := hy k hk; omega, fun k hk => hk.elim, b1.trans (b2.mono z1), by omega⟩
theorem Two.len {B : Nat} {w : World} {N : Nat → Prop} {x y : Nat} {rx ry : List T} {wr : World} (h : Two B w N x rx y ry wr) :
    Calls Try.prog 20 #[.pointer (some ⟨x, 0, none⟩)] wr fun e w' => e = .returned (.int .i64 (rx.length : Int)) ∧ w' = wr := by
  obtain ⟨vx, lx, vy, ly, h1, h2, h3, h4, h5, h6, h7, h8, h9⟩ := h
  rw [← h2.length_eq]
  exact len_any wr x vx lx h1
theorem Two.next {B : Nat} {w : World} {N : Nat → Prop} {x y : Nat} {rx ry : List T} {wr : World} (h : Two B w N x rx y ry wr) (hg : WheelMath.Good rx) :
    Calls Try.prog 18 #[.pointer (some ⟨x, 0, none⟩)] wr fun e w' => e = .returned (.tuple #[.int .i64 (nextI rx), .bool (nextB rx)]) ∧ Two B w N x rx y ry w' := by
  have h0 := h
  obtain ⟨vx, lx, vy, ly, h1, h2, h3, h4, h5, h6, h7, h8, h9⟩ := h
  exact (next_any wr x vx lx rx h1 h2 hg).mono fun e w' ⟨k1, k2⟩ => ⟨k1, h0.below k2⟩
theorem Two.bel {B : Nat} {w : World} {N : Nat → Prop} {x y : Nat} {rx ry : List T} {wr : World} (h : Two B w N x rx y ry wr) : Below B w wr := by
  obtain ⟨vx, lx, vy, ly, h1, h2, h3, h4, h5, h6, h7, h8, h9⟩ := h
  exact h8
theorem Two.le {B : Nat} {w : World} {N : Nat → Prop} {x y : Nat} {rx ry : List T} {wr : World} (h : Two B w N x rx y ry wr) : B ≤ wr.heap.size := by
  obtain ⟨vx, lx, vy, ly, h1, h2, h3, h4, h5, h6, h7, h8, h9⟩ := h
  exact h9

/-- In parts as in one. -/
theorem told_parts (r : List T) (a b : Int) (h : a ≤ b) : told r a ++ told (left r a) b = told r b ∧ left (left r a) b = left r b := by
  induction r with
  | nil => exact ⟨rfl, rfl⟩
  | cons t r ih =>
    by_cases h1 : t.2 ≤ a
    · rw [told_cons, if_pos h1, left_cons, if_pos h1, told_cons, if_pos (by omega), left_cons, if_pos (by omega), List.cons_append, ih.1, ih.2]
      exact ⟨rfl, rfl⟩
    · rw [told_cons, if_neg h1, left_cons, if_neg h1]
      exact ⟨rfl, rfl⟩

set_option maxHeartbeats 2000000 in
theorem wheelAlike_walk (v : Value) (l : List Op) (hl : l.length ≤ 140737488355328) (hok : ∀ o ∈ l, OpOk o) (now : Int) (w : World) (hO : ORow w v l) :
    Calls Try.prog 7 #[v, .int .i64 now] w fun e w' => e = .returned (.bool true) ∧ Below w.heap.size w w' := by
  obtain ⟨ao, cap, rfl, hcap, hnn, hrow⟩ := hO
  obtain ⟨n, q, hn, hq, hqn, HQ, hqok⟩ : ∃ (n : Nat) (q : List Op), n = min l.length 150 ∧ q.length = n ∧ n ≤ 150 ∧ ORow w (.slice ao n cap) q ∧ ∀ o ∈ q, OpOk o := by
    refine ⟨min l.length 150, l.take 150, rfl, by simp; omega, by omega, ?_, fun o ho => hok o (List.mem_of_mem_take ho)⟩
    refine ⟨ao, cap, by simp [Nat.min_comm], by simp; omega, hnn, fun j hj => ?_⟩
    have hj' : j < l.length := by simp at hj; omega
    obtain ⟨g, o, k0, k1, k2, k3, k4⟩ := hrow j hj'
    exact ⟨g, o, k0, k1, by simpa using k2, by simpa using k3, by simpa using k4⟩
  have R : seqR (pF q) q.length = seqR (pB q) q.length := seq_alike q (by omega)
  have hG := good_seq (pB q) q.length
  have CX : Hid (Calls Try.prog 23 #[.slice ao n cap, .bool false] w fun e w' => ∃ b, e = .returned (.pointer (some ⟨b, 0, none⟩)) ∧ WIn (fun k => k < w.heap.size) w b (seqR (pB q) q.length) w') := by
    rw [← R]
    exact setF_any _ q (by omega) hqok w HQ
  have CY : Hid (∀ w1, Below w.heap.size w w1 → Calls Try.prog 23 #[.slice ao n cap, .bool true] w1 fun e w' => ∃ b, e = .returned (.pointer (some ⟨b, 0, none⟩)) ∧ WIn (fun k => k < w1.heap.size) w1 b (seqR (pB q) q.length) w') := fun w1 hb =>
    setB_any _ q (by omega) (by omega) hqok w1 (orow_below HQ hb)
  generalize seqR (pB q) q.length = r at *
  have HG : Hid (WheelMath.Good r) := hG
  have hcap2 : n ≤ cap := by omega
  have i150 : (150 : Int) < (l.length : Int) → n = 150 := fun h => by omega
  have inot : ¬ (150 : Int) < (l.length : Int) → n = l.length := fun h => by omega
  clear hG hok hqok hrow HQ R hn hq
  have key : ∀ (A : Act) , True := fun _ => trivial
  clear key
  go_enter Try.func7, Try.ntmps7
  go_upto_if 13 with fail
  go_cut [0] (fun s0 wx => s0 = .slice ao n cap ∧ wx = w)
  case first =>
    by_cases h150 : (150 : Int) < (l.length : Int)
    · have e := i150 h150
      subst e
      clear i150 inot CX CY
      go_wp2_with fail
      go_meet
      exact ⟨rfl, rfl⟩
    · have e := inot h150
      subst e
      clear i150 inot CX CY
      go_wp2_with fail
      go_meet
      exact ⟨rfl, rfl⟩
  case rest =>
    obtain ⟨rfl, hwc⟩ := hcut
    rw [hwc]
    clear hwc wc i150 inot
    go_wp2_with fail
    refine CX.out.mono ?_
    rintro e w1 ⟨x, rfl, d1⟩
    have HX : Hid (WIn (fun k => k < w.heap.size) w x r w1) := d1
    have hb1 := below_of_win d1 (Nat.le_refl _)
    clear d1 CX
    go_wp2_with fail
    refine (CY.out _ hb1).mono ?_
    rintro e w2 ⟨y, rfl, d2⟩
    have HT : Hid (Two w.heap.size w (fun _ => False) x r y r w2) := two_made HX.out d2
    clear d2 CY HX hb1
    go_wp2_with fail
    refine (HT.out.next HG.out).mono ?_
    rintro e w3 ⟨rfl, t3⟩
    have HT3 : Hid (Two w.heap.size w (fun _ => False) y r x r w3) := t3.swap
    clear t3 HT
    go_wp2_with fail
    refine (HT3.out.next HG.out).mono ?_
    rintro e w4 ⟨rfl, t4⟩
    have HT4 : Hid (Two w.heap.size w (fun _ => False) x r y r w4) := t4.swap
    have HLB : Hid ((told r now).length ≤ 140737488355328) := by
      have h1 := told_len r now
      have h2 := HG.out.len
      show _ ≤ _
      omega
    clear t4 HT3
    go_wp2_with fail
    refine HT4.out.len.mono ?_
    rintro e w5 ⟨rfl, hw⟩
    rw [hw]; clear hw w5
    go_wp2_with fail
    refine HT4.out.swap.len.mono ?_
    rintro e w5 ⟨rfl, hw⟩
    rw [hw]; clear hw w5
    go_wp2_with fail
    refine (HT4.out.due HG.out now).mono ?_
    rintro e w5 ⟨vi, rfl, o5, t5, _⟩
    obtain ⟨ia, ic, rfl, _⟩ := own_form o5
    have HO5 : Hid (w5.ownsRow w4.heap.size 3 1 (.slice ia (told r now).length ic) (told r now).length ((told r now).map fun n => .int .i64 n)) := o5
    have HT5 : Hid (Two w.heap.size w (fun k => False ∨ (Value.slice ia (told r now).length ic).ownBlock = some k) y r x (left r now) w5) := t5.swap
    clear o5 t5 HT4
    go_wp2_with fail
    refine (HT5.out.due HG.out now).mono ?_
    rintro e w6 ⟨vj, rfl, o6, t6, c6⟩
    obtain ⟨ja, jc, rfl, _⟩ := own_form o6
    have i1 : IRow w6 (.slice ja (told r now).length jc) (told r now) := irow_own o6
    have i2 : IRow w6 (.slice ia (told r now).length ic) (told r now) := irow_own (own_chg HO5.out c6 (fun g hg hn => hn (Or.inr hg)))
    have HS : Hid (Calls Try.prog 15 #[.slice ia (told r now).length ic, .slice ja (told r now).length jc] w6 fun e w' => e = .returned (.bool true) ∧ Below w6.heap.size w6 w') := same_yes w6 _ _ _ HLB.out i2 i1
    generalize hN : (fun k => (False ∨ (Value.slice ia (told r now).length ic).ownBlock = some k) ∨ (Value.slice ja (told r now).length jc).ownBlock = some k) = N at *
    have HT6 : Hid (Two w.heap.size w N y (left r now) x (left r now) w6) := t6
    clear hN o6 t6 c6 i1 i2 HO5 HT5
    go_wp2_with fail
    refine HS.out.mono ?_
    rintro e w7 ⟨rfl, b7⟩
    have HT7 : Hid (Two w.heap.size w N y (left r now) x (left r now) w7) := HT6.out.below b7
    clear b7 HT6 HS
    go_wp2_with fail
    refine HT7.out.swap.len.mono ?_
    rintro e w8 ⟨rfl, hw⟩
    rw [hw]; clear hw w8
    go_wp2_with fail
    refine HT7.out.len.mono ?_
    rintro e w8 ⟨rfl, hw⟩
    rw [hw]; clear hw w8
    go_wp2
    go_ret
    exact ⟨rfl, HT7.out.bel⟩
end Go.Proofs.Ythenmngjojgmkaa
