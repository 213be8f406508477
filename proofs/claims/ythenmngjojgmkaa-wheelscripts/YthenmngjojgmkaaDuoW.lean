/- The program's wheel beside the document's. -/
import Derived.Test.YthenmngjojgmkaaRefDueW
set_option linter.unusedVariables false
set_option maxRecDepth 100000
namespace Go.Proofs.Ythenmngjojgmkaa
open Go.RowKit
open WheelMath

/-- The document's wheel, none of whose blocks is among those of S; and those are as they were in w. -/
def RIn (S : Nat → Prop) (w : World) (x : Nat) (r : List T) (w' : World) : Prop := ∃ v, RW w' x v r ∧ (∀ k, fpw x v k → k < w.heap.size → ¬ S k) ∧ Chg (fun k => ¬ S k) w w'
theorem rok_rin {S : Nat → Prop} {w : World} {x : Nat} {v : Value} {r r' : List T} {w' : World} (h : RW w x v r) (hS : ∀ k, fpw x v k → ¬ S k) (hr : ROk w x r' w') : RIn S w x r' w' := by
  obtain ⟨v', k1, k2, k3⟩ := hr
  refine ⟨v', k1, fun k hk hlt => ?_, k2.mono fun k _ e => by rw [e]; exact hS x (Or.inl rfl)⟩
  rcases hk with rfl | hk
  · exact hS _ (Or.inl rfl)
  · have := k3 k hk; omega
theorem rin_same {S : Nat → Prop} {w : World} {x : Nat} {v : Value} {r : List T} {w' : World} (h : RW w x v r) (hS : ∀ k, fpw x v k → ¬ S k) (e : w' = w) : RIn S w x r w' := by
  rw [e]; exact ⟨v, h, fun k hk _ => hS k hk, Chg.refl _ _⟩
theorem refSet_all {S : Nat → Prop} {w : World} {x : Nat} {v : Value} {r : List T} (h : RW w x v r) (hS : ∀ k, fpw x v k → ¬ S k) (hg : WheelMath.Good r) (id tm : Int) :
    Calls Try.prog 10 #[.pointer (some ⟨x, 0, none⟩), .int .i64 id, .int .i64 tm] w fun e w' => e = .returned (.int .i64 (aSet r id tm).2) ∧ RIn S w x (aSet r id tm).1 w' := by
  unfold aSet
  by_cases h1 : id < 0 ∨ tm < 0 ∨ 1073741824 < tm
  · rw [if_pos h1]
    exact (refSet_bad _ id tm h1 w).mono fun e w' ⟨k1, k2⟩ => ⟨k1, rin_same h hS k2⟩
  · rw [if_neg h1]
    by_cases h2 : ¬ has r id ∧ 200 ≤ r.length
    · rw [if_pos h2]
      have hk : place r id = none := by
        cases hk : place r id with
        | none => rfl
        | some k => exact absurd (has_place hk) h2.1
      exact (refSet_full w x v r (by have := hg.len; omega) h id tm hk (by omega) (by omega) (by omega)).mono fun e w' ⟨k1, k2⟩ => ⟨k1, rin_same h hS k2⟩
    · rw [if_neg h2]
      have hf : has r id ∨ r.length < 200 := by
        by_cases hh : has r id
        · exact Or.inl hh
        · exact Or.inr (by by_cases h3 : 200 ≤ r.length; exact absurd ⟨hh, h3⟩ h2; omega)
      exact (refSet_go w x v r hg h id tm (by omega) (by omega) (by omega) hf).mono fun e w' ⟨k1, k2⟩ => ⟨k1, rok_rin h hS k2⟩
theorem refStop_all {S : Nat → Prop} {w : World} {x : Nat} {v : Value} {r : List T} (h : RW w x v r) (hS : ∀ k, fpw x v k → ¬ S k) (hg : WheelMath.Good r) (id : Int) :
    Calls Try.prog 13 #[.pointer (some ⟨x, 0, none⟩), .int .i64 id] w fun e w' => e = .returned (.bool (decide (has r id))) ∧ RIn S w x (rem r id) w' := by
  cases hk : place r id with
  | some k =>
    rw [decide_eq_true (has_place hk)]
    exact (refStop_hit w x v r hg.len hg.ids h id k hk).mono fun e w' ⟨k1, k2⟩ => ⟨k1, rok_rin h hS k2⟩
  | none =>
    rw [decide_eq_false (place_none hk), rem_none (place_none hk)]
    exact (refStop_none w x v r hg.len h id hk).mono fun e w' ⟨k1, k2⟩ => ⟨k1, rin_same h hS k2⟩

/-- Both wheels, from block B on; the blocks of N are neither's. -/
def Duo (B : Nat) (w : World) (N : Nat → Prop) (b : Nat) (rb : List T) (x : Nat) (rx : List T) (wr : World) : Prop :=
  ∃ v l u, PW wr b v l ∧ l.Perm rb ∧ RW wr x u rx ∧ (∀ k, fpw b v k → B ≤ k ∧ ¬ fpw x u k) ∧ (∀ k, fpw x u k → B ≤ k) ∧ (∀ k, N k → k < wr.heap.size ∧ ¬ fpw b v k ∧ ¬ fpw x u k) ∧ Below B w wr ∧ B ≤ wr.heap.size
theorem Duo.below {B : Nat} {w : World} {N : Nat → Prop} {b x : Nat} {rb rx : List T} {wr w' : World} (h : Duo B w N b rb x rx wr) (hb : Below wr.heap.size wr w') : Duo B w N b rb x rx w' := by
  obtain ⟨v, l, u, h1, h2, h3, h5, h6, h7, h8, h9⟩ := h
  have hs := hb.size
  exact ⟨v, l, u, pw_below h1 hb, h2, rw_below h3 hb, h5, h6, fun k hk => ⟨by have := (h7 k hk).1; omega, (h7 k hk).2⟩, h8.trans (hb.mono h9), by omega⟩
theorem Duo.more {B : Nat} {w : World} {N M : Nat → Prop} {b x : Nat} {rb rx : List T} {wr : World} (h : Duo B w N b rb x rx wr) (hM : ∀ k, M k → N k) : Duo B w M b rb x rx wr := by
  obtain ⟨v, l, u, h1, h2, h3, h5, h6, h7, h8, h9⟩ := h
  exact ⟨v, l, u, h1, h2, h3, h5, h6, fun k hk => h7 k (hM k hk), h8, h9⟩
/-- A block that was just made is neither's. -/
theorem Duo.made {B : Nat} {w : World} {N : Nat → Prop} {b x : Nat} {rb rx : List T} {wr : World} (h : Duo B w N b rb x rx wr) (o : Obj) : Duo B w (fun k => N k ∨ k = wr.heap.size) b rb x rx (wr.alloc o) := by
  obtain ⟨v, l, u, h1, h2, h3, h5, h6, h7, h8, h9⟩ := h
  have hb : Below wr.heap.size wr (wr.alloc o) := (Below.refl _ _).alloc (Nat.le_refl _) _
  refine ⟨v, l, u, pw_below h1 hb, h2, rw_below h3 hb, h5, h6, fun k hk => ?_, h8.trans (hb.mono h9), by simp; omega⟩
  rcases hk with hk | rfl
  · exact ⟨by have := (h7 k hk).1; simp; omega, (h7 k hk).2⟩
  · exact ⟨by simp, fun hf => by have := fpw_lt h1 _ hf; omega, fun hf => by have := rw_lt h3 _ hf; omega⟩
theorem Duo.chg {S : Nat → Prop} {B : Nat} {w : World} {N : Nat → Prop} {b x : Nat} {rb rx : List T} {wr w' : World} (h : Duo B w N b rb x rx wr) (hc : Chg S wr w') (hS : ∀ k, S k → N k) (hB : ∀ k, S k → B ≤ k) : Duo B w N b rb x rx w' := by
  obtain ⟨v, l, u, h1, h2, h3, h5, h6, h7, h8, h9⟩ := h
  have hs := hc.size
  exact ⟨v, l, u, pw_chg h1 hc (fun k hk hs => (h7 k (hS k hs)).2.1 hk), h2, rw_chg h3 hc (fun k hk hs => (h7 k (hS k hs)).2.2 hk), h5, h6, fun k hk => ⟨by have := (h7 k hk).1; omega, (h7 k hk).2⟩, h8.trans (below_chg hc h9 (fun k hk hs => by have := hB k hs; omega)), by omega⟩
theorem Duo.prog {B : Nat} {w : World} {N : Nat → Prop} {b x : Nat} {rb rx rb' : List T} {wr : World} {f : Nat} {args : Array Value} {Q : Ending → World → Prop} (h : Duo B w N b rb x rx wr)
    (hc : ∀ S, WIn S wr b rb wr → Calls Try.prog f args wr fun e w' => Q e w' ∧ WIn S wr b rb' w') :
    Calls Try.prog f args wr fun e w' => Q e w' ∧ Duo B w N b rb' x rx w' ∧ Chg (fun k => ¬ N k) wr w' ∧ w'.cell? ⟨x, 0, none⟩ = wr.cell? ⟨x, 0, none⟩ := by
  obtain ⟨v, l, u, h1, h2, h3, h5, h6, h7, h8, h9⟩ := h
  refine (hc (fun k => ¬ fpw b v k) ⟨v, l, h1, h2, fun k hk _ hn => hn hk, Chg.refl _ _⟩).mono ?_
  rintro e w' ⟨hq, v', l', k1, k2, k3, k4⟩
  have hs := k4.size
  have k3' : ∀ k, fpw b v' k → k < wr.heap.size → fpw b v k := fun k hk hlt => Classical.not_not.1 (k3 k hk hlt)
  refine ⟨hq, ⟨v', l', u, k1, k2, rw_chg h3 k4 (fun k hk hn => hn (fun hx => (h5 k hx).2 hk)), fun k hk => ?_, h6, fun k hk => ?_, h8.trans (below_chg k4 h9 (fun k hk hn => hn (fun hx => by have := (h5 k hx).1; omega))), by omega⟩, ?_, World.cell?_of_block (w := wr) (a := ⟨x, 0, none⟩) (k4.block x h3.lt (fun hn => hn (fun hx => (h5 x hx).2 (Or.inl rfl))))⟩
  · by_cases hlt : k < wr.heap.size
    · exact h5 k (k3' k hk hlt)
    · exact ⟨by omega, fun hy => by have := rw_lt h3 k hy; omega⟩
  · obtain ⟨q1, q2, q3⟩ := h7 k hk
    exact ⟨by omega, fun hx => q2 (k3' k hx q1), q3⟩
  · exact k4.mono fun k _ hn hN => hn (fun hx => (h7 k hN).2.1 hx)
theorem Duo.ref {B : Nat} {w : World} {N : Nat → Prop} {b x : Nat} {rb rx rx' : List T} {wr : World} {f : Nat} {args : Array Value} {Q : Ending → World → Prop} (h : Duo B w N b rb x rx wr)
    (hc : ∀ (S : Nat → Prop) u, RW wr x u rx → (∀ k, fpw x u k → ¬ S k) → Calls Try.prog f args wr fun e w' => Q e w' ∧ RIn S wr x rx' w') :
    Calls Try.prog f args wr fun e w' => Q e w' ∧ Duo B w N b rb x rx' w' ∧ Chg (fun k => ¬ N k) wr w' := by
  obtain ⟨v, l, u, h1, h2, h3, h5, h6, h7, h8, h9⟩ := h
  refine (hc (fun k => ¬ fpw x u k) u h3 (fun k hk hn => hn hk)).mono ?_
  rintro e w' ⟨hq, u', k1, k3, k4⟩
  have hs := k4.size
  have k3' : ∀ k, fpw x u' k → k < wr.heap.size → fpw x u k := fun k hk hlt => Classical.not_not.1 (k3 k hk hlt)
  refine ⟨hq, ⟨v, l, u', pw_chg h1 k4 (fun k hk hn => hn (fun hx => (h5 k hk).2 hx)), h2, k1, fun k hk => ⟨(h5 k hk).1, fun hx => ?_⟩, fun k hk => ?_, fun k hk => ?_, h8.trans (below_chg k4 h9 (fun k hk hn => hn (fun hx => by have := h6 k hx; omega))), by omega⟩, ?_⟩
  · by_cases hlt : k < wr.heap.size
    · exact (h5 k hk).2 (k3' k hx hlt)
    · have := fpw_lt h1 k hk; omega
  · by_cases hlt : k < wr.heap.size
    · exact h6 k (k3' k hk hlt)
    · omega
  · obtain ⟨q1, q2, q3⟩ := h7 k hk
    exact ⟨by omega, q2, fun hx => q3 (k3' k hx q1)⟩
  · exact k4.mono fun k _ hn hN => hn (fun hx => (h7 k hN).2.2 hx)
theorem Duo.bel {B : Nat} {w : World} {N : Nat → Prop} {b x : Nat} {rb rx : List T} {wr : World} (h : Duo B w N b rb x rx wr) : Below B w wr := by
  obtain ⟨v, l, u, h1, h2, h3, h5, h6, h7, h8, h9⟩ := h
  exact h8
theorem Duo.le {B : Nat} {w : World} {N : Nat → Prop} {b x : Nat} {rb rx : List T} {wr : World} (h : Duo B w N b rb x rx wr) : B ≤ wr.heap.size := by
  obtain ⟨v, l, u, h1, h2, h3, h5, h6, h7, h8, h9⟩ := h
  exact h9
theorem Duo.pset {B : Nat} {w : World} {N : Nat → Prop} {b x : Nat} {rb rx : List T} {wr : World} (h : Duo B w N b rb x rx wr) (hg : WheelMath.Good rb) (id tm : Int) :
    Calls Try.prog 11 #[.pointer (some ⟨b, 0, none⟩), .int .i64 id, .int .i64 tm] wr fun e w' => e = .returned (.int .i64 (aSet rb id tm).2) ∧ Duo B w N b (aSet rb id tm).1 x rx w' ∧ Chg (fun k => ¬ N k) wr w' :=
  (h.prog (Q := fun e _ => e = .returned (.int .i64 (aSet rb id tm).2)) (fun S hS => set_all hS hg id tm)).mono fun e w' ⟨k1, k2, k3, _⟩ => ⟨k1, k2, k3⟩
theorem Duo.rset {B : Nat} {w : World} {N : Nat → Prop} {b x : Nat} {rb rx : List T} {wr : World} (h : Duo B w N b rb x rx wr) (hg : WheelMath.Good rx) (id tm : Int) :
    Calls Try.prog 10 #[.pointer (some ⟨x, 0, none⟩), .int .i64 id, .int .i64 tm] wr fun e w' => e = .returned (.int .i64 (aSet rx id tm).2) ∧ Duo B w N b rb x (aSet rx id tm).1 w' ∧ Chg (fun k => ¬ N k) wr w' :=
  h.ref (Q := fun e _ => e = .returned (.int .i64 (aSet rx id tm).2)) (fun S u hu hS => refSet_all hu hS hg id tm)
theorem Duo.pstop {B : Nat} {w : World} {N : Nat → Prop} {b x : Nat} {rb rx : List T} {wr : World} (h : Duo B w N b rb x rx wr) (hg : WheelMath.Good rb) (id : Int) :
    Calls Try.prog 12 #[.pointer (some ⟨b, 0, none⟩), .int .i64 id] wr fun e w' => e = .returned (.bool (decide (has rb id))) ∧ Duo B w N b (rem rb id) x rx w' ∧ Chg (fun k => ¬ N k) wr w' :=
  (h.prog (Q := fun e _ => e = .returned (.bool (decide (has rb id)))) (fun S hS => stop_all hS hg id)).mono fun e w' ⟨k1, k2, k3, _⟩ => ⟨k1, k2, k3⟩
theorem Duo.rstop {B : Nat} {w : World} {N : Nat → Prop} {b x : Nat} {rb rx : List T} {wr : World} (h : Duo B w N b rb x rx wr) (hg : WheelMath.Good rx) (id : Int) :
    Calls Try.prog 13 #[.pointer (some ⟨x, 0, none⟩), .int .i64 id] wr fun e w' => e = .returned (.bool (decide (has rx id))) ∧ Duo B w N b rb x (rem rx id) w' ∧ Chg (fun k => ¬ N k) wr w' :=
  h.ref (Q := fun e _ => e = .returned (.bool (decide (has rx id)))) (fun S u hu hS => refStop_all hu hS hg id)
theorem Duo.pnext {B : Nat} {w : World} {N : Nat → Prop} {b x : Nat} {rb rx : List T} {wr : World} (h : Duo B w N b rb x rx wr) (hg : WheelMath.Good rb) :
    Calls Try.prog 18 #[.pointer (some ⟨b, 0, none⟩)] wr fun e w' => e = .returned (.tuple #[.int .i64 (nextI rb), .bool (nextB rb)]) ∧ Duo B w N b rb x rx w' := by
  have h0 := h
  obtain ⟨v, l, u, h1, h2, h3, h5, h6, h7, h8, h9⟩ := h
  exact (next_any wr b v l rb h1 h2 hg).mono fun e w' ⟨k1, k2⟩ => ⟨k1, h0.below k2⟩
theorem Duo.rnext {B : Nat} {w : World} {N : Nat → Prop} {b x : Nat} {rb rx : List T} {wr : World} (h : Duo B w N b rb x rx wr) :
    Calls Try.prog 19 #[.pointer (some ⟨x, 0, none⟩)] wr fun e w' => e = .returned (.tuple #[.int .i64 (nextI rx), .bool (nextB rx)]) ∧ w' = wr := by
  obtain ⟨v, l, u, h1, h2, h3, h5, h6, h7, h8, h9⟩ := h
  exact refNext_any wr x u rx h3
theorem Duo.plen {B : Nat} {w : World} {N : Nat → Prop} {b x : Nat} {rb rx : List T} {wr : World} (h : Duo B w N b rb x rx wr) :
    Calls Try.prog 20 #[.pointer (some ⟨b, 0, none⟩)] wr fun e w' => e = .returned (.int .i64 (rb.length : Int)) ∧ w' = wr := by
  obtain ⟨v, l, u, h1, h2, h3, h5, h6, h7, h8, h9⟩ := h
  rw [← h2.length_eq]
  exact len_any wr b v l h1
theorem Duo.rlen {B : Nat} {w : World} {N : Nat → Prop} {b x : Nat} {rb rx : List T} {wr : World} (h : Duo B w N b rb x rx wr) :
    Calls Try.prog 21 #[.pointer (some ⟨x, 0, none⟩)] wr fun e w' => e = .returned (.int .i64 (rx.length : Int)) ∧ w' = wr := by
  obtain ⟨v, l, u, h1, h2, h3, h5, h6, h7, h8, h9⟩ := h
  exact refLen_any wr x u rx h3
/-- Due of the program's: a row of its own, which is kept from then on. -/
def PDue (B : Nat) (w : World) (N : Nat → Prop) (b : Nat) (rb : List T) (x : Nat) (rx : List T) (now : Int) (wr : World) (e : Ending) (w' : World) : Prop :=
  ∃ vi, e = .returned vi ∧ w'.ownsRow wr.heap.size 3 1 vi (told rb now).length ((told rb now).map fun n => .int .i64 n) ∧ Duo B w (fun k => N k ∨ vi.ownBlock = some k) b (left rb now) x rx w' ∧ Chg (fun k => ¬ N k) wr w'
theorem Duo.pdue {B : Nat} {w : World} {N : Nat → Prop} {b x : Nat} {rb rx : List T} {wr : World} (h : Duo B w N b rb x rx wr) (hg : WheelMath.Good rb) (now : Int) :
    Calls Try.prog 14 #[.pointer (some ⟨b, 0, none⟩), .int .i64 now] wr fun e w' => PDue B w N b rb x rx now wr e w' := by
  have hyy : ∃ u, wr.cell? ⟨x, 0, none⟩ = some u ∧ ∀ k, fpw x u k → k < wr.heap.size := by
    obtain ⟨v, l, u, h1, h2, h3, h5, h6, h7, h8, h9⟩ := h
    exact ⟨u, h3.cell, rw_lt h3⟩
  refine (h.prog (Q := fun e w' => ∃ vi, e = .returned vi ∧ w'.ownsRow wr.heap.size 3 1 vi (told rb now).length ((told rb now).map fun n => .int .i64 n) ∧ ∀ v', w'.cell? ⟨b, 0, none⟩ = some v' → ∀ g, vi.ownBlock = some g → ¬ fpw b v' g) (rb' := left rb now) (fun S hS => (due_all hS hg now).mono fun e w' ⟨vi, k1, k2, k3, k4⟩ => ⟨⟨vi, k1, k2, k4⟩, k3⟩)).mono ?_
  rintro e w' ⟨⟨vi, k1, k2, k4⟩, ht, hc, hcy⟩
  refine ⟨vi, k1, k2, ?_, hc⟩
  obtain ⟨v, l, u, h1, h2, h3, h5, h6, h7, h8, h9⟩ := ht
  refine ⟨v, l, u, h1, h2, h3, h5, h6, fun k hk => ?_, h8, h9⟩
  rcases hk with hk | hk
  · exact h7 k hk
  · refine ⟨(k2.lt k hk).2, k4 v h1.cell k hk, fun hf => ?_⟩
    have h10 := (k2.lt k hk).1
    obtain ⟨u0, c0, l0⟩ := hyy
    have k5 := h3.cell
    rw [hcy, c0] at k5
    cases k5
    have := l0 k hf
    omega
theorem Duo.rdue {B : Nat} {w : World} {N : Nat → Prop} {b x : Nat} {rb rx : List T} {wr : World} (h : Duo B w N b rb x rx wr) (hl : rx.length ≤ 200) (now : Int) :
    Calls Try.prog 16 #[.pointer (some ⟨x, 0, none⟩), .int .i64 now] wr fun e w' => (∃ vo, e = .returned vo ∧ IRow w' vo (told rx now)) ∧ Duo B w N b rb x (left rx now) w' ∧ Chg (fun k => ¬ N k) wr w' :=
  h.ref (Q := fun e w' => ∃ vo, e = .returned vo ∧ IRow w' vo (told rx now)) (fun S u hu hS => (refDue_any wr x u rx hl hu now).mono fun e w' ⟨vo, k1, k2, k3⟩ => ⟨⟨vo, k1, k2⟩, rok_rin hu hS k3⟩)
end Go.Proofs.Ythenmngjojgmkaa
