/- Lists of pairs of disks. -/
import Derived.Test.YtnemnkmogbnjcaaDoesW
import Derived.Test.YtnemnkmogbnjcaaCopyAllW
import Derived.Test.YtnemnkmogbnjcaaPlaysW
import Derived.Maps.AppendAt
set_option linter.unusedVariables false
namespace Go.Proofs.Ytnemnkmogbnjcaa
open Go.RowKit
open DiskMath

def ownB (bx br : Nat) (V : Nat → Value) (k : Nat) : Prop := fp bx V k ∨ k = br
def pcells (X R : Nat → Nat) : Nat → List Value
  | 0 => []
  | k + 1 => pcells X R k ++ [.pointer (some ⟨X k, 0, none⟩), .pointer (some ⟨R k, 0, none⟩)]
theorem pcells_length (X R : Nat → Nat) : ∀ k, (pcells X R k).length = k * 2
  | 0 => rfl
  | k + 1 => by unfold pcells; rw [List.length_append, pcells_length X R k]; simp; omega
theorem pcells_at (X R : Nat → Nat) : ∀ (k i : Nat), i < k → (pcells X R k)[i * 2]? = some (.pointer (some ⟨X i, 0, none⟩)) ∧ (pcells X R k)[i * 2 + 1]? = some (.pointer (some ⟨R i, 0, none⟩))
  | 0, i, h => by omega
  | k + 1, i, h => by
    unfold pcells
    have hl := pcells_length X R k
    by_cases e : i = k
    · subst e
      rw [List.getElem?_append_right (by omega), List.getElem?_append_right (by omega), hl]
      simp
    · rw [List.getElem?_append_left (by omega), List.getElem?_append_left (by omega)]
      exact pcells_at X R k i (by omega)
theorem pcells_upd (X R : Nat → Nat) (n x r : Nat) : ∀ k, k ≤ n → pcells (upd X n x) (upd R n r) k = pcells X R k
  | 0, _ => rfl
  | k + 1, h => by
    unfold pcells
    rw [pcells_upd X R n x r k (by omega), upd_other _ _ _ _ (by omega), upd_other _ _ _ _ (by omega)]
structure Pairs (B : Nat) (wr : World) (n : Nat) (lv : Value) (X R : Nat → Nat) (VV : Nat → Nat → Value) (D : Nat → DS) : Prop where
  row : wr.ownsRow B 31 2 lv n (pcells X R n)
  prog : ∀ i, i < n → PDisk wr (X i) (VV i) (D i)
  ref : ∀ i, i < n → RDisk wr (R i) (D i)
  ok : ∀ i, i < n → Ok (D i)
  low : ∀ i, i < n → ∀ k, ownB (X i) (R i) (VV i) k → B ≤ k
  apart : ∀ i j, i < n → j < n → i ≠ j → ∀ k, ownB (X i) (R i) (VV i) k → ¬ ownB (X j) (R j) (VV j) k
  two : ∀ i, i < n → ¬ fp (X i) (VV i) (R i)
  off : ∀ g, lv.ownBlock = some g → ∀ i, i < n → ¬ ownB (X i) (R i) (VV i) g
theorem row_chg {S : Nat → Prop} {w w' : World} {B e sz n : Nat} {v : Value} {xs : List Value} (h : w.ownsRow B e sz v n xs) (hc : Chg S w w') (hS : ∀ g, v.ownBlock = some g → ¬ S g) : w'.ownsRow B e sz v n xs := by
  refine ⟨h.1, ?_⟩
  rcases h.2 with hn | ⟨g, cap, cur, hv, hbb, hgg, rest⟩
  · exact Or.inl hn
  · refine Or.inr ⟨g, cap, cur, hv, hbb, ?_, rest⟩
    rw [hc.block g (Array.getElem?_eq_some_iff.1 hgg).1 (hS g (by rw [hv]; rfl))]
    exact hgg
theorem ownB_lt {B : Nat} {wr : World} {n : Nat} {lv : Value} {X : Nat → Nat} {R : Nat → Nat} {VV : Nat → Nat → Value} {D : Nat → DS} (h : Pairs B wr n lv X R VV D) (i : Nat) (hi : i < n) (k : Nat) (hk : ownB (X i) (R i) (VV i) k) : k < wr.heap.size := by
  rcases hk with hk | rfl
  · exact fp_lt (h.prog i hi) k hk
  · exact (h.ref i hi).lt
theorem pairs_chg {B : Nat} {wr : World} {w' : World} {n : Nat} {lv : Value} {X : Nat → Nat} {R : Nat → Nat} {VV : Nat → Nat → Value} {D : Nat → DS} {S : Nat → Prop} (h : Pairs B wr n lv X R VV D) (hc : Chg S wr w') (hl : ∀ g, lv.ownBlock = some g → ¬ S g) (ho : ∀ i, i < n → ∀ k, ownB (X i) (R i) (VV i) k → ¬ S k) : Pairs B w' n lv X R VV D :=
  ⟨row_chg h.row hc hl, fun i hi => pdisk_chg (h.prog i hi) hc (fun k hk => ho i hi k (Or.inl hk)), fun i hi => rdisk_chg (h.ref i hi) hc (ho i hi _ (Or.inr rfl)), h.ok, h.low, h.apart, h.two, h.off⟩
theorem pairs_below {B : Nat} {wr : World} {w' : World} {n : Nat} {lv : Value} {X : Nat → Nat} {R : Nat → Nat} {VV : Nat → Nat → Value} {D : Nat → DS} (h : Pairs B wr n lv X R VV D) (hb : Below wr.heap.size wr w') : Pairs B w' n lv X R VV D :=
  pairs_chg (S := fun k => wr.heap.size ≤ k) h ⟨hb.os, hb.tape, hb.output, hb.size, fun k hk _ => hb.block k hk⟩ (fun g hg => by have := (h.row.lt g hg).2; omega) (fun i hi k hk => by have := ownB_lt h i hi k hk; omega)
theorem pairs_does {B : Nat} {wr : World} {w' : World} {n : Nat} {lv : Value} {X : Nat → Nat} {R : Nat → Nat} {VV : Nat → Nat → Value} {D : Nat → DS} (h : Pairs B wr n lv X R VV D) (i : Nat) (hi : i < n) (d' : DS) (hok : Ok d') (ht : Two wr (X i) (R i) (VV i) d' d' w') : ∃ V', Pairs B w' n lv X R (upd VV i V') (upd D i d') ∧ Below B wr w' := by
  obtain ⟨V', t1, t2, t3, t4⟩ := ht
  have hBs : B < wr.heap.size := by
    have h1 := (h.prog i hi).lt
    have h2 := h.low i hi (X i) (Or.inl (Or.inl rfl))
    omega
  have hn : ∀ k, ownB (X i) (R i) V' k → ownB (X i) (R i) (VV i) k ∨ wr.heap.size ≤ k := fun k hk => by
    rcases hk with hk | hk
    · rcases t4 k hk with h1 | h1
      · exact Or.inl (Or.inl h1)
      · exact Or.inr h1
    · exact Or.inl (Or.inr hk)
  refine ⟨V', ⟨row_chg h.row t3 (fun g hg => h.off g hg i hi), fun j hj => ?_, fun j hj => ?_, fun j hj => ?_, fun j hj k hk => ?_, fun j m hj hm hjm k hk => ?_, fun j hj => ?_, fun g hg j hj => ?_⟩, ⟨t3.os, t3.tape, t3.output, t3.size, fun k hk => t3.block k (by omega) (fun ho => by have := h.low i hi k ho; omega)⟩⟩
  · by_cases e : j = i
    · subst e; rw [upd_same, upd_same]; exact t1
    · rw [upd_other _ _ _ _ e, upd_other _ _ _ _ e]
      exact pdisk_chg (h.prog j hj) t3 (fun k hk ho => h.apart j i hj hi e k (Or.inl hk) ho)
  · by_cases e : j = i
    · subst e; rw [upd_same]; exact t2
    · rw [upd_other _ _ _ _ e]
      exact rdisk_chg (h.ref j hj) t3 (fun ho => h.apart j i hj hi e _ (Or.inr rfl) ho)
  · by_cases e : j = i
    · subst e; rw [upd_same]; exact hok
    · rw [upd_other _ _ _ _ e]; exact h.ok j hj
  · by_cases e : j = i
    · subst e
      rw [upd_same] at hk
      rcases hn k hk with h1 | h1
      · exact h.low j hj k h1
      · omega
    · rw [upd_other _ _ _ _ e] at hk; exact h.low j hj k hk
  · by_cases e : j = i
    · subst e
      rw [upd_same] at hk
      rw [upd_other _ _ _ _ (fun e => hjm e.symm)]
      rcases hn k hk with h1 | h1
      · exact h.apart j m hj hm hjm k h1
      · intro h2; have := ownB_lt h m hm k h2; omega
    · rw [upd_other _ _ _ _ e] at hk
      by_cases e2 : m = i
      · subst e2
        rw [upd_same]
        intro h2
        rcases hn k h2 with h1 | h1
        · exact h.apart j m hj hm hjm k hk h1
        · have := ownB_lt h j hj k hk; omega
      · rw [upd_other _ _ _ _ e2]; exact h.apart j m hj hm hjm k hk
  · by_cases e : j = i
    · subst e
      rw [upd_same]
      intro h1
      rcases t4 _ h1 with h2 | h2
      · exact h.two j hj h2
      · have := (h.ref j hj).lt; omega
    · rw [upd_other _ _ _ _ e]; exact h.two j hj
  · by_cases e : j = i
    · subst e
      rw [upd_same]
      intro h1
      rcases hn g h1 with h2 | h2
      · exact h.off g hg j hj h2
      · have := (h.row.lt g hg).2; omega
    · rw [upd_other _ _ _ _ e]; exact h.off g hg j hj
theorem pairs_add {B : Nat} {wz : World} {w3 : World} {n : Nat} {lv : Value} {lv' : Value} {X : Nat → Nat} {R : Nat → Nat} {VV : Nat → Nat → Value} {D : Nat → DS} (h : Pairs B wz n lv X R VV D) (s : Nat) (hs1 : ∀ i, i < n → ∀ k, ownB (X i) (R i) (VV i) k → k < s) (hs2 : ∀ g, lv.ownBlock = some g → g < s) (hBs : B ≤ s) {c rr : Nat} {V' : Nat → Value} {dd : DS} (hp : PDisk wz c V' dd) (hr : RDisk wz rr dd) (hok : Ok dd)
    (hnew : ∀ k, ownB c rr V' k → s ≤ k) (htwo : ¬ fp c V' rr) (hg : wz.grownBy w3 lv.ownBlock) (hrow : w3.ownsRow B 31 2 lv' (n + 1) (pcells X R n ++ [.pointer (some ⟨c, 0, none⟩), .pointer (some ⟨rr, 0, none⟩)])) (hw : lv'.ownBlock = lv.ownBlock ∨ lv'.ownBlock = some wz.heap.size) :
    Pairs B w3 (n + 1) lv' (upd X n c) (upd R n rr) (upd VV n V') (upd D n dd) := by
  have hc : Chg (fun k => lv.ownBlock = some k) wz w3 := ⟨hg.os, hg.tape, hg.output, hg.size, fun k hk hn => hg.block k hk (fun e => hn e.symm)⟩
  have hlow : ∀ k, ownB c rr V' k → k < wz.heap.size := fun k hk => by
    rcases hk with hk | rfl
    · exact fp_lt hp k hk
    · exact hr.lt
  have hnl : ∀ k, ownB c rr V' k → ¬ lv.ownBlock = some k := fun k hk e => by
    have h1 := hnew k hk
    have h2 := hs2 k e
    omega
  refine ⟨?_, fun j hj => ?_, fun j hj => ?_, fun j hj => ?_, fun j hj k hk => ?_, fun j m hj hm hjm k hk => ?_, fun j hj => ?_, fun g hgg j hj => ?_⟩
  · rw [show pcells (upd X n c) (upd R n rr) (n + 1) = pcells X R n ++ [.pointer (some ⟨c, 0, none⟩), .pointer (some ⟨rr, 0, none⟩)] by
      show pcells (upd X n c) (upd R n rr) n ++ [.pointer (some ⟨upd X n c n, 0, none⟩), .pointer (some ⟨upd R n rr n, 0, none⟩)] = _
      rw [pcells_upd X R n c rr n (Nat.le_refl _), upd_same, upd_same]]
    exact hrow
  · by_cases e : j = n
    · subst e; rw [upd_same, upd_same, upd_same]; exact pdisk_chg hp hc (fun k hk => hnl k (Or.inl hk))
    · rw [upd_other _ _ _ _ e, upd_other _ _ _ _ e, upd_other _ _ _ _ e]
      exact pdisk_chg (h.prog j (by omega)) hc (fun k hk e2 => h.off k e2 j (by omega) (Or.inl hk))
  · by_cases e : j = n
    · subst e; rw [upd_same, upd_same]; exact rdisk_chg hr hc (hnl _ (Or.inr rfl))
    · rw [upd_other _ _ _ _ e, upd_other _ _ _ _ e]
      exact rdisk_chg (h.ref j (by omega)) hc (fun e2 => h.off _ e2 j (by omega) (Or.inr rfl))
  · by_cases e : j = n
    · subst e; rw [upd_same]; exact hok
    · rw [upd_other _ _ _ _ e]; exact h.ok j (by omega)
  · by_cases e : j = n
    · subst e
      rw [upd_same, upd_same, upd_same] at hk
      have := hnew k hk
      omega
    · rw [upd_other _ _ _ _ e, upd_other _ _ _ _ e, upd_other _ _ _ _ e] at hk; exact h.low j (by omega) k hk
  · by_cases e : j = n
    · subst e
      have e2 : m ≠ j := fun e => hjm e.symm
      rw [upd_same, upd_same, upd_same] at hk
      rw [upd_other _ _ _ _ e2, upd_other _ _ _ _ e2, upd_other _ _ _ _ e2]
      intro h2
      have h3 := hnew k hk
      have h4 := hs1 m (by omega) k h2
      omega
    · rw [upd_other _ _ _ _ e, upd_other _ _ _ _ e, upd_other _ _ _ _ e] at hk
      by_cases e2 : m = n
      · subst e2
        rw [upd_same, upd_same, upd_same]
        intro h2
        have h3 := hnew k h2
        have h4 := hs1 j (by omega) k hk
        omega
      · rw [upd_other _ _ _ _ e2, upd_other _ _ _ _ e2, upd_other _ _ _ _ e2]; exact h.apart j m (by omega) (by omega) hjm k hk
  · by_cases e : j = n
    · subst e; rw [upd_same, upd_same, upd_same]; exact htwo
    · rw [upd_other _ _ _ _ e, upd_other _ _ _ _ e, upd_other _ _ _ _ e]; exact h.two j (by omega)
  · have hj2 : j = n ∨ j < n := by omega
    rcases hw with hw | hw
    · rw [hw] at hgg
      rcases hj2 with rfl | hj2
      · rw [upd_same, upd_same, upd_same]
        exact fun h1 => hnl g h1 hgg
      · have e : j ≠ n := by omega
        rw [upd_other _ _ _ _ e, upd_other _ _ _ _ e, upd_other _ _ _ _ e]
        exact h.off g hgg j hj2
    · rw [hw] at hgg
      obtain rfl : wz.heap.size = g := by simpa using hgg
      rcases hj2 with rfl | hj2
      · rw [upd_same, upd_same, upd_same]
        intro h1; have := hlow _ h1; omega
      · have e : j ≠ n := by omega
        rw [upd_other _ _ _ _ e, upd_other _ _ _ _ e, upd_other _ _ _ _ e]
        intro h1; have := ownB_lt h j hj2 _ h1; omega
theorem add_zero_plain2 (g j : Nat) : (⟨g, 0, none⟩ : Addr).add j = ⟨g, j, none⟩ := by unfold Addr.add; split <;> simp_all
theorem prow {B : Nat} {wr : World} {n : Nat} {lv : Value} {X : Nat → Nat} {R : Nat → Nat} {VV : Nat → Nat → Value} {D : Nat → DS} (h : Pairs B wr n lv X R VV D) (h0 : 1 ≤ n) : ∃ g cap, lv = .slice (some ⟨g, 0, none⟩) n cap ∧ B ≤ g ∧ g < wr.heap.size ∧ n ≤ cap ∧
    ∀ i, i < n → wr.cell? ⟨g, i * 2, none⟩ = some (.pointer (some ⟨X i, 0, none⟩)) ∧ wr.cell? ⟨g, i * 2 + 1, none⟩ = some (.pointer (some ⟨R i, 0, none⟩)) := by
  have hrow := h.row
  rcases hrow.2 with ⟨rfl, hz⟩ | ⟨g, cap, cur, rfl, hb, hg, hnc, hcm, hcs, htake⟩
  · omega
  · refine ⟨g, cap, rfl, hb, (Array.getElem?_eq_some_iff.1 hg).1, hnc, fun i hi => ?_⟩
    have hf := pcells_at X R n i hi
    constructor
    · have := hrow.cells (g := g) rfl (i * 2) _ hf.1
      rwa [add_zero_plain2] at this
    · have := hrow.cells (g := g) rfl (i * 2 + 1) _ hf.2
      rwa [add_zero_plain2] at this
end Go.Proofs.Ytnemnkmogbnjcaa
