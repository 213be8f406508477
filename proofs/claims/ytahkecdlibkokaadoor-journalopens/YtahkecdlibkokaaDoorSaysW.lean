/- What a journal's files say, behind each call. -/
import Derived.Test.YtahkecdlibkokaaDoorMadeW
set_option linter.unusedVariables false
set_option maxRecDepth 100000
namespace Go.Proofs.YtahkecdlibkokaaDoor
open Go.RowKit
open JournalMath DiskMath
open FrameMath (scan wrap wraps)
open Fr (Tab tab_below tab_drewN)
open Dk (PDisk RDisk ROk DIn Chg fp fp_lt rdisk_below rdisk_chg chg_below pdisk_below pdisk_chg)

/-- What a journal's file says: the file that holds has a head and records, the other one has nothing. -/
structure Says (s : JS) (sn : List UInt8) (rs : List (List UInt8)) : Prop where
  holds : s.d.F s.f = wraps (head s.g sn :: rs)
  empty : s.d.F (1 - s.f) = []
  snap : sn.length ≤ 190000
  recs : ∀ r ∈ rs, r.length ≤ 4000
  gen : 1 ≤ s.g
  count : s.n = rs.length
theorem wraps_snoc (xs : List (List UInt8)) (r : List UInt8) : wraps xs ++ wrap r = wraps (xs ++ [r]) := by rw [FrameMath.wraps_append, FrameMath.wraps_one]
theorem says_begun (r : Nat) : Says (begun0 r) [] [] := by
  refine ⟨?_, ?_, by decide, fun r h => absurd h (by simp), Nat.le_refl _, rfl⟩
  · show (begins (new r) 1 0 []).F 0 = _
    unfold begins cut syn app
    simp [upd, new, wraps, begun0]
  · show (begins (new r) 1 0 []).F 1 = _
    unfold begins cut syn app
    simp [upd, new]
theorem jok_begun (r : Nat) (h1 : 20 ≤ r) (h2 : r ≤ 1048576) : JOk (begun0 r) := by
  have h := new_room r h1
  have := jok_begin ⟨new r, 1, 0, 0⟩ [] ⟨ok_new r (by omega) h2, Nat.le_refl _, Nat.zero_le _, Nat.zero_le _⟩ (by show 0 < _; omega)
  rw [h] at this
  exact this
theorem says_add (s : JS) (sn r : List UInt8) (rs : List (List UInt8)) (h : Says s sn rs) (hk : JOk s) (h0 : (jAdd s r).2 = 0) : Says (jAdd s r).1 sn (rs ++ [r]) := by
  have hf := hk.file
  unfold jAdd at h0 ⊢
  by_cases h1 : 4000 < r.length
  · rw [if_pos h1] at h0; exact absurd h0 (by simp)
  · rw [if_neg h1] at h0 ⊢
    by_cases h2 : s.d.R < used s.d + (wrap r).length
    · rw [if_pos h2] at h0; exact absurd h0 (by simp)
    · rw [if_neg h2]
      refine ⟨?_, ?_, h.snap, fun x hx => ?_, h.gen, ?_⟩
      · show (app s.d s.f (wrap r)).F s.f = _
        unfold app
        simp only [upd_same]
        rw [h.holds]
        exact wraps_snoc (head s.g sn :: rs) r
      · show (app s.d s.f (wrap r)).F (1 - s.f) = _
        unfold app
        simp only [upd_other _ _ _ _ (show 1 - s.f ≠ s.f by omega)]
        exact h.empty
      · rcases List.mem_append.1 hx with hx | hx
        · exact h.recs x hx
        · obtain rfl := List.mem_singleton.1 hx; omega
      · show s.n + 1 = _
        rw [h.count, List.length_append]
        rfl
theorem add_same (s : JS) (r : List UInt8) (h0 : (jAdd s r).2 ≠ 0) : (jAdd s r).1 = s := by
  unfold jAdd at h0 ⊢
  split
  · rfl
  · rename_i h1
    rw [if_neg h1] at h0
    split
    · rfl
    · rename_i h2; rw [if_neg h2] at h0; exact absurd rfl h0
theorem says_syn (s : JS) (sn : List UInt8) (rs : List (List UInt8)) (h : Says s sn rs) : Says (jSyn s) sn rs := ⟨h.holds, h.empty, h.snap, h.recs, h.gen, h.count⟩
theorem says_cmp (s : JS) (sn snap : List UInt8) (rs : List (List UInt8)) (h : Says s sn rs) (hk : JOk s) (h0 : (jCmp s snap).2 = 0) : Says (jCmp s snap).1 snap [] := by
  have hf := hk.file
  unfold jCmp at h0 ⊢
  by_cases h1 : 190000 < snap.length ∨ s.g = 1125899906842624
  · rw [if_pos h1] at h0; exact absurd h0 (by simp)
  · rw [if_neg h1] at h0 ⊢
    unfold jBegin at h0 ⊢
    by_cases h2 : s.d.R < used s.d + (wrap (head (s.g + 1) snap)).length
    · rw [if_pos h2] at h0; exact absurd h0 (by simp)
    · rw [if_neg h2]
      have e1 : 1 - (1 - s.f) = s.f := by omega
      refine ⟨?_, ?_, by omega, fun r hr => absurd hr (by simp), by show 1 ≤ s.g + 1; omega, rfl⟩
      · show (begins s.d s.f s.g snap).F (1 - s.f) = wraps [head (s.g + 1) snap]
        unfold begins cut syn app
        simp only [upd_other _ _ _ _ (show 1 - s.f ≠ s.f by omega), upd_same]
        rw [h.empty, FrameMath.wraps_one]
        rfl
      · show (begins s.d s.f s.g snap).F (1 - (1 - s.f)) = []
        rw [e1]
        unfold begins cut syn app
        simp only [upd_same, List.take_zero]
theorem cmp_same (s : JS) (snap : List UInt8) (h0 : (jCmp s snap).2 ≠ 0) : (jCmp s snap).1 = s := by
  unfold jCmp at h0 ⊢
  split
  · rfl
  · rename_i h1
    rw [if_neg h1] at h0
    unfold jBegin at h0 ⊢
    split
    · rfl
    · rename_i h2; rw [if_neg h2] at h0; exact absurd rfl h0
/-- What Open finds of such a journal. -/
theorem says_found (s : JS) (sn : List UInt8) (rs : List (List UInt8)) (h : Says s sn rs) (hk : JOk s) : found (s.d.F s.f) = ⟨s.g, sn, rs, (s.d.F s.f).length⟩ ∧ found (s.d.F (1 - s.f)) = ⟨0, [], [], 0⟩ := by
  rw [h.empty, found_nil, h.holds, found_head s.g sn rs h.gen hk.gen h.snap h.recs, FrameMath.wraps_length]
  exact ⟨rfl, rfl⟩
/-- Open of any disk of which one file holds. -/
theorem open_any {T : Nat → Prop} {w w1 : World} {b : Nat} {d : DS} (f : Nat) (hf : f ≤ 1) (hD : DIn T w b d w1) (hk : Ok d) (hG : T 0) (hT : Tab w) (h0 : (found (d.F f)).gen ≠ 0) (h1 : (found (d.F (1 - f))).gen = 0) :
    Calls Tryd.prog 18 #[.pointer (some ⟨b, 0, none⟩)] w1 fun e w' => OpenOk T w w1 b (opened d f (found (d.F f))) (found (d.F f)).snap (found (d.F f)).recs e w' := by
  rcases (show f = 0 ∨ f = 1 by omega) with rfl | rfl
  · exact open_first hD hk hG hT h0 (by rw [show (1 - 0 : Nat) = 1 from rfl] at h1; omega)
  · exact open_second hD hk hG hT (by rw [show (1 - 1 : Nat) = 0 from rfl] at h1; omega)
end Go.Proofs.YtahkecdlibkokaaDoor
