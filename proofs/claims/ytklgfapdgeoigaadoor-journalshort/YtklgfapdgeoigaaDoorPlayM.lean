/- What a journal's disk is behind Adds, Syncs and Compacts: the mathematics. -/
import Derived.Test.YtklgfapdgeoigaaDoorSaysW
import Derived.Test.YtklgfapdgeoigaaDoorAMath
set_option linter.unusedVariables false
set_option maxRecDepth 100000
namespace Go.Proofs.YtklgfapdgeoigaaDoor
open JournalMath DiskMath
open FrameMath (scan wrap wraps)

/-- What was told so far: the snapshot, the records behind it, how many of them are safe. -/
structure Play (s : JS) (sn : List UInt8) (rs : List (List UInt8)) (sf : Nat) : Prop where
  says : Says s sn rs
  two : s.d.F 2 = []
  three : s.d.F 3 = []
  safe : FrameMath.used (head s.g sn :: rs.take sf) ≤ s.d.S s.f
  le : sf ≤ rs.length
theorem play_begun (r : Nat) : Play (begun0 r) [] [] 0 := by
  refine ⟨says_begun r, ?_, ?_, ?_, Nat.le_refl _⟩
  · show (begins (new r) 1 0 []).F 2 = []
    unfold begins cut syn app
    simp [upd, new]
  · show (begins (new r) 1 0 []).F 3 = []
    unfold begins cut syn app
    simp [upd, new]
  · show FrameMath.used [head 1 []] ≤ (begins (new r) 1 0 []).S 0
    unfold begins cut syn app
    simp [upd, new, FrameMath.used, FrameMath.wrap_length]
theorem play_add (s : JS) (sn r : List UInt8) (rs : List (List UInt8)) (sf : Nat) (h : Play s sn rs sf) (hk : JOk s) (h0 : (jAdd s r).2 = 0) : Play (jAdd s r).1 sn (rs ++ [r]) sf := by
  have hs := says_add s sn r rs h.says hk h0
  have hf := hk.file
  unfold jAdd at h0 hs ⊢
  by_cases h1 : 4000 < r.length
  · rw [if_pos h1] at h0; exact absurd h0 (by simp)
  · rw [if_neg h1] at h0 hs ⊢
    by_cases h2 : s.d.R < used s.d + (wrap r).length
    · rw [if_pos h2] at h0; exact absurd h0 (by simp)
    · rw [if_neg h2] at hs ⊢
      refine ⟨hs, ?_, ?_, ?_, by rw [List.length_append]; have := h.le; omega⟩
      · show (app s.d s.f (wrap r)).F 2 = []
        unfold app
        simp only [upd_other _ _ _ _ (show 2 ≠ s.f by omega)]
        exact h.two
      · show (app s.d s.f (wrap r)).F 3 = []
        unfold app
        simp only [upd_other _ _ _ _ (show 3 ≠ s.f by omega)]
        exact h.three
      · show FrameMath.used (head s.g sn :: (rs ++ [r]).take sf) ≤ s.d.S s.f
        rw [List.take_append_of_le_length h.le]
        exact h.safe
theorem play_syn (s : JS) (sn : List UInt8) (rs : List (List UInt8)) (sf : Nat) (h : Play s sn rs sf) : Play (jSyn s) sn rs rs.length := by
  refine ⟨says_syn s sn rs h.says, h.two, h.three, ?_, Nat.le_refl _⟩
  show FrameMath.used (head s.g sn :: rs.take rs.length) ≤ upd s.d.S s.f (s.d.F s.f).length s.f
  rw [List.take_length, upd_same, h.says.holds, FrameMath.wraps_length]
  exact Nat.le_refl _
theorem play_cmp (s : JS) (sn snap : List UInt8) (rs : List (List UInt8)) (sf : Nat) (h : Play s sn rs sf) (hk : JOk s) (h0 : (jCmp s snap).2 = 0) : Play (jCmp s snap).1 snap [] 0 := by
  have hs := says_cmp s sn snap rs h.says hk h0
  have hf := hk.file
  unfold jCmp at h0 hs ⊢
  by_cases h1 : 190000 < snap.length ∨ s.g = 1125899906842624
  · rw [if_pos h1] at h0; exact absurd h0 (by simp)
  · rw [if_neg h1] at h0 hs ⊢
    unfold jBegin at h0 hs ⊢
    by_cases h2 : s.d.R < used s.d + (wrap (head (s.g + 1) snap)).length
    · rw [if_pos h2] at h0; exact absurd h0 (by simp)
    · rw [if_neg h2] at hs ⊢
      have n2 : (2 : Nat) ≠ s.f := by omega
      have n3 : (3 : Nat) ≠ s.f := by omega
      have m2 : (2 : Nat) ≠ 1 - s.f := by omega
      have m3 : (3 : Nat) ≠ 1 - s.f := by omega
      refine ⟨hs, ?_, ?_, ?_, Nat.le_refl _⟩
      · show (begins s.d s.f s.g snap).F 2 = []
        unfold begins cut syn app
        simp only [upd_other _ _ _ _ n2, upd_other _ _ _ _ m2]
        exact h.two
      · show (begins s.d s.f s.g snap).F 3 = []
        unfold begins cut syn app
        simp only [upd_other _ _ _ _ n3, upd_other _ _ _ _ m3]
        exact h.three
      · show FrameMath.used [head (s.g + 1) snap] ≤ (begins s.d s.f s.g snap).S (1 - s.f)
        unfold begins cut syn app
        simp only [upd_other _ _ _ _ (show 1 - s.f ≠ s.f by omega), upd_same]
        rw [h.says.empty, List.nil_append, FrameMath.wrap_length]
        exact Nat.le_refl _
/-- Behind a crash: the file that holds is cut off behind what was safe; the other one is empty. -/
theorem play_crash (s : JS) (sn : List UInt8) (rs : List (List UInt8)) (sf : Nat) (h : Play s sn rs sf) (hk : JOk s) (keep : Nat) :
    ∃ k, sf ≤ k ∧ k ≤ rs.length ∧ found ((crash s.d keep).F s.f) = ⟨s.g, sn, rs.take k, FrameMath.used (head s.g sn :: rs.take k)⟩ ∧ found ((crash s.d keep).F (1 - s.f)) = ⟨0, [], [], 0⟩ ∧
      k = kept rs (((crash s.d keep).F s.f).length - ((head s.g sn).length + 8)) := by
  have hf := hk.file
  have ht := crash_tells s.d hk.ok keep s.f (by omega)
  have hcf : (crash s.d keep).F s.f = (wraps (head s.g sn :: rs)).take ((crash s.d keep).F s.f).length := by rw [← h.says.holds]; exact ht.2.1.symm
  have hsafe := h.safe
  have hu : FrameMath.used (head s.g sn :: rs.take sf) = (head s.g sn).length + 8 + FrameMath.used (rs.take sf) := rfl
  have hm : (head s.g sn).length + 8 ≤ ((crash s.d keep).F s.f).length := by have := ht.2.2.1; omega
  refine ⟨kept rs (((crash s.d keep).F s.f).length - ((head s.g sn).length + 8)), ?_, kept_le _ _, ?_, ?_, rfl⟩
  · refine kept_ge rs sf _ h.le ?_
    have := ht.2.2.1
    omega
  · have := found_cut s.g sn rs ((crash s.d keep).F s.f).length h.says.gen hk.gen h.says.snap h.says.recs hm
    rw [← hcf] at this
    exact this
  · have h2 := (crash_tells s.d hk.ok keep (1 - s.f) (by omega)).1
    rw [h.says.empty] at h2
    have : (crash s.d keep).F (1 - s.f) = [] := List.eq_nil_of_length_eq_zero (by simpa using h2)
    rw [this, found_nil]
theorem crash_more (d : DS) (hk : Ok d) (a b i : Nat) (hi : i < 4) (hab : a ≤ b) : ((crash d a).F i).length ≤ ((crash d b).F i).length := by
  have hl : ∀ k, left d a k ≤ left d b k := by
    intro k
    have h1 := kept_is d a k
    have h2 := kept_is d b k
    omega
  have h := hl i
  rw [(crash_file d a i hi).1, (crash_file d b i hi).1, List.length_take, List.length_take]
  unfold stay
  omega
end Go.Proofs.YtklgfapdgeoigaaDoor
