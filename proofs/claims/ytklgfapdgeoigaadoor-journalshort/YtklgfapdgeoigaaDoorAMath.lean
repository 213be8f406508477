/- Open of what Open left: the mathematics. -/
import Derived.Test.YtklgfapdgeoigaaDoorJMath2
set_option linter.unusedVariables false
namespace JournalMath
open DiskMath (DS upd Ok app syn cut crash)
open FrameMath (scan wrap wraps fits)

theorem while_again (t : List (List UInt8)) : (t.takeWhile short).takeWhile short = t.takeWhile short := by
  induction t with
  | nil => rfl
  | cons x t ih =>
    by_cases h : short x = true
    · rw [List.takeWhile_cons, if_pos h, List.takeWhile_cons, if_pos h, ih]
    · rw [List.takeWhile_cons, if_neg h]; rfl
theorem wraps_prefix (xs ys : List (List UInt8)) : (wraps (xs ++ ys)).take (FrameMath.used xs) = wraps xs := by
  rw [FrameMath.wraps_append]
  exact List.take_left' (FrameMath.wraps_length xs)
/-- What was found stands by itself. -/
theorem found_again (l : List UInt8) (h : (found l).gen ≠ 0) : found (l.take (found l).size) = found l := by
  unfold found at h ⊢
  have hst := FrameMath.scan_stands l
  have hws := FrameMath.wraps_scan l
  have hul := FrameMath.used_le l
  generalize hx : scan l = xs at *
  cases xs with
  | nil => exact absurd rfl h
  | cons hd t =>
    by_cases h0 : (readHead hd).1 = 0
    · rw [foundOf_no hd t h0] at h; exact absurd rfl h
    · rw [foundOf_yes hd t h0]
      simp only
      have hsplit : hd :: t = (hd :: t.takeWhile short) ++ t.dropWhile short := by rw [List.cons_append, List.takeWhile_append_dropWhile]
      have hu : FrameMath.used (hd :: t.takeWhile short) ≤ FrameMath.used (hd :: t) := by
        have := FrameMath.used_append (hd :: t.takeWhile short) (t.dropWhile short)
        rw [← hsplit] at this
        omega
      have e : l.take (FrameMath.used (hd :: t.takeWhile short)) = wraps (hd :: t.takeWhile short) := by
        have h1 : l.take (FrameMath.used (hd :: t.takeWhile short)) = (l.take (FrameMath.used (hd :: t))).take (FrameMath.used (hd :: t.takeWhile short)) := by
          rw [List.take_take, Nat.min_eq_left hu]
        rw [h1, ← hws]
        have h2 := wraps_prefix (hd :: t.takeWhile short) (t.dropWhile short)
        rw [← hsplit] at h2
        exact h2
      have hfit : fits (hd :: t.takeWhile short) := fun r hr => hst.1 r (by
        rw [hsplit]; exact List.mem_append_left _ hr)
      rw [e, FrameMath.scan_all _ hfit, foundOf_yes hd _ h0, while_again]
/-- A disk behind Open: the file that holds is what was found, all of it safe; the other one is empty. -/
theorem opened_files (d : DS) (f : Nat) (hf : f ≤ 1) (x : Found) (h : Ok d) (hx : x.size ≤ (d.F f).length) : (opened d f x).d.F f = (d.F f).take x.size ∧ (opened d f x).d.F (1 - f) = [] ∧ (opened d f x).d.S f = x.size ∧ (opened d f x).d.S (1 - f) = 0 := by
  have hne : f ≠ 1 - f := by omega
  have hne2 : 1 - f ≠ f := by omega
  have e1 : ((cut (cut d (1 - f) 0) f x.size).F f) = (d.F f).take x.size := by
    unfold cut
    simp only [DiskMath.upd_same, DiskMath.upd_other _ _ _ _ hne]
  refine ⟨e1, ?_, ?_, ?_⟩
  · show (cut (cut d (1 - f) 0) f x.size).F (1 - f) = []
    unfold cut
    simp only [DiskMath.upd_same, DiskMath.upd_other _ _ _ _ hne2, List.take_zero]
  · show upd _ f ((cut (cut d (1 - f) 0) f x.size).F f).length f = x.size
    rw [DiskMath.upd_same, e1, List.length_take]
    omega
  · show upd _ f _ (1 - f) = 0
    rw [DiskMath.upd_other _ _ _ _ hne2]
    unfold cut
    simp only [DiskMath.upd_same, DiskMath.upd_other _ _ _ _ hne2]
    omega
/-- A crash leaves alone what is safe. -/
theorem crash_safe (d : DS) (i keep : Nat) (hi : i < 4) (h : d.S i = (d.F i).length) : (crash d keep).F i = d.F i := by
  rw [(DiskMath.crash_file d keep i hi).1]
  have : DiskMath.stay d i (DiskMath.left d keep i) = 0 := by unfold DiskMath.stay; omega
  rw [this, Nat.add_zero, h, List.take_length]
end JournalMath
