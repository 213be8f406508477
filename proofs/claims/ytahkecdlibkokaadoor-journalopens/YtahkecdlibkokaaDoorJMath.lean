/- The mathematics of the journal, without the program: heads, what a file has, and what each call makes of a disk and a journal. -/
import Derived.Test.YtahkecdlibkokaaDoorFrFMath
import Derived.Test.YtahkecdlibkokaaDoorPkMath
import Derived.Test.YtahkecdlibkokaaDoorDkAMath
import Derived.Test.YtahkecdlibkokaaDoorDkCMath
set_option linter.unusedVariables false
namespace JournalMath
open DiskMath (DS upd Ok app syn cut crash)
open FrameMath (scan wrap wraps fits)

/-- A head's record. -/
def head (g : Nat) (snap : List UInt8) : List UInt8 := 72 :: (PackMath.num g ++ snap)
theorem head_length (g : Nat) (snap : List UInt8) (h : g ≤ 1125899906842624) : (head g snap).length ≤ 9 + snap.length ∧ 2 + snap.length ≤ (head g snap).length := by
  unfold head
  have h1 := PackMath.num_len8 g h
  have h2 := PackMath.num_pos g
  rw [List.length_cons, List.length_append]
  omega
/-- The generation and the snapshot of a record; 0: it is no head. -/
def readHead (r : List UInt8) : Nat × List UInt8 :=
  if r.take 1 = [72] ∧ (PackMath.tn (r.drop 1)).2.2 = 0 ∧ (PackMath.tn (r.drop 1)).1 ≠ 0 ∧ r.length ≤ 190000 + (1 + (PackMath.tn (r.drop 1)).2.1) then ((PackMath.tn (r.drop 1)).1, r.drop (1 + (PackMath.tn (r.drop 1)).2.1)) else (0, [])
theorem readHead_head (g : Nat) (snap : List UInt8) (h0 : 1 ≤ g) (h : g ≤ 1125899906842624) (hs : snap.length ≤ 190000) : readHead (head g snap) = (g, snap) := by
  have h1 := PackMath.tn_num g h snap
  unfold readHead head
  have e1 : (72 :: (PackMath.num g ++ snap)).drop 1 = PackMath.num g ++ snap := rfl
  rw [e1, h1, if_pos]
  · show (g, (72 :: (PackMath.num g ++ snap)).drop (1 + (PackMath.num g).length)) = (g, snap)
    rw [Nat.add_comm, List.drop_succ_cons, List.drop_left]
  · refine ⟨rfl, rfl, by show g ≠ 0; omega, ?_⟩
    show (72 :: (PackMath.num g ++ snap)).length ≤ 190000 + (1 + (PackMath.num g).length)
    rw [List.length_cons, List.length_append]
    omega
theorem readHead_none (r : List UInt8) (h : (readHead r).1 = 0) : readHead r = (0, []) := by
  unfold readHead at h ⊢
  split at h
  · rename_i hc; exact absurd h hc.2.2.1
  · rename_i hc; rw [if_neg hc]
theorem readHead_le (r : List UInt8) : (readHead r).1 ≤ 1125899906842624 ∧ (readHead r).2.length ≤ 190000 := by
  unfold readHead
  split
  · rename_i hc
    obtain ⟨n, c, e⟩ : ∃ n c, PackMath.tn (r.drop 1) = (n, c, 0) := ⟨_, _, by rw [← hc.2.1]⟩
    have h1 := PackMath.tn_ok e
    have h4 := hc.2.2.2
    rw [e] at h4 ⊢
    simp only at h4 ⊢
    refine ⟨h1.1, ?_⟩
    rw [List.length_drop]
    omega
  · exact ⟨Nat.zero_le _, Nat.zero_le _⟩

/-- What a file has for a journal; gen 0: it is not good. -/
structure Found where
  gen : Nat
  snap : List UInt8
  recs : List (List UInt8)
  size : Nat
def short (r : List UInt8) : Bool := decide (r.length ≤ 4000)
def foundOf : List (List UInt8) → Found
  | [] => ⟨0, [], [], 0⟩
  | h :: t => if (readHead h).1 = 0 then ⟨0, [], [], 0⟩ else ⟨(readHead h).1, (readHead h).2, t.takeWhile short, FrameMath.used (h :: t.takeWhile short)⟩
def found (l : List UInt8) : Found := foundOf (scan l)
theorem foundOf_no (h : List UInt8) (t : List (List UInt8)) (e : (readHead h).1 = 0) : foundOf (h :: t) = ⟨0, [], [], 0⟩ := by simp only [foundOf, if_pos e]
theorem foundOf_yes (h : List UInt8) (t : List (List UInt8)) (e : (readHead h).1 ≠ 0) : foundOf (h :: t) = ⟨(readHead h).1, (readHead h).2, t.takeWhile short, FrameMath.used (h :: t.takeWhile short)⟩ := by simp only [foundOf, if_neg e]
theorem used_while (p : List UInt8 → Bool) (t : List (List UInt8)) : FrameMath.used (t.takeWhile p) ≤ FrameMath.used t := by
  have h := FrameMath.used_append (t.takeWhile p) (t.dropWhile p)
  rw [List.takeWhile_append_dropWhile] at h
  omega
theorem foundOf_le (xs : List (List UInt8)) : (foundOf xs).size ≤ FrameMath.used xs ∧ 8 * (foundOf xs).recs.length ≤ (foundOf xs).size ∧ (foundOf xs).gen ≤ 1125899906842624 ∧ (foundOf xs).recs.length ≤ xs.length := by
  cases xs with
  | nil => exact ⟨Nat.le_refl _, Nat.le_refl _, Nat.zero_le _, Nat.le_refl _⟩
  | cons h t =>
    by_cases e : (readHead h).1 = 0
    · rw [foundOf_no h t e]; exact ⟨Nat.zero_le _, Nat.le_refl _, Nat.zero_le _, Nat.zero_le _⟩
    · rw [foundOf_yes h t e]
      have h1 := used_while short t
      have h2 := FrameMath.used_ge (t.takeWhile short)
      have h3 : (t.takeWhile short).length ≤ t.length := (List.takeWhile_sublist short).length_le
      refine ⟨?_, ?_, (readHead_le h).1, by show (t.takeWhile short).length ≤ t.length + 1; omega⟩
      · show h.length + 8 + FrameMath.used (t.takeWhile short) ≤ h.length + 8 + FrameMath.used t
        omega
      · show 8 * (t.takeWhile short).length ≤ h.length + 8 + FrameMath.used (t.takeWhile short)
        omega
theorem found_le (l : List UInt8) : (found l).size ≤ l.length ∧ 8 * (found l).recs.length ≤ (found l).size ∧ (found l).gen ≤ 1125899906842624 := by
  have h1 := foundOf_le (scan l)
  have h2 := FrameMath.used_le l
  unfold found
  exact ⟨by omega, h1.2.1, h1.2.2.1⟩

/-- A journal: its disk, the file that holds, the generation, how many records. -/
structure JS where
  d : DS
  f : Nat
  g : Nat
  n : Nat
structure JOk (s : JS) : Prop where
  ok : Ok s.d
  file : s.f ≤ 1
  gen : s.g ≤ 1125899906842624
  count : 8 * s.n ≤ (s.d.F s.f).length
def jAdd (s : JS) (r : List UInt8) : JS × Int :=
  if 4000 < r.length then (s, 2) else if s.d.R < DiskMath.used s.d + (wrap r).length then (s, 41) else (⟨app s.d s.f (wrap r), s.f, s.g, s.n + 1⟩, 0)
def jSyn (s : JS) : JS := ⟨syn s.d s.f, s.f, s.g, s.n⟩
/-- The next generation begun. -/
def begins (d : DS) (f g : Nat) (snap : List UInt8) : DS := cut (syn (app d (1 - f) (wrap (head (g + 1) snap))) (1 - f)) f 0
def jBegin (s : JS) (snap : List UInt8) : JS × Int :=
  if s.d.R < DiskMath.used s.d + (wrap (head (s.g + 1) snap)).length then (s, 41) else (⟨begins s.d s.f s.g snap, 1 - s.f, s.g + 1, 0⟩, 0)
def jCmp (s : JS) (snap : List UInt8) : JS × Int :=
  if 190000 < snap.length ∨ s.g = 1125899906842624 then (s, 2) else jBegin s snap
/-- What Open makes of a disk. -/
def opened (d : DS) (f : Nat) (x : Found) : JS := ⟨syn (cut (cut d (1 - f) 0) f x.size) f, f, x.gen, x.recs.length⟩
/-- The file that holds. -/
def which (d : DS) : Nat := if (found (d.F 0)).gen < (found (d.F 1)).gen then 1 else 0
def holds (d : DS) : Found := found (d.F (which d))

theorem which_le (d : DS) : which d ≤ 1 := by unfold which; split <;> omega
theorem ok_begins (d : DS) (f g : Nat) (snap : List UInt8) (h : Ok d) (hf : f ≤ 1) (hu : DiskMath.used d + (wrap (head (g + 1) snap)).length ≤ d.R) : Ok (begins d f g snap) :=
  DiskMath.ok_cut _ _ _ (DiskMath.ok_syn _ _ (DiskMath.ok_app d (1 - f) _ h (by omega) hu)) (by omega) (Nat.zero_le _)
theorem jok_begin (s : JS) (snap : List UInt8) (h : JOk s) (hg : s.g < 1125899906842624) : JOk (jBegin s snap).1 := by
  unfold jBegin
  split
  · exact h
  · exact ⟨ok_begins _ _ _ _ h.ok h.file (by omega), by show 1 - s.f ≤ 1; omega, by show s.g + 1 ≤ _; omega, Nat.zero_le _⟩
theorem jok_cmp (s : JS) (snap : List UInt8) (h : JOk s) : JOk (jCmp s snap).1 := by
  unfold jCmp
  split
  · exact h
  · exact jok_begin s snap h (by have := h.gen; omega)
theorem jok_add (s : JS) (r : List UInt8) (h : JOk s) : JOk (jAdd s r).1 := by
  unfold jAdd
  split
  · exact h
  · split
    · exact h
    · refine ⟨DiskMath.ok_app _ _ _ h.ok (by have := h.file; omega) (by omega), h.file, h.gen, ?_⟩
      show 8 * (s.n + 1) ≤ ((app s.d s.f (wrap r)).F s.f).length
      unfold app
      simp only [DiskMath.upd_same]
      rw [List.length_append, FrameMath.wrap_length]
      have := h.count
      omega
theorem jok_syn (s : JS) (h : JOk s) : JOk (jSyn s) := ⟨DiskMath.ok_syn _ _ h.ok, h.file, h.gen, h.count⟩
theorem cut_file (d : DS) (f : Nat) (hf : f ≤ 1) : (cut d (1 - f) 0).F f = d.F f := by
  unfold cut
  exact DiskMath.upd_other _ _ _ _ (by omega)
theorem jok_opened (d : DS) (f : Nat) (h : Ok d) (hf : f ≤ 1) : JOk (opened d f (found (d.F f))) := by
  have h1 := found_le (d.F f)
  have h2 := cut_file d f hf
  refine ⟨DiskMath.ok_syn _ _ (DiskMath.ok_cut _ _ _ (DiskMath.ok_cut d _ _ h (by omega) (Nat.zero_le _)) (by omega) (by rw [h2]; exact h1.1)), hf, h1.2.2, ?_⟩
  show 8 * (found (d.F f)).recs.length ≤ ((cut (cut d (1 - f) 0) f (found (d.F f)).size).F f).length
  unfold cut
  simp only [DiskMath.upd_same]
  have h3 : (upd d.F (1 - f) (List.take 0 (d.F (1 - f))) f) = d.F f := DiskMath.upd_other _ _ _ _ (by omega)
  rw [h3, List.length_take]
  omega
end JournalMath
