/- The mathematics of the disk, without the program: files, what is safe, the room. -/
set_option maxRecDepth 100000
namespace DiskMath
set_option linter.unusedVariables false

/-- A disk: the bytes of each file, how many of them are safe, the room. -/
structure DS where
  F : Nat → List UInt8
  S : Nat → Nat
  R : Nat
def upd {α : Type} (f : Nat → α) (i : Nat) (x : α) : Nat → α := fun j => if j = i then x else f j
theorem upd_same {α : Type} (f : Nat → α) (i : Nat) (x : α) : upd f i x i = x := by simp [upd]
theorem upd_other {α : Type} (f : Nat → α) (i j : Nat) (x : α) (h : j ≠ i) : upd f i x j = f j := by simp [upd, h]
def used (d : DS) : Nat := (d.F 0).length + (d.F 1).length + (d.F 2).length + (d.F 3).length
/-- What always holds. -/
structure Ok (d : DS) : Prop where
  safe : ∀ i, i < 4 → d.S i ≤ (d.F i).length
  room : used d ≤ d.R
  most : d.R ≤ 1048576
  least : 1 ≤ d.R
theorem file_le (d : DS) (i : Nat) (h : i < 4) : (d.F i).length ≤ used d := by
  unfold used
  rcases (show i = 0 ∨ i = 1 ∨ i = 2 ∨ i = 3 by omega) with rfl | rfl | rfl | rfl <;> omega
/-- How many bytes the first k files have. -/
def usedTo (d : DS) : Nat → Nat
  | 0 => 0
  | k + 1 => usedTo d k + (d.F k).length
theorem usedTo_four (d : DS) : usedTo d 4 = used d := by simp [usedTo, used]
theorem usedTo_le (d : DS) (k : Nat) (h : k ≤ 4) : usedTo d k ≤ used d := by
  rcases (show k = 0 ∨ k = 1 ∨ k = 2 ∨ k = 3 ∨ k = 4 by omega) with rfl | rfl | rfl | rfl | rfl <;> simp [usedTo, used] <;> omega
theorem used_upd (d : DS) (i : Nat) (h : i < 4) (l : List UInt8) (s : Nat → Nat) : used ⟨upd d.F i l, s, d.R⟩ + (d.F i).length = used d + l.length := by
  unfold used
  rcases (show i = 0 ∨ i = 1 ∨ i = 2 ∨ i = 3 by omega) with rfl | rfl | rfl | rfl <;> simp [upd] <;> omega

def new (r : Nat) : DS := ⟨fun _ => [], fun _ => 0, r⟩
def app (d : DS) (i : Nat) (s : List UInt8) : DS := ⟨upd d.F i (d.F i ++ s), d.S, d.R⟩
def syn (d : DS) (i : Nat) : DS := ⟨d.F, upd d.S i (d.F i).length, d.R⟩
def cut (d : DS) (i n : Nat) : DS := ⟨upd d.F i ((d.F i).take n), upd d.S i (min (d.S i) n), d.R⟩
/-- A crash at one file, when so many bytes may still stay. -/
def stay (d : DS) (i left : Nat) : Nat := min left ((d.F i).length - d.S i)
def cr (d : DS) (i left : Nat) : DS := ⟨upd d.F i ((d.F i).take (d.S i + stay d i left)), upd d.S i (d.S i + stay d i left), d.R⟩
/-- Behind the first k files: the disk, and what may still stay. -/
def crs (d : DS) (keep : Nat) : Nat → DS × Nat
  | 0 => (d, keep)
  | k + 1 => (cr (crs d keep k).1 k (crs d keep k).2, (crs d keep k).2 - stay (crs d keep k).1 k (crs d keep k).2)
def crash (d : DS) (keep : Nat) : DS := (crs d keep 4).1

theorem ok_new (r : Nat) (h1 : 1 ≤ r) (h2 : r ≤ 1048576) : Ok (new r) := ⟨fun i _ => Nat.zero_le _, Nat.zero_le _, h2, h1⟩
theorem ok_app (d : DS) (i : Nat) (s : List UInt8) (h : Ok d) (hi : i < 4) (hs : used d + s.length ≤ d.R) : Ok (app d i s) := by
  have hu := used_upd d i hi (d.F i ++ s) d.S
  rw [List.length_append] at hu
  refine ⟨fun j hj => ?_, by unfold app; show used _ ≤ d.R; omega, h.most, h.least⟩
  unfold app upd
  show d.S j ≤ (if j = i then d.F i ++ s else d.F j).length
  have := h.safe j hj
  split
  · rename_i e; subst e; rw [List.length_append]; omega
  · exact this
theorem ok_syn (d : DS) (i : Nat) (h : Ok d) : Ok (syn d i) := by
  refine ⟨fun j hj => ?_, h.room, h.most, h.least⟩
  unfold syn upd
  show (if j = i then (d.F i).length else d.S j) ≤ (d.F j).length
  have := h.safe j hj
  split
  · rename_i e; subst e; exact Nat.le_refl _
  · exact this
theorem ok_put (d : DS) (i n : Nat) (m : Nat) (h : Ok d) (hi : i < 4) (hm : m ≤ n) (hn : n ≤ (d.F i).length) : Ok ⟨upd d.F i ((d.F i).take n), upd d.S i m, d.R⟩ := by
  have hu := used_upd d i hi ((d.F i).take n) (upd d.S i m)
  rw [List.length_take] at hu
  refine ⟨fun j hj => ?_, ?_, h.most, h.least⟩
  · unfold upd
    show (if j = i then m else d.S j) ≤ (if j = i then (d.F i).take n else d.F j).length
    have := h.safe j hj
    split
    · rw [List.length_take]; omega
    · exact this
  · have := h.room
    show used _ ≤ d.R
    omega
theorem ok_cut (d : DS) (i n : Nat) (h : Ok d) (hi : i < 4) (hn : n ≤ (d.F i).length) : Ok (cut d i n) := ok_put d i n _ h hi (Nat.min_le_right _ _) hn
theorem stay_le (d : DS) (i left : Nat) (h : d.S i ≤ (d.F i).length) : d.S i + stay d i left ≤ (d.F i).length ∧ stay d i left ≤ left := by unfold stay; omega
theorem ok_cr (d : DS) (i left : Nat) (h : Ok d) (hi : i < 4) : Ok (cr d i left) := ok_put d i _ _ h hi (Nat.le_refl _) (stay_le d i left (h.safe i hi)).1
theorem ok_crs (d : DS) (keep : Nat) (h : Ok d) : ∀ k, k ≤ 4 → Ok (crs d keep k).1
  | 0, _ => h
  | k + 1, hk => ok_cr _ _ _ (ok_crs d keep h k (by omega)) (by omega)
theorem ok_crash (d : DS) (keep : Nat) (h : Ok d) : Ok (crash d keep) := ok_crs d keep h 4 (by decide)
theorem crs_left (d : DS) (keep : Nat) : ∀ k, (crs d keep k).2 ≤ keep
  | 0 => Nat.le_refl _
  | k + 1 => by
    have := crs_left d keep k
    show (crs d keep k).2 - _ ≤ keep
    omega
end DiskMath
