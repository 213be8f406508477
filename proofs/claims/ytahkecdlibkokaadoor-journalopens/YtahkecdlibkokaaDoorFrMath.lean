/- The plain mathematics of the sum: a state is a number below 2 to the 32; one bit's step is linear and loses nothing; a text is the number that its bytes make, the lowest first. Nothing of the program is named here. -/
set_option maxRecDepth 100000
namespace CrcMath

def poly : Nat := 3988292384
def step (c : Nat) : Nat := c / 2 ^^^ c % 2 * poly
def steps : Nat → Nat → Nat
  | 0, c => c
  | n + 1, c => steps n (step c)
/-- What a text's bytes make, the lowest first. -/
def val : List UInt8 → Nat
  | [] => 0
  | b :: l => b.toNat + 256 * val l
def byt (c : Nat) (b : UInt8) : Nat := steps 8 (c ^^^ b.toNat)
def run (c : Nat) (l : List UInt8) : Nat := l.foldl byt c
def flip (c : Nat) : Nat := c ^^^ 4294967295
def ext (c : Nat) (l : List UInt8) : Nat := flip (run (flip c) l)
def tab : List Nat := [0, 498536548, 997073096, 651767980, 1994146192, 1802195444, 1303535960, 1342533948, 3988292384, 4027552580, 3604390888, 3412177804, 2607071920, 2262029012, 2685067896, 3183342108]
def four (c : Nat) : Nat := c / 16 ^^^ tab.getD (c % 16) 0

theorem step_xor (a b : Nat) : step (a ^^^ b) = step a ^^^ step b := by
  unfold step
  have h1 : (a ^^^ b) / 2 = a / 2 ^^^ b / 2 := by
    apply Nat.eq_of_testBit_eq
    intro i
    simp only [Nat.testBit_xor, Nat.testBit_div_two]
  have h2 : (a ^^^ b) % 2 * poly = a % 2 * poly ^^^ b % 2 * poly := by
    have ha : a % 2 = 0 ∨ a % 2 = 1 := by omega
    have hb : b % 2 = 0 ∨ b % 2 = 1 := by omega
    have hx : (a ^^^ b) % 2 = a % 2 ^^^ b % 2 := Nat.xor_mod_two_pow (n := 1)
    rw [hx]
    rcases ha with ha | ha <;> rcases hb with hb | hb <;> simp [ha, hb]
  rw [h1, h2]
  simp only [Nat.xor_assoc]
  congr 1
  rw [← Nat.xor_assoc, ← Nat.xor_assoc, Nat.xor_comm (b / 2)]

theorem steps_xor : ∀ (n a b : Nat), steps n (a ^^^ b) = steps n a ^^^ steps n b
  | 0, _, _ => rfl
  | n + 1, a, b => by
    show steps n (step (a ^^^ b)) = steps n (step a) ^^^ steps n (step b)
    rw [step_xor, steps_xor n]

theorem steps_add : ∀ (m n c : Nat), steps (m + n) c = steps n (steps m c)
  | 0, n, c => by rw [Nat.zero_add]; rfl
  | m + 1, n, c => by
    rw [Nat.add_right_comm]
    exact steps_add m n (step c)

theorem step_two (c : Nat) : step (2 * c) = c := by
  unfold step
  rw [Nat.mul_div_cancel_left c (by decide), Nat.mul_mod_right]
  simp

theorem steps_shift : ∀ (n c : Nat), steps n (2 ^ n * c) = c
  | 0, c => by show 1 * c = c; omega
  | n + 1, c => by
    show steps n (step (2 ^ (n + 1) * c)) = c
    have e : 2 ^ (n + 1) * c = 2 * (2 ^ n * c) := by rw [Nat.pow_succ, Nat.mul_comm (2 ^ n) 2, Nat.mul_assoc]
    rw [e, step_two, steps_shift n]

theorem step_lt (c : Nat) (h : c < 2 ^ 32) : step c < 2 ^ 32 := by
  unfold step
  apply Nat.xor_lt_two_pow
  · omega
  · have : c % 2 * poly ≤ 1 * poly := Nat.mul_le_mul_right _ (by omega)
    unfold poly at *
    omega

theorem steps_lt : ∀ (n c : Nat), c < 2 ^ 32 → steps n c < 2 ^ 32
  | 0, _, h => h
  | n + 1, c, h => steps_lt n (step c) (step_lt c h)

theorem eq_of_xor_zero (a b : Nat) (h : a ^^^ b = 0) : a = b := by
  have : a ^^^ b ^^^ b = 0 ^^^ b := by rw [h]
  simpa [Nat.xor_assoc] using this

theorem step_zero (c : Nat) (h : c < 2 ^ 32) (h0 : step c = 0) : c = 0 := by
  unfold step at h0
  have e := eq_of_xor_zero _ _ h0
  unfold poly at e
  have hc : c % 2 = 0 ∨ c % 2 = 1 := by omega
  rcases hc with hc | hc <;> rw [hc] at e <;> omega

theorem steps_zero : ∀ (n c : Nat), c < 2 ^ 32 → steps n c = 0 → c = 0
  | 0, _, _, h => h
  | n + 1, c, hc, h => step_zero c hc (steps_zero n (step c) (step_lt c hc) h)

theorem steps_of_zero : ∀ n, steps n 0 = 0
  | 0 => rfl
  | n + 1 => by
    show steps n (step 0) = 0
    have : step 0 = 0 := rfl
    rw [this, steps_of_zero n]

/-- A number is its low bits and the rest, put together. -/
theorem split_low (c k : Nat) : c = 2 ^ k * (c / 2 ^ k) ^^^ c % 2 ^ k := by
  apply Nat.eq_of_testBit_eq
  intro i
  rw [Nat.testBit_xor, Nat.testBit_mod_two_pow, Nat.testBit_two_pow_mul, Nat.testBit_div_two_pow]
  by_cases h : i < k
  · have : ¬ k ≤ i := by omega
    simp [h, this]
  · have : k ≤ i := by omega
    simp [h, this]

theorem add_is_xor (b q k : Nat) (h : b < 2 ^ k) : b + 2 ^ k * q = b ^^^ 2 ^ k * q := by
  have e := split_low (b + 2 ^ k * q) k
  have h1 : (b + 2 ^ k * q) / 2 ^ k = q := by
    rw [Nat.add_mul_div_left _ _ (Nat.two_pow_pos k), Nat.div_eq_of_lt h, Nat.zero_add]
  have h2 : (b + 2 ^ k * q) % 2 ^ k = b := by
    rw [Nat.add_mul_mod_self_left, Nat.mod_eq_of_lt h]
  rw [h1, h2, Nat.xor_comm] at e
  exact e

theorem four_eq (c : Nat) : four c = steps 4 c := by
  have e := split_low c 4
  have h : steps 4 (2 ^ 4 * (c / 2 ^ 4) ^^^ c % 2 ^ 4) = four c := by
    rw [steps_xor, steps_shift]
    unfold four
    congr 1
    have hr : ∀ r, r < 16 → steps 4 r = tab.getD r 0 := by decide
    exact hr (c % 16) (Nat.mod_lt _ (by decide))
  rw [← e] at h
  exact h.symm

theorem byt_four (c : Nat) (b : UInt8) : four (four (c ^^^ b.toNat)) = byt c b := by
  unfold byt
  rw [four_eq, four_eq, ← steps_add]

theorem run_val : ∀ (l : List UInt8) (c : Nat), run c l = steps (8 * l.length) (c ^^^ val l)
  | [], c => by simp [run, val, steps]
  | b :: l, c => by
    have ih := run_val l (byt c b)
    have hb : b.toNat < 2 ^ 8 := b.toNat_lt
    show run (byt c b) l = _
    rw [ih]
    have e : 8 * (b :: l).length = 8 + 8 * l.length := by rw [List.length_cons]; omega
    have hv : val (b :: l) = b.toNat ^^^ 2 ^ 8 * val l := add_is_xor b.toNat (val l) 8 hb
    rw [e, steps_add, hv, ← Nat.xor_assoc, steps_xor 8, steps_shift]
    rfl

theorem run_lt (l : List UInt8) : ∀ c, c < 2 ^ 32 → run c l < 2 ^ 32 := by
  induction l with
  | nil => intro c h; exact h
  | cons b l ih =>
    intro c h
    refine ih _ (steps_lt 8 _ (Nat.xor_lt_two_pow h ?_))
    have := b.toNat_lt
    omega

theorem flip_lt (c : Nat) (h : c < 2 ^ 32) : flip c < 2 ^ 32 := Nat.xor_lt_two_pow h (by decide)
theorem flip_flip (c : Nat) : flip (flip c) = c := by unfold flip; rw [Nat.xor_assoc, Nat.xor_self, Nat.xor_zero]
theorem ext_lt (c : Nat) (l : List UInt8) (h : c < 2 ^ 32) : ext c l < 2 ^ 32 := flip_lt _ (run_lt l _ (flip_lt c h))
theorem flip_sub (c : Nat) (h : c < 2 ^ 32) : flip c = 4294967295 - c := by
  unfold flip
  apply Nat.eq_of_testBit_eq
  intro i
  have e : 4294967295 - c = 2 ^ 32 - (c + 1) := by omega
  rw [Nat.testBit_xor, e, Nat.testBit_two_pow_sub_succ h, show 4294967295 = 2 ^ 32 - 1 by decide, Nat.testBit_two_pow_sub_one]
  by_cases hi : i < 32
  · simp [hi]
  · have : c.testBit i = false := Nat.testBit_lt_two_pow (Nat.lt_of_lt_of_le h (Nat.pow_le_pow_right (by decide) (by omega)))
    simp [hi, this]

/-- P2.1. -/
theorem ext_append (c : Nat) (a b : List UInt8) : ext (ext c a) b = ext c (a ++ b) := by
  unfold ext
  rw [flip_flip]
  unfold run
  rw [List.foldl_append]
theorem ext_nil (c : Nat) : ext c [] = c := flip_flip c

/-- P2.4. -/
theorem ext_inj (x y : Nat) (l : List UInt8) (hx : x < 2 ^ 32) (hy : y < 2 ^ 32) (h : ext x l = ext y l) : x = y := by
  have h1 : run (flip x) l = run (flip y) l := by
    have := congrArg flip h
    unfold ext at this
    rwa [flip_flip, flip_flip] at this
  rw [run_val, run_val] at h1
  have h2 : steps (8 * l.length) (flip x ^^^ val l ^^^ (flip y ^^^ val l)) = 0 := by
    rw [steps_xor, h1, Nat.xor_self]
  have e : flip x ^^^ val l ^^^ (flip y ^^^ val l) = x ^^^ y := by
    unfold flip
    apply Nat.eq_of_testBit_eq
    intro i
    simp only [Nat.testBit_xor]
    cases x.testBit i <;> cases y.testBit i <;> cases (val l).testBit i <;> cases Nat.testBit 4294967295 i <;> rfl
  rw [e] at h2
  exact eq_of_xor_zero _ _ (steps_zero _ _ (Nat.xor_lt_two_pow hx hy) h2)

/-- P2.2: two texts of one length whose numbers differ by a window of 32 bits. -/
theorem ext_window (c : Nat) (a b : List UInt8) (from_ r : Nat) (hl : b.length = a.length) (hr : r < 2 ^ 32) (hf : from_ ≤ 8 * a.length)
    (hv : val b = val a ^^^ 2 ^ from_ * r) : ext c b = ext c a ↔ r = 0 := by
  constructor
  · intro h
    have h1 : run (flip c) b = run (flip c) a := by
      have := congrArg flip h
      unfold ext at this
      rwa [flip_flip, flip_flip] at this
    rw [run_val, run_val, hl, hv, ← Nat.xor_assoc, steps_xor] at h1
    have h2 : steps (8 * a.length) (2 ^ from_ * r) = 0 := by
      have := congrArg (steps (8 * a.length) (flip c ^^^ val a) ^^^ ·) h1
      simpa [← Nat.xor_assoc] using this
    obtain ⟨m, hm⟩ : ∃ m, 8 * a.length = from_ + m := ⟨8 * a.length - from_, by omega⟩
    rw [hm, steps_add, steps_shift] at h2
    exact steps_zero _ _ hr h2
  · intro h
    unfold ext
    rw [run_val, run_val, hl, hv, h, Nat.mul_zero, Nat.xor_zero]

/-- P2.3. -/
theorem ext_three (a b c d : List UInt8) (h1 : b.length = a.length) (h2 : c.length = a.length) (h3 : d.length = a.length)
    (hv : val d = val a ^^^ val b ^^^ val c) : ext 0 d = ext 0 a ^^^ ext 0 b ^^^ ext 0 c := by
  unfold ext
  rw [run_val, run_val, run_val, run_val, h1, h2, h3, hv]
  generalize 8 * a.length = n
  have e : flip 0 ^^^ (val a ^^^ val b ^^^ val c) = (flip 0 ^^^ val a) ^^^ (flip 0 ^^^ val b) ^^^ (flip 0 ^^^ val c) := by
    apply Nat.eq_of_testBit_eq
    intro i
    simp only [Nat.testBit_xor]
    cases (val a).testBit i <;> cases (val b).testBit i <;> cases (val c).testBit i <;> cases (flip 0).testBit i <;> rfl
  rw [e, steps_xor, steps_xor]
  unfold flip
  generalize steps n (0 ^^^ 4294967295 ^^^ val a) = x
  generalize steps n (0 ^^^ 4294967295 ^^^ val b) = y
  generalize steps n (0 ^^^ 4294967295 ^^^ val c) = z
  apply Nat.eq_of_testBit_eq
  intro i
  simp only [Nat.testBit_xor]
  cases x.testBit i <;> cases y.testBit i <;> cases z.testBit i <;> cases Nat.testBit 4294967295 i <;> rfl

theorem val_append (a b : List UInt8) : val (a ++ b) = val a + 2 ^ (8 * a.length) * val b := by
  induction a with
  | nil => simp [val]
  | cons x a ih =>
    show x.toNat + 256 * val (a ++ b) = x.toNat + 256 * val a + 2 ^ (8 * (x :: a).length) * val b
    rw [ih, List.length_cons, show 8 * (a.length + 1) = 8 * a.length + 8 by omega, Nat.pow_add]
    rw [Nat.mul_add, Nat.mul_comm (2 ^ (8 * a.length)) (2 ^ 8), Nat.mul_assoc, Nat.add_assoc]
theorem val_lt (a : List UInt8) : val a < 2 ^ (8 * a.length) := by
  induction a with
  | nil => decide
  | cons x a ih =>
    show x.toNat + 256 * val a < 2 ^ (8 * (x :: a).length)
    have hx := x.toNat_lt
    rw [List.length_cons, show 8 * (a.length + 1) = 8 * a.length + 8 by omega, Nat.pow_add]
    omega
/-- One byte of a text is changed by a pattern. -/
theorem val_set (l : List UInt8) (k : Nat) (hk : k < l.length) (x : UInt8) : val (l.set k (l[k] ^^^ x)) = val l ^^^ 2 ^ (8 * k) * x.toNat := by
  induction l generalizing k with
  | nil => simp at hk
  | cons b l ih =>
    cases k with
    | zero =>
      show (b ^^^ x).toNat + 256 * val l = (b.toNat + 256 * val l) ^^^ 2 ^ (8 * 0) * x.toNat
      rw [add_is_xor b.toNat (val l) 8 b.toNat_lt, add_is_xor (b ^^^ x).toNat (val l) 8 (b ^^^ x).toNat_lt, UInt8.toNat_xor]
      simp only [Nat.mul_zero, Nat.pow_zero, Nat.one_mul]
      rw [Nat.xor_assoc, Nat.xor_assoc, Nat.xor_comm x.toNat]
    | succ k =>
      have hk' : k < l.length := by simpa using hk
      have h := ih k hk'
      show b.toNat + 256 * val (l.set k (l[k] ^^^ x)) = (b.toNat + 256 * val l) ^^^ 2 ^ (8 * (k + 1)) * x.toNat
      rw [h, add_is_xor b.toNat _ 8 b.toNat_lt, add_is_xor b.toNat _ 8 b.toNat_lt, Nat.xor_assoc]
      congr 1
      rw [show 8 * (k + 1) = 8 + 8 * k by omega, Nat.pow_add, Nat.mul_assoc]
      apply Nat.eq_of_testBit_eq
      intro i
      simp only [Nat.testBit_xor, Nat.testBit_two_pow_mul]
      by_cases hi : 8 ≤ i <;> simp [hi]

theorem live : ext 0 [49, 50, 51, 52, 53, 54, 55, 56, 57] = 3421780262 := by decide +kernel
end CrcMath
