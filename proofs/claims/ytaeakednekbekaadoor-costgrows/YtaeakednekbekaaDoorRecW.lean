/- The walks of the small functions of package cost: records of five nodes. -/
import Derived.Test.YtaeakednekbekaaDoorCoMath
import Derived.Test.YtaeakednekbekaaDoorCopyB
set_option linter.unusedVariables false
set_option maxRecDepth 100000
namespace Go.Proofs.YtaeakednekbekaaDoor
open Go.RowKit CheckMath

def nV (i : Nat) : Value := .int .i64 (i : Int)
theorem one_iV (n : Nat) : ∀ u ∈ [nV n], u.oneCell' = true := by intro u hu; simp at hu; subst hu; rfl
def fl (f : Nat → Nat) : List Value := [.int .i64 (f 0 : Nat), .int .i64 (f 1 : Nat), .int .i64 (f 2 : Nat), .int .i64 (f 3 : Nat), .int .i64 (f 4 : Nat)]
theorem lt5 {i : Nat} (hi : i < 5) : i = 0 ∨ i = 1 ∨ i = 2 ∨ i = 3 ∨ i = 4 := by omega
theorem fl_at (f : Nat → Nat) (i : Nat) (hi : i < 5) : (fl f)[i]? = some (.int .i64 (f i : Nat)) := by
  rcases lt5 hi with rfl | rfl | rfl | rfl | rfl <;> rfl
def upd5 (f : Nat → Nat) (i v : Nat) : Nat → Nat := fun j => if j = i then v else f j
theorem fl_set (f : Nat → Nat) (i v : Nat) (hi : i < 5) : (fl f).set i (.int .i64 (v : Nat)) = fl (upd5 f i v) := by
  rcases lt5 hi with rfl | rfl | rfl | rfl | rfl <;> rfl
theorem fl_congr {f g : Nat → Nat} (h : ∀ j, j < 5 → f j = g j) : fl f = fl g := by
  unfold fl
  rw [h 0 (by omega), h 1 (by omega), h 2 (by omega), h 3 (by omega), h 4 (by omega)]
theorem fl_len (f : Nat → Nat) : (fl f).length = 5 := rfl
theorem results_cell5 {P : Program} {fn : Func} {p : Tmp} {ty : TypeId} (h : fn.results = #[.cell p ty]) (tmps : Array Value) (w : World) (g : Nat) (f : Nat → Nat) (d : TypeDesc)
    (hp : tmps.getD p undef = .pointer (some ⟨g, 0, none⟩)) (h0 : ∀ j, j < 5 → w.cell? ⟨g, j, none⟩ = some (.int .i64 (f j : Nat)))
    (hu : P.underlying ty = some d) (hd : d.isRow = true) (hi : (P.info? ty).map (·.size) = some 5) : (results fn tmps).run P w = .ok (.agg (fl f).toArray) w := by
  have hp' : tmps[p]?.getD undef = .pointer (some ⟨g, 0, none⟩) := by simpa using hp
  have hr : w.rangeAt g 0 (fl f) := by
    intro j v hj
    rw [Nat.zero_add]
    have hj5 : j < 5 := (List.getElem?_eq_some_iff.1 hj).1
    rw [fl_at f j hj5] at hj
    rw [h0 j hj5]; exact hj
  simp [results, h, hp', asAddr, run_loadVar_mid w g 0 ty (fl f) d hr hu hd hi]
theorem Has.five {B : Nat} {w wr : World} {q : Nat} {f : Nat → Nat} {rs : List Res} (h : Has B w rs wr) (hm : BlockR q (fl f) ∈ rs) (j : Nat) (hj : j < 5) : wr.cell? ⟨q, j, none⟩ = some (.int .i64 (f j : Nat)) ∧ wr.frozen? ⟨q, j, none⟩ = false := h.cell hm j _ (fl_at f j hj)
theorem Has.put5 {B : Nat} {w wr : World} {q : Nat} {f : Nat → Nat} {rs : List Res} (h : Has B w (BlockR q (fl f) :: rs) wr) (j : Nat) (hj : j < 5) (v : Nat) : Has B w (BlockR q (fl (upd5 f j v)) :: rs) (wr.setCell ⟨q, j, none⟩ (.int .i64 (v : Nat))) := by
  have h2 := h.put j hj (.int .i64 (v : Nat))
  rw [fl_set f j v hj] at h2
  exact h2
theorem index5 (f : Nat → Nat) (n : Nat) (hn : n < 5) (w : World) : (Instr.index 47 (.agg #[.int .i64 (f 0 : Nat), .int .i64 (f 1 : Nat), .int .i64 (f 2 : Nat), .int .i64 (f 3 : Nat), .int .i64 (f 4 : Nat)]) (.int .i64 (n : Int))).run Tryd.prog w = .ok (.int .i64 (f n : Nat)) w := by
  rcases lt5 hn with rfl | rfl | rfl | rfl | rfl <;> rfl

/-- A block of five written full. -/
theorem Has.fill5 {B : Nat} {w wr : World} {q : Nat} {f : Nat → Nat} {rs : List Res} (h : Has B w (BlockR q (fl f) :: rs) wr) (g : Nat → Nat) :
    Has B w (BlockR q (fl g) :: rs) (((((wr.setCell ⟨q, 0, none⟩ (.int .i64 (g 0 : Nat))).setCell ⟨q, 1, none⟩ (.int .i64 (g 1 : Nat))).setCell ⟨q, 2, none⟩ (.int .i64 (g 2 : Nat))).setCell ⟨q, 3, none⟩ (.int .i64 (g 3 : Nat))).setCell ⟨q, 4, none⟩ (.int .i64 (g 4 : Nat))) := by
  have h5 := ((((h.put5 0 (by decide) (g 0)).put5 1 (by decide) (g 1)).put5 2 (by decide) (g 2)).put5 3 (by decide) (g 3)).put5 4 (by decide) (g 4)
  have e : fl (upd5 (upd5 (upd5 (upd5 (upd5 f 0 (g 0)) 1 (g 1)) 2 (g 2)) 3 (g 3)) 4 (g 4)) = fl g := fl_congr (fun j hj => by rcases lt5 hj with rfl | rfl | rfl | rfl | rfl <;> rfl)
  rw [e] at h5
  exact h5

theorem results_five {P : Program} {fn : Func} {p : Tmp} {ty : TypeId} (h : fn.results = #[.cell p ty]) (tmps : Array Value) (w : World) (g : Nat) (c0 c1 c2 c3 c4 : Value) (d : TypeDesc)
    (hp : tmps.getD p undef = .pointer (some ⟨g, 0, none⟩)) (h0 : w.cell? ⟨g, 0, none⟩ = some c0) (h1 : w.cell? ⟨g, 1, none⟩ = some c1) (h2 : w.cell? ⟨g, 2, none⟩ = some c2) (h3 : w.cell? ⟨g, 3, none⟩ = some c3) (h4 : w.cell? ⟨g, 4, none⟩ = some c4)
    (hu : P.underlying ty = some d) (hd : d.isRow = true) (hi : (P.info? ty).map (·.size) = some 5) : (results fn tmps).run P w = .ok (.agg #[c0, c1, c2, c3, c4]) w := by
  have hp' : tmps[p]?.getD undef = .pointer (some ⟨g, 0, none⟩) := by simpa using hp
  have hr : w.rangeAt g 0 [c0, c1, c2, c3, c4] := by
    intro j v hj
    rw [Nat.zero_add]
    match j, hj with
    | 0, hj => cases hj; exact h0
    | 1, hj => cases hj; exact h1
    | 2, hj => cases hj; exact h2
    | 3, hj => cases hj; exact h3
    | 4, hj => cases hj; exact h4
  simp [results, h, hp', asAddr, run_loadVar_mid w g 0 ty [c0, c1, c2, c3, c4] d hr hu hd hi]
theorem ofEach_any (w : World) : Calls Tryd.prog 24 #[] w fun e w' => e = .returned (.agg #[.int .i64 0, .int .i64 0, .int .i64 0, .int .i64 0, .int .i64 3]) ∧ Below w.heap.size w w' := by
  go_enter Tryd.func24, Tryd.ntmps24
  go_wp2_with fail
  exact bodyPost_ret (results_five rfl _ _ w.heap.size _ _ _ _ _ _ rfl (by go_simp) (by go_simp) (by go_simp) (by go_simp) (by go_simp) Tryd.underlying47 rfl (by kernel_rfl)) rfl ⟨rfl, (Below.refl _ _).alloc (Nat.le_refl _) _⟩
theorem ofNamed0 (w : World) : Calls Tryd.prog 26 #[.int .i64 0] w fun e w' => e = .returned (.agg #[.int .i64 1, .int .i64 0, .int .i64 0, .int .i64 0, .int .i64 1]) ∧ Below w.heap.size w w' := by
  go_enter Tryd.func26, Tryd.ntmps26
  go_wp2_with fail
  exact bodyPost_ret (results_five rfl _ _ (w.heap.size) _ _ _ _ _ _ rfl (by go_simp) (by go_simp) (by go_simp) (by go_simp) (by go_simp) Tryd.underlying47 rfl (by kernel_rfl)) rfl ⟨rfl, ((Below.refl _ _).alloc (Nat.le_refl _) _).alloc (by simp) _⟩
theorem ofNamed1 (w : World) : Calls Tryd.prog 26 #[.int .i64 1] w fun e w' => e = .returned (.agg #[.int .i64 0, .int .i64 1, .int .i64 0, .int .i64 0, .int .i64 1]) ∧ Below w.heap.size w w' := by
  go_enter Tryd.func26, Tryd.ntmps26
  go_wp2_with fail
  exact bodyPost_ret (results_five rfl _ _ (w.heap.size) _ _ _ _ _ _ rfl (by go_simp) (by go_simp) (by go_simp) (by go_simp) (by go_simp) Tryd.underlying47 rfl (by kernel_rfl)) rfl ⟨rfl, ((Below.refl _ _).alloc (Nat.le_refl _) _).alloc (by simp) _⟩
theorem ofNamed2 (w : World) : Calls Tryd.prog 26 #[.int .i64 2] w fun e w' => e = .returned (.agg #[.int .i64 0, .int .i64 0, .int .i64 1, .int .i64 0, .int .i64 1]) ∧ Below w.heap.size w w' := by
  go_enter Tryd.func26, Tryd.ntmps26
  go_wp2_with fail
  exact bodyPost_ret (results_five rfl _ _ (w.heap.size) _ _ _ _ _ _ rfl (by go_simp) (by go_simp) (by go_simp) (by go_simp) (by go_simp) Tryd.underlying47 rfl (by kernel_rfl)) rfl ⟨rfl, ((Below.refl _ _).alloc (Nat.le_refl _) _).alloc (by simp) _⟩
theorem ofNamed3 (w : World) : Calls Tryd.prog 26 #[.int .i64 3] w fun e w' => e = .returned (.agg #[.int .i64 0, .int .i64 0, .int .i64 0, .int .i64 1, .int .i64 1]) ∧ Below w.heap.size w w' := by
  go_enter Tryd.func26, Tryd.ntmps26
  go_wp2_with fail
  exact bodyPost_ret (results_five rfl _ _ (w.heap.size) _ _ _ _ _ _ rfl (by go_simp) (by go_simp) (by go_simp) (by go_simp) (by go_simp) Tryd.underlying47 rfl (by kernel_rfl)) rfl ⟨rfl, ((Below.refl _ _).alloc (Nat.le_refl _) _).alloc (by simp) _⟩
theorem ofStepC0 (nm : ByteArray) (ka na : Option Addr) (kl kc nl nc : Nat) (w : World) : Calls Tryd.prog 27 #[.agg #[.string nm, .int .i64 1, .int .i64 0, .slice ka kl kc, .slice na nl nc]] w fun e w' => e = .returned (.agg #[.int .i64 2, .int .i64 0, .int .i64 0, .int .i64 0, .int .i64 3]) ∧ Below w.heap.size w w' := by
  go_enter Tryd.func27, Tryd.ntmps27
  go_wp2_with fail
  exact bodyPost_ret (results_five rfl _ _ (w.heap.size + 1) _ _ _ _ _ _ rfl (by go_simp) (by go_simp) (by go_simp) (by go_simp) (by go_simp) Tryd.underlying47 rfl (by kernel_rfl)) rfl ⟨rfl, (((Below.refl _ _).alloc (Nat.le_refl _) _).alloc (by simp) _).alloc (by simp; omega) _⟩
theorem ofStepR0 (nm : ByteArray) (k : Int) (hk : (k == 1) = false) (ka na : Option Addr) (kl kc nl nc : Nat) (w : World) : Calls Tryd.prog 27 #[.agg #[.string nm, .int .i64 k, .int .i64 0, .slice ka kl kc, .slice na nl nc]] w fun e w' => e = .returned (.agg #[.int .i64 1, .int .i64 0, .int .i64 0, .int .i64 0, .int .i64 2]) ∧ Below w.heap.size w w' := by
  go_enter Tryd.func27, Tryd.ntmps27
  go_wp2_with fail
  exact bodyPost_ret (results_five rfl _ _ (w.heap.size + 1) _ _ _ _ _ _ rfl (by go_simp) (by go_simp) (by go_simp) (by go_simp) (by go_simp) Tryd.underlying47 rfl (by kernel_rfl)) rfl ⟨rfl, (((Below.refl _ _).alloc (Nat.le_refl _) _).alloc (by simp) _).alloc (by simp; omega) _⟩
theorem ofStepC1 (nm : ByteArray) (ka na : Option Addr) (kl kc nl nc : Nat) (w : World) : Calls Tryd.prog 27 #[.agg #[.string nm, .int .i64 1, .int .i64 1, .slice ka kl kc, .slice na nl nc]] w fun e w' => e = .returned (.agg #[.int .i64 0, .int .i64 2, .int .i64 0, .int .i64 0, .int .i64 3]) ∧ Below w.heap.size w w' := by
  go_enter Tryd.func27, Tryd.ntmps27
  go_wp2_with fail
  exact bodyPost_ret (results_five rfl _ _ (w.heap.size + 1) _ _ _ _ _ _ rfl (by go_simp) (by go_simp) (by go_simp) (by go_simp) (by go_simp) Tryd.underlying47 rfl (by kernel_rfl)) rfl ⟨rfl, (((Below.refl _ _).alloc (Nat.le_refl _) _).alloc (by simp) _).alloc (by simp; omega) _⟩
theorem ofStepR1 (nm : ByteArray) (k : Int) (hk : (k == 1) = false) (ka na : Option Addr) (kl kc nl nc : Nat) (w : World) : Calls Tryd.prog 27 #[.agg #[.string nm, .int .i64 k, .int .i64 1, .slice ka kl kc, .slice na nl nc]] w fun e w' => e = .returned (.agg #[.int .i64 0, .int .i64 1, .int .i64 0, .int .i64 0, .int .i64 2]) ∧ Below w.heap.size w w' := by
  go_enter Tryd.func27, Tryd.ntmps27
  go_wp2_with fail
  exact bodyPost_ret (results_five rfl _ _ (w.heap.size + 1) _ _ _ _ _ _ rfl (by go_simp) (by go_simp) (by go_simp) (by go_simp) (by go_simp) Tryd.underlying47 rfl (by kernel_rfl)) rfl ⟨rfl, (((Below.refl _ _).alloc (Nat.le_refl _) _).alloc (by simp) _).alloc (by simp; omega) _⟩
theorem ofStepC2 (nm : ByteArray) (ka na : Option Addr) (kl kc nl nc : Nat) (w : World) : Calls Tryd.prog 27 #[.agg #[.string nm, .int .i64 1, .int .i64 2, .slice ka kl kc, .slice na nl nc]] w fun e w' => e = .returned (.agg #[.int .i64 0, .int .i64 0, .int .i64 2, .int .i64 0, .int .i64 3]) ∧ Below w.heap.size w w' := by
  go_enter Tryd.func27, Tryd.ntmps27
  go_wp2_with fail
  exact bodyPost_ret (results_five rfl _ _ (w.heap.size + 1) _ _ _ _ _ _ rfl (by go_simp) (by go_simp) (by go_simp) (by go_simp) (by go_simp) Tryd.underlying47 rfl (by kernel_rfl)) rfl ⟨rfl, (((Below.refl _ _).alloc (Nat.le_refl _) _).alloc (by simp) _).alloc (by simp; omega) _⟩
theorem ofStepR2 (nm : ByteArray) (k : Int) (hk : (k == 1) = false) (ka na : Option Addr) (kl kc nl nc : Nat) (w : World) : Calls Tryd.prog 27 #[.agg #[.string nm, .int .i64 k, .int .i64 2, .slice ka kl kc, .slice na nl nc]] w fun e w' => e = .returned (.agg #[.int .i64 0, .int .i64 0, .int .i64 1, .int .i64 0, .int .i64 2]) ∧ Below w.heap.size w w' := by
  go_enter Tryd.func27, Tryd.ntmps27
  go_wp2_with fail
  exact bodyPost_ret (results_five rfl _ _ (w.heap.size + 1) _ _ _ _ _ _ rfl (by go_simp) (by go_simp) (by go_simp) (by go_simp) (by go_simp) Tryd.underlying47 rfl (by kernel_rfl)) rfl ⟨rfl, (((Below.refl _ _).alloc (Nat.le_refl _) _).alloc (by simp) _).alloc (by simp; omega) _⟩
theorem ofStepC3 (nm : ByteArray) (ka na : Option Addr) (kl kc nl nc : Nat) (w : World) : Calls Tryd.prog 27 #[.agg #[.string nm, .int .i64 1, .int .i64 3, .slice ka kl kc, .slice na nl nc]] w fun e w' => e = .returned (.agg #[.int .i64 0, .int .i64 0, .int .i64 0, .int .i64 2, .int .i64 3]) ∧ Below w.heap.size w w' := by
  go_enter Tryd.func27, Tryd.ntmps27
  go_wp2_with fail
  exact bodyPost_ret (results_five rfl _ _ (w.heap.size + 1) _ _ _ _ _ _ rfl (by go_simp) (by go_simp) (by go_simp) (by go_simp) (by go_simp) Tryd.underlying47 rfl (by kernel_rfl)) rfl ⟨rfl, (((Below.refl _ _).alloc (Nat.le_refl _) _).alloc (by simp) _).alloc (by simp; omega) _⟩
theorem ofStepR3 (nm : ByteArray) (k : Int) (hk : (k == 1) = false) (ka na : Option Addr) (kl kc nl nc : Nat) (w : World) : Calls Tryd.prog 27 #[.agg #[.string nm, .int .i64 k, .int .i64 3, .slice ka kl kc, .slice na nl nc]] w fun e w' => e = .returned (.agg #[.int .i64 0, .int .i64 0, .int .i64 0, .int .i64 1, .int .i64 2]) ∧ Below w.heap.size w w' := by
  go_enter Tryd.func27, Tryd.ntmps27
  go_wp2_with fail
  exact bodyPost_ret (results_five rfl _ _ (w.heap.size + 1) _ _ _ _ _ _ rfl (by go_simp) (by go_simp) (by go_simp) (by go_simp) (by go_simp) Tryd.underlying47 rfl (by kernel_rfl)) rfl ⟨rfl, (((Below.refl _ _).alloc (Nat.le_refl _) _).alloc (by simp) _).alloc (by simp; omega) _⟩
set_option maxHeartbeats 4000000 in
theorem and_any (f g : Nat → Nat) (hf : ∀ j, f j ≤ 1000000) (hg : ∀ j, g j ≤ 1000000) (w : World) :
    Calls Tryd.prog 25 #[.agg (fl f).toArray, .agg (fl g).toArray] w fun e w' => e = .returned (.agg (fl fun j => f j + g j).toArray) ∧ Below w.heap.size w w' := by
  have HS0 : Hid (Has w.heap.size w [BlockR w.heap.size (fl fun j => if j < 0 then f j + g j else f j), BlockR (w.heap.size + 1 + 1) (fl fun _ => 0), BlockR (w.heap.size + 1) (fl g)] (((w.alloc (.cells #[.int .i64 (f 0 : Nat), .int .i64 (f 1 : Nat), .int .i64 (f 2 : Nat), .int .i64 (f 3 : Nat), .int .i64 (f 4 : Nat)] 47)).alloc (.cells #[.int .i64 (g 0 : Nat), .int .i64 (g 1 : Nat), .int .i64 (g 2 : Nat), .int .i64 (g 3 : Nat), .int .i64 (g 4 : Nat)] 47)).alloc (.cells #[.int .i64 0, .int .i64 0, .int .i64 0, .int .i64 0, .int .i64 0] 47))) := by
    have h1 := (Has.start w).box (fl f) 47
    have h2 := h1.box (fl g) 47
    have h3 := h2.box (fl fun _ => 0) 47
    have e : ∀ (w : World) (o : Obj), (w.alloc o).heap.size = w.heap.size + 1 := fun w o => by simp
    simp only [e] at h3
    exact h3.perm (List.perm_middle (l₁ := [_, _]))
  have IX : Hid (∀ n : Nat, n < 5 → ∀ w, (Instr.index 47 (.agg #[.int .i64 (g 0 : Nat), .int .i64 (g 1 : Nat), .int .i64 (g 2 : Nat), .int .i64 (g 3 : Nat), .int .i64 (g 4 : Nat)]) (.int .i64 (n : Int))).run Tryd.prog w = .ok (.int .i64 (g n : Nat)) w) := fun n hn w => index5 g n hn w
  have HF : Hid (∀ j, f j ≤ 1000000) := hf
  have HG : Hid (∀ j, g j ≤ 1000000) := hg
  clear hf hg
  unfold fl at *
  go_enter Tryd.func25, Tryd.ntmps25
  go_wp2_with fail
  generalize (((w.alloc (.cells #[.int .i64 (f 0 : Nat), .int .i64 (f 1 : Nat), .int .i64 (f 2 : Nat), .int .i64 (f 3 : Nat), .int .i64 (f 4 : Nat)] 47)).alloc (.cells #[.int .i64 (g 0 : Nat), .int .i64 (g 1 : Nat), .int .i64 (g 2 : Nat), .int .i64 (g 3 : Nat), .int .i64 (g 4 : Nat)] 47)).alloc (.cells #[.int .i64 0, .int .i64 0, .int .i64 0, .int .i64 0, .int .i64 0] 47)) = w0 at *
  go_loopw [8] (fun i wq => ∃ n : Nat, n ≤ 5 ∧ i = .int .i64 (n : Int) ∧ Hid (Has w.heap.size w [BlockR w.heap.size (fl fun j => if j < n then f j + g j else f j), BlockR (w.heap.size + 1 + 1) (fl fun _ => 0), BlockR (w.heap.size + 1) (fl g)] wq)) (fun i _ => 5 - (intOf i).toNat)
  case atStart => exact ⟨0, Nat.zero_le _, rfl, HS0⟩
  case round =>
    obtain ⟨n, hn, rfl, H⟩ := hrel
    clear HS0
    by_cases hlt : n < 5
    · have hltI : (n : Int) < 5 := by omega
      have ix := IX.out n hlt
      obtain ⟨q1, q2⟩ := H.out.five List.mem_cons_self n hlt
      simp only [Nat.lt_irrefl, if_false] at q1
      have b1 : (f n : Int) ≤ 1000000 := by have := HF.out n; omega
      have b2 : (g n : Int) ≤ 1000000 := by have := HG.out n; omega
      have H2 : Hid (Has w.heap.size w [BlockR w.heap.size (fl fun j => if j < n + 1 then f j + g j else f j), BlockR (w.heap.size + 1 + 1) (fl fun _ => 0), BlockR (w.heap.size + 1) (fl g)] (wr.setCell ⟨w.heap.size, n, none⟩ (.int .i64 ((f n : Int) + (g n : Int))))) := by
        have h2 := H.out.put5 n hlt (f n + g n)
        rw [Int.natCast_add] at h2
        rw [fl_congr (g := fun j => if j < n + 1 then f j + g j else f j) (fun j hj => by
          unfold upd5
          by_cases e : j = n
          · subst e; simp
          · by_cases e2 : j < n
            · simp [e, e2, show j < n + 1 by omega]
            · simp [e, e2, show ¬ j < n + 1 by omega])] at h2
        exact h2
      clear IX HF HG
      go_wp2
      exact ⟨⟨n + 1, by omega, by go_num, H2⟩, by simp [intOf]; omega⟩
    · have hltI : ¬ (n : Int) < 5 := by omega
      have H0 := H.out
      rw [show n = 5 by omega, fl_congr (f := fun j => if j < 5 then f j + g j else f j) (g := fun j => f j + g j) (fun j hj => by simp [hj])] at H0
      obtain ⟨i0, _⟩ := H0.five List.mem_cons_self 0 (by omega)
      obtain ⟨i1, _⟩ := H0.five List.mem_cons_self 1 (by omega)
      obtain ⟨i2, _⟩ := H0.five List.mem_cons_self 2 (by omega)
      obtain ⟨i3, _⟩ := H0.five List.mem_cons_self 3 (by omega)
      obtain ⟨i4, _⟩ := H0.five List.mem_cons_self 4 (by omega)
      have H1 := H0.perm (List.Perm.swap _ _ _)
      obtain ⟨j0, k0⟩ := H1.five List.mem_cons_self 0 (by omega)
      obtain ⟨j1, k1⟩ := H1.five List.mem_cons_self 1 (by omega)
      obtain ⟨j2, k2⟩ := H1.five List.mem_cons_self 2 (by omega)
      obtain ⟨j3, k3⟩ := H1.five List.mem_cons_self 3 (by omega)
      obtain ⟨j4, k4⟩ := H1.five List.mem_cons_self 4 (by omega)
      have H2 := H1.fill5 (fun j => f j + g j)
      have HFC : Hid _ := fun (j : Nat) (hj : j < 5) => (H2.five List.mem_cons_self j hj).1
      have HFB : Hid _ := H2.bel
      clear H0 H1 H2 IX HF HG
      go_wp2
      exact bodyPost_ret (results_cell5 rfl _ _ (w.heap.size + 1 + 1) (fun j => f j + g j) _ rfl HFC.out Tryd.underlying47 rfl (by kernel_rfl)) rfl ⟨rfl, HFB.out⟩
theorem ofNamed_any (q : Nat) (hq : q < 4) (w : World) : Calls Tryd.prog 26 #[.int .i64 (q : Int)] w fun e w' => e = .returned (.agg #[.int .i64 (named1 q 0 : Nat), .int .i64 (named1 q 1 : Nat), .int .i64 (named1 q 2 : Nat), .int .i64 (named1 q 3 : Nat), .int .i64 (named1 q 4 : Nat)]) ∧ Below w.heap.size w w' := by
  have h4 : q = 0 ∨ q = 1 ∨ q = 2 ∨ q = 3 := by omega
  rcases h4 with rfl | rfl | rfl | rfl
  · exact ofNamed0 w
  · exact ofNamed1 w
  · exact ofNamed2 w
  · exact ofNamed3 w
theorem ofStep_any (s : StepD) (q : Nat) (hq : q < 4) (ka na : Option Addr) (kl kc nl nc : Nat) (w : World) : Calls Tryd.prog 27 #[.agg #[.string s.name, .int .i64 s.kind, .int .i64 (q : Int), .slice ka kl kc, .slice na nl nc]] w fun e w' => e = .returned (.agg #[.int .i64 (step1 s q 0 : Nat), .int .i64 (step1 s q 1 : Nat), .int .i64 (step1 s q 2 : Nat), .int .i64 (step1 s q 3 : Nat), .int .i64 (step1 s q 4 : Nat)]) ∧ Below w.heap.size w w' := by
  have h4 : q = 0 ∨ q = 1 ∨ q = 2 ∨ q = 3 := by omega
  by_cases hk : s.kind = 1
  · have hn : nOf s = 2 := by unfold nOf; rw [if_pos hk]
    unfold step1
    rw [hn, hk]
    rcases h4 with rfl | rfl | rfl | rfl
    · exact ofStepC0 s.name ka na kl kc nl nc w
    · exact ofStepC1 s.name ka na kl kc nl nc w
    · exact ofStepC2 s.name ka na kl kc nl nc w
    · exact ofStepC3 s.name ka na kl kc nl nc w
  · have hn : nOf s = 1 := by unfold nOf; rw [if_neg hk]
    have hk2 : (s.kind == 1) = false := by simpa using hk
    unfold step1
    rw [hn]
    rcases h4 with rfl | rfl | rfl | rfl
    · exact ofStepR0 s.name _ hk2 ka na kl kc nl nc w
    · exact ofStepR1 s.name _ hk2 ka na kl kc nl nc w
    · exact ofStepR2 s.name _ hk2 ka na kl kc nl nc w
    · exact ofStepR3 s.name _ hk2 ka na kl kc nl nc w
end Go.Proofs.YtaeakednekbekaaDoor
