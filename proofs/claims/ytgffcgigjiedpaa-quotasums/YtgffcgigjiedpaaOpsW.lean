/- The walks of the quota's methods. -/
import Derived.Test.YtgffcgigjiedpaaPartW
set_option linter.unusedVariables false
set_option maxRecDepth 100000
namespace Go.Proofs.Ytgffcgigjiedpaa
open Go.RowKit

theorem Has.keep1 {B : Nat} {w wr : World} {a x : Res} {rs : List Res} (h : Has B w (a :: x :: rs) wr) : Has B w (a :: rs) wr := (h.perm (List.Perm.swap _ _ _)).drop
theorem Has.cells {B : Nat} {w wr : World} {q : Nat} {vs : List Value} {rs : List Res} (h : Has B w rs wr) (hm : BlockR q vs ∈ rs) : ∀ j v, vs[j]? = some v → wr.cell? ⟨q, j, none⟩ = some v := fun j v hj => (h.cell hm j v hj).1
def NewOk (m : Int) (f : Five) : Prop := 1 ≤ m ∧ m ≤ 12 ∧ ∀ j : Nat, j < 5 → BudgetOk (f j)
set_option maxHeartbeats 2000000 in
theorem new_yes {B : Nat} {w wr : World} {rs : List Res} (h : Has B w rs wr) (m : Int) (f : Five) (hok : NewOk m f) :
    Calls Try.prog 6 #[.int .i64 m, .int .i64 (f 4), .agg #[.int .i64 (f 0), .int .i64 (f 1), .int .i64 (f 2), .int .i64 (f 3)]] wr fun e w' => ∃ q, e = .returned (.tuple #[.pointer (some ⟨q, 0, none⟩), .int .i64 0]) ∧ Has B w (BlockR q (q7 m 0 f) :: rs) w' := by
  obtain ⟨h1, h2, h3⟩ := hok
  have H : Hid (Has B w rs wr) := h
  have CU : Hid (∀ wq, Calls Try.prog 15 #[.int .i64 (f 4), .agg #[.int .i64 (f 0), .int .i64 (f 1), .int .i64 (f 2), .int .i64 (f 3)]] wq fun e w' => e = .returned (.agg #[.int .i64 (f 0), .int .i64 (f 1), .int .i64 (f 2), .int .i64 (f 3), .int .i64 (f 4)]) ∧ Below wq.heap.size wq w') := fun wq => unitsOf_any wq f
  have CA : Hid (∀ wq, Calls Try.prog 16 #[.agg #[.int .i64 (f 0), .int .i64 (f 1), .int .i64 (f 2), .int .i64 (f 3), .int .i64 (f 4)], .func (.func 17) #[] #[]] wq fun e w' => e = .returned (.bool true) ∧ Below wq.heap.size wq w') := fun wq => by
    have k := all_budget wq f
    rw [tt_yes h3] at k
    exact k
  clear h h3
  obtain ⟨f0, hf0⟩ : ∃ x, f 0 = x := ⟨_, rfl⟩
  obtain ⟨f1, hf1⟩ : ∃ x, f 1 = x := ⟨_, rfl⟩
  obtain ⟨f2, hf2⟩ : ∃ x, f 2 = x := ⟨_, rfl⟩
  obtain ⟨f3, hf3⟩ : ∃ x, f 3 = x := ⟨_, rfl⟩
  obtain ⟨f4, hf4⟩ : ∃ x, f 4 = x := ⟨_, rfl⟩
  have HF0 : Hid (f 0 = f0) := hf0
  have HF1 : Hid (f 1 = f1) := hf1
  have HF2 : Hid (f 2 = f2) := hf2
  have HF3 : Hid (f 3 = f3) := hf3
  have HF4 : Hid (f 4 = f4) := hf4
  rw [hf0, hf1, hf2, hf3, hf4] at CU CA ⊢
  clear hf0 hf1 hf2 hf3 hf4
  go_enter Try.func6, Try.ntmps6
  go_wp2_with fail
  refine (CU.out _).mono ?_
  rintro e w1 ⟨rfl, b1⟩
  have HS1 : Hid (Has B w (BlockR w1.heap.size [.int .i64 f0, .int .i64 f1, .int .i64 f2, .int .i64 f3, .int .i64 f4] :: rs) (w1.alloc (.cells #[.int .i64 f0, .int .i64 f1, .int .i64 f2, .int .i64 f3, .int .i64 f4] 45))) := (((H.out.box [.int .i64 f0, .int .i64 f1, .int .i64 f2, .int .i64 f3] 22).below b1).drop).box [.int .i64 f0, .int .i64 f1, .int .i64 f2, .int .i64 f3, .int .i64 f4] 45
  clear b1 CU H
  go_wp2_with fail
  refine (CA.out _).mono ?_
  rintro e w2 ⟨rfl, b2⟩
  have HS2 : Hid (Has B w (BlockR w1.heap.size [.int .i64 f0, .int .i64 f1, .int .i64 f2, .int .i64 f3, .int .i64 f4] :: rs) w2) := HS1.out.below b2
  have HS3 : Hid (Has B w (BlockR w2.heap.size (q7 m 0 f) :: rs) (w2.alloc (.cells #[.int .i64 m, .int .i64 0, .int .i64 f0, .int .i64 f1, .int .i64 f2, .int .i64 f3, .int .i64 f4] 52))) := by
    have k := (HS2.out.box (q7 m 0 f) 52).keep1
    unfold q7 at k ⊢
    rw [HF0.out, HF1.out, HF2.out, HF3.out, HF4.out] at k ⊢
    exact k
  have hc := HS2.out.cells List.mem_cons_self
  have c0 := hc 0 _ rfl
  have c1 := hc 1 _ rfl
  have c2 := hc 2 _ rfl
  have c3 := hc 3 _ rfl
  have c4 := hc 4 _ rfl
  generalize w1.heap.size = sb at *
  clear hc HS1 HS2 CA b2 HF0 HF1 HF2 HF3 HF4
  go_wp2_with fail
  go_ret2
  exact ⟨_, rfl, HS3.out⟩
set_option maxHeartbeats 2000000 in
theorem new_no {B : Nat} {w wr : World} {rs : List Res} (h : Has B w rs wr) (m : Int) (f : Five) (hok : ¬ NewOk m f) :
    Calls Try.prog 6 #[.int .i64 m, .int .i64 (f 4), .agg #[.int .i64 (f 0), .int .i64 (f 1), .int .i64 (f 2), .int .i64 (f 3)]] wr fun e w' => e = .returned (.tuple #[.pointer none, .int .i64 1]) ∧ Has B w rs w' := by
  have H : Hid (Has B w rs wr) := h
  have CU : Hid (∀ wq, Calls Try.prog 15 #[.int .i64 (f 4), .agg #[.int .i64 (f 0), .int .i64 (f 1), .int .i64 (f 2), .int .i64 (f 3)]] wq fun e w' => e = .returned (.agg #[.int .i64 (f 0), .int .i64 (f 1), .int .i64 (f 2), .int .i64 (f 3), .int .i64 (f 4)]) ∧ Below wq.heap.size wq w') := fun wq => unitsOf_any wq f
  have CA : Hid (1 ≤ m → m ≤ 12 → ∀ wq, Calls Try.prog 16 #[.agg #[.int .i64 (f 0), .int .i64 (f 1), .int .i64 (f 2), .int .i64 (f 3), .int .i64 (f 4)], .func (.func 17) #[] #[]] wq fun e w' => e = .returned (.bool false) ∧ Below wq.heap.size wq w') := fun h1 h2 wq => by
    have k := all_budget wq f
    rw [tt_no (fun h3 => hok ⟨h1, h2, h3⟩)] at k
    exact k
  clear h hok
  generalize f 0 = f0 at *
  generalize f 1 = f1 at *
  generalize f 2 = f2 at *
  generalize f 3 = f3 at *
  generalize f 4 = f4 at *
  have fin : ∀ w1 w2, Below (wr.alloc (.cells #[.int .i64 f0, .int .i64 f1, .int .i64 f2, .int .i64 f3] 22)).heap.size (wr.alloc (.cells #[.int .i64 f0, .int .i64 f1, .int .i64 f2, .int .i64 f3] 22)) w1 → Below (w1.alloc (.cells #[.int .i64 f0, .int .i64 f1, .int .i64 f2, .int .i64 f3, .int .i64 f4] 45)).heap.size (w1.alloc (.cells #[.int .i64 f0, .int .i64 f1, .int .i64 f2, .int .i64 f3, .int .i64 f4] 45)) w2 → Has B w rs w2 := fun w1 w2 k1 k2 =>
    (((((H.out.box [.int .i64 f0, .int .i64 f1, .int .i64 f2, .int .i64 f3] 22).below k1).drop).box [.int .i64 f0, .int .i64 f1, .int .i64 f2, .int .i64 f3, .int .i64 f4] 45).below k2).drop
  have FIN : Hid (∀ w1 w2, Below (wr.alloc (.cells #[.int .i64 f0, .int .i64 f1, .int .i64 f2, .int .i64 f3] 22)).heap.size (wr.alloc (.cells #[.int .i64 f0, .int .i64 f1, .int .i64 f2, .int .i64 f3] 22)) w1 → Below (w1.alloc (.cells #[.int .i64 f0, .int .i64 f1, .int .i64 f2, .int .i64 f3, .int .i64 f4] 45)).heap.size (w1.alloc (.cells #[.int .i64 f0, .int .i64 f1, .int .i64 f2, .int .i64 f3, .int .i64 f4] 45)) w2 → Has B w rs w2) := fin
  clear fin H
  by_cases h1 : m < 1
  · go_enter Try.func6, Try.ntmps6
    go_wp2_with fail
    refine (CU.out _).mono ?_
    rintro e w1 ⟨rfl, b1⟩
    have HB : Hid (Has B w rs (w1.alloc (.cells #[.int .i64 f0, .int .i64 f1, .int .i64 f2, .int .i64 f3, .int .i64 f4] 45))) := FIN.out _ _ b1 (Below.refl _ _)
    clear CU CA b1 FIN
    go_wp2_with fail
    go_ret2
    exact ⟨rfl, HB.out⟩
  by_cases h2 : 12 < m
  · go_enter Try.func6, Try.ntmps6
    go_wp2_with fail
    refine (CU.out _).mono ?_
    rintro e w1 ⟨rfl, b1⟩
    have HB : Hid (Has B w rs (w1.alloc (.cells #[.int .i64 f0, .int .i64 f1, .int .i64 f2, .int .i64 f3, .int .i64 f4] 45))) := FIN.out _ _ b1 (Below.refl _ _)
    clear CU CA b1 FIN
    go_wp2_with fail
    go_ret2
    exact ⟨rfl, HB.out⟩
  · have CB : Hid (∀ wq, Calls Try.prog 16 #[.agg #[.int .i64 f0, .int .i64 f1, .int .i64 f2, .int .i64 f3, .int .i64 f4], .func (.func 17) #[] #[]] wq fun e w' => e = .returned (.bool false) ∧ Below wq.heap.size wq w') := CA.out (by omega) (by omega)
    clear CA
    go_enter Try.func6, Try.ntmps6
    go_wp2_with fail
    refine (CU.out _).mono ?_
    rintro e w1 ⟨rfl, b1⟩
    have HB : Hid (∀ w2, Below (w1.alloc (.cells #[.int .i64 f0, .int .i64 f1, .int .i64 f2, .int .i64 f3, .int .i64 f4] 45)).heap.size (w1.alloc (.cells #[.int .i64 f0, .int .i64 f1, .int .i64 f2, .int .i64 f3, .int .i64 f4] 45)) w2 → Has B w rs w2) := fun w2 => FIN.out _ _ b1
    clear CU b1 FIN
    go_wp2_with fail
    refine (CB.out _).mono ?_
    rintro e w2 ⟨rfl, b2⟩
    have HB2 : Hid (Has B w rs w2) := HB.out _ b2
    clear CB b2 HB
    go_wp2_with fail
    go_ret2
    exact ⟨rfl, HB2.out⟩
/-- Close. -/
theorem close_any {B : Nat} {w wr : World} {rs : List Res} (q : Nat) (m n : Int) (f : Five) (h : Has B w (BlockR q (q7 m n f) :: rs) wr) (hn : 0 ≤ n ∧ n ≤ 12) :
    Calls Try.prog 12 #[.pointer (some ⟨q, 0, none⟩)] wr fun e w' => e = .returned (.int .i64 (if n < 1 then 1 else 0)) ∧ Has B w (BlockR q (q7 m (if n < 1 then n else n - 1) f) :: rs) w' := by
  obtain ⟨c0, c1⟩ := h.cell List.mem_cons_self 1 _ rfl
  obtain ⟨n0, n1⟩ := hn
  by_cases hl : n < 1
  · have H : Hid (Has B w (BlockR q (q7 m n f) :: rs) wr) := h
    rw [if_pos hl, if_pos hl]
    clear h
    go_enter Try.func12, Try.ntmps12
    go_wp2_with fail
    go_ret
    exact ⟨rfl, H.out⟩
  · have H : Hid (Has B w (BlockR q (q7 m (n - 1) f) :: rs) (wr.setCell ⟨q, 1, none⟩ (.int .i64 (n - 1)))) := h.put 1 (by show 1 < 7; omega) _
    rw [if_neg hl, if_neg hl]
    clear h
    go_enter Try.func12, Try.ntmps12
    go_wp2_with fail
    go_ret
    exact ⟨rfl, H.out⟩
def CostCells (w : World) (b : Nat) : Prop := (∃ v, w.cell? ⟨b, 0, none⟩ = some v) ∧ (∃ v, w.cell? ⟨b, 1, none⟩ = some v) ∧ (∃ v, w.cell? ⟨b, 2, none⟩ = some v) ∧ (∃ v, w.cell? ⟨b, 3, none⟩ = some v) ∧ (∃ v, w.cell? ⟨b, 4, none⟩ = some v) ∧ w.frozen? ⟨b, 0, none⟩ = false ∧ w.frozen? ⟨b, 1, none⟩ = false ∧ w.frozen? ⟨b, 2, none⟩ = false ∧ w.frozen? ⟨b, 3, none⟩ = false ∧ w.frozen? ⟨b, 4, none⟩ = false
def z5 : List Value := [.int .i64 0, .int .i64 0, .int .i64 0, .int .i64 0, .int .i64 0]
def c5 (f : Five) : List Value := [.int .i64 (f 4), .int .i64 (f 0), .int .i64 (f 1), .int .i64 (f 2), .int .i64 (f 3)]
theorem Has.fill5 {B : Nat} {w wr : World} {q : Nat} {a b c d e a' b' c' d' e' : Value} {rs : List Res} (h : Has B w (BlockR q [a, b, c, d, e] :: rs) wr) :
    Has B w (BlockR q [a', b', c', d', e'] :: rs) (((((wr.setCell ⟨q, 0, none⟩ a').setCell ⟨q, 1, none⟩ b').setCell ⟨q, 2, none⟩ c').setCell ⟨q, 3, none⟩ d').setCell ⟨q, 4, none⟩ e') :=
  ((((h.put 0 (by simp) a').put 1 (by simp) b').put 2 (by simp) c').put 3 (by simp) d').put 4 (by simp) e'
set_option maxHeartbeats 2000000 in
theorem left_any {B : Nat} {w wr : World} {rs : List Res} (q : Nat) (m n : Int) (f : Five) (h : Has B w rs wr) (hm : BlockR q (q7 m n f) ∈ rs) :
    Calls Try.prog 9 #[.pointer (some ⟨q, 0, none⟩)] wr fun e w' => e = .returned (.tuple #[.int .i64 n, .agg #[.int .i64 (f 4), .int .i64 (f 0), .int .i64 (f 1), .int .i64 (f 2), .int .i64 (f 3)]]) ∧ Has B w rs w' := by
  obtain ⟨c0, c1⟩ := h.cell hm 1 _ rfl
  have hq : q < wr.heap.size := block_lt_of_cell c0
  have HS1 : Hid (Has B w (BlockR wr.heap.size [.int .i64 0, .int .i64 0, .int .i64 0, .int .i64 0, .int .i64 0] :: rs) (wr.alloc (.cells #[.int .i64 0, .int .i64 0, .int .i64 0, .int .i64 0, .int .i64 0] 32))) := h.box [.int .i64 0, .int .i64 0, .int .i64 0, .int .i64 0, .int .i64 0] 32
  obtain ⟨sb, hsb⟩ : ∃ sb, wr.heap.size = sb := ⟨_, rfl⟩
  have HSB : Hid (sb = wr.heap.size) := hsb.symm
  have CC : Hid (∀ wq, Has B w (BlockR sb [.int .i64 0, .int .i64 0, .int .i64 0, .int .i64 0, .int .i64 0] :: rs) wq → Calls Try.prog 18 #[.pointer (some ⟨q, 2, none⟩)] wq fun e w' => e = .returned (.agg #[.int .i64 (f 4), .int .i64 (f 0), .int .i64 (f 1), .int .i64 (f 2), .int .i64 (f 3)]) ∧ w'.cell? ⟨q, 1, none⟩ = some (.int .i64 n) ∧
      w'.cell? ⟨sb, 0, none⟩ = some (.int .i64 0) ∧ w'.cell? ⟨sb, 1, none⟩ = some (.int .i64 0) ∧ w'.cell? ⟨sb, 2, none⟩ = some (.int .i64 0) ∧ w'.cell? ⟨sb, 3, none⟩ = some (.int .i64 0) ∧ w'.cell? ⟨sb, 4, none⟩ = some (.int .i64 0) ∧
      w'.frozen? ⟨sb, 0, none⟩ = false ∧ w'.frozen? ⟨sb, 1, none⟩ = false ∧ w'.frozen? ⟨sb, 2, none⟩ = false ∧ w'.frozen? ⟨sb, 3, none⟩ = false ∧ w'.frozen? ⟨sb, 4, none⟩ = false ∧ Hid (Has B w (BlockR sb [.int .i64 0, .int .i64 0, .int .i64 0, .int .i64 0, .int .i64 0] :: rs) w')) := fun wq hq => by
    refine (cost_any wq q m n f (hq.cells (List.mem_cons_of_mem _ hm))).mono ?_
    rintro e w' ⟨rfl, hb⟩
    have k := hq.below hb
    exact ⟨rfl, (k.cell (List.mem_cons_of_mem _ hm) 1 _ rfl).1, (k.cell List.mem_cons_self 0 _ rfl).1, (k.cell List.mem_cons_self 1 _ rfl).1, (k.cell List.mem_cons_self 2 _ rfl).1, (k.cell List.mem_cons_self 3 _ rfl).1, (k.cell List.mem_cons_self 4 _ rfl).1,
      (k.cell List.mem_cons_self 0 _ rfl).2, (k.cell List.mem_cons_self 1 _ rfl).2, (k.cell List.mem_cons_self 2 _ rfl).2, (k.cell List.mem_cons_self 3 _ rfl).2, (k.cell List.mem_cons_self 4 _ rfl).2, k⟩
  have d0 := (HS1.out.cell (List.mem_cons_of_mem _ hm) 1 _ rfl).1
  rw [hsb] at HS1
  have hne1 : ¬ q = sb := by omega
  have hne2 : ¬ sb = q := by omega
  clear h hm
  generalize f 0 = f0 at *
  generalize f 1 = f1 at *
  generalize f 2 = f2 at *
  generalize f 3 = f3 at *
  generalize f 4 = f4 at *
  go_enter Try.func9, Try.ntmps9
  go_wp2_with fail
  generalize (wr.alloc (.cells #[.int .i64 0, .int .i64 0, .int .i64 0, .int .i64 0, .int .i64 0] 32)) = w1 at *
  clear hsb HSB hq c0 c1
  go_region_held3 (fun w' => w'.cell? ⟨q, 1, none⟩ = some (.int .i64 n)) (go_keep) ((go_at_call 18; refine (CC.out _ (HS1.out.below (Below.refl _ _).drew)).mono ?_; rintro e w2 ⟨rfl, m0, e0, e1, e2, e3, e4, g0, g1, g2, g3, g4, HS2⟩))
  have HF : Hid (Has B w rs (((((w2.setCell ⟨sb, 0, none⟩ (.int .i64 f4)).setCell ⟨sb, 1, none⟩ (.int .i64 f0)).setCell ⟨sb, 2, none⟩ (.int .i64 f1)).setCell ⟨sb, 3, none⟩ (.int .i64 f2)).setCell ⟨sb, 4, none⟩ (.int .i64 f3))) := HS2.out.fill5.drop
  clear HS2 HS1 CC
  go_wp2
  exact bodyPost_ret (results_tmp_five rfl _ _ sb _ _ _ _ _ _ rfl (by go_simp) (by go_simp) (by go_simp) (by go_simp) (by go_simp) Try.underlying32 rfl (by kernel_rfl)) rfl ⟨rfl, HF.out⟩
end Go.Proofs.Ytgffcgigjiedpaa
