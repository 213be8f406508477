/- The walks of tableMayBe, Clone, delayOf, addTicks, isTick, New, Delay. -/
import Derived.Test.YteadnjagandkfaaRBase
set_option linter.unusedVariables false
set_option maxRecDepth 100000
namespace Go.Proofs.Yteadnjagandkfaa
open Go.RowKit
open WheelMath RetryMath
open Go.Maps (Keyed)

/-- A slice value that leads to the numbers xs. -/
def IRow (w : World) (v : Value) (xs : List Int) : Prop := ∃ ao cap, v = .slice ao xs.length cap ∧ xs.length ≤ cap ∧ (ao = none → cap = 0) ∧ ∀ j, (h : j < xs.length) → ∃ g o, ao = some ⟨g, o, none⟩ ∧ g < w.heap.size ∧ w.cell? ⟨g, o + j, none⟩ = some (.int .i64 xs[j])
theorem irow_own {w : World} {B e : Nat} {v : Value} {xs : List Int} (h : w.ownsRow B e 1 v xs.length (xs.map fun n => .int .i64 n)) : IRow w v xs := by
  obtain ⟨ao, cap, rfl, h1, h2, h3⟩ := own_form h
  refine ⟨ao, cap, rfl, h1, fun e => (h2 e).2, fun j hj => ?_⟩
  cases ao with
  | none => have := (h2 rfl).1; omega
  | some p =>
    obtain ⟨g, rfl, _, k2, k3, _, _⟩ := h3 p rfl
    exact ⟨g, 0, rfl, k2, by rw [Nat.zero_add, k3 _ (by omega)]; simp [hj]⟩
theorem irow_below {w w' : World} {v : Value} {xs : List Int} (h : IRow w v xs) (hb : Below w.heap.size w w') : IRow w' v xs := by
  obtain ⟨ao, cap, h1, h2, h3, h4⟩ := h
  refine ⟨ao, cap, h1, h2, h3, fun j hj => ?_⟩
  obtain ⟨g, o, k1, k2, k3⟩ := h4 j hj
  have := hb.size
  exact ⟨g, o, k1, by omega, (hb.cell (p := ⟨g, o + j, none⟩) k2).trans k3⟩
theorem Has.irow {B : Nat} {w wr : World} {v : Value} {xs : List Int} {rs : List Res} (h : Has B w rs wr) (hm : IRowR v xs ∈ rs) : IRow wr v xs := irow_own (h.own hm)

theorem mayFrom_yes {a t : Int} {l : List Int} (h1 : ¬ t < a) (h2 : ¬ 1000 < t) : mayFrom a (t :: l) = mayFrom t l := by simp [mayFrom, h1, h2]
theorem mayFrom_low {a t : Int} {l : List Int} (h1 : t < a) : mayFrom a (t :: l) = false := by simp [mayFrom, h1]
theorem mayFrom_high {a t : Int} {l : List Int} (h1 : 1000 < t) : mayFrom a (t :: l) = false := by simp [mayFrom, h1]
set_option maxHeartbeats 2000000 in
theorem mayBe_any (v : Value) (l : List Int) (hl : l.length ≤ 140737488355328) (w : World) (h : IRow w v l) :
    Calls Try.prog 26 #[v] w fun e w' => e = .returned (.bool (may l)) ∧ w' = w := by
  obtain ⟨ao, cap, rfl, hcap, _, hrow⟩ := h
  by_cases h1 : l.length < 1
  · obtain rfl : l = [] := List.eq_nil_of_length_eq_zero (by omega)
    clear hrow
    go_enter Try.func26, Try.ntmps26
    go_wp2
    go_ret
    exact ⟨rfl, rfl⟩
  · by_cases h8 : 8 < l.length
    · have HF : Hid (may l = false) := by
        have x : may l = false := by unfold may; simp [h1, h8]
        exact x
      have d1 : decide ((l.length : Int) < 1) = false := by simp; omega
      have d2 : decide ((8 : Int) < (l.length : Int)) = true := by simp; omega
      clear h1 h8 hrow
      go_enter Try.func26, Try.ntmps26
      go_wp2
      go_ret
      rw [HF.out]
      exact ⟨rfl, rfl⟩
    · have HF : Hid (may l = mayFrom 1 l) := by
        have x : may l = mayFrom 1 l := by unfold may; simp [h1, h8]
        exact x
      have HR : Hid (∀ j, (h : j < l.length) → ∃ g o, ao = some ⟨g, o, none⟩ ∧ g < w.heap.size ∧ w.cell? ⟨g, o + j, none⟩ = some (.int .i64 l[j])) := hrow
      have d1 : decide ((l.length : Int) < 1) = false := by simp; omega
      have d2 : decide ((8 : Int) < (l.length : Int)) = false := by simp; omega
      clear hrow
      go_enter Try.func26, Try.ntmps26
      go_wp2
      go_loop [3, 16] (fun a i => ∃ (k : Nat) (m : Int), k ≤ l.length ∧ i = .int .i64 (k : Int) ∧ a = .int .i64 m ∧ Hid (mayFrom 1 l = mayFrom m (l.drop k))) (fun _ i => l.length - (intOf i).toNat)
      case atStart => exact ⟨0, 1, Nat.zero_le _, rfl, rfl, rfl⟩
      case round =>
        obtain ⟨k, m, hk, rfl, rfl, HP⟩ := hrel
        by_cases hlt : k < l.length
        · have hltI : (k : Int) < (l.length : Int) := by omega
          obtain ⟨g, o, rfl, hg, c0⟩ := HR.out k hlt
          have HD : Hid (l.drop k = l[k] :: l.drop (k + 1)) := List.drop_eq_getElem_cons hlt
          generalize l[k] = t at *
          by_cases t1 : t < m
          · have HE : Hid (may l = false) := by
              have x : may l = false := by rw [HF.out, HP.out, HD.out, mayFrom_low t1]
              exact x
            have e1 : decide (t < m) = true := by simpa using t1
            clear HP HF HD HR
            go_wp2
            go_ret
            rw [HE.out]
            exact ⟨rfl, rfl⟩
          · have e1 : decide (t < m) = false := by simpa using t1
            by_cases t2 : 1000 < t
            · have HE : Hid (may l = false) := by
                have x : may l = false := by rw [HF.out, HP.out, HD.out, mayFrom_high t2]
                exact x
              have e2 : decide (1000 < t) = true := by simpa using t2
              clear HP HF HD HR
              go_wp2
              go_ret
              rw [HE.out]
              exact ⟨rfl, rfl⟩
            · have e2 : decide (1000 < t) = false := by simpa using t2
              have HP2 : Hid (mayFrom 1 l = mayFrom t (l.drop (k + 1))) := by
                have x : mayFrom 1 l = mayFrom t (l.drop (k + 1)) := by rw [HP.out, HD.out, mayFrom_yes t1 t2]
                exact x
              clear HP HD
              go_wp2
              exact ⟨⟨k + 1, t, by omega, by go_num, rfl, HP2⟩, by simp [intOf]; omega⟩
        · have hltI : ¬ (k : Int) < (l.length : Int) := by omega
          have HE : Hid (may l = true) := by
            have x : may l = true := by rw [HF.out, HP.out, show k = l.length by omega, List.drop_length]; rfl
            exact x
          clear HP HF HR
          go_wp2
          go_ret
          rw [HE.out]
          exact ⟨rfl, rfl⟩
theorem iv_len (l : List Int) : (l.map fun n => Value.int .i64 n).length = l.length := List.length_map _
theorem iv_one (l : List Int) : ∀ u ∈ l.map (fun n => Value.int .i64 n), u.oneCell' = true := by
  intro u hu
  obtain ⟨n, _, rfl⟩ := List.mem_map.1 hu
  rfl
theorem heap_new (w : World) (o : Obj) : (w.alloc o).heap[w.heap.size]? = some o := by
  unfold World.alloc
  simp
/-- A row of the call's own. -/
def AllOk (w : World) (l : List Int) (e : Ending) (w' : World) : Prop := ∃ v, e = .returned v ∧ w'.ownsRow w.heap.size 3 1 v l.length (l.map fun n => .int .i64 n) ∧ Below w.heap.size w w'
theorem clone_any (w : World) (v : Value) (l : List Int) (hl : l.length ≤ 200) (h : IRow w v l) :
    Calls Try.prog 27 #[v] w fun e w' => AllOk w l e w' := by
  obtain ⟨i0, hi, hz0, hz1, hz2⟩ := info_parts infoI
  obtain ⟨ao, cap, rfl, h1, h2, h3⟩ := h
  have he : ∀ (w : World) (a : Option Addr) (n c : Nat), (binOp .eql 22 (.slice a n c) (.slice none 0 0)).run Try.prog w = .ok (.bool a.isNone) w := fun w a n c => Go.Lib.run_eql_slice_nil w 22 3 a n c 0 0 Try.underlying22
  cases ao with
  | none =>
    have he' : ∀ (w : World) (n c : Nat), (binOp .eql 22 (.slice none n c) (.slice none 0 0)).run Try.prog w = .ok (.bool true) w := fun w n c => he w none n c
    clear he
    obtain rfl := h2 rfl
    obtain rfl : l = [] := List.eq_nil_of_length_eq_zero (by omega)
    clear h3 h2
    show Calls Try.prog 27 #[.slice none 0 0] w fun e w' => AllOk w [] e w'
    go_enter Try.func27, Try.ntmps27
    go_wp2
    go_ret
    exact ⟨_, rfl, World.ownsRow_nil _ _ _ _, Below.refl _ _⟩
  | some p =>
    have he' : ∀ (w : World) (p : Addr) (n c : Nat), (binOp .eql 22 (.slice (some p) n c) (.slice none 0 0)).run Try.prog w = .ok (.bool false) w := fun w p n c => he w (some p) n c
    clear he
    have h0 : (w.alloc (.cells #[] 3)).ownsRow w.heap.size 3 1 (.slice (some ⟨w.heap.size, 0, none⟩) 0 0) 0 [] := by
      refine ⟨rfl, Or.inr ⟨w.heap.size, 0, #[], rfl, Nat.le_refl _, heap_new w _, Nat.le_refl _, by unfold maxLen; omega, rfl, rfl⟩⟩
    have hsrc : ∀ j u, (l.map fun n => Value.int .i64 n)[j]? = some u → (w.alloc (.cells #[] 3)).cell? (p.add j) = some u := fun j u hu => by
      have hj : j < l.length := by rw [← iv_len l]; exact (List.getElem?_eq_some_iff.1 hu).1
      obtain ⟨g, o, k0, k1, k2⟩ := h3 j hj
      cases k0
      rw [Addr.add_lit, ((Below.refl w.heap.size w).alloc (Nat.le_refl _) (.cells #[] 3)).cell (p := ⟨g, o + j, none⟩) k1, k2]
      simp [hj] at hu
      rw [hu]
    clear h3 h2
    go_enter Try.func27, Try.ntmps27
    go_wp2_with (at_builtin; refine wpList_append_any _ rfl _ _ 22 rfl w.heap.size 3 i0 (.int .i64 0) 1 8 Try.underlying22 hi hz0 hz1 hz2 rfl (by decide) w ((Below.refl _ _).alloc (Nat.le_refl _) _) (by simp) _ 0 [] rfl h0 (some p) l.length cap (l.map fun n => .int .i64 n) rfl (by rw [iv_len, Nat.mul_one]) (Or.inr ⟨_, rfl, hsrc⟩) (iv_one _) (by unfold maxLen; omega) (by omega) ?_)
    intro ao' cap' w2 k1 k2 k3
    have HK : Hid (w2.ownsRow w.heap.size 3 1 (.slice ao' l.length cap') l.length (l.map fun n => .int .i64 n)) := k1
    clear k1 hsrc h0
    go_wp2
    go_ret
    exact ⟨_, rfl, HK.out, k2⟩
/-- Which one: the number, or the last. -/
theorem delayOf_any (v : Value) (l : List Int) (hl : 1 ≤ l.length) (hl8 : l.length ≤ 8) (n : Int) (hn : 0 ≤ n) (hn2 : n ≤ 9223372036854775807) (w : World) (h : IRow w v l) :
    Calls Try.prog 29 #[v, .int .i64 n] w fun e w' => e = .returned (.int .i64 (dly l n)) ∧ w' = w := by
  obtain ⟨ao, cap, rfl, hcap, _, hrow⟩ := h
  obtain ⟨m, hm, hmI⟩ : ∃ m : Nat, m = min n.toNat (l.length - 1) ∧ (m : Int) = if n ≤ (l.length : Int) - 1 then n else (l.length : Int) - 1 := ⟨_, rfl, by split <;> omega⟩
  have hml : m < l.length := by omega
  obtain ⟨g, o, rfl, hg, c0⟩ := hrow m hml
  have HD : Hid (dly l n = l[m]) := by
    have x : dly l n = l[m] := by
      unfold dly
      rw [← hm, List.getD_eq_getElem?_getD, List.getElem?_eq_getElem hml]
      rfl
    exact x
  generalize l[m] = t at *
  have hlI : 1 ≤ (l.length : Int) := by omega
  have hl8I : (l.length : Int) ≤ 8 := by omega
  have hwr : IntKind.i64.wrap ((l.length : Int) - 1) = (l.length : Int) - 1 := by rw [IntKind.wrap_i64] <;> omega
  clear hrow hm
  by_cases hc : n ≤ (l.length : Int) - 1
  · rw [if_pos hc] at hmI
    subst hmI
    have hmn : min (m : Int) ((l.length : Int) - 1) = (m : Int) := by omega
    go_enter Try.func29, Try.ntmps29
    go_wp2
    go_ret
    rw [HD.out]
    exact ⟨rfl, rfl⟩
  · rw [if_neg hc] at hmI
    obtain ⟨M, hM⟩ : ∃ M, l.length = M + 1 := ⟨l.length - 1, by omega⟩
    obtain rfl : m = M := by omega
    have hmn : min n (m : Int) = (m : Int) := by omega
    rw [hM] at *
    clear hwr hlI hl8I hmI hM hl hcap
    have hnm : ¬ n ≤ (m : Int) := by omega
    clear hc
    have h8 : m ≤ 7 := by omega
    clear hl8
    go_enter Try.func29, Try.ntmps29
    go_wp2
    go_ret
    rw [HD.out]
    exact ⟨rfl, rfl⟩
theorem addTicks_any (now n : Int) (h : Tick now) (hn : 0 ≤ n) (hn2 : n ≤ 1073741824) (w : World) :
    Calls Try.prog 30 #[.int .i64 now, .int .i64 n] w fun e w' => e = .returned (.int .i64 (later now n)) ∧ w' = w := by
  unfold Tick M at h
  by_cases hc : 1073741824 - now < n
  · have e : later now n = 1073741824 := by unfold later M; rw [if_pos hc]
    rw [e]
    have d1 : decide (1073741824 - now < n) = true := by simpa using hc
    clear e
    go_enter Try.func30, Try.ntmps30
    go_wp2
    go_ret
    exact ⟨rfl, rfl⟩
  · have e : later now n = now + n := by unfold later M; rw [if_neg hc]
    rw [e]
    have d1 : decide (1073741824 - now < n) = false := by simpa using hc
    clear e
    go_enter Try.func30, Try.ntmps30
    go_wp2
    go_ret
    exact ⟨rfl, rfl⟩
theorem isTick_any (now : Int) (w : World) : Calls Try.prog 33 #[.int .i64 now] w fun e w' => e = .returned (.bool (decide (Tick now))) ∧ w' = w := by
  by_cases h0 : 0 ≤ now
  · by_cases h1 : now ≤ 1073741824
    · have e : decide (Tick now) = true := decide_eq_true ⟨h0, h1⟩
      rw [e]
      clear e
      go_enter Try.func33, Try.ntmps33
      go_wp2
      go_ret
      exact ⟨rfl, rfl⟩
    · have e : decide (Tick now) = false := decide_eq_false (fun h => h1 h.2)
      rw [e]
      clear e
      go_enter Try.func33, Try.ntmps33
      go_wp2
      go_ret
      exact ⟨rfl, rfl⟩
  · have e : decide (Tick now) = false := decide_eq_false (fun h => h0 h.1)
    rw [e]
    clear e
    go_enter Try.func33, Try.ntmps33
    go_wp2
    go_ret
    exact ⟨rfl, rfl⟩
end Go.Proofs.Yteadnjagandkfaa
