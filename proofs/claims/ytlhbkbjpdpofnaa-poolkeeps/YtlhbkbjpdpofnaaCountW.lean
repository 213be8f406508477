/- The walk of the law's own count; what the law PoolKeeps keeps. -/
import Derived.Test.YtlhbkbjpdpofnaaOpsW
set_option linter.unusedVariables false
set_option maxRecDepth 100000
namespace Go.Proofs.Ytlhbkbjpdpofnaa
open Go.RowKit

def cnt (l : List Txt) (s : Txt) : Nat := (l.filter fun x => decide (x = s)).length
theorem cnt_len (l : List Txt) (s : Txt) : cnt l s ≤ l.length := List.length_filter_le _ _
theorem cnt_append (l m : List Txt) (s : Txt) : cnt (l ++ m) s = cnt l s + cnt m s := by simp [cnt]
theorem cnt_perm {l m : List Txt} (h : l.Perm m) (s : Txt) : cnt l s = cnt m s := (h.filter _).length_eq
theorem cnt_step {l : List Txt} {k : Nat} (hk : k < l.length) (s : Txt) : cnt (l.take (k + 1)) s = cnt (l.take k) s + (if l[k] = s then 1 else 0) := by
  rw [List.take_succ_eq_append_getElem hk, cnt_append]
  congr 1
  by_cases h : l[k] = s <;> simp [cnt, h]
/-- How the model compares texts. -/
theorem txt_ne {x s : Txt} (h : ¬ x = s) : (ByteArray.toList x == ByteArray.toList s) = false := by
  rw [ByteArray.toList_eq, ByteArray.toList_eq, beq_eq_false_iff_ne]
  exact fun e => h (by cases x; cases s; simp at e; rw [e])
set_option maxHeartbeats 1000000 in
theorem count_any (v : Value) (l : List Txt) (hl : l.length ≤ 140737488355328) (s : Txt) (w : World) (h : SRow w v l) :
    Calls Try.prog 20 #[v, .string s] w fun e w' => e = .returned (.int .i64 (cnt l s : Int)) ∧ w' = w := by
  obtain ⟨ao, cap, rfl, hc, hn, hr⟩ := h
  have HR : Hid (∀ j, (h : j < l.length) → ∃ g o, ao = some ⟨g, o, none⟩ ∧ g < w.heap.size ∧ w.cell? ⟨g, o + j, none⟩ = some (.string l[j])) := hr
  clear hr
  go_enter Try.func20, Try.ntmps20
  go_wp2
  go_loop [5, 6] (fun n i => ∃ k : Nat, k ≤ l.length ∧ i = .int .i64 (k : Int) ∧ n = .int .i64 (cnt (l.take k) s : Int)) (fun _ i => l.length - (intOf i).toNat)
  case atStart => exact ⟨0, Nat.zero_le _, rfl, by simp [cnt]⟩
  case round =>
    obtain ⟨k, hk, rfl, rfl⟩ := hrel
    by_cases hlt : k < l.length
    · obtain ⟨g, o, rfl, hg, c1⟩ := HR.out k hlt
      have i1 : (k : Int) < (l.length : Int) := by omega
      have HS : Hid (cnt (l.take (k + 1)) s = cnt (l.take k) s + (if l[k] = s then 1 else 0)) := cnt_step hlt s
      have hb := cnt_len (l.take k) s
      rw [List.length_take] at hb
      by_cases he : l[k] = s
      · rw [if_pos he] at HS
        rw [he] at c1
        clear he HR
        generalize cnt (l.take k) s = n at *
        go_wp2
        exact ⟨⟨k + 1, by omega, by go_num, by rw [HS.out]; go_num⟩, by simp [intOf]; omega⟩
      · rw [if_neg he] at HS
        have d1 : decide (l[k] = s) = false := by simpa using he
        generalize l[k] = x at *
        have d2 := txt_ne he
        clear HR
        generalize cnt (l.take k) s = n at *
        go_wp2
        exact ⟨⟨k + 1, by omega, by go_num, by rw [HS.out]; go_num⟩, by simp [intOf]; omega⟩
    · obtain rfl : k = l.length := by omega
      have HE : Hid (cnt (l.take l.length) s = cnt l s) := by rw [List.take_length]; rfl
      clear HR
      go_wp2
      go_ret
      exact ⟨rfl, rfl⟩

/-- What went in is what is there and what was taken. -/
def Kept (l xs ys : List Txt) : Prop := (l ++ ys).Perm xs
theorem Kept.len {l xs ys : List Txt} (h : Kept l xs ys) : l.length + ys.length = xs.length := by
  have := List.Perm.length_eq h
  simpa using this
theorem Kept.cnt {l xs ys : List Txt} (h : Kept l xs ys) (s : Txt) : cnt l s + Go.Proofs.Ytlhbkbjpdpofnaa.cnt ys s = Go.Proofs.Ytlhbkbjpdpofnaa.cnt xs s := by
  rw [← cnt_append]
  exact cnt_perm h s
theorem Kept.add {l xs ys : List Txt} (h : Kept l xs ys) (s : Txt) : Kept (l ++ [s]) (xs ++ [s]) ys := by
  unfold Kept at h ⊢
  rw [List.append_assoc]
  exact ((List.perm_append_comm (l₁ := [s]) (l₂ := ys)).append_left l).trans (by rw [← List.append_assoc]; exact h.append_right [s])
theorem erase_perm (l : List Txt) (i : Nat) (hi : i < l.length) : (l[i] :: l.eraseIdx i).Perm l := by
  induction l generalizing i with
  | nil => simp at hi
  | cons a l ih =>
    cases i with
    | zero => exact List.Perm.refl _
    | succ i =>
      have hi' : i < l.length := by simpa using hi
      exact (List.Perm.swap _ _ _).trans ((ih i hi').cons a)
theorem Kept.take {l xs ys : List Txt} (h : Kept l xs ys) (i : Nat) (hi : i < l.length) : Kept (l.eraseIdx i) xs (ys ++ [l[i]]) := by
  unfold Kept at h ⊢
  refine List.Perm.trans ?_ h
  have h1 : (l.eraseIdx i ++ (ys ++ [l[i]])).Perm (l.eraseIdx i ++ (l[i] :: ys)) := (List.perm_append_comm (l₁ := ys) (l₂ := [l[i]])).append_left _
  refine h1.trans (List.perm_middle.trans ?_)
  exact (erase_perm l i hi).append_right ys
end Go.Proofs.Ytlhbkbjpdpofnaa
