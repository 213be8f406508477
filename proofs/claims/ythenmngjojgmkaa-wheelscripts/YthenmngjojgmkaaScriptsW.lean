/- The walks of the law's own 'filled', and of the law WheelScripts. -/
import Derived.Test.YthenmngjojgmkaaDuoW
import Derived.Test.YthenmngjojgmkaaOneW
set_option linter.unusedVariables false
set_option maxRecDepth 100000
namespace Go.Proofs.Ythenmngjojgmkaa
open Go.RowKit
open WheelMath

set_option maxHeartbeats 1600000 in
theorem filled_any (w : World) (B n : Nat) (v : Value) (xs : List Value) (hown : w.ownsRow B 3 1 v n xs) (hn : n ≤ 4194304) :
    Calls Try.prog 17 #[v] w fun e w' => e = .returned (.tuple #[]) ∧ Chg (fun k => v.ownBlock = some k) w w' := by
  obtain ⟨i0, hi, hz0, hz1, hz2⟩ := info_parts infoI
  obtain ⟨ao, cap, rfl, _⟩ := own_form hown
  generalize hV : (Value.slice ao n cap).ownBlock = vb at *
  have HV : Hid ((Value.slice ao n cap).ownBlock = vb) := hV
  have HO : Hid (w.ownsRow B 3 1 (.slice ao n cap) n xs) := hown
  clear hown hV
  go_enter Try.func17, Try.ntmps17
  go_wp2
  go_loopw [2] (fun i wr => ∃ (k : Nat) (ys : List Value), k ≤ n ∧ i = .int .i64 k ∧ Hid (wr.ownsRow B 3 1 (.slice ao n cap) n ys) ∧ Hid (Chg (fun k => vb = some k) w wr)) (fun i _ => n - (intOf i).toNat)
  case atStart => exact ⟨0, xs, Nat.zero_le _, rfl, HO, Chg.refl _ _⟩
  case round =>
    obtain ⟨k, ys, hk, rfl, HR, HC⟩ := hrel
    by_cases hlt : k < n
    · obtain ⟨_, _, hv, _, h0, hr⟩ := own_form HR.out
      cases hv
      cases ao with
      | none => have := (h0 rfl).1; omega
      | some p =>
        obtain ⟨g, rfl, _, _, hc, hf, _⟩ := hr p rfl
        have hyl : ys.length = n := HR.out.1.trans (Nat.mul_one n)
        have hck := hc k (by omega)
        rw [List.getElem?_eq_getElem (by omega)] at hck
        generalize ys[k]'(by omega) = y at *
        have hfk := hf k
        have i1 : (k : Int) < (n : Int) := by omega
        clear hc hf hr h0
        go_wp2
        refine ⟨⟨k + 1, _, by omega, by go_num, own_set HR.out k _, ?_⟩, by simp [intOf]; omega⟩
        refine HC.out.trans (Chg.mono (chg_set _ _ _) (T := fun k => vb = some k) ?_) (fun _ _ h => h)
        rintro _ _ rfl
        exact HV.out.symm
    · obtain rfl : k = n := by omega
      have hr := HR.out
      go_wp2_with (at_builtin; refine wpList_append_more _ rfl _ _ 32 rfl B 3 i0 (.int .i64 0) 1 8 Try.underlying32 hi hz0 hz1 hz2 rfl (by decide) _ _ _ rfl (hr.alloc _) ⟨_, 0, none⟩ 2 2 [.int .i64 (-9), .int .i64 (-9)] rfl rfl (two_new _ _ _ _) (two_int _ _) (by decide) (by unfold maxLen; omega) (by omega) ?_)
      intro g' cap' w5 hown' hat hchg
      have hat2 : Hid (vb = some g' ∨ wr.heap.size < g') := by
        rcases hat with h | h
        · exact Or.inl (HV.out.symm.trans h)
        · refine Or.inr ?_
          have h2 := World.size_alloc wr (.cells #[.int .i64 (-9), .int .i64 (-9)] 3)
          omega
      have HC5 : Hid (Chg (fun j => vb = some j) w w5) := by
        refine (HC.out.trans (chg_below ((Below.refl _ _).alloc (Nat.le_refl _) _)) (fun _ _ h => h)).trans hchg (fun j _ h => ?_)
        exact HV.out.symm.trans h
      obtain ⟨M, hM⟩ : ∃ M, k + 2 = M + 1 := ⟨k + 1, rfl⟩
      have hc5 := hown'.cellAt M (by omega)
      have hf5 := hown'.frozenAt M
      have hl5 := hown'.1
      rw [List.getElem?_eq_getElem (by omega)] at hc5
      generalize (ys ++ [Value.int .i64 (-9), Value.int .i64 (-9)])[M]'(by omega) = y at hc5
      rw [hM]
      have hMn : M ≤ 4194305 := by omega
      have HS : Hid (w.heap.size ≤ wr.heap.size) := HC.out.size
      clear hown' hat hchg hl5 HC hr HR HO
      go_wp2
      refine bodyPost_end (results_none rfl _ _ _) rfl ?_
      refine ⟨rfl, HC5.out.trans (chg_set _ _ _) ?_⟩
      rintro j hj rfl
      rcases hat2.out with h | h
      · exact h
      · have := HS.out
        omega
theorem left_end {r : List T} (h : WheelMath.Good r) : left r 1073741824 = [] := by
  cases hq : left r 1073741824 with
  | nil => rfl
  | cons a q =>
    have h1 := (cut_mem r 1073741824 h.sorted).1 a
    rw [hq] at h1
    have h2 := h1.1 (by simp)
    have := (h.tick a h2.1).2
    omega
end Go.Proofs.Ythenmngjojgmkaa
