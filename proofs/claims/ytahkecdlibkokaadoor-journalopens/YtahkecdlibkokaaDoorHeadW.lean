/- The walks of package journal's small calls: takeHead, put, sizeOf. -/
import Derived.Test.YtahkecdlibkokaaDoorJMath
import Derived.Test.YtahkecdlibkokaaDoorFrScanW
import Derived.Test.YtahkecdlibkokaaDoorPkNumW
import Derived.Test.YtahkecdlibkokaaDoorPkTakeW
import Derived.Test.YtahkecdlibkokaaDoorDkActW
set_option linter.unusedVariables false
set_option maxRecDepth 100000
namespace Go.Proofs.YtahkecdlibkokaaDoor
open Go.RowKit
open JournalMath DiskMath
open Fr (Tab tab_below tab_drewN)

theorem prefix_in (s : ByteArray) (hs : s.size ≤ 140737488355328) (b : Bool) (hb : b = decide (s.data.toList.take 1 = [72])) (w : World) :
    Calls Tryd.prog 76 #[.string s, .string ⟨#[72]⟩] w fun e w' => e = .returned (.bool b) ∧ w' = w := by
  by_cases h : 1 ≤ s.size
  · have i1 : (1 : Int) ≤ (s.size : Int) := by omega
    have he : ((s.extract 0 1).toList == [72]) = b := by
      rw [hb, Lib.toList_data, extract_data, List.drop_zero, Nat.sub_zero, Bool.eq_iff_iff, beq_iff_eq, decide_eq_true_eq]
    clear hb
    cases b
    all_goals
      go_enter Tryd.func76, Tryd.ntmps76
      go_wp2
      go_ret
      exact ⟨rfl, rfl⟩
  · have i1 : ¬ (1 : Int) ≤ (s.size : Int) := by omega
    have e : b = false := by
      rw [hb, decide_eq_false_iff_not]
      intro e
      have := congrArg List.length e
      rw [List.length_take, size_data] at this
      simp at this
      omega
    subst e
    clear hb
    go_enter Tryd.func76, Tryd.ntmps76
    go_wp2
    go_ret
    exact ⟨rfl, rfl⟩
theorem prefix_any (s : ByteArray) (hs : s.size ≤ 140737488355328) (w : World) :
    Calls Tryd.prog 69 #[.string s, .string ⟨#[72]⟩] w fun e w' => e = .returned (.bool (decide (s.data.toList.take 1 = [72]))) ∧ w' = w := by
  have C := prefix_in s hs _ rfl w
  generalize decide (s.data.toList.take 1 = [72]) = b at *
  have H : Hid (Calls Tryd.prog 76 #[.string s, .string ⟨#[72]⟩] w fun e w' => e = .returned (.bool b) ∧ w' = w) := C
  clear C
  go_enter Tryd.func69, Tryd.ntmps69
  go_wp2_with fail
  refine H.out.mono ?_
  rintro e w1 ⟨rfl, hw1⟩
  rw [hw1]
  go_wp2
  go_ret
  exact ⟨rfl, rfl⟩

/-- takeHead of any record. -/
theorem takeHead_any (s : ByteArray) (hs : s.size ≤ 200000) (w : World) :
    Calls Tryd.prog 61 #[.string s] w fun e w' => e = .returned (.tuple #[.int .i64 ((readHead s.data.toList).1 : Int), .string ⟨(readHead s.data.toList).2.toArray⟩]) ∧ ∃ q, w' = w.drewN q := by
  have c1 := fun w => prefix_any s (by omega) w
  by_cases h1 : s.data.toList.take 1 = [72]
  · rw [decide_eq_true h1] at c1
    have hs1 : 1 ≤ s.size := by
      have := congrArg List.length h1
      rw [List.length_take, size_data] at this
      simp at this
      omega
    have C1 : Hid (∀ w, Calls Tryd.prog 69 #[.string s, .string ⟨#[72]⟩] w fun e w' => e = .returned (.bool true) ∧ w' = w) := c1
    have c2 := fun w => Pk.takeNum_any s 1 (by omega) hs1 w
    obtain ⟨n, c, e, htn⟩ : ∃ n c e, PackMath.tn (s.data.toList.drop 1) = (n, c, e) := ⟨_, _, _, rfl⟩
    rw [Pk.tnV_of htn] at c2
    clear c1
    by_cases he : e = 0
    · subst he
      have hok := PackMath.tn_ok htn
      have hc : c ≤ s.size - 1 := by have := hok.2.2.2.1; rw [List.length_drop, size_data] at this; exact this
      have hn := hok.1
      have C2 : Hid (∀ w, Calls Tryd.prog 70 #[.string s, .int .i64 1] w fun e w' => e = .returned (.tuple #[.int .i64 (n : Int), .int .i64 ((1 + c : Nat) : Int), .int .i64 0]) ∧ w' = w) := c2
      clear c2 hok
      by_cases h0 : n = 0
      · have hR : readHead s.data.toList = (0, []) := by
          unfold readHead; rw [htn, if_neg]; simp [h0]
        rw [hR]
        subst h0
        clear htn hR h1
        go_enter Tryd.func61, Tryd.ntmps61
        go_wp2_with fail
        refine (C1.out _).mono ?_
        rintro e w1 ⟨rfl, hw1⟩
        rw [hw1]; clear hw1
        go_wp2_with fail
        refine (C2.out _).mono ?_
        rintro e w1 ⟨rfl, hw1⟩
        rw [hw1]; clear hw1
        go_wp2
        go_ret2
        exact ⟨rfl, 0, rfl⟩
      · by_cases hL : s.size ≤ 190000 + (1 + c)
        · have hR : readHead s.data.toList = (n, s.data.toList.drop (1 + c)) := by
            unfold readHead; rw [htn, if_pos]; exact ⟨h1, rfl, h0, by rw [size_data]; exact hL⟩
          have HX : Hid (s.extract (1 + c) s.size = ByteArray.mk (s.data.toList.drop (1 + c)).toArray) := by
            show _ = _
            rw [← Fr.drop_data, data_mk]
          rw [hR]
          clear htn hR h1
          have i1 : ((n : Int) == 0) = false := by rw [beq_eq_false_iff_ne]; omega
          have i2 : ¬ (190000 : Int) < (s.size : Int) - ((1 + c : Nat) : Int) := by omega
          have i3 : ¬ (190000 : Int) < (s.size : Int) - (1 + (c : Int)) := by omega
          go_enter Tryd.func61, Tryd.ntmps61
          go_wp2_with fail
          refine (C1.out _).mono ?_
          rintro e w1 ⟨rfl, hw1⟩
          rw [hw1]; clear hw1
          go_wp2_with fail
          refine (C2.out _).mono ?_
          rintro e w1 ⟨rfl, hw1⟩
          rw [hw1]; clear hw1
          go_wp2_with fail
          go_quiet (fail)
          go_wp2
          go_ret2
          rw [HX.out]
          exact ⟨rfl, _, rfl⟩
        · have hR : readHead s.data.toList = (0, []) := by
            unfold readHead; rw [htn, if_neg]; rintro ⟨_, _, _, h⟩; rw [size_data] at h; exact hL h
          rw [hR]
          clear htn hR h1
          have i1 : ((n : Int) == 0) = false := by rw [beq_eq_false_iff_ne]; omega
          have i2 : (190000 : Int) < (s.size : Int) - ((1 + c : Nat) : Int) := by omega
          have i3 : (190000 : Int) < (s.size : Int) - (1 + (c : Int)) := by omega
          go_enter Tryd.func61, Tryd.ntmps61
          go_wp2_with fail
          refine (C1.out _).mono ?_
          rintro e w1 ⟨rfl, hw1⟩
          rw [hw1]; clear hw1
          go_wp2_with fail
          refine (C2.out _).mono ?_
          rintro e w1 ⟨rfl, hw1⟩
          rw [hw1]; clear hw1
          go_wp2
          go_ret2
          exact ⟨rfl, 0, rfl⟩
    · have hR : readHead s.data.toList = (0, []) := by
        unfold readHead; rw [htn, if_neg]; simp [he]
      rw [hR, if_neg he] at *
      have C2 : Hid (∀ w, Calls Tryd.prog 70 #[.string s, .int .i64 1] w fun e' w' => e' = .returned (.tuple #[.int .i64 (n : Int), .int .i64 0, .int .i64 (e : Int)]) ∧ w' = w) := c2
      have i1 : ((e : Int) != 0) = true := by rw [bne_iff_ne]; omega
      clear htn hR h1 c2
      go_enter Tryd.func61, Tryd.ntmps61
      go_wp2_with fail
      refine (C1.out _).mono ?_
      rintro e w1 ⟨rfl, hw1⟩
      rw [hw1]; clear hw1
      go_wp2_with fail
      refine (C2.out _).mono ?_
      rintro e w1 ⟨rfl, hw1⟩
      rw [hw1]; clear hw1
      go_wp2
      go_ret2
      exact ⟨rfl, 0, rfl⟩
  · rw [decide_eq_false h1] at c1
    have C1 : Hid (∀ w, Calls Tryd.prog 69 #[.string s, .string ⟨#[72]⟩] w fun e w' => e = .returned (.bool false) ∧ w' = w) := c1
    have hR : readHead s.data.toList = (0, []) := by
      unfold readHead; rw [if_neg]; simp [h1]
    rw [hR]
    clear c1 h1 hR
    go_enter Tryd.func61, Tryd.ntmps61
    go_wp2_with fail
    refine (C1.out _).mono ?_
    rintro e w1 ⟨rfl, hw1⟩
    rw [hw1]; clear hw1
    go_wp2
    go_ret2
    exact ⟨rfl, 0, rfl⟩
end Go.Proofs.YtahkecdlibkokaaDoor
