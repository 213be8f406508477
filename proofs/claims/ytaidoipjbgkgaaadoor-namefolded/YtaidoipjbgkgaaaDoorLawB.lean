/- The walk of the law NameFolded. -/
import Derived.Test.YtaidoipjbgkgaaaDoorLive
import Derived.Test.YtaidoipjbgkgaaaDoorMathE
set_option linter.unusedVariables false
namespace Go.Proofs.YtaidoipjbgkgaaaDoor
open Go.RowKit

theorem strV_size (l : List UInt8) : (ByteArray.mk l.toArray).size = l.length := by show l.toArray.size = _; simp
theorem mk_data (l : List UInt8) : (ByteArray.mk l.toArray).data.toList = l := by simp

set_option maxHeartbeats 1000000 in
theorem nameFolded_walk (s : ByteArray) (hs : s.size ≤ 140737488351232) (w : World) (hT : Tabs w) :
    Calls Tryd.prog 8 #[.string s] w fun e w' => e = .returned (.bool true) ∧ Below w.heap.size w w' := by
  have hl : s.data.toList.length = s.size := Array.length_toList
  obtain ⟨f, hf⟩ : ∃ f, NameMath.fold s.data.toList = f := ⟨_, rfl⟩
  have hfl : f.length = s.size := by rw [← hf, NameMath.fold_length]; exact hl
  have hff : NameMath.fold f = f := by rw [← hf, NameMath.fold_fold]
  have hfn : NameMath.isGo (NameMath.runes s.data.toList) 0 = true → f = s.data.toList := fun h => by rw [← hf]; exact NameMath.fold_name _ h
  have c1 := fun w => fold_any s hs w
  have c2 := fun w => fold_any ⟨f.toArray⟩ (by rw [strV_size]; omega) w
  have c3 := fun w => is_any s w
  rw [hf] at c1
  rw [mk_data, hff] at c2
  generalize NameMath.isGo (NameMath.runes s.data.toList) 0 = b at *
  have C1 : Hid (∀ w, Calls Tryd.prog 12 #[.string s] w fun e w' => e = .returned (.string ⟨f.toArray⟩) ∧ Below w.heap.size w w') := c1
  have C2 : Hid (∀ w, Calls Tryd.prog 12 #[.string ⟨f.toArray⟩] w fun e w' => e = .returned (.string ⟨f.toArray⟩) ∧ Below w.heap.size w w') := c2
  have C3 : Hid (∀ w, Calls Tryd.prog 9 #[.string s] w fun e w' => e = .returned (.bool b) ∧ Below w.heap.size w w') := c3
  have HFN : Hid (b = true → f = s.data.toList) := hfn
  clear c1 c2 c3 hf hfl hff hfn hl
  cases b with
  | true =>
    have e : (⟨f.toArray⟩ : ByteArray) = s := by
      have := HFN.out rfl
      subst this
      simp
    rw [e] at C1 C2
    clear HFN e
    go_enter Tryd.func8, Tryd.ntmps8
    go_wp2_with fail
    refine (C1.out _).mono ?_
    rintro e w1 ⟨rfl, hb1⟩
    go_wp2_with fail
    refine (C2.out _).mono ?_
    rintro e w2 ⟨rfl, hb2⟩
    go_wp2_with fail
    refine (C3.out _).mono ?_
    rintro e w3 ⟨rfl, hb3⟩
    have hb : Below w.heap.size w w3 := hb1.trans ((hb2.mono hb1.size).trans (hb3.mono (Nat.le_trans hb1.size hb2.size)))
    have hT3 := tabs_below hT hb
    go_wp2_with fail
    refine (live_any _ hT3).mono ?_
    rintro e w4 ⟨rfl, hb4⟩
    go_wp2_with fail
    go_ret
    exact ⟨rfl, hb.trans (hb4.mono hb.size)⟩
  | false =>
    clear HFN
    go_enter Tryd.func8, Tryd.ntmps8
    go_wp2_with fail
    refine (C1.out _).mono ?_
    rintro e w1 ⟨rfl, hb1⟩
    go_wp2_with fail
    refine (C2.out _).mono ?_
    rintro e w2 ⟨rfl, hb2⟩
    go_wp2_with fail
    refine (C3.out _).mono ?_
    rintro e w3 ⟨rfl, hb3⟩
    have hb : Below w.heap.size w w3 := hb1.trans ((hb2.mono hb1.size).trans (hb3.mono (Nat.le_trans hb1.size hb2.size)))
    have hT3 := tabs_below hT hb
    go_wp2_with fail
    refine (live_any _ hT3).mono ?_
    rintro e w4 ⟨rfl, hb4⟩
    go_wp2_with fail
    go_ret
    exact ⟨rfl, hb.trans (hb4.mono hb.size)⟩
end Go.Proofs.YtaidoipjbgkgaaaDoor
