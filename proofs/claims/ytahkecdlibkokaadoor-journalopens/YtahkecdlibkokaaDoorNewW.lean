/- The walk of the journal's New. -/
import Derived.Test.YtahkecdlibkokaaDoorBeginW
set_option linter.unusedVariables false
set_option maxRecDepth 100000
namespace Go.Proofs.YtahkecdlibkokaaDoor
open Go.RowKit
open JournalMath DiskMath
open Fr (Tab tab_below tab_drewN)
open Dk (PDisk Chg fp DIn din_below din_same din_drewN pdisk_below pdisk_chg fp_lt)

/-- A journal's block, just made. -/
theorem jin_new {T : Nat → Prop} {w w1 : World} {bd : Nat} {d : DS} (h : DIn T w bd d w1) (f g n : Nat) : JIn T w w1.heap.size bd ⟨d, f, g, n⟩ (w1.alloc (.cells #[.pointer (some ⟨bd, 0, none⟩), .int .i64 (f : Int), .int .i64 (g : Int), .int .i64 (n : Int)] 81)) := by
  obtain ⟨V, h1, h2, h3⟩ := h
  have hb : Below w1.heap.size w1 (w1.alloc (.cells #[.pointer (some ⟨bd, 0, none⟩), .int .i64 (f : Int), .int .i64 (g : Int), .int .i64 (n : Int)] 81)) := (Below.refl _ _).alloc (Nat.le_refl _) _
  refine ⟨V, pdisk_below h1 hb, ⟨by simp, by simp, by simp, by simp, by simp, fun j => ?_⟩, fun k hk hlt => ?_, fun hf => ?_, h3.trans (Dk.chg_below (S := fun _ => False) hb) (fun _ _ h => h.elim)⟩
  · rw [World.frozen?, heap_alloc_new w1 _]
    simp
  · rcases hk with hk | hk
    · exact h2 k hk hlt
    · have := h3.size; omega
  · have := fp_lt h1 _ hf
    omega

theorem new_nil (w : World) : Calls Tryd.prog 16 #[.pointer none] w fun e w' => e = .returned (.tuple #[.pointer none, .int .i64 1]) ∧ w' = w := by
  go_enter Tryd.func16, Tryd.ntmps16
  go_wp2
  go_ret2
  exact ⟨rfl, rfl⟩
theorem new_used {T : Nat → Prop} {w w1 : World} {b : Nat} {d : DS} (hD : DIn T w b d w1) (hu : 0 < (d.F 0).length ∨ 0 < (d.F 1).length) :
    Calls Tryd.prog 16 #[.pointer (some ⟨b, 0, none⟩)] w1 fun e w' => e = .returned (.tuple #[.pointer none, .int .i64 60]) ∧ DIn T w b d w' := by
  have C0 : Hid (∀ w2, DIn T w b d w2 → Calls Tryd.prog 44 #[.pointer (some ⟨b, 0, none⟩), .int .i64 0] w2 fun e w' => e = .returned (.int .i64 ((d.F 0).length : Int)) ∧ DIn T w b d w') := fun w2 h => sizeOf_any 0 (by decide) h
  have C1 : Hid (∀ w2, DIn T w b d w2 → Calls Tryd.prog 44 #[.pointer (some ⟨b, 0, none⟩), .int .i64 1] w2 fun e w' => e = .returned (.int .i64 ((d.F 1).length : Int)) ∧ DIn T w b d w') := fun w2 h => sizeOf_any 1 (by decide) h
  have HD : Hid (DIn T w b d w1) := hD
  generalize (d.F 0).length = n0 at *
  generalize (d.F 1).length = n1 at *
  clear hD
  by_cases h0 : 0 < n0
  · have i0 : (0 : Int) < (n0 : Int) := by omega
    clear hu
    go_enter Tryd.func16, Tryd.ntmps16
    go_wp2_with fail
    refine (C0.out _ HD.out).mono ?_
    rintro e w2 ⟨rfl, hD2⟩
    go_wp2_with fail
    go_ret2
    exact ⟨rfl, hD2⟩
  · have i0 : ¬ (0 : Int) < (n0 : Int) := by omega
    have i1 : (0 : Int) < (n1 : Int) := by omega
    clear hu
    go_enter Tryd.func16, Tryd.ntmps16
    go_wp2_with fail
    refine (C0.out _ HD.out).mono ?_
    rintro e w2 ⟨rfl, hD2⟩
    have HD2 : Hid (DIn T w b d w2) := hD2
    clear hD2
    go_wp2_with fail
    refine (C1.out _ HD2.out).mono ?_
    rintro e w3 ⟨rfl, hD3⟩
    go_wp2_with fail
    go_ret2
    exact ⟨rfl, hD3⟩
/-- How New ends on a disk whose files 0 and 1 are empty. -/
def NewOk (T : Nat → Prop) (w : World) (b : Nat) (d : DS) (s2 : JS) (er : Int) (e : Ending) (w' : World) : Prop :=
  (er = 0 ∧ ∃ bj, e = .returned (.tuple #[.pointer (some ⟨bj, 0, none⟩), .int .i64 0]) ∧ JIn T w bj b s2 w') ∨ (er = 41 ∧ e = .returned (.tuple #[.pointer none, .int .i64 41]) ∧ DIn T w b d w')
set_option maxHeartbeats 1000000 in
theorem new_fresh {T : Nat → Prop} {w w1 : World} {b : Nat} {d : DS} (hD : DIn T w b d w1) (hk : Ok d) (h0 : d.F 0 = []) (h1 : d.F 1 = []) (hG : T 0) (hT : Tab w) :
    Calls Tryd.prog 16 #[.pointer (some ⟨b, 0, none⟩)] w1 fun e w' => NewOk T w b d (jBegin ⟨d, 1, 0, 0⟩ []).1 (jBegin ⟨d, 1, 0, 0⟩ []).2 e w' := by
  have C0 : Hid (∀ w2, DIn T w b d w2 → Calls Tryd.prog 44 #[.pointer (some ⟨b, 0, none⟩), .int .i64 0] w2 fun e w' => e = .returned (.int .i64 0) ∧ DIn T w b d w') := fun w2 h => by
    have := sizeOf_any 0 (by decide) h
    rw [h0] at this
    exact this
  have C1 : Hid (∀ w2, DIn T w b d w2 → Calls Tryd.prog 44 #[.pointer (some ⟨b, 0, none⟩), .int .i64 1] w2 fun e w' => e = .returned (.int .i64 0) ∧ DIn T w b d w') := fun w2 h => by
    have := sizeOf_any 1 (by decide) h
    rw [h1] at this
    exact this
  have c2 : ∀ w2, DIn T w b d w2 → Calls Tryd.prog 45 #[.pointer (some ⟨w2.heap.size, 0, none⟩), .string ⟨#[]⟩] (w2.alloc (.cells #[.pointer (some ⟨b, 0, none⟩), .int .i64 1, .int .i64 0, .int .i64 0] 81)) fun e w' => e = .returned (.int .i64 (jBegin ⟨d, 1, 0, 0⟩ []).2) ∧ JIn T w w2.heap.size b (jBegin ⟨d, 1, 0, 0⟩ []).1 w' := fun w2 h =>
    begin_any ⟨#[]⟩ (by decide) (jin_new h 1 0 0) hk (Nat.le_refl _) (by show 0 < 1125899906842624; omega) hG hT
  have hcase : (jBegin ⟨d, 1, 0, 0⟩ []).2 = 0 ∨ ((jBegin ⟨d, 1, 0, 0⟩ []).2 = 41 ∧ (jBegin ⟨d, 1, 0, 0⟩ []).1 = ⟨d, 1, 0, 0⟩) := by
    unfold jBegin
    split
    · exact Or.inr ⟨rfl, rfl⟩
    · exact Or.inl rfl
  have HD : Hid (DIn T w b d w1) := hD
  generalize (jBegin ⟨d, 1, 0, 0⟩ []).2 = er at *
  generalize (jBegin ⟨d, 1, 0, 0⟩ []).1 = s2 at *
  have C2 : Hid (∀ w2, DIn T w b d w2 → Calls Tryd.prog 45 #[.pointer (some ⟨w2.heap.size, 0, none⟩), .string ⟨#[]⟩] (w2.alloc (.cells #[.pointer (some ⟨b, 0, none⟩), .int .i64 1, .int .i64 0, .int .i64 0] 81)) fun e w' => e = .returned (.int .i64 er) ∧ JIn T w w2.heap.size b s2 w') := c2
  clear hD c2
  rcases hcase with rfl | ⟨rfl, rfl⟩
  all_goals
    go_enter Tryd.func16, Tryd.ntmps16
    go_wp2_with fail
    refine (C0.out _ HD.out).mono ?_
    rintro e w2 ⟨rfl, hD2⟩
    have HD2 : Hid (DIn T w b d w2) := hD2
    clear hD2
    go_wp2_with fail
    refine (C1.out _ HD2.out).mono ?_
    rintro e w3 ⟨rfl, hD3⟩
    have HD3 : Hid (DIn T w b d w3) := hD3
    clear hD3
    go_wp2_with fail
    refine (C2.out _ HD3.out).mono ?_
    rintro e w4 ⟨rfl, hJ4⟩
    have HJ4 : Hid (JIn T w w3.heap.size b _ w4) := hJ4
    clear hJ4
    go_wp2_with fail
    go_ret2
  · exact Or.inl ⟨rfl, _, rfl, HJ4.out⟩
  · refine Or.inr ⟨rfl, rfl, ?_⟩
    obtain ⟨V, h1, h2, h3, h4, h5⟩ := HJ4.out
    exact ⟨V, h1, fun k hk => h3 k (Or.inl hk), h5⟩
end Go.Proofs.YtahkecdlibkokaaDoor
