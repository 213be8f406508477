/- The walks of the row's methods. -/
import Derived.Test.YtlhbkbjpdpofnaaPBase
set_option linter.unusedVariables false
set_option maxRecDepth 100000
namespace Go.Proofs.Ytlhbkbjpdpofnaa
open Go.RowKit

theorem rcount_any (w : World) (b : Nat) (room : Int) (v : Value) (l : List Txt) (h : PP w b room v l) :
    Calls Try.prog 21 #[.pointer (some ⟨b, 1, none⟩)] w fun e w' => e = .returned (.int .i64 (l.length : Int)) ∧ w' = w := by
  obtain ⟨ao, cap, hv, _⟩ := own_form h.row
  have h1 := h.cell
  rw [hv] at h1
  clear h hv
  go_enter Try.func21, Try.ntmps21
  go_wp2
  go_ret
  exact ⟨rfl, rfl⟩
theorem rhas_yes (w : World) (b : Nat) (room : Int) (v : Value) (l : List Txt) (h : PP w b room v l) (i : Nat) (hi : i < l.length) :
    Calls Try.prog 27 #[.pointer (some ⟨b, 1, none⟩), .int .i64 (i : Int)] w fun e w' => e = .returned (.bool true) ∧ w' = w := by
  obtain ⟨ao, cap, hv, _⟩ := own_form h.row
  have h1 := h.cell
  rw [hv] at h1
  have i1 : (i : Int) < (l.length : Int) := by omega
  have i2 : (0 : Int) ≤ (i : Int) := by omega
  clear h hv
  go_enter Try.func27, Try.ntmps27
  go_wp2
  go_ret
  exact ⟨rfl, rfl⟩
theorem rhas_no (w : World) (b : Nat) (room : Int) (v : Value) (l : List Txt) (h : PP w b room v l) (i : Int) (hi : i < 0 ∨ (l.length : Int) ≤ i) :
    Calls Try.prog 27 #[.pointer (some ⟨b, 1, none⟩), .int .i64 i] w fun e w' => e = .returned (.bool false) ∧ w' = w := by
  obtain ⟨ao, cap, hv, _⟩ := own_form h.row
  have h1 := h.cell
  rw [hv] at h1
  clear h hv
  by_cases hn : i < 0
  · have i1 : decide (0 ≤ i) = false := by simpa using hn
    have i2 : ¬ 0 ≤ i := by omega
    clear hi
    go_enter Try.func27, Try.ntmps27
    go_wp2
    go_ret
    exact ⟨rfl, rfl⟩
  · have i1 : decide (0 ≤ i) = true := by simp; omega
    have i2 : decide (i < (l.length : Int)) = false := by simp; omega
    have i3 : ¬ i < (l.length : Int) := by omega
    clear hi
    go_enter Try.func27, Try.ntmps27
    go_wp2
    go_ret
    exact ⟨rfl, rfl⟩
theorem rat_any (w : World) (b : Nat) (room : Int) (v : Value) (l : List Txt) (h : PP w b room v l) (i : Nat) (hi : i < l.length) (hl : l.length ≤ 200) :
    Calls Try.prog 29 #[.pointer (some ⟨b, 1, none⟩), .int .i64 (i : Int)] w fun e w' => e = .returned (.string l[i]) ∧ w' = w := by
  obtain ⟨ao, cap, hv, hc, _, hr⟩ := srow_own h.row
  obtain ⟨g, o, rfl, hg, c1⟩ := hr i hi
  have h1 := h.cell
  rw [hv] at h1
  have i1 : (i : Int) < (l.length : Int) := by omega
  clear h hv hr
  generalize l[i] = s at *
  go_enter Try.func29, Try.ntmps29
  go_wp2
  go_ret
  exact ⟨rfl, rfl⟩
theorem radd_any (w : World) (b : Nat) (room : Int) (v : Value) (l : List Txt) (h : PP w b room v l) (hl : l.length < 200) (s : Txt) :
    Calls Try.prog 31 #[.pointer (some ⟨b, 1, none⟩), .string s] w fun e w' => e = .returned (.tuple #[]) ∧ POk w b room v (l ++ [s]) w' := by
  obtain ⟨i0, hi, hz0, hz1, hz2⟩ := info_parts infoS
  obtain ⟨ao, cap, rfl, _⟩ := own_form h.row
  have H : Hid (PP w b room (.slice ao l.length cap) l) := h
  have cb := h.cell
  have hown := h.row
  have hbl := h.lt
  clear h
  go_enter Try.func31, Try.ntmps31
  go_wp2_with (at_builtin; refine wpList_append_more _ rfl _ _ 30 rfl 0 9 i0 (.string ⟨#[]⟩) 1 16 Try.underlying30 hi hz0 hz1 hz2 rfl (by decide) _ l.length (sv l) rfl (hown.alloc _) ⟨_, 0, none⟩ 1 1 [.string s] rfl rfl (one_new _ _ _) (one_str _) (by decide) (by unfold maxLen; omega) (by omega) ?_)
  intro g' cap' w2 hown2 hwh hch
  have hch' : Chg (fun k => (Value.slice ao l.length cap).ownBlock = some k) w w2 := (chg_below ((Below.refl _ _).alloc (Nat.le_refl _) _)).trans hch (fun j _ e => e)
  obtain ⟨⟨c2, f2⟩, hok⟩ := pok_set (l' := l ++ [s]) (ao := some ⟨g', 0, none⟩) (cap := cap') H.out hch' (by rw [sv_append, List.length_append]; exact hown2) (fun g hg => by
    obtain rfl : g' = g := by simpa [Value.ownBlock] using hg
    rcases hwh with e | e
    · exact Or.inl e
    · right; omega)
  rw [List.length_append] at hok
  have HW : Hid (POk w b room (.slice ao l.length cap) (l ++ [s]) (w2.setCell ⟨b, 1, none⟩ (.slice (some ⟨g', 0, none⟩) (l.length + 1) cap'))) := hok
  clear hown hown2 hch hch' hwh cb H hok
  go_wp2
  go_end0
  exact ⟨rfl, HW.out⟩
end Go.Proofs.Ytlhbkbjpdpofnaa
