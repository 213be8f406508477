/- areKeys, at tables of any content. -/
import Derived.Test.YtbgankldnjeohaaTabK
import Derived.Test.YtbgankldnjeohaaPkListW
set_option linter.unusedVariables false
set_option linter.unusedSimpArgs false
set_option maxRecDepth 100000
namespace Go.Proofs.Ytbgankldnjeohaa
open Go.RowKit

/-- The j-th text. -/
def tx (xs : List (List UInt8)) (j : Nat) : ByteArray := ⟨(xs.getD j []).toArray⟩
theorem tx_get {xs : List (List UInt8)} {j : Nat} (h : j < xs.length) : strV xs[j] = .string (tx xs j) := by
  unfold strV tx
  simp [h]
/-- Is the j-th key right behind the one ahead of it? -/
def okAt (t : Tb) (xs : List (List UInt8)) (j : Nat) : Bool := isNm (tx xs j) && (decide (j = 0) || decide (cmpX t (NameMath.runes (tx xs (j - 1)).data.toList) (tx xs j) < 0))
def keysX (t : Tb) (xs : List (List UInt8)) : Bool := decide (xs.length ≤ 2) && (List.range xs.length).all (okAt t xs)
theorem keysX_no {t : Tb} {xs : List (List UInt8)} {k : Nat} (hk : k < xs.length) (h : okAt t xs k = false) : keysX t xs = false := by
  unfold keysX
  have : (List.range xs.length).all (okAt t xs) = false := by
    rw [List.all_eq_false]
    exact ⟨k, List.mem_range.2 hk, by rw [h]; simp⟩
  rw [this, Bool.and_false]
theorem keysX_many {t : Tb} {xs : List (List UInt8)} (h : 2 < xs.length) : keysX t xs = false := by
  unfold keysX
  rw [decide_eq_false (by omega), Bool.false_and]
theorem keysX_yes {t : Tb} {xs : List (List UInt8)} (h : xs.length ≤ 2) (h2 : ∀ j, j < xs.length → okAt t xs j = true) : keysX t xs = true := by
  unfold keysX
  rw [decide_eq_true h, Bool.true_and, List.all_eq_true]
  exact fun j hj => h2 j (List.mem_range.1 hj)
theorem keysX_len {t : Tb} {xs : List (List UInt8)} (h : keysX t xs = true) : xs.length ≤ 2 := by
  unfold keysX at h
  simp at h
  exact h.1
theorem keysX_at {t : Tb} {xs : List (List UInt8)} (h : keysX t xs = true) {j : Nat} (hj : j < xs.length) : okAt t xs j = true := by
  unfold keysX at h
  rw [Bool.and_eq_true, List.all_eq_true] at h
  exact h.2 j (List.mem_range.2 hj)

set_option maxHeartbeats 1600000 in
theorem areKeys_any (t : Tb) (v : Value) (xs : List (List UInt8)) (hx : xs.length ≤ 140737488355328) (hxs : ∀ s ∈ xs, s.length ≤ 140737488351232) (w : World) (hT : Hid (TabX t w)) (hlow : Hid (0 < w.heap.size ∧ 1 < w.heap.size)) (hS : SRow w v xs) :
    Calls Try.prog 69 #[v] w fun e w' => e = .returned (.bool (keysX t xs)) ∧ Below w.heap.size w w' := by
  have HZ : Hid (∀ j, j < xs.length → (tx xs j).size ≤ 140737488355328) := fun j hj => by
    have := hxs xs[j] (List.getElem_mem hj)
    have e : (tx xs j).size = xs[j].length := by unfold tx; simp [ByteArray.size, hj]
    omega
  have HS : Hid (SRow w v xs) := hS
  obtain ⟨ao, cap, rfl, hca, hrow⟩ := hS
  by_cases h2 : 2 < xs.length
  · rw [keysX_many h2]
    have i2 : (2 : Int) < (xs.length : Int) := by omega
    clear HZ hrow HS hxs
    go_enter Try.func69, Try.ntmps69
    go_wp2
    go_ret
    exact ⟨rfl, Below.refl _ _⟩
  · have i2 : ¬ (2 : Int) < (xs.length : Int) := by omega
    clear hrow hxs
    go_enter Try.func69, Try.ntmps69
    go_wp2
    go_loopw [10] (fun x wr => ∃ k : Nat, k ≤ xs.length ∧ x = .int .i64 k ∧ Below w.heap.size w wr ∧ Hid (∀ j, j < k → okAt t xs j = true)) (fun x _ => xs.length - (intOf x).toNat)
    case atStart => exact ⟨0, Nat.zero_le _, rfl, Below.refl _ _, fun j hj => absurd hj (Nat.not_lt_zero _)⟩
    case round =>
      obtain ⟨k, hk, rfl, hbw, HI⟩ := hrel
      have HS2 : Hid (SRow wr (.slice ao xs.length cap) xs) := srow_below HS.out hbw
      have HT2 : Hid (TabX t wr) := hT.out.below hbw hlow.out
      have hl2 : Hid (0 < wr.heap.size ∧ 1 < wr.heap.size) := ⟨Nat.lt_of_lt_of_le hlow.out.1 hbw.size, Nat.lt_of_lt_of_le hlow.out.2 hbw.size⟩
      by_cases hlt : k < xs.length
      · obtain ⟨g, o, rfl, hc1⟩ := Pk.srow_cell HS2.out k hlt
        rw [tx_get hlt] at hc1
        have i1 : (k : Int) < (xs.length : Int) := by omega
        have C1 : Hid (Calls Try.prog 72 #[.string (tx xs k)] wr fun e w' => e = .returned (.bool (isNm (tx xs k))) ∧ Below wr.heap.size wr w') := Nm.is_any _ wr
        cases hn : isNm (tx xs k) with
        | false =>
          rw [hn] at C1
          have HE : Hid (keysX t xs = false) := keysX_no hlt (by unfold okAt; rw [hn, Bool.false_and])
          clear HS HS2 HI HZ hT HT2 hlow hl2 hn
          generalize tx xs k = y at *
          go_wp2_with fail
          refine C1.out.mono ?_
          rintro e w2 ⟨rfl, hb2⟩
          go_wp2_with fail
          go_ret
          exact ⟨retB HE.out.symm, hbw.trans (hb2.mono hbw.size)⟩
        | true =>
          rw [hn] at C1
          have hk2 : k = 0 ∨ k = 1 := by omega
          rcases hk2 with rfl | rfl
          · rw [Nat.add_zero] at hc1
            have HO : Hid (∀ j, j < 1 → okAt t xs j = true) := fun j hj => by
              obtain rfl : j = 0 := by omega
              unfold okAt; rw [hn]; rfl
            clear HS HS2 HI HZ hT HT2 hlow hl2 hn
            generalize tx xs 0 = y at *
            go_wp2_with fail
            refine C1.out.mono ?_
            rintro e w2 ⟨rfl, hb2⟩
            go_wp2_with fail
            exact ⟨⟨1, by omega, rfl, hbw.trans (hb2.mono hbw.size), HO⟩, by simp [intOf]; omega⟩
          · obtain ⟨g', o', hgo, hc0⟩ := Pk.srow_cell HS2.out 0 (by omega)
            obtain ⟨rfl, rfl⟩ : g = g' ∧ o = o' := by simpa using hgo
            rw [tx_get (by omega : 0 < xs.length), Nat.add_zero] at hc0
            have C2 : ∀ w2, Below wr.heap.size wr w2 → Calls Try.prog 73 #[.string (tx xs 0), .string (tx xs 1)] w2 fun e w' => e = .returned (.int .i64 (cmpX t (NameMath.runes (tx xs 0).data.toList) (tx xs 1))) ∧ Below w2.heap.size w2 w' := fun w2 hb2 => by
              have h0 := HI.out 0 (by omega)
              unfold okAt at h0
              rw [Bool.and_eq_true] at h0
              exact compareX t _ _ (HZ.out 1 hlt) (good_of h0.1) (good_of hn) w2 (HT2.out.below hb2 hl2.out) ⟨Nat.lt_of_lt_of_le hl2.out.1 hb2.size, Nat.lt_of_lt_of_le hl2.out.2 hb2.size⟩
            have C2H : Hid (∀ w2, Below wr.heap.size wr w2 → Calls Try.prog 73 #[.string (tx xs 0), .string (tx xs 1)] w2 fun e w' => e = .returned (.int .i64 (cmpX t (NameMath.runes (tx xs 0).data.toList) (tx xs 1))) ∧ Below w2.heap.size w2 w') := C2
            have hlb : g < wr.heap.size := block_lt_of_cell hc0
            by_cases hcm : cmpX t (NameMath.runes (tx xs 0).data.toList) (tx xs 1) < 0
            · have HO : Hid (∀ j, j < 2 → okAt t xs j = true) := fun j hj => by
                rcases (by omega : j = 0 ∨ j = 1) with rfl | rfl
                · exact HI.out 0 (by omega)
                · unfold okAt; rw [hn]; simp [hcm]
              clear HS HS2 HI HZ hT HT2 hlow hl2 hn C2 hgo
              generalize cmpX t (NameMath.runes (tx xs 0).data.toList) (tx xs 1) = q at *
              generalize tx xs 1 = y at *
              generalize tx xs 0 = z at *
              go_wp2_with fail
              refine C1.out.mono ?_
              rintro e w2 ⟨rfl, hb2⟩
              have hc0' : w2.cell? ⟨g, o, none⟩ = some (.string z) := (hb2.cell (p := ⟨g, o, none⟩) hlb).trans hc0
              go_wp2_with fail
              refine (C2H.out w2 hb2).mono ?_
              rintro e w3 ⟨rfl, hb3⟩
              go_wp2_with fail
              exact ⟨⟨2, by omega, rfl, hbw.trans ((hb2.trans (hb3.mono hb2.size)).mono hbw.size), HO⟩, by simp [intOf]; omega⟩
            · have HE : Hid (keysX t xs = false) := keysX_no hlt (by unfold okAt; rw [hn]; simp [hcm])
              clear HS HS2 HI HZ hT HT2 hlow hl2 hn C2 hgo
              generalize cmpX t (NameMath.runes (tx xs 0).data.toList) (tx xs 1) = q at *
              generalize tx xs 1 = y at *
              generalize tx xs 0 = z at *
              go_wp2_with fail
              refine C1.out.mono ?_
              rintro e w2 ⟨rfl, hb2⟩
              have hc0' : w2.cell? ⟨g, o, none⟩ = some (.string z) := (hb2.cell (p := ⟨g, o, none⟩) hlb).trans hc0
              go_wp2_with fail
              refine (C2H.out w2 hb2).mono ?_
              rintro e w3 ⟨rfl, hb3⟩
              go_wp2_with fail
              go_ret
              exact ⟨retB HE.out.symm, hbw.trans ((hb2.trans (hb3.mono hb2.size)).mono hbw.size)⟩
      · have HE : Hid (keysX t xs = true) := keysX_yes (by omega) (fun j hj => HI.out j (by omega))
        have i1 : ¬ (k : Int) < (xs.length : Int) := by omega
        clear HS HS2 HI HZ hT HT2 hlow hl2
        go_wp2
        go_ret
        exact ⟨retB HE.out.symm, hbw⟩
end Go.Proofs.Ytbgankldnjeohaa
