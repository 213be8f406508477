/- The walk of the law FrameSpoilt. -/
import Derived.Test.YtpohggljdgjdfaaDoorLiveW
import Derived.Test.YtpohggljdgjdfaaDoorStandsW
set_option linter.unusedVariables false
namespace Go.Proofs.YtpohggljdgjdfaaDoor
open Go.RowKit
open FrameMath (first scan used wrap)

theorem rowIs_bytes (w : World) (e : TypeId) (s : ByteArray) : RowIs (Lib.bytesWorld w e s) w.heap.size s.size s.data.toList := by
  refine ⟨Array.length_toList, fun j hj => ⟨Lib.bytesWorld_cell w e s j hj, ?_⟩⟩
  simp only [World.frozen?, Lib.bytesWorld_at_new]
  have : s.size ≤ (Lib.bytesCells w e s).size := by
    show s.data.size ≤ _
    simp [Lib.bytesCells]
  simp
  omega
theorem below_bytes (w : World) (e : TypeId) (s : ByteArray) : Below w.heap.size w (Lib.bytesWorld w e s) := by
  refine ⟨rfl, rfl, rfl, ?_, fun k hk => Lib.bytesWorld_at_old w e s k hk⟩
  rw [Lib.bytesWorld_size]; omega
theorem place_neg (a : Int) (n : Nat) (h : a < 0) (hn : 0 < n) : ∃ f : Nat, -(a + 1).tmod (n : Int) = (f : Int) ∧ f < n := by
  have e : -(a + 1).tmod (n : Int) = (-(a + 1)) % (n : Int) := by
    rw [← Int.neg_tmod, Int.tmod_eq_emod_of_nonneg (by omega)]
  have h1 := Int.emod_nonneg (-(a + 1)) (by omega : (n : Int) ≠ 0)
  have h2 := Int.emod_lt_of_pos (-(a + 1)) (by omega : (0 : Int) < (n : Int))
  exact ⟨((-(a + 1)) % (n : Int)).toNat, by rw [e]; omega, by omega⟩
theorem place_pos (a : Int) (n : Nat) (hn : 0 < n) : ∃ f : Nat, a % (n : Int) = (f : Int) ∧ f < n := by
  have h1 := Int.emod_nonneg a (by omega : (n : Int) ≠ 0)
  have h2 := Int.emod_lt_of_pos a (by omega : (0 : Int) < (n : Int))
  exact ⟨(a % (n : Int)).toNat, by omega, by omega⟩
theorem byte_xor (x b : UInt8) : bits .xor .u8 (x.toNat : Int) (b.toNat : Int) = (((x ^^^ b).toNat : Nat) : Int) := by
  rw [UInt8.toNat_xor, u8_xor_nat _ _ x.toNat_lt b.toNat_lt]

theorem frameSpoilt_long (s : ByteArray) (hs : 200000 < s.size) (hz : s.size ≤ 140737488351232) (at_ : Int) (b : UInt8) (w : World) (hT : Tab w) :
    Calls Tryd.prog 7 #[.string s, .int .i64 at_, .int .u8 (b.toNat : Int)] w fun e w' => e = .returned (.bool true) ∧ Below w.heap.size w w' := by
  have C1 : Hid (∀ w, Calls Tryd.prog 9 #[.string s] w fun e w' => e = .returned (.tuple #[.string ⟨#[]⟩, .int .i64 2]) ∧ w' = w) := fun w => wrap_long s hs w
  have i1 : ¬ (s.size : Int) ≤ 200000 := by omega
  have i2 : (200000 : Int) < (s.size : Int) := by omega
  go_enter Tryd.func7, Tryd.ntmps7
  go_wp2_with fail
  refine (C1.out _).mono ?_
  rintro e w1 ⟨rfl, hw1⟩
  rw [hw1]
  clear hw1
  go_wp2_with fail
  refine (live_any _ hT).mono ?_
  rintro e w1 ⟨rfl, hb1⟩
  go_wp2_with fail
  go_ret
  exact ⟨rfl, hb1⟩
theorem frameSpoilt_none (s : ByteArray) (hs : s.size ≤ 200000) (at_ : Int) (w : World) (hT : Tab w) :
    Calls Tryd.prog 7 #[.string s, .int .i64 at_, .int .u8 0] w fun e w' => e = .returned (.bool true) ∧ Below w.heap.size w w' := by
  have C1 : Hid (∀ w, Tab w → Calls Tryd.prog 9 #[.string s] w fun e w' => e = .returned (.tuple #[.string ⟨(wrap s.data.toList).toArray⟩, .int .i64 0]) ∧ Below w.heap.size w w') := fun w hT => wrap_any s hs w hT
  have i1 : (s.size : Int) ≤ 200000 := by omega
  go_enter Tryd.func7, Tryd.ntmps7
  go_wp2_with fail
  refine (C1.out _ hT).mono ?_
  rintro e w1 ⟨rfl, hb1⟩
  go_wp2_with fail
  refine (live_any _ (tab_below hT hb1)).mono ?_
  rintro e w2 ⟨rfl, hb2⟩
  go_wp2_with fail
  go_ret
  exact ⟨rfl, hb1.trans (hb2.mono hb1.size)⟩

/-- The text of a frame with a byte turned, which Scan finds nothing in. -/
theorem spoilt_scan (r : List UInt8) (k : Nat) (b : UInt8) (h : r.length ≤ 200000) (hk : k < r.length + 8) (hk3 : k = 0 ∨ 4 ≤ k) (hb : b ≠ 0) (l : List UInt8) (hl : l = (wrap r).set k ((wrap r)[k]?.getD 0 ^^^ b)) (w : World) (hT : Tab w) :
    Calls Tryd.prog 12 #[.string ⟨l.toArray⟩] w fun e w' => ∃ ao cap, e = .returned (.tuple #[.slice ao 0 cap, .int .i64 0]) ∧ Below w.heap.size w w' := by
  have hkl : k < (wrap r).length := by rw [FrameMath.wrap_length]; exact hk
  have hn : first l = none := by
    rw [hl, show (wrap r)[k]?.getD 0 = (wrap r)[k] by simp [hkl]]
    exact FrameMath.first_spoilt r k b h hk hk3 hb
  have hz : (ByteArray.mk l.toArray).size ≤ 70368744177664 := by rw [strV_size, hl, List.length_set, FrameMath.wrap_length]; omega
  refine (scan_any ⟨l.toArray⟩ hz w hT).mono ?_
  rintro e w' ⟨v, rfl, hown, hb'⟩
  rw [mk_data, FrameMath.scan_none l hn] at hown ⊢
  obtain ⟨ao, cap, rfl, _, _⟩ := own_row hown
  exact ⟨ao, cap, rfl, hb'⟩

set_option maxHeartbeats 2000000 in
theorem frameSpoilt_turned (s : ByteArray) (hs : s.size ≤ 200000) (at_ : Int) (ha : -9223372036854775808 ≤ at_ ∧ at_ ≤ 9223372036854775807) (b : UInt8) (hb : b ≠ 0) (w : World) (hT : Tab w) :
    Calls Tryd.prog 7 #[.string s, .int .i64 at_, .int .u8 (b.toNat : Int)] w fun e w' => e = .returned (.bool true) ∧ Below w.heap.size w w' := by
  obtain ⟨t, ht⟩ : ∃ t, t = ByteArray.mk (wrap s.data.toList).toArray := ⟨_, rfl⟩
  have htz : t.size = s.size + 8 := by rw [ht, strV_size, FrameMath.wrap_length, size_data]
  have htd : t.data.toList = wrap s.data.toList := by rw [ht, mk_data]
  have C1 : Hid (∀ w, Tab w → Calls Tryd.prog 9 #[.string s] w fun e w' => e = .returned (.tuple #[.string t, .int .i64 0]) ∧ Below w.heap.size w w') := by
    intro w hT
    rw [ht]
    exact wrap_any s hs w hT
  have CS : Hid (∀ (k : Nat) (x : UInt8), k < s.size + 8 → (k = 0 ∨ 4 ≤ k) → x = t.data.toList[k]?.getD 0 ^^^ b → ∀ w, Tab w → Calls Tryd.prog 12 #[.string ⟨(t.data.toList.set k x).toArray⟩] w fun e w' => ∃ ao cap, e = .returned (.tuple #[.slice ao 0 cap, .int .i64 0]) ∧ Below w.heap.size w w') := by
    intro k x h1 h2 h3 w hT
    refine spoilt_scan s.data.toList k b (by rw [size_data]; exact hs) (by rw [size_data]; exact h1) h2 hb _ ?_ w hT
    rw [h3, htd]
  clear ht htd
  have HT : Hid (Tab w) := hT
  have i1 : (s.size : Int) ≤ 200000 := by omega
  have ib : ((b.toNat : Int) == 0) = false := by
    rw [beq_eq_false_iff_ne]
    intro e
    exact hb (UInt8.toNat.inj (by simpa using e))
  have it : ((t.size : Int) != (s.size : Int) + 8) = false := by rw [htz]; simp
  have ha1 := ha.1
  have ha2 := ha.2
  clear ha hT hb
  go_enter Tryd.func7, Tryd.ntmps7
  go_wp2_with fail
  refine (C1.out _ HT.out).mono ?_
  rintro e w1 ⟨rfl, hb1⟩
  have HB1 : Hid (Below w.heap.size w w1) := hb1
  have HT1 : Hid (Tab w1) := tab_below HT.out hb1
  clear hb1
  obtain ⟨w2, hw2⟩ : ∃ w2, Lib.bytesWorld w1 5 t = w2 := ⟨_, rfl⟩
  have hcv := Lib.run_convert_string_bytes (P := Tryd.prog) w1 9 32 5 t Tryd.underlying9 Tryd.underlying32 Tryd.underlying5
  have hrow := rowIs_bytes w1 5 t
  have hb2 := below_bytes w1 5 t
  rw [hw2] at hcv hrow hb2
  generalize grownCap w1 t.size 0 5 = cap at *
  have HB2 : Hid (Below w.heap.size w w2) := HB1.out.trans (hb2.mono HB1.out.size)
  have HT2 : Hid (Tab w2) := tab_below HT1.out hb2
  have HR : Hid (RowIs w2 w1.heap.size t.size t.data.toList) := hrow
  have hle : w.heap.size ≤ w1.heap.size := HB1.out.size
  clear hb2 hrow hw2 C1 HB1 HT1
  have KEY : Hid (∀ K : Nat, K < s.size + 8 → (K = 0 ∨ 4 ≤ K) → ∃ (x y : UInt8) (u : ByteArray), w2.cell? ⟨w1.heap.size, K, none⟩ = some (.int .u8 (y.toNat : Int)) ∧ w2.frozen? ⟨w1.heap.size, K, none⟩ = false ∧
      bits .xor .u8 (y.toNat : Int) (b.toNat : Int) = (x.toNat : Int) ∧
      ((convert 32 9 (.slice (some ⟨w1.heap.size, 0, none⟩) (s.size + 8) cap)).run Tryd.prog ((w2.setCell ⟨w1.heap.size, K, none⟩ (.int .u8 (x.toNat : Int)))) = .ok (.string u) (w2.setCell ⟨w1.heap.size, K, none⟩ (.int .u8 (x.toNat : Int)))) ∧
      (Calls Tryd.prog 12 #[.string u] ((w2.setCell ⟨w1.heap.size, K, none⟩ (.int .u8 (x.toNat : Int)))) fun e w' => ∃ ao cap, e = .returned (.tuple #[.slice ao 0 cap, .int .i64 0]) ∧ Below w.heap.size w w' ∧ Tab w')) := by
    intro K hK hK3
    have hKt : K < t.size := by omega
    have hc := HR.out.2 K hKt
    refine ⟨t.data.toList[K]?.getD 0 ^^^ b, t.data.toList[K]?.getD 0, ⟨(t.data.toList.set K (t.data.toList[K]?.getD 0 ^^^ b)).toArray⟩, ?_, hc.2, byte_xor _ _, ?_, ?_⟩
    · rw [hc.1]; rfl
    · rw [← htz]
      exact row_string (c := cap) (rowIs_set HR.out K hKt _) Tryd.underlying32 Tryd.underlying5 Tryd.underlying9 0
    · skip
      have hbs : Below w.heap.size w (w2.setCell ⟨w1.heap.size, K, none⟩ (.int .u8 ((t.data.toList[K]?.getD 0 ^^^ b).toNat : Int))) := HB2.out.setCell (p := ⟨w1.heap.size, K, none⟩) hle _
      have hTs : Tab (w2.setCell ⟨w1.heap.size, K, none⟩ (.int .u8 ((t.data.toList[K]?.getD 0 ^^^ b).toNat : Int))) := tab_below HT.out hbs
      refine (CS.out K _ hK hK3 rfl _ hTs).mono ?_
      rintro e w' ⟨ao, cap, rfl, hb'⟩
      have := hbs.trans (hb'.mono hbs.size)
      exact ⟨ao, cap, rfl, this, tab_below HT.out this⟩
  clear CS HR HB2 HT2 hle
  by_cases hneg : at_ < 0
  case' pos => obtain ⟨f, hfe, hf⟩ := place_neg at_ (s.size + 5) hneg (by omega)
  case' neg => obtain ⟨f, hfe, hf⟩ := place_pos at_ (s.size + 5) (by omega)
  case pos =>
    have hfe' : (at_ + 1).tmod ((s.size : Int) + 8 - 3) = -(f : Int) := by
      rw [show (s.size : Int) + 8 - 3 = ((s.size + 5 : Nat) : Int) by omega]
      omega
    clear hfe
    by_cases h0 : f = 0
    · subst h0
      obtain ⟨x, y, u, k1, k2, k3, k4, k5⟩ := KEY.out (0) (by omega) (by omega)
      have K5 : Hid (Calls Tryd.prog 12 #[.string u] ((w2.setCell ⟨w1.heap.size, 0, none⟩ (.int .u8 (x.toNat : Int)))) fun e w' => ∃ ao cap, e = .returned (.tuple #[.slice ao 0 cap, .int .i64 0]) ∧ Below w.heap.size w w' ∧ Tab w') := k5
      clear k5 KEY
      go_wp2_with fail
      refine (K5.out).mono ?_
      rintro e w3 ⟨ao, cap3, rfl, hb3, hT3⟩
      go_wp2_with fail
      refine (live_any _ hT3).mono ?_
      rintro e w4 ⟨rfl, hb4⟩
      go_wp2_with fail
      go_ret
      exact ⟨rfl, hb3.trans (hb4.mono hb3.size)⟩
    · have f0 : (0 : Int) < (f : Int) := by omega
      obtain ⟨x, y, u, k1, k2, k3, k4, k5⟩ := KEY.out (f + 3) (by omega) (by omega)
      have K5 : Hid (Calls Tryd.prog 12 #[.string u] ((w2.setCell ⟨w1.heap.size, f + 3, none⟩ (.int .u8 (x.toNat : Int)))) fun e w' => ∃ ao cap, e = .returned (.tuple #[.slice ao 0 cap, .int .i64 0]) ∧ Below w.heap.size w w' ∧ Tab w') := k5
      clear k5 KEY
      go_wp2_with fail
      refine (K5.out).mono ?_
      rintro e w3 ⟨ao, cap3, rfl, hb3, hT3⟩
      go_wp2_with fail
      refine (live_any _ hT3).mono ?_
      rintro e w4 ⟨rfl, hb4⟩
      go_wp2_with fail
      go_ret
      exact ⟨rfl, hb3.trans (hb4.mono hb3.size)⟩
  case neg =>
    have hfe' : at_ % ((s.size : Int) + 8 - 3) = (f : Int) := by
      rw [show (s.size : Int) + 8 - 3 = ((s.size + 5 : Nat) : Int) by omega]
      exact hfe
    clear hfe
    by_cases h0 : f = 0
    · subst h0
      obtain ⟨x, y, u, k1, k2, k3, k4, k5⟩ := KEY.out (0) (by omega) (by omega)
      have K5 : Hid (Calls Tryd.prog 12 #[.string u] ((w2.setCell ⟨w1.heap.size, 0, none⟩ (.int .u8 (x.toNat : Int)))) fun e w' => ∃ ao cap, e = .returned (.tuple #[.slice ao 0 cap, .int .i64 0]) ∧ Below w.heap.size w w' ∧ Tab w') := k5
      clear k5 KEY
      go_wp2_with fail
      refine (K5.out).mono ?_
      rintro e w3 ⟨ao, cap3, rfl, hb3, hT3⟩
      go_wp2_with fail
      refine (live_any _ hT3).mono ?_
      rintro e w4 ⟨rfl, hb4⟩
      go_wp2_with fail
      go_ret
      exact ⟨rfl, hb3.trans (hb4.mono hb3.size)⟩
    · have f0 : (0 : Int) < (f : Int) := by omega
      obtain ⟨x, y, u, k1, k2, k3, k4, k5⟩ := KEY.out (f + 3) (by omega) (by omega)
      have K5 : Hid (Calls Tryd.prog 12 #[.string u] ((w2.setCell ⟨w1.heap.size, f + 3, none⟩ (.int .u8 (x.toNat : Int)))) fun e w' => ∃ ao cap, e = .returned (.tuple #[.slice ao 0 cap, .int .i64 0]) ∧ Below w.heap.size w w' ∧ Tab w') := k5
      clear k5 KEY
      go_wp2_with fail
      refine (K5.out).mono ?_
      rintro e w3 ⟨ao, cap3, rfl, hb3, hT3⟩
      go_wp2_with fail
      refine (live_any _ hT3).mono ?_
      rintro e w4 ⟨rfl, hb4⟩
      go_wp2_with fail
      go_ret
      exact ⟨rfl, hb3.trans (hb4.mono hb3.size)⟩

theorem frameSpoilt_walk (s : ByteArray) (hz : s.size ≤ 140737488351232) (at_ : Int) (ha : -9223372036854775808 ≤ at_ ∧ at_ ≤ 9223372036854775807) (b : UInt8) (w : World) (hT : Tab w) :
    Calls Tryd.prog 7 #[.string s, .int .i64 at_, .int .u8 (b.toNat : Int)] w fun e w' => e = .returned (.bool true) ∧ Below w.heap.size w w' := by
  by_cases hs : s.size ≤ 200000
  · by_cases hb : b = 0
    · subst hb
      exact frameSpoilt_none s hs at_ w hT
    · exact frameSpoilt_turned s hs at_ ha b hb w hT
  · exact frameSpoilt_long s (by omega) hz at_ b w hT
end Go.Proofs.YtpohggljdgjdfaaDoor
