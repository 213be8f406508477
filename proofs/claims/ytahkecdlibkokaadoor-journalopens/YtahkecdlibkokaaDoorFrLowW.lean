/- The walks of lowFirst and sumOf, in package frame. -/
import Derived.Test.YtahkecdlibkokaaDoorBase
import Derived.Test.YtahkecdlibkokaaDoorFam
import Derived.Test.YtahkecdlibkokaaDoorFrCrcW
import Derived.Test.YtahkecdlibkokaaDoorFrFMath
import Derived.Laws.BytesArg
import Derived.RegionTactic
import Derived.BigRegion
set_option linter.unusedVariables false
set_option maxRecDepth 100000
namespace Go.Proofs.YtahkecdlibkokaaDoor.Fr
open Go.RowKit
open FrameMath (le le_length)

/-- The n cells of block g hold the bytes l, and may be written. -/
def RowIs (w : World) (g n : Nat) (l : List UInt8) : Prop :=
  l.length = n ∧ ∀ j, j < n → w.cell? ⟨g, j, none⟩ = some (.int .u8 ((l.getD j 0).toNat : Int)) ∧ w.frozen? ⟨g, j, none⟩ = false
theorem rowIs_drew {w : World} {g n : Nat} {l : List UInt8} (h : RowIs w g n l) : RowIs w.drew g n l := h
theorem rowIs_set {w : World} {g n : Nat} {l : List UInt8} (h : RowIs w g n l) (k : Nat) (hk : k < n) (x : UInt8) : RowIs (w.setCell ⟨g, k, none⟩ (.int .u8 (x.toNat : Int))) g n (l.set k x) := by
  refine ⟨by simpa using h.1, fun j hj => ⟨?_, ?_⟩⟩
  · by_cases e : k = j
    · subst e
      rw [World.cell?_setCell_same' w _ _ (by rw [(h.2 k hk).1]; rfl)]
      have : k < l.length := by rw [h.1]; exact hk
      simp [List.getD, this]
    · rw [World.cell?_setCell_other w _ _ _ (fun h => e (congrArg Addr.off h)), (h.2 j hj).1]
      simp [List.getD, e]
  · rw [← (h.2 j hj).2]
    simp
theorem rowIs_made {w : World} {base e g n : Nat} (h : w.ownsRow base e 1 (.slice (some ⟨g, 0, none⟩) n n) n (madeCells (Value.int .u8 0).cells (n * 1)).toList) : RowIs w g n (List.replicate n 0) := by
  refine ⟨by simp, fun j hj => ⟨?_, h.frozenAt j⟩⟩
  rw [h.cellAt j (by omega), show (Value.int .u8 0).cells = #[Value.int .u8 0] from rfl, toList_madeCells_one]
  simp [List.getD, hj]
theorem tab_below {w w' : World} (h : Tab w) (hb : Below w.heap.size w w') : Tab w' := fun i hi => by
  have h0 := h i hi
  rw [hb.cell (p := ⟨0, i, none⟩) (block_lt_of_cell h0)]
  exact h0
theorem tab_drewN {w : World} (h : Tab w) (n : Nat) : Tab (w.drewN n) := fun i hi => by
  have h0 := h i hi
  simpa using h0

theorem row_string {P : Program} {w : World} {g n : Nat} {l : List UInt8} (h : RowIs w g n l) {src e dst : TypeId} {c : Nat} (hs : P.underlying src = some (.slice e)) (he : P.underlying e = some (.int .u8)) (hd : P.underlying dst = some .string) :
    ∀ q, (convert src dst (.slice (some ⟨g, 0, none⟩) n c)).run P (w.drewN q) = .ok (.string ⟨l.toArray⟩) (w.drewN q) := by
  intro q
  have := run_convert_bytes_arg (P := P) (w.drewN q) src e hs he g 0 n c (l.map fun b => (b.toNat : Int)) (by simpa using h.1) (fun i hi => by
    have h1 := (h.2 i hi).1
    have : i < l.length := by rw [h.1]; exact hi
    simpa [List.getD, this] using h1) dst hd
  rw [this]
  unfold strOfNums
  simp [Function.comp_def]


/-- The first k bytes of a number, and zeros behind them. -/
def lowPart (n c k : Nat) : List UInt8 := le k n ++ List.replicate (c - k) 0
theorem le_snoc : ∀ k n, le (k + 1) n = le k n ++ [UInt8.ofNat (n / 2 ^ (8 * k))]
  | 0, n => by simp [le]
  | k + 1, n => by
    show UInt8.ofNat n :: le (k + 1) (n / 256) = UInt8.ofNat n :: (le k (n / 256) ++ [UInt8.ofNat (n / 2 ^ (8 * (k + 1)))])
    rw [le_snoc k (n / 256), Nat.div_div_eq_div_mul]
    congr 4
    rw [show 8 * (k + 1) = 8 + 8 * k by omega, Nat.pow_add]
theorem lowPart_set (n c k : Nat) (h : k < c) : (lowPart n c k).set k (UInt8.ofNat (n / 2 ^ (8 * k))) = lowPart n c (k + 1) := by
  unfold lowPart
  rw [le_snoc, List.set_append, if_neg (by rw [le_length]; omega), le_length, Nat.sub_self]
  obtain ⟨d, hd⟩ : ∃ d, c - k = d + 1 := ⟨c - k - 1, by omega⟩
  rw [hd, show c - (k + 1) = d by omega, List.replicate_succ, List.set_cons_zero, List.append_assoc]
  rfl

theorem low_byte (n j : Nat) : (n : Int) / 2 ^ j % 256 = (((UInt8.ofNat (n / 2 ^ j)).toNat : Nat) : Int) := by
  rw [UInt8.toNat_ofNat', Int.natCast_emod, Int.natCast_ediv, Int.natCast_pow]
  rfl

set_option maxHeartbeats 1000000 in
theorem low_any (n c : Nat) (hn : n < 4294967296) (hc : c ≤ 4) (w : World) :
    Calls Tryd.prog 73 #[.int .u32 (n : Int), .int .i64 (c : Int)] w fun e w' => e = .returned (strV (le c n)) ∧ Below w.heap.size w w' := by
  obtain ⟨i0, hi, hz0, hz1, hz2⟩ := info_parts infoB
  obtain ⟨w1, hrun, hown, hgrow⟩ := run_make_full (P := Tryd.prog) w w.heap.size 99 5 i0 (.int .u8 0) 1 Tryd.underlying99 hi hz0 hz1 .i64 .i64 c (by rw [hz2]; omega) (by unfold maxLen; omega) (Nat.le_refl _)
  have hb1 : Below w.heap.size w w1 := (Below.refl _ w).grown hgrow (Nat.le_refl _) (fun k h => by cases h)
  have hrow := rowIs_made hown
  have HO : Hid (RowIs w1 w.heap.size c (List.replicate c 0)) := hrow
  have HB1 : Hid (Below w.heap.size w w1) := hb1
  clear hgrow hown hrow hb1 hi hz0 hz1 hz2
  go_enter Tryd.func73, Tryd.ntmps73
  go_wp2
  go_loopw [11] (fun i wr => ∃ k : Nat, k ≤ c ∧ i = .int .i64 k ∧ RowIs wr w.heap.size c (lowPart n c k) ∧ Below w.heap.size w wr) (fun i _ => c - (intOf i).toNat)
  case atStart => exact ⟨0, Nat.zero_le _, rfl, HO.out, HB1.out⟩
  case round =>
    obtain ⟨k, hk, rfl, hr, hbw⟩ := hrel
    clear hrun HO HB1
    by_cases hlt : k < c
    · have hcell := (hr.2 k hlt).1
      have hfro := (hr.2 k hlt).2
      have HR : Hid (RowIs wr w.heap.size c (lowPart n c k)) := hr
      clear hr
      go_wp2
      have hv := low_byte n (8 * k)
      have hset := rowIs_set HR.out k hlt (UInt8.ofNat (n / 2 ^ (8 * k)))
      rw [lowPart_set n c k hlt, ← hv] at hset
      exact ⟨⟨k + 1, by omega, by go_num, hset, hbw.setCell (Nat.le_refl _) _⟩, by simp [intOf]; omega⟩
    · have hkc : k = c := by omega
      rw [hkc] at hr
      have hcv : (convert 99 9 (.slice (some ⟨w.heap.size, 0, none⟩) c c)).run Tryd.prog wr = .ok (.string ⟨(lowPart n c c).toArray⟩) wr := row_string (P := Tryd.prog) (c := c) hr (src := 99) (dst := 9) Tryd.underlying99 Tryd.underlying5 Tryd.underlying9 0
      rw [show lowPart n c c = le c n by simp [lowPart]] at hcv
      clear hr hkc
      go_wp2
      go_ret
      exact ⟨rfl, hbw⟩

theorem sumOf_any (a s : ByteArray) (ha : a.size ≤ 140737488351232) (hs : s.size ≤ 140737488351232) (w : World) (hT : Tab w) :
    Calls Tryd.prog 74 #[.string a, .string s] w fun e w' => e = .returned (strV (le 4 (CrcMath.ext 0 (a.data.toList ++ s.data.toList)))) ∧ Below w.heap.size w w' := by
  have l1 : CrcMath.ext 0 a.data.toList < 4294967296 := CrcMath.ext_lt _ _ (by decide)
  have l2 : CrcMath.ext (CrcMath.ext 0 a.data.toList) s.data.toList < 4294967296 := CrcMath.ext_lt _ _ l1
  have X1 : Hid (∀ w, Tab w → Calls Tryd.prog 80 #[.string a] w fun e w' => e = .returned (.int .u32 ((CrcMath.ext 0 a.data.toList : Nat) : Int)) ∧ w' = w) := fun w hT => sum_any a (by unfold maxLen; omega) w hT
  have X2 : Hid (∀ w, Tab w → Calls Tryd.prog 79 #[.int .u32 ((CrcMath.ext 0 a.data.toList : Nat) : Int), .string s] w fun e w' => e = .returned (.int .u32 ((CrcMath.ext (CrcMath.ext 0 a.data.toList) s.data.toList : Nat) : Int)) ∧ w' = w) := fun w hT => extend_any _ s l1 (by unfold maxLen; omega) w hT
  have X3 : Hid (∀ w, Calls Tryd.prog 73 #[.int .u32 ((CrcMath.ext (CrcMath.ext 0 a.data.toList) s.data.toList : Nat) : Int), .int .i64 4] w fun e w' => e = .returned (strV (le 4 (CrcMath.ext (CrcMath.ext 0 a.data.toList) s.data.toList))) ∧ Below w.heap.size w w') := fun w => low_any _ 4 l2 (by decide) w
  rw [← CrcMath.ext_append]
  generalize CrcMath.ext (CrcMath.ext 0 a.data.toList) s.data.toList = e2 at *
  generalize CrcMath.ext 0 a.data.toList = e1 at *
  go_enter Tryd.func74, Tryd.ntmps74
  go_wp2_with fail
  refine (X1.out _ hT).mono ?_
  rintro e w1 ⟨rfl, hw1⟩
  rw [hw1]
  clear hw1
  go_wp2_with fail
  refine (X2.out _ hT).mono ?_
  rintro e w1 ⟨rfl, hw1⟩
  rw [hw1]
  clear hw1
  go_wp2_with fail
  refine (X3.out _).mono ?_
  rintro e w1 ⟨rfl, hb1⟩
  go_wp2_with fail
  go_ret
  exact ⟨rfl, hb1⟩

theorem wrap_long (s : ByteArray) (hs : 200000 < s.size) (w : World) :
    Calls Tryd.prog 63 #[.string s] w fun e w' => e = .returned (.tuple #[.string ⟨#[]⟩, .int .i64 2]) ∧ w' = w := by
  have h : (200000 : Int) < (s.size : Int) := by omega
  go_enter Tryd.func63, Tryd.ntmps63
  go_wp2
  go_ret2
  exact ⟨rfl, rfl⟩
theorem wrap_data (s a b : ByteArray) (ha : a.data.toList = le 3 s.size) (hb : b.data.toList = le 4 (CrcMath.ext 0 (le 3 s.size ++ s.data.toList))) :
    ((⟨#[167]⟩ : ByteArray) ++ a ++ b ++ s) = ⟨(FrameMath.wrap s.data.toList).toArray⟩ := by
  apply ByteArray.ext
  apply Array.ext'
  unfold FrameMath.wrap
  rw [size_data]
  simp [ByteArray.data_append, ha, hb]
set_option maxHeartbeats 1000000 in
theorem wrap_any (s : ByteArray) (hs : s.size ≤ 200000) (w : World) (hT : Tab w) :
    Calls Tryd.prog 63 #[.string s] w fun e w' => e = .returned (.tuple #[strV (FrameMath.wrap s.data.toList), .int .i64 0]) ∧ Below w.heap.size w w' := by
  obtain ⟨a, ha⟩ : ∃ a, a = ByteArray.mk (le 3 s.size).toArray := ⟨_, rfl⟩
  have ha' : a.data.toList = le 3 s.size := by rw [ha]
  have haz : a.size = 3 := by rw [← size_data, ha', le_length]
  obtain ⟨b, hb⟩ : ∃ b, b = ByteArray.mk (le 4 (CrcMath.ext 0 (le 3 s.size ++ s.data.toList))).toArray := ⟨_, rfl⟩
  have hb' : b.data.toList = le 4 (CrcMath.ext 0 (le 3 s.size ++ s.data.toList)) := by rw [hb]
  have hbz : b.size = 4 := by rw [← size_data, hb', le_length]
  have hd := wrap_data s a b ha' hb'
  have X1 : Hid (∀ w, Calls Tryd.prog 73 #[.int .u32 (s.size : Int), .int .i64 3] w fun e w' => e = .returned (.string a) ∧ Below w.heap.size w w') := by
    intro w
    have := low_any s.size 3 (by omega) (by decide) w
    unfold strV at this
    rw [← ha] at this
    exact this
  have X2 : Hid (∀ w, Tab w → Calls Tryd.prog 74 #[.string a, .string s] w fun e w' => e = .returned (.string b) ∧ Below w.heap.size w w') := by
    intro w hT
    have := sumOf_any a s (by omega) (by omega) w hT
    unfold strV at this
    rw [ha', ← hb] at this
    exact this
  unfold strV
  rw [← hd]
  have h0 : ¬ (200000 : Int) < (s.size : Int) := by omega
  have h1 : (s.size : Int) ≤ 200000 := by omega
  clear hd ha ha' hb hb'
  go_enter Tryd.func63, Tryd.ntmps63
  go_wp2_with fail
  refine (X1.out _).mono ?_
  rintro e w1 ⟨rfl, hb1⟩
  go_wp2_with fail
  refine (X2.out _ (tab_below hT hb1)).mono ?_
  rintro e w2 ⟨rfl, hb2⟩
  go_wp2_with fail
  go_ret2
  exact ⟨rfl, hb1.trans (hb2.mono hb1.size)⟩
end Go.Proofs.YtahkecdlibkokaaDoor.Fr