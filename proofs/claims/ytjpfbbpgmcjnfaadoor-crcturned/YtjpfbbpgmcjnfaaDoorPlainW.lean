/- The walk of the law CrcPlain. -/
import Derived.Test.YtjpfbbpgmcjnfaaDoorRef
import Derived.Below
import Derived.Laws.OwnMore
import Derived.Laws.BytesArg
import Derived.RegionTactic
import Derived.BigRegion
import Derived.Deep.QuietTactic
import Derived.BigQuiet
import Derived.OwnWalk
import Derived.Deep.DeepMust
import Derived.WalkSmall
namespace Go.Proofs.YtjpfbbpgmcjnfaaDoor
open Go.RowKit

theorem info5 : ∃ i, Tryd.prog.info? 5 = some i ∧ i.zero = some (.int .u8 0) ∧ i.size = 1 ∧ i.bytes = 1 := by
  obtain ⟨i, h⟩ : ∃ i, Tryd.prog.info? 5 = some i := Option.isSome_iff_exists.1 (by kernel_rfl)
  refine ⟨i, h, ?_, ?_, ?_⟩
  · have : (Tryd.prog.info? 5).bind (·.zero) = some (.int .u8 0) := by kernel_rfl
    rw [h] at this; exact this
  · have : (Tryd.prog.info? 5).map (·.size) = some 1 := by kernel_rfl
    rw [h] at this; exact Option.some.inj this
  · have : (Tryd.prog.info? 5).map (·.bytes) = some 1 := by kernel_rfl
    rw [h] at this; exact Option.some.inj this

def x3 : List UInt8 → List UInt8 → List UInt8 → List UInt8
  | x :: a, y :: b, z :: c => (x ^^^ y ^^^ z) :: x3 a b c
  | _, _, _ => []
theorem x3_length : ∀ (a b c : List UInt8), b.length = a.length → c.length = a.length → (x3 a b c).length = a.length
  | [], _, _, _, _ => by simp [x3]
  | x :: a, y :: b, z :: c, h1, h2 => by
    have := x3_length a b c (by simpa using h1) (by simpa using h2)
    simp [x3, this]
  | _ :: _, [], _, h, _ => by simp at h
  | _ :: _, _ :: _, [], _, h => by simp at h
theorem x3_at : ∀ (a b c : List UInt8) (k : Nat) (h1 : b.length = a.length) (h2 : c.length = a.length) (hk : k < a.length), (x3 a b c)[k]? = some (a[k] ^^^ b[k] ^^^ c[k])
  | x :: a, y :: b, z :: c, 0, _, _, _ => by simp [x3]
  | x :: a, y :: b, z :: c, k + 1, h1, h2, hk => by
    have := x3_at a b c k (by simpa using h1) (by simpa using h2) (by simpa using hk)
    simpa [x3] using this
  | [], _, _, _, _, _, h => by simp at h
  | _ :: _, [], _, _, h, _, _ => by simp at h
  | _ :: _, _ :: _, [], _, _, h, _ => by simp at h
theorem x3_val : ∀ (a b c : List UInt8), b.length = a.length → c.length = a.length → CrcMath.val (x3 a b c) = CrcMath.val a ^^^ CrcMath.val b ^^^ CrcMath.val c
  | [], [], [], _, _ => rfl
  | x :: a, y :: b, z :: c, h1, h2 => by
    have ih := x3_val a b c (by simpa using h1) (by simpa using h2)
    show (x ^^^ y ^^^ z).toNat + 256 * CrcMath.val (x3 a b c) = (x.toNat + 256 * CrcMath.val a) ^^^ (y.toNat + 256 * CrcMath.val b) ^^^ (z.toNat + 256 * CrcMath.val c)
    have h : ∀ (u : UInt8) (v : Nat), u.toNat + 256 * v = u.toNat ^^^ 2 ^ 8 * v := fun u v => CrcMath.add_is_xor u.toNat v 8 u.toNat_lt
    rw [h, h, h, h, ih, UInt8.toNat_xor, UInt8.toNat_xor]
    apply Nat.eq_of_testBit_eq
    intro i
    simp only [Nat.testBit_xor, Nat.testBit_two_pow_mul]
    cases x.toNat.testBit i <;> cases y.toNat.testBit i <;> cases z.toNat.testBit i <;> cases decide (8 ≤ i) <;> cases (CrcMath.val a).testBit (i - 8) <;> cases (CrcMath.val b).testBit (i - 8) <;> cases (CrcMath.val c).testBit (i - 8) <;> rfl
  | [], _ :: _, _, h, _ => by simp at h
  | [], [], _ :: _, _, h => by simp at h
  | _ :: _, [], _, h, _ => by simp at h
  | _ :: _, _ :: _, [], _, h => by simp at h

/-- What the new text holds behind k rounds. -/
def part (D : List UInt8) (n k : Nat) : List UInt8 := D.take k ++ List.replicate (n - k) 0
theorem part_length (D : List UInt8) (n k : Nat) (hD : D.length = n) (hk : k ≤ n) : (part D n k).length = n := by
  simp [part]; omega
theorem part_set (D : List UInt8) (n k : Nat) (x : UInt8) (hD : D.length = n) (hk : k < n) (hx : D[k]? = some x) : (part D n k).set k x = part D n (k + 1) := by
  unfold part
  have hl : (D.take k).length = k := by simp; omega
  have hr : List.replicate (n - k) (0 : UInt8) = 0 :: List.replicate (n - (k + 1)) 0 := by
    rw [← List.replicate_succ]; congr 1; omega
  rw [hr, List.set_append_right _ _ (by omega), hl, Nat.sub_self, List.set_cons_zero, List.take_add_one, hx]
  simp
theorem part_full (D : List UInt8) (n : Nat) (hD : D.length = n) : part D n n = D := by
  unfold part
  rw [List.take_of_length_le (by omega), Nat.sub_self]
  simp
theorem part_zero (D : List UInt8) (n : Nat) : part D n 0 = List.replicate n 0 := by simp [part]
def cellsOf (l : List UInt8) : List Value := l.map fun b => .int .u8 (b.toNat : Int)
theorem cellsOf_set (l : List UInt8) (k : Nat) (x : UInt8) : (cellsOf l).set k (.int .u8 (x.toNat : Int)) = cellsOf (l.set k x) := by
  simp [cellsOf, List.map_set]
theorem u8_xor3 (x y z : UInt8) : bits .xor .u8 (bits .xor .u8 (x.toNat : Int) (y.toNat : Int)) (z.toNat : Int) = (((x ^^^ y ^^^ z).toNat : Nat) : Int) := by
  have h1 := x.toNat_lt; have h2 := y.toNat_lt; have h3 := z.toNat_lt
  rw [u8_xor_nat _ _ (by omega) (by omega), u8_xor_nat _ _ (Nat.xor_lt_two_pow (n := 8) (by omega) (by omega)) (by omega), UInt8.toNat_xor, UInt8.toNat_xor]

/-- The n cells of block g hold the bytes l, and may be written. -/
def RowIs (w : World) (g n : Nat) (l : List UInt8) : Prop :=
  l.length = n ∧ ∀ j, j < n → w.cell? ⟨g, j, none⟩ = some (.int .u8 ((l.getD j 0).toNat : Int)) ∧ w.frozen? ⟨g, j, none⟩ = false
theorem rowIs_drew {w : World} {g n : Nat} {l : List UInt8} (h : RowIs w g n l) : RowIs w.drew g n l := h
theorem rowIs_set {w : World} {g n : Nat} {l : List UInt8} (h : RowIs w g n l) (k : Nat) (hk : k < n) (x : UInt8) : RowIs (w.setCell ⟨g, k, none⟩ (.int .u8 (x.toNat : Int))) g n (l.set k x) := by
  refine ⟨by simpa using h.1, fun j hj => ⟨?_, ?_⟩⟩
  · by_cases e : k = j
    · subst e
      rw [World.cell?_setCell_same' w _ _ (by rw [(h.2 k hk).1]; rfl)]
      have : k < l.length := by rw [h.1]; exact hk
      simp [List.getD, this]
    · rw [World.cell?_setCell_other w _ _ _ (fun h => e (congrArg Addr.off h)), (h.2 j hj).1]
      simp [List.getD, e]
  · rw [← (h.2 j hj).2]
    simp
theorem rowIs_made {w : World} {base e g n : Nat} (h : w.ownsRow base e 1 (.slice (some ⟨g, 0, none⟩) n n) n (madeCells (Value.int .u8 0).cells (n * 1)).toList) : RowIs w g n (List.replicate n 0) := by
  refine ⟨by simp, fun j hj => ⟨?_, h.frozenAt j⟩⟩
  rw [h.cellAt j (by omega), show (Value.int .u8 0).cells = #[Value.int .u8 0] from rfl, toList_madeCells_one]
  simp [List.getD, hj]
theorem tab_below {w w' : World} (h : Tab w) (hb : Below w.heap.size w w') : Tab w' := fun i hi => by
  have h0 := h i hi
  rw [hb.cell (p := ⟨0, i, none⟩) (block_lt_of_cell h0)]
  exact h0
theorem tab_drewN {w : World} (h : Tab w) (n : Nat) : Tab (w.drewN n) := fun i hi => by
  have h0 := h i hi
  simpa using h0

theorem exD (a b c : ByteArray) (n : Nat) (h1 : n ≤ a.size) (h2 : n ≤ b.size) (h3 : n ≤ c.size) : ∃ D : List UInt8, D.length = n ∧
    CrcMath.ext 0 D = CrcMath.ext 0 (a.data.toList.take n) ^^^ CrcMath.ext 0 (b.data.toList.take n) ^^^ CrcMath.ext 0 (c.data.toList.take n) ∧
    ∀ k, (h : k < n) → D[k]? = some ((a[k]'(by omega)) ^^^ (b[k]'(by omega)) ^^^ (c[k]'(by omega))) := by
  have hla : a.data.toList.length = a.size := Array.length_toList
  have hlb : b.data.toList.length = b.size := Array.length_toList
  have hlc : c.data.toList.length = c.size := Array.length_toList
  have ta : (a.data.toList.take n).length = n := by rw [List.length_take]; omega
  have tb : (b.data.toList.take n).length = n := by rw [List.length_take]; omega
  have tc : (c.data.toList.take n).length = n := by rw [List.length_take]; omega
  have hD : (x3 (a.data.toList.take n) (b.data.toList.take n) (c.data.toList.take n)).length = n := by rw [x3_length _ _ _ (by omega) (by omega)]; exact ta
  refine ⟨x3 (a.data.toList.take n) (b.data.toList.take n) (c.data.toList.take n), hD, CrcMath.ext_three _ _ _ _ (by omega) (by omega) (by omega) (x3_val _ _ _ (by omega) (by omega)), fun k h => ?_⟩
  rw [x3_at _ _ _ k (by omega) (by omega) (by omega)]
  simp only [List.getElem_take]
  rfl

theorem row_string {P : Program} {w : World} {g n : Nat} {l : List UInt8} (h : RowIs w g n l) {src e dst : TypeId} {c : Nat} (hs : P.underlying src = some (.slice e)) (he : P.underlying e = some (.int .u8)) (hd : P.underlying dst = some .string) :
    ∀ q, (convert src dst (.slice (some ⟨g, 0, none⟩) n c)).run P (w.drewN q) = .ok (.string ⟨l.toArray⟩) (w.drewN q) := by
  intro q
  have := run_convert_bytes_arg (P := P) (w.drewN q) src e hs he g 0 n c (l.map fun b => (b.toNat : Int)) (by simpa using h.1) (fun i hi => by
    have h1 := (h.2 i hi).1
    have : i < l.length := by rw [h.1]; exact hi
    simpa [List.getD, this] using h1) dst hd
  rw [this]
  unfold strOfNums
  simp [Function.comp_def]

theorem xor3_u32 (x y z : Nat) (hx : x < 4294967296) (hy : y < 4294967296) (hz : z < 4294967296) : bits .xor .u32 (bits .xor .u32 (x : Int) (y : Int)) (z : Int) = ((x ^^^ y ^^^ z : Nat) : Int) := by
  rw [u32_xor_nat _ _ hx hy, u32_xor_nat _ _ (Nat.xor_lt_two_pow (n := 32) hx hy) hz]
theorem ext_lt0 (l : List UInt8) : CrcMath.ext 0 l < 4294967296 := CrcMath.ext_lt 0 l (by decide)

set_option maxHeartbeats 1000000 in
theorem plain_walk (a b c : ByteArray) (ha : a.size ≤ 140737488355328) (hb : b.size ≤ 140737488355328) (hc : c.size ≤ 140737488355328) (w : World) (hT : Tab w) :
    Calls Tryd.prog 7 #[.string a, .string b, .string c] w fun e w' => e = .returned (.bool true) ∧ Below w.heap.size w w' := by
  obtain ⟨i5, hi, hz0, hz1, hz2⟩ := info5
  have hmk : ∀ n : Nat, n ≤ 140737488355328 → _ := fun n hn => run_make_full (P := Tryd.prog) w w.heap.size 29 5 i5 (.int .u8 0) 1 Tryd.underlying29 hi hz0 hz1 .i64 .i64 n (by rw [hz2]; omega) (by unfold maxLen; omega) (Nat.le_refl _)
  have HM : Hid _ := hmk
  clear hmk hi hz0 hz1 hz2
  have hcase : (a.size ≤ b.size ∧ a.size ≤ c.size) ∨ (b.size < a.size ∧ b.size ≤ c.size) ∨ (c.size < a.size ∧ c.size < b.size) := by omega
  rcases hcase with ⟨g1, g2⟩ | ⟨g1, g2⟩ | ⟨g1, g2⟩
  case' inl =>
    obtain ⟨n, hn⟩ : ∃ n : Nat, n = a.size := ⟨_, rfl⟩
    have h1 : n ≤ a.size := by omega
    have h2 : n ≤ b.size := by omega
    have h3 : n ≤ c.size := by omega
    obtain ⟨w1, hrun, hown, hgrow⟩ := HM.out n (by omega)
    have hb1 : Below w.heap.size w w1 := (Below.refl _ w).grown hgrow (Nat.le_refl _) (fun k h => by cases h)
    clear HM hgrow
    have hrow := rowIs_made hown
    have HO : Hid _ := hrow
    clear hown hrow
    rw [hn] at hrun
    have HN : Hid (n = a.size) := hn
    clear hn
    go_enter Tryd.func7, Tryd.ntmps7
    go_wp2_with fail
    rw [← HN.out]
    clear HN g1 g2 hrun
  case' inr.inl =>
    obtain ⟨n, hn⟩ : ∃ n : Nat, n = b.size := ⟨_, rfl⟩
    have h1 : n ≤ a.size := by omega
    have h2 : n ≤ b.size := by omega
    have h3 : n ≤ c.size := by omega
    obtain ⟨w1, hrun, hown, hgrow⟩ := HM.out n (by omega)
    have hb1 : Below w.heap.size w w1 := (Below.refl _ w).grown hgrow (Nat.le_refl _) (fun k h => by cases h)
    clear HM hgrow
    have hrow := rowIs_made hown
    have HO : Hid _ := hrow
    clear hown hrow
    rw [hn] at hrun
    have HN : Hid (n = b.size) := hn
    clear hn
    go_enter Tryd.func7, Tryd.ntmps7
    go_wp2_with fail
    rw [← HN.out]
    clear HN g1 g2 hrun
  case' inr.inr =>
    obtain ⟨n, hn⟩ : ∃ n : Nat, n = c.size := ⟨_, rfl⟩
    have h1 : n ≤ a.size := by omega
    have h2 : n ≤ b.size := by omega
    have h3 : n ≤ c.size := by omega
    obtain ⟨w1, hrun, hown, hgrow⟩ := HM.out n (by omega)
    have hb1 : Below w.heap.size w w1 := (Below.refl _ w).grown hgrow (Nat.le_refl _) (fun k h => by cases h)
    clear HM hgrow
    have hrow := rowIs_made hown
    have HO : Hid _ := hrow
    clear hown hrow
    rw [hn] at hrun
    have HN : Hid (n = c.size) := hn
    clear hn
    go_enter Tryd.func7, Tryd.ntmps7
    go_wp2_with fail
    rw [← HN.out]
    clear HN g1 g2 hrun
  all_goals
    obtain ⟨D, hD, hV, hK⟩ := exD a b c n h1 h2 h3
    have HV : Hid _ := hV
    have HK : Hid _ := hK
    clear hV hK
    have hn : n ≤ 140737488355328 := by omega
    go_loopw [9] (fun i wr => ∃ k : Nat, k ≤ n ∧ i = .int .i64 k ∧ RowIs wr w.heap.size n (part D n k) ∧ Below w.heap.size w wr) (fun i _ => n - (intOf i).toNat)
    case atStart => exact ⟨0, Nat.zero_le _, rfl, by rw [part_zero]; exact HO.out, hb1⟩
    case round =>
      obtain ⟨k, hk, rfl, hr, hbw⟩ := hrel
      by_cases hlt : k < n
      · have hcell := (hr.2 k hlt).1
        have hfro := (hr.2 k hlt).2
        have hx := HK.out k hlt
        have ka : (k : Int) < (a.size : Int) := by omega
        have kb : (k : Int) < (b.size : Int) := by omega
        have kc : (k : Int) < (c.size : Int) := by omega
        have HR : Hid _ := hr
        have HX : Hid _ := hx
        clear hr hx
        go_wp2
        go_region
        go_wp2
        rw [u8_xor3]
        have hset := rowIs_drew (rowIs_set HR.out k hlt (a[k] ^^^ b[k] ^^^ c[k]))
        rw [part_set D n k _ hD hlt HX.out] at hset
        exact ⟨⟨k + 1, by omega, by go_num, hset, (hbw.setCell (Nat.le_refl _) _).drew⟩, by simp [intOf]; omega⟩
      · have hkn : k = n := by omega
        subst hkn
        rw [part_full D k hD] at hr
        have hTr := tab_below hT hbw
        have hconv := row_string (c := k) hr (Tryd.underlying29) (Tryd.underlying5) (Tryd.underlying9)
        have HR : Hid _ := hr
        clear hr HO HK
        have hsz : ∀ s : ByteArray, s.size ≤ 140737488355328 → s.size ≤ maxLen := fun s h => by unfold maxLen; omega
        have hsD : (ByteArray.mk D.toArray).size ≤ maxLen := hsz _ (by simp [ByteArray.size]; omega)
        have HZ : Hid _ := hsz
        clear hsz
        go_wp2_with fail
        go_quiet (first | (go_at_call 11; exact Calls.quiet_of_same (live_any _ (tab_drewN hTr _))) | (go_at_call 9; go_must (refine Calls.quiet_of_same (sum_any _ ?_ _ (tab_drewN hTr _)); first | exact hsD | (refine HZ.out _ ?_; simp; omega))))
        rw [xor3_u32 _ _ _ (ext_lt0 _) (ext_lt0 _) (ext_lt0 _), ← HV.out]
        go_wp2
        go_ret
        exact ⟨by simp, below_drewN hbw nq⟩
end Go.Proofs.YtjpfbbpgmcjnfaaDoor
