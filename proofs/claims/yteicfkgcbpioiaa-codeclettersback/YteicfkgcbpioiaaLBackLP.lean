/- CodecLettersBack of any letter, at tables of any content; a letter that came in, read as data. -/
import Derived.Test.YteicfkgcbpioiaaLBackWP
import Derived.Test.YteicfkgcbpioiaaZzE
set_option linter.unusedVariables false
set_option linter.unusedSimpArgs false
set_option maxRecDepth 100000
namespace Go.Proofs.Yteicfkgcbpioiaa.Pl
open Go.RowKit Go.Proofs.Yteicfkgcbpioiaa

theorem ltL_len {k p i s o : Nat} {xs : List (List UInt8)} (hk : k ≤ 9) (hp : p ≤ 3) (hi : i ≤ 60) (hs : s ≤ 7) (ho : o ≤ 3) (h : xs.length ≤ 2) (h2 : ∀ x ∈ xs, x.length ≤ 32) : (ltL k p i s o xs).length ≤ 1000 := by
  have h1 := lst_small h h2
  have n1 := nums_len [1, p, i, s, o] (small5 (by omega) (by omega) (by omega) (by omega) (by omega))
  have n2 := nums_len [3, p, i] (small3 (by omega) (by omega) (by omega))
  have n3 := nums_len [9, p, i] (small3 (by omega) (by omega) (by omega))
  have n4 := nums_len [k, p, i, s] (small4 (by omega) (by omega) (by omega) (by omega))
  simp only [List.length_cons, List.length_nil] at n1 n2 n3 n4
  unfold ltL
  rw [List.length_cons]
  split
  · rw [List.length_append]; omega
  · split
    · omega
    · split <;> omega
theorem codecLettersBack_walk (t : Tb) (k p i s o : Int) (v0 : Value) (xs : List (List UInt8)) (hx : xs.length ≤ 140737488355328) (hxs : ∀ s ∈ xs, s.length ≤ 140737488351232) (X : ByteArray) (hX : X.size ≤ 140737488351232) (w : World)
    (hT : TabX t w) (hlow : 1 < w.heap.size ∧ 2 < w.heap.size) (hS : SRow w v0 xs) :
    Calls Try.prog 4 #[.agg #[.int .i64 k, .int .i64 p, .int .i64 i, .int .i64 s, .int .i64 o, v0], .string X] w fun e w' => e = .returned (.bool true) ∧ Below w.heap.size w w' := by
  obtain ⟨a0, c0, rfl, _⟩ := id hS
  have low : ∀ wq : World, w.heap.size ≤ wq.heap.size → Hid (1 < wq.heap.size ∧ 2 < wq.heap.size) := fun wq h => ⟨Nat.lt_of_lt_of_le hlow.1 h, Nat.lt_of_lt_of_le hlow.2 h⟩
  have tab : ∀ wq : World, Below w.heap.size w wq → Hid (TabX t wq) := fun wq h => hT.below h hlow
  cases hm : ltMay t k p i s o xs with
  | true =>
    obtain ⟨f1, f2, f2b, f3, f3b, f4, f5, f6, f7⟩ := ltMay_facts hm
    obtain ⟨k, rfl⟩ := Int.eq_ofNat_of_zero_le (show 0 ≤ k by omega)
    obtain ⟨p, rfl⟩ := Int.eq_ofNat_of_zero_le (show 0 ≤ p by omega)
    obtain ⟨i, rfl⟩ := Int.eq_ofNat_of_zero_le (show 0 ≤ i by omega)
    obtain ⟨s, rfl⟩ := Int.eq_ofNat_of_zero_le (show 0 ≤ s by omega)
    obtain ⟨o, rfl⟩ := Int.eq_ofNat_of_zero_le (show 0 ≤ o by omega)
    have hL := ltL_len (k := k) (p := p) (i := i) (s := s) (o := o) (by omega) (by omega) (by omega) (by omega) (by omega) f4 f5
    have CE : ∀ (R : List Res) (wq : World), Hid (Has w.heap.size w R wq) → Calls Try.prog 9 #[.agg #[.int .i64 (k : Int), .int .i64 (p : Int), .int .i64 (i : Int), .int .i64 (s : Int), .int .i64 (o : Int), .slice a0 xs.length c0]] wq fun e w' => e = .returned (.tuple #[.string ⟨(ltL k p i s o xs).toArray⟩, .int .i64 0]) ∧ Hid (Has w.heap.size w R w') := fun R wq hq =>
      (letter_yes t k p i s o _ xs wq (tab wq hq.out.bel) (low wq hq.out.size) (srow_below hS hq.out.bel) hm).mono fun e w' ⟨he, hb⟩ => ⟨he, hq.out.below hb⟩
    have z1 : (⟨(ltL k p i s o xs).toArray⟩ : ByteArray).size ≤ 20000 := by rw [size_mk]; omega
    have z2 : (⟨(ltL k p i s o xs).toArray⟩ : ByteArray).size ≤ 4611686018427387904 := by rw [size_mk]; omega
    have z0 : (⟨(ltL k p i s o xs).toArray⟩ : ByteArray).size ≠ 0 := by rw [size_mk]; unfold ltL; simp
    have CC : ∀ (T : ByteArray) (hT : T.data.toList = (⟨(ltL k p i s o xs).toArray⟩ : ByteArray).data.toList.take ((⟨(ltL k p i s o xs).toArray⟩ : ByteArray).size - 1)) (R : List Res) (wq : World), Hid (Has w.heap.size w R wq) → Calls Try.prog 10 #[.string T] wq fun e w' => e = .returned (.tuple #[.agg #[.int .i64 0, .int .i64 0, .int .i64 0, .int .i64 0, .int .i64 0, .slice none 0 0], .int .i64 70]) ∧ Hid (Has w.heap.size w R w') := fun T hT R wq hq => by
      rw [size_mk] at hT
      have hT' : T.data.toList = (ltL k p i s o xs).take ((ltL k p i s o xs).length - 1) := hT
      have hTz : T.size ≤ 4611686018427387904 := by
        have h0 := congrArg List.length hT'
        rw [Array.length_toList, List.length_take] at h0
        have : T.size = T.data.size := rfl
        omega
      exact readLetter_none (fun rs wr h => readL_cut t hTz hm hT' h.out) hq.out
    by_cases hM : X.size = 0
    · exact lback_y0 (k : Int) (p : Int) (i : Int) (s : Int) (o : Int) a0 xs.length c0 X w _ z1 z0 xs rfl CE
        (fun R wq hq => readLetter_ok t z2 (tab w (Below.refl _ _)) (low w (Nat.le_refl _)) hm rfl hq.out)
        (fun ao cap R wq hq hmem => (sameLetter_true _ _ _ _ _ _ _ _ _ _ xs rfl hx wq (srow_below hS hq.out.bel) (hq.out.srowT hmem)).mono fun e w' ⟨he, hb⟩ => ⟨he, hq.out.below hb⟩)
        (fun R wq hq => whatL_ok t z2 (tab w (Below.refl _ _)) (low w (Nat.le_refl _)) hm rfl hq.out)
        hM CC
    · exact lback_ym (k : Int) (p : Int) (i : Int) (s : Int) (o : Int) a0 xs.length c0 X w _ z1 z0 xs rfl CE
        (fun R wq hq => readLetter_ok t z2 (tab w (Below.refl _ _)) (low w (Nat.le_refl _)) hm rfl hq.out)
        (fun ao cap R wq hq hmem => (sameLetter_true _ _ _ _ _ _ _ _ _ _ xs rfl hx wq (srow_below hS hq.out.bel) (hq.out.srowT hmem)).mono fun e w' ⟨he, hb⟩ => ⟨he, hq.out.below hb⟩)
        (fun R wq hq => whatL_ok t z2 (tab w (Below.refl _ _)) (low w (Nat.le_refl _)) hm rfl hq.out)
        hM hX
        (fun R wq hq => readLetter_none (fun rs wr h => readL_more t (r := X.data.toList) (by rw [ByteArray.size_append, size_mk]; omega) (tab w (Below.refl _ _)) (low w (Nat.le_refl _)) hm (fun h => hM (by have := congrArg List.length h; rw [Array.length_toList] at this; exact this)) (by simp [ByteArray.data_append]) h.out) hq.out)
        CC
  | false =>
    exact lback_n k p i s o a0 xs.length c0 X w (fun R wq hq =>
      (letter_no t k p i s o _ xs hx hxs wq (tab wq hq.out.bel) (low wq hq.out.size) (srow_below hS hq.out.bel) hm).mono fun e w' ⟨he, hb⟩ => ⟨he, hq.out.below hb⟩)
end Go.Proofs.Yteicfkgcbpioiaa.Pl
namespace Go.Proofs.Yteicfkgcbpioiaa
open Go.ChangeShapes Go.WideShapes Go.ChangeAt Go.RowKit
section
variable {H : Type} {enc : TypeId × Value → H} {w : World} {n : Nat}
theorem open_letter {cs : List Value} {x : DataW H × List MemPlace} (h : DataW.trod enc Try.prog w 0 (fun _ => true) true n 31 cs = some x) :
    ∃ (k p i s o : Int) (kv : Value) (xs : List (List UInt8)) (kd : DataW H), cs = [.int .i64 k, .int .i64 p, .int .i64 i, .int .i64 s, .int .i64 o, kv] ∧ SRow w kv xs ∧ KDat kd xs ∧ x.1 = .agg [.lit (.int .i64 k), .lit (.int .i64 p), .lit (.int .i64 i), .lit (.int .i64 s), .lit (.int .i64 o), kd] := by
  obtain ⟨xs, m, rfl, hx, hl, hxl, hf⟩ := DataW.trod_struct Try.underlying31 h
  have hl4 : cs.length = 6 := by rw [hl]; kernel_rfl
  have hx4 : xs.length = 6 := by rw [hxl]; rfl
  have ci : Try.prog.cellsOf 3 = 1 := by kernel_rfl
  have ck : Try.prog.cellsOf 29 = 1 := by kernel_rfl
  obtain ⟨c0, c1, c2, c3, c4, c5, rfl⟩ : ∃ c0 c1 c2 c3 c4 c5, cs = [c0, c1, c2, c3, c4, c5] := by
    match cs, hl4 with
    | [c0, c1, c2, c3, c4, c5], _ => exact ⟨c0, c1, c2, c3, c4, c5, rfl⟩
  obtain ⟨x0, x1, x2, x3, x4, x5, rfl⟩ : ∃ x0 x1 x2 x3 x4 x5, xs = [x0, x1, x2, x3, x4, x5] := by
    match xs, hx4 with
    | [x0, x1, x2, x3, x4, x5], _ => exact ⟨x0, x1, x2, x3, x4, x5, rfl⟩
  have f0 : DataW.trod enc Try.prog w 0 (fun _ => true) true m 3 (([c0, c1, c2, c3, c4, c5].drop 0).take (Try.prog.cellsOf 3)) = some x0 := hf 0 _ rfl
  have f1 : DataW.trod enc Try.prog w 0 (fun _ => true) true m 3 (([c0, c1, c2, c3, c4, c5].drop 1).take (Try.prog.cellsOf 3)) = some x1 := hf 1 _ rfl
  have f2 : DataW.trod enc Try.prog w 0 (fun _ => true) true m 3 (([c0, c1, c2, c3, c4, c5].drop 2).take (Try.prog.cellsOf 3)) = some x2 := hf 2 _ rfl
  have f3 : DataW.trod enc Try.prog w 0 (fun _ => true) true m 3 (([c0, c1, c2, c3, c4, c5].drop 3).take (Try.prog.cellsOf 3)) = some x3 := hf 3 _ rfl
  have f4 : DataW.trod enc Try.prog w 0 (fun _ => true) true m 3 (([c0, c1, c2, c3, c4, c5].drop 4).take (Try.prog.cellsOf 3)) = some x4 := hf 4 _ rfl
  have f5 : DataW.trod enc Try.prog w 0 (fun _ => true) true m 29 (([c0, c1, c2, c3, c4, c5].drop 5).take (Try.prog.cellsOf 29)) = some x5 := hf 5 _ rfl
  rw [ci] at f0 f1 f2 f3 f4
  rw [ck] at f5
  obtain ⟨n0, e0, rfl, b0⟩ := DataW.trod_int Try.underlying3 f0
  obtain ⟨n1, e1, rfl, b1⟩ := DataW.trod_int Try.underlying3 f1
  obtain ⟨n2, e2, rfl, b2⟩ := DataW.trod_int Try.underlying3 f2
  obtain ⟨n3, e3, rfl, b3⟩ := DataW.trod_int Try.underlying3 f3
  obtain ⟨n4, e4, rfl, b4⟩ := DataW.trod_int Try.underlying3 f4
  obtain ⟨kv, kl, e5, hk, dk⟩ := open_keys f5
  obtain rfl : c0 = .int .i64 n0 := by simpa using e0
  obtain rfl : c1 = .int .i64 n1 := by simpa using e1
  obtain rfl : c2 = .int .i64 n2 := by simpa using e2
  obtain rfl : c3 = .int .i64 n3 := by simpa using e3
  obtain rfl : c4 = .int .i64 n4 := by simpa using e4
  obtain rfl : c5 = kv := by simpa using e5
  exact ⟨n0, n1, n2, n3, n4, c5, kl, x5.1, rfl, hk, dk, by rw [hx]; rfl⟩
/-- A letter that came in. -/
theorem letter_in {ts : List TypeId} {ds : List (DataW H)} {base : Nat} {v : Value} {d : DataW H} {q : List MemPlace} (hsz : (DataW.weightsEach Try.prog ts ds).all (· ≤ reachBytes) = true) {j : Nat} (ht : ts[j]? = some 31) (hd : ds[j]? = some d)
    (hv : Value.okWide Try.prog w .any base 31 v) (h : DataW.Trod enc Try.prog w 0 (fun _ => true) true 31 v d q) : ∃ (k p i s o : Int) (kv : Value) (xs : List (List UInt8)), v = .agg #[.int .i64 k, .int .i64 p, .int .i64 i, .int .i64 s, .int .i64 o, kv] ∧ SRow w kv xs ∧ xs.length ≤ 140737488355328 ∧ ∀ s ∈ xs, s.length ≤ 140737488351232 := by
  obtain ⟨cs, rfl, _⟩ := okWide_struct Try.underlying31 hv
  obtain ⟨n, hn⟩ := h
  obtain ⟨k, p, i, s, o, kv, xs, kd, e, hS, hk, rfl⟩ := open_letter hn
  have hall : ∀ n, n ∈ (DataW.agg [.lit (.int .i64 k), .lit (.int .i64 p), .lit (.int .i64 i), .lit (.int .i64 s), .lit (.int .i64 o), kd] : DataW H).weights Try.prog 31 → n ≤ reachBytes := fun n hn => by
    have := List.all_eq_true.1 hsz _ (DataW.weights_mem_each ht hd n hn)
    simpa using this
  simp only [DataW.weights, Try.underlying31, DataW.weightsEach, List.map_cons, List.map_nil, List.mem_append] at hall
  obtain ⟨z1, z2⟩ := keys_sized hk (fun n hn => hall n (by simp [hn]))
  exact ⟨k, p, i, s, o, kv, xs, by rw [show cs = #[.int .i64 k, .int .i64 p, .int .i64 i, .int .i64 s, .int .i64 o, kv] from Array.toList_inj.1 (by simpa [Value.cells] using e)], hS, z1, z2⟩
end
end Go.Proofs.Yteicfkgcbpioiaa
