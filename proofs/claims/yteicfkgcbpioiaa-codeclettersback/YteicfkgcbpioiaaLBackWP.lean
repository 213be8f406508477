/- The walk of CodecLettersBack. -/
import Derived.Test.YteicfkgcbpioiaaLtCutVP
import Derived.Test.YteicfkgcbpioiaaZzE
import Derived.Test.YteicfkgcbpioiaaLiveG
set_option linter.unusedVariables false
set_option linter.unusedSimpArgs false
set_option maxRecDepth 100000
namespace Go.Proofs.Yteicfkgcbpioiaa.Pl
open Go.RowKit Go.Proofs.Yteicfkgcbpioiaa

theorem cut_data (S : ByteArray) : (S.extract 0 (S.size - 1)).data.toList = S.data.toList.take (S.size - 1) := by
  simp [ByteArray.data_extract, Array.toList_extract, List.extract]
  rw [List.dropLast_eq_take, Array.length_toList]
  rfl
theorem sameLetter_true (k p i s o : Int) (ao bo : Option Addr) (n c d : Nat) (xs : List (List UInt8)) (hn : xs.length = n) (hx : xs.length ≤ 140737488355328) (w : World) (h1 : SRow w (.slice ao n c) xs) (h2 : SRow w (.slice bo n d) xs) :
    Calls Try.prog 11 #[.agg #[.int .i64 k, .int .i64 p, .int .i64 i, .int .i64 s, .int .i64 o, .slice ao n c], .agg #[.int .i64 k, .int .i64 p, .int .i64 i, .int .i64 s, .int .i64 o, .slice bo n d]] w fun e w' => e = .returned (.bool true) ∧ Below w.heap.size w w' := by
  have CC : Hid (∀ wq, Below w.heap.size w wq → Calls Try.prog 22 #[.slice ao n c, .slice bo n d] wq fun e w' => e = .returned (.bool true) ∧ ∃ q, w' = wq.drewN q) := fun wq hb => same_true xs hx _ _ wq (srow_below h1 hb) (srow_below h2 hb)
  clear h1 h2
  go_enter Try.func11, Try.ntmps11
  go_wp2_with fail
  refine (CC.out _ (by go_grown)).mono ?_
  rintro e w2 ⟨rfl, q, hw2⟩
  have HB : Hid (Below w.heap.size w w2) := by
    rw [hw2]
    exact below_drewN (by go_grown) q
  clear hw2 CC
  go_wp2_with fail
  go_ret
  exact ⟨rfl, HB.out⟩
set_option maxHeartbeats 4000000 in
theorem lback_n (k p i s o : Int) (a0 : Option Addr) (n0 c0 : Nat) (X : ByteArray) (w : World)
    (CE : Hid (∀ (R : List Res) (wq : World), Hid (Has w.heap.size w R wq) → Calls Try.prog 9 #[.agg #[.int .i64 k, .int .i64 p, .int .i64 i, .int .i64 s, .int .i64 o, .slice a0 n0 c0]] wq fun e w' => e = .returned (.tuple #[.string ⟨#[]⟩, .int .i64 1]) ∧ Hid (Has w.heap.size w R w'))) :
    Calls Try.prog 4 #[.agg #[.int .i64 k, .int .i64 p, .int .i64 i, .int .i64 s, .int .i64 o, .slice a0 n0 c0], .string X] w fun e w' => e = .returned (.bool true) ∧ Below w.heap.size w w' := by
  have HA : Hid (Has w.heap.size w [BlockR w.heap.size (vL k p i s o (.slice a0 n0 c0))] (w.alloc (.cells #[.int .i64 k, .int .i64 p, .int .i64 i, .int .i64 s, .int .i64 o, .slice a0 n0 c0] 31))) := (Has.start w).box (vL k p i s o (.slice a0 n0 c0)) 31
  go_enter Try.func4, Try.ntmps4
  go_wp2_with fail
  refine (CE.out _ _ HA).mono ?_
  rintro e w12 ⟨rfl, H12⟩
  clear CE HA
  go_wp2_with fail
  refine (live_any _).mono ?_
  rintro e w13 ⟨rfl, hb⟩
  have HZ : Hid (Below w.heap.size w w13) := H12.out.bel.trans (hb.mono H12.out.size)
  clear H12 hb
  go_wp2_with fail
  go_ret
  exact ⟨rfl, HZ.out⟩
set_option maxHeartbeats 4000000 in
theorem lback_y0 (k p i s o : Int) (a0 : Option Addr) (n0 c0 : Nat) (X : ByteArray) (w : World) (S1 : ByteArray) (hS1 : S1.size ≤ 20000) (hS0 : S1.size ≠ 0) (xs : List (List UInt8)) (hn0 : xs.length = n0)
    (CE : Hid (∀ (R : List Res) (wq : World), Hid (Has w.heap.size w R wq) → Calls Try.prog 9 #[.agg #[.int .i64 k, .int .i64 p, .int .i64 i, .int .i64 s, .int .i64 o, .slice a0 n0 c0]] wq fun e w' => e = .returned (.tuple #[.string S1, .int .i64 0]) ∧ Hid (Has w.heap.size w R w')))
    (CR : Hid (∀ (R : List Res) (wq : World), Hid (Has w.heap.size w R wq) → Calls Try.prog 10 #[.string S1] wq fun e w' => ∃ ao cap, e = .returned (.tuple #[.agg #[.int .i64 k, .int .i64 p, .int .i64 i, .int .i64 s, .int .i64 o, .slice ao n0 cap], .int .i64 0]) ∧ Hid (Has w.heap.size w (TR (.slice ao n0 cap) xs :: R) w')))
    (CS : Hid (∀ (ao : Option Addr) (cap : Nat) (R : List Res) (wq : World), Hid (Has w.heap.size w R wq) → TR (.slice ao n0 cap) xs ∈ R → Calls Try.prog 11 #[.agg #[.int .i64 k, .int .i64 p, .int .i64 i, .int .i64 s, .int .i64 o, .slice a0 n0 c0], .agg #[.int .i64 k, .int .i64 p, .int .i64 i, .int .i64 s, .int .i64 o, .slice ao n0 cap]] wq fun e w' => e = .returned (.bool true) ∧ Hid (Has w.heap.size w R w')))
    (CW : Hid (∀ (R : List Res) (wq : World), Hid (Has w.heap.size w R wq) → Calls Try.prog 12 #[.string S1] wq fun e w' => e = .returned (.int .i64 1) ∧ Hid (Has w.heap.size w R w'))) (hM : X.size = 0)
    (CC : Hid (∀ (T : ByteArray) (hT : T.data.toList = S1.data.toList.take (S1.size - 1)) (R : List Res) (wq : World), Hid (Has w.heap.size w R wq) → Calls Try.prog 10 #[.string T] wq fun e w' => e = .returned (.tuple #[.agg #[.int .i64 0, .int .i64 0, .int .i64 0, .int .i64 0, .int .i64 0, .slice none 0 0], .int .i64 70]) ∧ Hid (Has w.heap.size w R w'))) :
    Calls Try.prog 4 #[.agg #[.int .i64 k, .int .i64 p, .int .i64 i, .int .i64 s, .int .i64 o, .slice a0 n0 c0], .string X] w fun e w' => e = .returned (.bool true) ∧ Below w.heap.size w w' := by
  have hem := emp_no S1 hS0
  have hz1 : (1 : Int) ≤ (S1.size : Int) := by omega
  have hmo := emp_yes X hM
  have HA : Hid (Has w.heap.size w [BlockR w.heap.size (vL k p i s o (.slice a0 n0 c0))] (w.alloc (.cells #[.int .i64 k, .int .i64 p, .int .i64 i, .int .i64 s, .int .i64 o, .slice a0 n0 c0] 31))) := (Has.start w).box (vL k p i s o (.slice a0 n0 c0)) 31
  go_enter Try.func4, Try.ntmps4
  go_wp2_with fail
  refine (CE.out _ _ HA).mono ?_
  rintro e w2 ⟨rfl, H2⟩
  clear CE HA
  go_wp2_with fail
  refine (CR.out _ _ H2).mono ?_
  rintro e w3 ⟨ao, cap, rfl, H3⟩
  clear CR H2
  have H4 : Hid (Has w.heap.size w (BlockR w3.heap.size (vL k p i s o (.slice ao n0 cap)) :: TR (.slice ao n0 cap) xs :: [BlockR w.heap.size (vL k p i s o (.slice a0 n0 c0))]) (w3.alloc (.cells #[.int .i64 k, .int .i64 p, .int .i64 i, .int .i64 s, .int .i64 o, .slice ao n0 cap] 31))) := H3.out.box (vL k p i s o (.slice ao n0 cap)) 31
  obtain ⟨x0, xf0⟩ := H4.out.bcell (q := w.heap.size) (vs := (vL k p i s o (.slice a0 n0 c0))) (by simp) 0 _ rfl
  obtain ⟨x1, xf1⟩ := H4.out.bcell (q := w.heap.size) (vs := (vL k p i s o (.slice a0 n0 c0))) (by simp) 1 _ rfl
  obtain ⟨x2, xf2⟩ := H4.out.bcell (q := w.heap.size) (vs := (vL k p i s o (.slice a0 n0 c0))) (by simp) 2 _ rfl
  obtain ⟨x3, xf3⟩ := H4.out.bcell (q := w.heap.size) (vs := (vL k p i s o (.slice a0 n0 c0))) (by simp) 3 _ rfl
  obtain ⟨x4, xf4⟩ := H4.out.bcell (q := w.heap.size) (vs := (vL k p i s o (.slice a0 n0 c0))) (by simp) 4 _ rfl
  obtain ⟨x5, xf5⟩ := H4.out.bcell (q := w.heap.size) (vs := (vL k p i s o (.slice a0 n0 c0))) (by simp) 5 _ rfl
  clear H3
  go_wp2_with fail
  refine (CS.out ao cap _ _ H4 (by simp)).mono ?_
  rintro e w5 ⟨rfl, H5⟩
  clear CS H4 x0 xf0 x1 xf1 x2 xf2 x3 xf3 x4 xf4 x5 xf5
  go_wp2_with fail
  refine (CW.out _ _ H5).mono ?_
  rintro e w6 ⟨rfl, H6⟩
  clear CW H5
  go_wp2_with fail
  have H7 := H6
  clear H6
  refine (CC.out _ (by first | exact cut_data S1 | (simp [ByteArray.data_extract, Array.toList_extract, List.extract])) _ _ H7).mono ?_
  rintro e w12 ⟨rfl, H12⟩
  clear CC H7
  go_wp2_with fail
  refine (live_any _).mono ?_
  rintro e w13 ⟨rfl, hb⟩
  have HZ : Hid (Below w.heap.size w w13) := H12.out.bel.trans (hb.mono H12.out.size)
  clear H12 hb
  go_wp2_with fail
  go_ret
  exact ⟨rfl, HZ.out⟩
set_option maxHeartbeats 4000000 in
theorem lback_ym (k p i s o : Int) (a0 : Option Addr) (n0 c0 : Nat) (X : ByteArray) (w : World) (S1 : ByteArray) (hS1 : S1.size ≤ 20000) (hS0 : S1.size ≠ 0) (xs : List (List UInt8)) (hn0 : xs.length = n0)
    (CE : Hid (∀ (R : List Res) (wq : World), Hid (Has w.heap.size w R wq) → Calls Try.prog 9 #[.agg #[.int .i64 k, .int .i64 p, .int .i64 i, .int .i64 s, .int .i64 o, .slice a0 n0 c0]] wq fun e w' => e = .returned (.tuple #[.string S1, .int .i64 0]) ∧ Hid (Has w.heap.size w R w')))
    (CR : Hid (∀ (R : List Res) (wq : World), Hid (Has w.heap.size w R wq) → Calls Try.prog 10 #[.string S1] wq fun e w' => ∃ ao cap, e = .returned (.tuple #[.agg #[.int .i64 k, .int .i64 p, .int .i64 i, .int .i64 s, .int .i64 o, .slice ao n0 cap], .int .i64 0]) ∧ Hid (Has w.heap.size w (TR (.slice ao n0 cap) xs :: R) w')))
    (CS : Hid (∀ (ao : Option Addr) (cap : Nat) (R : List Res) (wq : World), Hid (Has w.heap.size w R wq) → TR (.slice ao n0 cap) xs ∈ R → Calls Try.prog 11 #[.agg #[.int .i64 k, .int .i64 p, .int .i64 i, .int .i64 s, .int .i64 o, .slice a0 n0 c0], .agg #[.int .i64 k, .int .i64 p, .int .i64 i, .int .i64 s, .int .i64 o, .slice ao n0 cap]] wq fun e w' => e = .returned (.bool true) ∧ Hid (Has w.heap.size w R w')))
    (CW : Hid (∀ (R : List Res) (wq : World), Hid (Has w.heap.size w R wq) → Calls Try.prog 12 #[.string S1] wq fun e w' => e = .returned (.int .i64 1) ∧ Hid (Has w.heap.size w R w'))) (hM : X.size ≠ 0) (hMz : X.size ≤ 140737488351232)
    (CM : Hid (∀ (R : List Res) (wq : World), Hid (Has w.heap.size w R wq) → Calls Try.prog 10 #[.string (S1 ++ X)] wq fun e w' => e = .returned (.tuple #[.agg #[.int .i64 0, .int .i64 0, .int .i64 0, .int .i64 0, .int .i64 0, .slice none 0 0], .int .i64 70]) ∧ Hid (Has w.heap.size w R w')))
    (CC : Hid (∀ (T : ByteArray) (hT : T.data.toList = S1.data.toList.take (S1.size - 1)) (R : List Res) (wq : World), Hid (Has w.heap.size w R wq) → Calls Try.prog 10 #[.string T] wq fun e w' => e = .returned (.tuple #[.agg #[.int .i64 0, .int .i64 0, .int .i64 0, .int .i64 0, .int .i64 0, .slice none 0 0], .int .i64 70]) ∧ Hid (Has w.heap.size w R w'))) :
    Calls Try.prog 4 #[.agg #[.int .i64 k, .int .i64 p, .int .i64 i, .int .i64 s, .int .i64 o, .slice a0 n0 c0], .string X] w fun e w' => e = .returned (.bool true) ∧ Below w.heap.size w w' := by
  have hem := emp_no S1 hS0
  have hz1 : (1 : Int) ≤ (S1.size : Int) := by omega
  have hmo := emp_no X hM
  have r1 : ¬ 9223372036854775807 < S1.size + X.size := by omega
  have HA : Hid (Has w.heap.size w [BlockR w.heap.size (vL k p i s o (.slice a0 n0 c0))] (w.alloc (.cells #[.int .i64 k, .int .i64 p, .int .i64 i, .int .i64 s, .int .i64 o, .slice a0 n0 c0] 31))) := (Has.start w).box (vL k p i s o (.slice a0 n0 c0)) 31
  go_enter Try.func4, Try.ntmps4
  go_wp2_with fail
  refine (CE.out _ _ HA).mono ?_
  rintro e w2 ⟨rfl, H2⟩
  clear CE HA
  go_wp2_with fail
  refine (CR.out _ _ H2).mono ?_
  rintro e w3 ⟨ao, cap, rfl, H3⟩
  clear CR H2
  have H4 : Hid (Has w.heap.size w (BlockR w3.heap.size (vL k p i s o (.slice ao n0 cap)) :: TR (.slice ao n0 cap) xs :: [BlockR w.heap.size (vL k p i s o (.slice a0 n0 c0))]) (w3.alloc (.cells #[.int .i64 k, .int .i64 p, .int .i64 i, .int .i64 s, .int .i64 o, .slice ao n0 cap] 31))) := H3.out.box (vL k p i s o (.slice ao n0 cap)) 31
  obtain ⟨x0, xf0⟩ := H4.out.bcell (q := w.heap.size) (vs := (vL k p i s o (.slice a0 n0 c0))) (by simp) 0 _ rfl
  obtain ⟨x1, xf1⟩ := H4.out.bcell (q := w.heap.size) (vs := (vL k p i s o (.slice a0 n0 c0))) (by simp) 1 _ rfl
  obtain ⟨x2, xf2⟩ := H4.out.bcell (q := w.heap.size) (vs := (vL k p i s o (.slice a0 n0 c0))) (by simp) 2 _ rfl
  obtain ⟨x3, xf3⟩ := H4.out.bcell (q := w.heap.size) (vs := (vL k p i s o (.slice a0 n0 c0))) (by simp) 3 _ rfl
  obtain ⟨x4, xf4⟩ := H4.out.bcell (q := w.heap.size) (vs := (vL k p i s o (.slice a0 n0 c0))) (by simp) 4 _ rfl
  obtain ⟨x5, xf5⟩ := H4.out.bcell (q := w.heap.size) (vs := (vL k p i s o (.slice a0 n0 c0))) (by simp) 5 _ rfl
  clear H3
  go_wp2_with fail
  refine (CS.out ao cap _ _ H4 (by simp)).mono ?_
  rintro e w5 ⟨rfl, H5⟩
  clear CS H4 x0 xf0 x1 xf1 x2 xf2 x3 xf3 x4 xf4 x5 xf5
  go_wp2_with fail
  refine (CW.out _ _ H5).mono ?_
  rintro e w6 ⟨rfl, H6⟩
  clear CW H5
  go_wp2_with fail
  refine (CM.out _ _ H6).mono ?_
  rintro e w7 ⟨rfl, H7⟩
  clear CM H6
  go_wp2_with fail
  refine (CC.out _ (by first | exact cut_data S1 | (simp [ByteArray.data_extract, Array.toList_extract, List.extract])) _ _ H7).mono ?_
  rintro e w12 ⟨rfl, H12⟩
  clear CC H7
  go_wp2_with fail
  refine (live_any _).mono ?_
  rintro e w13 ⟨rfl, hb⟩
  have HZ : Hid (Below w.heap.size w w13) := H12.out.bel.trans (hb.mono H12.out.size)
  clear H12 hb
  go_wp2_with fail
  go_ret
  exact ⟨rfl, HZ.out⟩
end Go.Proofs.Yteicfkgcbpioiaa.Pl
