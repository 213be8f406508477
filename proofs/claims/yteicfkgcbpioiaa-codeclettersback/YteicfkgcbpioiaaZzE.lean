/- The texts BackW, BackL, TabS, ArgsB, NotesBack, one behind the other. -/
import Derived.Test.YteicfkgcbpioiaaZzD
import Derived.Test.YteicfkgcbpioiaaLiveG
import Derived.KernelRfl
import Derived.Test.YteicfkgcbpioiaaArgs
/- The walk of CodecNotesBack. -/
set_option linter.unusedVariables false
set_option linter.unusedSimpArgs false
set_option maxRecDepth 100000
namespace Go.Proofs.Yteicfkgcbpioiaa.Pl
open Go.RowKit Go.Proofs.Yteicfkgcbpioiaa

theorem neqSame (a1 a2 a3 a4 a5 a6 : Int) (a7 a8 : ByteArray) (a9 : Int) (a0 : ByteArray) (w : World) :
    (binOp .neq 23 (.agg #[.int .i64 a1, .int .i64 a2, .int .i64 a3, .int .i64 a4, .int .i64 a5, .int .i64 a6, .string a7, .string a8, .int .i64 a9, .string a0]) (.agg #[.int .i64 a1, .int .i64 a2, .int .i64 a3, .int .i64 a4, .int .i64 a5, .int .i64 a6, .string a7, .string a8, .int .i64 a9, .string a0])).run Try.prog w = .ok (.bool false) w := by
  have hS : Try.prog.underlying 23 = some (.struct (Try.prog.fieldsOf 23)) := by kernel_rfl
  have hp : Try.prog.stoodInHeld 23 = false := by kernel_rfl
  rw [run_neq_struct, show (10000 : Nat) = 9999 + 1 from rfl, run_equalIn_agg w 9999 23 _ _ hS hp]
  simp only [Program.fieldsOf, Try.underlying23]
  simp [go_sem, ba_eq]
set_option maxHeartbeats 1600000 in
theorem same_true (xs : List (List UInt8)) (hx : xs.length ≤ 140737488355328) (v v2 : Value) (w : World) (h1 : SRow w v xs) (h2 : SRow w v2 xs) :
    Calls Try.prog 22 #[v, v2] w fun e w' => e = .returned (.bool true) ∧ ∃ q, w' = w.drewN q := by
  obtain ⟨ao, cap, rfl, hca, hrow⟩ := h1
  obtain ⟨bo, cap2, rfl, hcb, hrow2⟩ := h2
  have HR : Hid (∀ j, (h : j < xs.length) → ∃ g o, ao = some ⟨g, o, none⟩ ∧ w.cell? ⟨g, o + j, none⟩ = some (strV xs[j])) := hrow
  have HR2 : Hid (∀ j, (h : j < xs.length) → ∃ g o, bo = some ⟨g, o, none⟩ ∧ w.cell? ⟨g, o + j, none⟩ = some (strV xs[j])) := hrow2
  clear hrow hrow2
  go_enter Try.func22, Try.ntmps22
  go_wp2
  go_loopw [5] (fun i wr => ∃ k q : Nat, wr = w.drewN q ∧ k ≤ xs.length ∧ i = .int .i64 k) (fun i _ => xs.length - (intOf i).toNat)
  case atStart => exact ⟨0, 0, rfl, Nat.zero_le _, rfl⟩
  case round =>
    obtain ⟨k, q, rfl, hk, rfl⟩ := hrel
    by_cases hlt : k < xs.length
    · obtain ⟨g, o, rfl, hc1⟩ := HR.out k hlt
      obtain ⟨g2, o2, rfl, hc2⟩ := HR2.out k hlt
      unfold strV at hc1 hc2
      generalize xs[k] = x at *
      generalize (ByteArray.mk x.toArray) = y at *
      clear HR HR2
      have i1 : (k : Int) < (xs.length : Int) := by omega
      go_wp2
      go_quiet (fail)
      go_wp2
      exact ⟨⟨k + 1, _, rfl, by omega, by go_num⟩, by simp [intOf]; omega⟩
    · clear HR HR2
      go_wp2
      go_ret
      exact ⟨rfl, q, rfl⟩
theorem sameEvent_true (k i s : Int) (ao bo : Option Addr) (n c d : Nat) (xs : List (List UInt8)) (hn : xs.length = n) (hx : xs.length ≤ 140737488355328) (w : World) (h1 : SRow w (.slice ao n c) xs) (h2 : SRow w (.slice bo n d) xs) :
    Calls Try.prog 15 #[.agg #[.int .i64 k, .int .i64 i, .int .i64 s, .slice ao n c], .agg #[.int .i64 k, .int .i64 i, .int .i64 s, .slice bo n d]] w fun e w' => e = .returned (.bool true) ∧ Below w.heap.size w w' := by
  have CC : Hid (∀ wq, Below w.heap.size w wq → Calls Try.prog 22 #[.slice ao n c, .slice bo n d] wq fun e w' => e = .returned (.bool true) ∧ ∃ q, w' = wq.drewN q) := fun wq hb => same_true xs hx _ _ wq (srow_below h1 hb) (srow_below h2 hb)
  clear h1 h2
  go_enter Try.func15, Try.ntmps15
  go_wp2_with fail
  refine (CC.out _ (by go_grown)).mono ?_
  rintro e w2 ⟨rfl, q, hw2⟩
  have HB : Hid (Below w.heap.size w w2) := by
    rw [hw2]
    exact below_drewN (by go_grown) q
  clear hw2 CC
  go_wp2_with fail
  go_ret
  exact ⟨rfl, HB.out⟩
set_option maxHeartbeats 4000000 in
theorem back_yy (k i s : Int) (a0 : Option Addr) (n0 c0 : Nat) (kn jn sn tn pn cn : Int) (K M : ByteArray) (vn : Int) (X : ByteArray) (w : World) (S1 : ByteArray) (hS1 : S1.size ≤ 20000) (xs : List (List UInt8)) (hn0 : xs.length = n0)
    (CE : Hid (∀ (R : List Res) (wq : World), Hid (Has w.heap.size w R wq) → Calls Try.prog 13 #[.agg #[.int .i64 k, .int .i64 i, .int .i64 s, .slice a0 n0 c0]] wq fun e w' => e = .returned (.tuple #[.string S1, .int .i64 0]) ∧ Hid (Has w.heap.size w R w')))
    (CR : Hid (∀ (R : List Res) (wq : World), Hid (Has w.heap.size w R wq) → Calls Try.prog 14 #[.string S1] wq fun e w' => ∃ ao cap, e = .returned (.tuple #[.agg #[.int .i64 k, .int .i64 i, .int .i64 s, .slice ao n0 cap], .int .i64 0]) ∧ Hid (Has w.heap.size w (TR (.slice ao n0 cap) xs :: R) w')))
    (CS : Hid (∀ (ao : Option Addr) (cap : Nat) (R : List Res) (wq : World), Hid (Has w.heap.size w R wq) → TR (.slice ao n0 cap) xs ∈ R → Calls Try.prog 15 #[.agg #[.int .i64 k, .int .i64 i, .int .i64 s, .slice a0 n0 c0], .agg #[.int .i64 k, .int .i64 i, .int .i64 s, .slice ao n0 cap]] wq fun e w' => e = .returned (.bool true) ∧ Hid (Has w.heap.size w R w')))
    (CW : Hid (∀ (R : List Res) (wq : World), Hid (Has w.heap.size w R wq) → Calls Try.prog 12 #[.string S1] wq fun e w' => e = .returned (.int .i64 2) ∧ Hid (Has w.heap.size w R w')))
    (CW0 : Hid (∀ (R : List Res) (wq : World), Hid (Has w.heap.size w R wq) → Calls Try.prog 12 #[.string (S1 ++ ⟨#[0]⟩)] wq fun e w' => e = .returned (.int .i64 0) ∧ Hid (Has w.heap.size w R w'))) (S2 : ByteArray) (hS2 : S2.size ≤ 20000)
    (CN : Hid (∀ (R : List Res) (wq : World), Hid (Has w.heap.size w R wq) → Calls Try.prog 6 #[.agg #[.int .i64 kn, .int .i64 jn, .int .i64 sn, .int .i64 tn, .int .i64 pn, .int .i64 cn, .string K, .string M, .int .i64 vn, .string X]] wq fun e w' => e = .returned (.tuple #[.string S2, .int .i64 0]) ∧ Hid (Has w.heap.size w R w')))
    (CRN : Hid (∀ (R : List Res) (wq : World), Hid (Has w.heap.size w R wq) → Calls Try.prog 16 #[.string S2] wq fun e w' => e = .returned (.tuple #[.agg #[.int .i64 kn, .int .i64 jn, .int .i64 sn, .int .i64 tn, .int .i64 pn, .int .i64 cn, .string K, .string M, .int .i64 vn, .string X], .int .i64 0]) ∧ Hid (Has w.heap.size w R w')))
    (CX : Hid (∀ (R : List Res) (wq : World), Hid (Has w.heap.size w R wq) → Calls Try.prog 12 #[.string S2] wq fun e w' => e = .returned (.int .i64 3) ∧ Hid (Has w.heap.size w R w')))
    (CX0 : Hid (∀ (R : List Res) (wq : World), Hid (Has w.heap.size w R wq) → Calls Try.prog 12 #[.string (S2 ++ ⟨#[0]⟩)] wq fun e w' => e = .returned (.int .i64 0) ∧ Hid (Has w.heap.size w R w'))) :
    Calls Try.prog 5 #[.agg #[.int .i64 k, .int .i64 i, .int .i64 s, .slice a0 n0 c0], .agg #[.int .i64 kn, .int .i64 jn, .int .i64 sn, .int .i64 tn, .int .i64 pn, .int .i64 cn, .string K, .string M, .int .i64 vn, .string X]] w fun e w' => e = .returned (.bool true) ∧ Below w.heap.size w w' := by
  have p1 : ¬ 9223372036854775807 < S1.size + (ByteArray.mk #[0]).size := by simp only [show (ByteArray.mk #[0]).size = 1 from rfl]; omega
  have r1 : ¬ 9223372036854775807 < S1.size + 1 := by omega
  have p2 : ¬ 9223372036854775807 < S2.size + (ByteArray.mk #[0]).size := by simp only [show (ByteArray.mk #[0]).size = 1 from rfl]; omega
  have r2 : ¬ 9223372036854775807 < S2.size + 1 := by omega
  have hne := neqSame kn jn sn tn pn cn K M vn X
  have HA : Hid (Has w.heap.size w [BlockR (w.heap.size + 1) (vF kn jn sn tn pn cn K M vn X), BlockR w.heap.size (vV k i s (.slice a0 n0 c0))] ((w.alloc (.cells #[.int .i64 k, .int .i64 i, .int .i64 s, .slice a0 n0 c0] 39)).alloc (.cells #[.int .i64 kn, .int .i64 jn, .int .i64 sn, .int .i64 tn, .int .i64 pn, .int .i64 cn, .string K, .string M, .int .i64 vn, .string X] 23))) := by
    have x := ((Has.start w).box (vV k i s (.slice a0 n0 c0)) 39).box (vF kn jn sn tn pn cn K M vn X) 23
    rw [World.size_alloc] at x
    exact x
  go_enter Try.func5, Try.ntmps5
  go_wp2_with fail
  refine (CE.out _ _ HA).mono ?_
  rintro e w2 ⟨rfl, H2⟩
  clear CE HA
  go_wp2_with fail
  refine (CR.out _ _ H2).mono ?_
  rintro e w3 ⟨ao, cap, rfl, H3⟩
  clear CR H2
  have H4 : Hid (Has w.heap.size w (BlockR w3.heap.size (vV k i s (.slice ao n0 cap)) :: TR (.slice ao n0 cap) xs :: [BlockR (w.heap.size + 1) (vF kn jn sn tn pn cn K M vn X), BlockR w.heap.size (vV k i s (.slice a0 n0 c0))]) (w3.alloc (.cells #[.int .i64 k, .int .i64 i, .int .i64 s, .slice ao n0 cap] 39))) := H3.out.box (vV k i s (.slice ao n0 cap)) 39
  obtain ⟨x0, xf0⟩ := H4.out.bcell (q := w.heap.size) (vs := (vV k i s (.slice a0 n0 c0))) (by simp) 0 _ rfl
  obtain ⟨x1, xf1⟩ := H4.out.bcell (q := w.heap.size) (vs := (vV k i s (.slice a0 n0 c0))) (by simp) 1 _ rfl
  obtain ⟨x2, xf2⟩ := H4.out.bcell (q := w.heap.size) (vs := (vV k i s (.slice a0 n0 c0))) (by simp) 2 _ rfl
  obtain ⟨x3, xf3⟩ := H4.out.bcell (q := w.heap.size) (vs := (vV k i s (.slice a0 n0 c0))) (by simp) 3 _ rfl
  clear H3
  go_wp2_with fail
  refine (CS.out ao cap _ _ H4 (by simp)).mono ?_
  rintro e w5 ⟨rfl, H5⟩
  clear CS H4 x0 xf0 x1 xf1 x2 xf2 x3 xf3
  go_wp2_with fail
  refine (CW.out _ _ H5).mono ?_
  rintro e w6 ⟨rfl, H6⟩
  clear CW H5
  go_wp2_with fail
  refine (CW0.out _ _ H6).mono ?_
  rintro e w7 ⟨rfl, H7⟩
  have HX : Hid (Has w.heap.size w [BlockR (w.heap.size + 1) (vF kn jn sn tn pn cn K M vn X), BlockR w.heap.size (vV k i s (.slice a0 n0 c0))] w7) := H7.out.drop.drop
  clear CW0 H6 H7 p1 r1
  obtain ⟨z0, zf0⟩ := HX.out.bcell (q := (w.heap.size + 1)) (vs := (vF kn jn sn tn pn cn K M vn X)) (by simp) 0 _ rfl
  obtain ⟨z1, zf1⟩ := HX.out.bcell (q := (w.heap.size + 1)) (vs := (vF kn jn sn tn pn cn K M vn X)) (by simp) 1 _ rfl
  obtain ⟨z2, zf2⟩ := HX.out.bcell (q := (w.heap.size + 1)) (vs := (vF kn jn sn tn pn cn K M vn X)) (by simp) 2 _ rfl
  obtain ⟨z3, zf3⟩ := HX.out.bcell (q := (w.heap.size + 1)) (vs := (vF kn jn sn tn pn cn K M vn X)) (by simp) 3 _ rfl
  obtain ⟨z4, zf4⟩ := HX.out.bcell (q := (w.heap.size + 1)) (vs := (vF kn jn sn tn pn cn K M vn X)) (by simp) 4 _ rfl
  obtain ⟨z5, zf5⟩ := HX.out.bcell (q := (w.heap.size + 1)) (vs := (vF kn jn sn tn pn cn K M vn X)) (by simp) 5 _ rfl
  obtain ⟨z6, zf6⟩ := HX.out.bcell (q := (w.heap.size + 1)) (vs := (vF kn jn sn tn pn cn K M vn X)) (by simp) 6 _ rfl
  obtain ⟨z7, zf7⟩ := HX.out.bcell (q := (w.heap.size + 1)) (vs := (vF kn jn sn tn pn cn K M vn X)) (by simp) 7 _ rfl
  obtain ⟨z8, zf8⟩ := HX.out.bcell (q := (w.heap.size + 1)) (vs := (vF kn jn sn tn pn cn K M vn X)) (by simp) 8 _ rfl
  obtain ⟨z9, zf9⟩ := HX.out.bcell (q := (w.heap.size + 1)) (vs := (vF kn jn sn tn pn cn K M vn X)) (by simp) 9 _ rfl
  go_wp2_with fail
  refine (CN.out _ _ HX).mono ?_
  rintro e w8 ⟨rfl, H8⟩
  clear CN HX z0 zf0 z1 zf1 z2 zf2 z3 zf3 z4 zf4 z5 zf5 z6 zf6 z7 zf7 z8 zf8 z9 zf9
  go_wp2_with fail
  refine (CRN.out _ _ H8).mono ?_
  rintro e w9 ⟨rfl, H9⟩
  clear CRN H8
  have H10 : Hid (Has w.heap.size w (BlockR w9.heap.size (vF kn jn sn tn pn cn K M vn X) :: [BlockR (w.heap.size + 1) (vF kn jn sn tn pn cn K M vn X), BlockR w.heap.size (vV k i s (.slice a0 n0 c0))]) (w9.alloc (.cells #[.int .i64 kn, .int .i64 jn, .int .i64 sn, .int .i64 tn, .int .i64 pn, .int .i64 cn, .string K, .string M, .int .i64 vn, .string X] 23))) := H9.out.box (vF kn jn sn tn pn cn K M vn X) 23
  obtain ⟨z0, zf0⟩ := H10.out.bcell (q := (w.heap.size + 1)) (vs := (vF kn jn sn tn pn cn K M vn X)) (by simp) 0 _ rfl
  obtain ⟨z1, zf1⟩ := H10.out.bcell (q := (w.heap.size + 1)) (vs := (vF kn jn sn tn pn cn K M vn X)) (by simp) 1 _ rfl
  obtain ⟨z2, zf2⟩ := H10.out.bcell (q := (w.heap.size + 1)) (vs := (vF kn jn sn tn pn cn K M vn X)) (by simp) 2 _ rfl
  obtain ⟨z3, zf3⟩ := H10.out.bcell (q := (w.heap.size + 1)) (vs := (vF kn jn sn tn pn cn K M vn X)) (by simp) 3 _ rfl
  obtain ⟨z4, zf4⟩ := H10.out.bcell (q := (w.heap.size + 1)) (vs := (vF kn jn sn tn pn cn K M vn X)) (by simp) 4 _ rfl
  obtain ⟨z5, zf5⟩ := H10.out.bcell (q := (w.heap.size + 1)) (vs := (vF kn jn sn tn pn cn K M vn X)) (by simp) 5 _ rfl
  obtain ⟨z6, zf6⟩ := H10.out.bcell (q := (w.heap.size + 1)) (vs := (vF kn jn sn tn pn cn K M vn X)) (by simp) 6 _ rfl
  obtain ⟨z7, zf7⟩ := H10.out.bcell (q := (w.heap.size + 1)) (vs := (vF kn jn sn tn pn cn K M vn X)) (by simp) 7 _ rfl
  obtain ⟨z8, zf8⟩ := H10.out.bcell (q := (w.heap.size + 1)) (vs := (vF kn jn sn tn pn cn K M vn X)) (by simp) 8 _ rfl
  obtain ⟨z9, zf9⟩ := H10.out.bcell (q := (w.heap.size + 1)) (vs := (vF kn jn sn tn pn cn K M vn X)) (by simp) 9 _ rfl
  clear H9
  go_wp2_with fail
  refine (CX.out _ _ H10).mono ?_
  rintro e w11 ⟨rfl, H11⟩
  clear CX H10 z0 zf0 z1 zf1 z2 zf2 z3 zf3 z4 zf4 z5 zf5 z6 zf6 z7 zf7 z8 zf8 z9 zf9
  go_wp2_with fail
  refine (CX0.out _ _ H11).mono ?_
  rintro e w12 ⟨rfl, H12⟩
  clear CX0 H11
  go_wp2_with fail
  refine (live_any _).mono ?_
  rintro e w13 ⟨rfl, hb⟩
  have HZ : Hid (Below w.heap.size w w13) := H12.out.bel.trans (hb.mono H12.out.size)
  clear H12 hb
  go_wp2_with fail
  go_ret
  exact ⟨rfl, HZ.out⟩
set_option maxHeartbeats 4000000 in
theorem back_yn (k i s : Int) (a0 : Option Addr) (n0 c0 : Nat) (kn jn sn tn pn cn : Int) (K M : ByteArray) (vn : Int) (X : ByteArray) (w : World) (S1 : ByteArray) (hS1 : S1.size ≤ 20000) (xs : List (List UInt8)) (hn0 : xs.length = n0)
    (CE : Hid (∀ (R : List Res) (wq : World), Hid (Has w.heap.size w R wq) → Calls Try.prog 13 #[.agg #[.int .i64 k, .int .i64 i, .int .i64 s, .slice a0 n0 c0]] wq fun e w' => e = .returned (.tuple #[.string S1, .int .i64 0]) ∧ Hid (Has w.heap.size w R w')))
    (CR : Hid (∀ (R : List Res) (wq : World), Hid (Has w.heap.size w R wq) → Calls Try.prog 14 #[.string S1] wq fun e w' => ∃ ao cap, e = .returned (.tuple #[.agg #[.int .i64 k, .int .i64 i, .int .i64 s, .slice ao n0 cap], .int .i64 0]) ∧ Hid (Has w.heap.size w (TR (.slice ao n0 cap) xs :: R) w')))
    (CS : Hid (∀ (ao : Option Addr) (cap : Nat) (R : List Res) (wq : World), Hid (Has w.heap.size w R wq) → TR (.slice ao n0 cap) xs ∈ R → Calls Try.prog 15 #[.agg #[.int .i64 k, .int .i64 i, .int .i64 s, .slice a0 n0 c0], .agg #[.int .i64 k, .int .i64 i, .int .i64 s, .slice ao n0 cap]] wq fun e w' => e = .returned (.bool true) ∧ Hid (Has w.heap.size w R w')))
    (CW : Hid (∀ (R : List Res) (wq : World), Hid (Has w.heap.size w R wq) → Calls Try.prog 12 #[.string S1] wq fun e w' => e = .returned (.int .i64 2) ∧ Hid (Has w.heap.size w R w')))
    (CW0 : Hid (∀ (R : List Res) (wq : World), Hid (Has w.heap.size w R wq) → Calls Try.prog 12 #[.string (S1 ++ ⟨#[0]⟩)] wq fun e w' => e = .returned (.int .i64 0) ∧ Hid (Has w.heap.size w R w')))
    (CN : Hid (∀ (R : List Res) (wq : World), Hid (Has w.heap.size w R wq) → Calls Try.prog 6 #[.agg #[.int .i64 kn, .int .i64 jn, .int .i64 sn, .int .i64 tn, .int .i64 pn, .int .i64 cn, .string K, .string M, .int .i64 vn, .string X]] wq fun e w' => e = .returned (.tuple #[.string ⟨#[]⟩, .int .i64 1]) ∧ Hid (Has w.heap.size w R w'))) :
    Calls Try.prog 5 #[.agg #[.int .i64 k, .int .i64 i, .int .i64 s, .slice a0 n0 c0], .agg #[.int .i64 kn, .int .i64 jn, .int .i64 sn, .int .i64 tn, .int .i64 pn, .int .i64 cn, .string K, .string M, .int .i64 vn, .string X]] w fun e w' => e = .returned (.bool true) ∧ Below w.heap.size w w' := by
  have p1 : ¬ 9223372036854775807 < S1.size + (ByteArray.mk #[0]).size := by simp only [show (ByteArray.mk #[0]).size = 1 from rfl]; omega
  have r1 : ¬ 9223372036854775807 < S1.size + 1 := by omega
  have HA : Hid (Has w.heap.size w [BlockR (w.heap.size + 1) (vF kn jn sn tn pn cn K M vn X), BlockR w.heap.size (vV k i s (.slice a0 n0 c0))] ((w.alloc (.cells #[.int .i64 k, .int .i64 i, .int .i64 s, .slice a0 n0 c0] 39)).alloc (.cells #[.int .i64 kn, .int .i64 jn, .int .i64 sn, .int .i64 tn, .int .i64 pn, .int .i64 cn, .string K, .string M, .int .i64 vn, .string X] 23))) := by
    have x := ((Has.start w).box (vV k i s (.slice a0 n0 c0)) 39).box (vF kn jn sn tn pn cn K M vn X) 23
    rw [World.size_alloc] at x
    exact x
  go_enter Try.func5, Try.ntmps5
  go_wp2_with fail
  refine (CE.out _ _ HA).mono ?_
  rintro e w2 ⟨rfl, H2⟩
  clear CE HA
  go_wp2_with fail
  refine (CR.out _ _ H2).mono ?_
  rintro e w3 ⟨ao, cap, rfl, H3⟩
  clear CR H2
  have H4 : Hid (Has w.heap.size w (BlockR w3.heap.size (vV k i s (.slice ao n0 cap)) :: TR (.slice ao n0 cap) xs :: [BlockR (w.heap.size + 1) (vF kn jn sn tn pn cn K M vn X), BlockR w.heap.size (vV k i s (.slice a0 n0 c0))]) (w3.alloc (.cells #[.int .i64 k, .int .i64 i, .int .i64 s, .slice ao n0 cap] 39))) := H3.out.box (vV k i s (.slice ao n0 cap)) 39
  obtain ⟨x0, xf0⟩ := H4.out.bcell (q := w.heap.size) (vs := (vV k i s (.slice a0 n0 c0))) (by simp) 0 _ rfl
  obtain ⟨x1, xf1⟩ := H4.out.bcell (q := w.heap.size) (vs := (vV k i s (.slice a0 n0 c0))) (by simp) 1 _ rfl
  obtain ⟨x2, xf2⟩ := H4.out.bcell (q := w.heap.size) (vs := (vV k i s (.slice a0 n0 c0))) (by simp) 2 _ rfl
  obtain ⟨x3, xf3⟩ := H4.out.bcell (q := w.heap.size) (vs := (vV k i s (.slice a0 n0 c0))) (by simp) 3 _ rfl
  clear H3
  go_wp2_with fail
  refine (CS.out ao cap _ _ H4 (by simp)).mono ?_
  rintro e w5 ⟨rfl, H5⟩
  clear CS H4 x0 xf0 x1 xf1 x2 xf2 x3 xf3
  go_wp2_with fail
  refine (CW.out _ _ H5).mono ?_
  rintro e w6 ⟨rfl, H6⟩
  clear CW H5
  go_wp2_with fail
  refine (CW0.out _ _ H6).mono ?_
  rintro e w7 ⟨rfl, H7⟩
  have HX : Hid (Has w.heap.size w [BlockR (w.heap.size + 1) (vF kn jn sn tn pn cn K M vn X), BlockR w.heap.size (vV k i s (.slice a0 n0 c0))] w7) := H7.out.drop.drop
  clear CW0 H6 H7 p1 r1
  obtain ⟨z0, zf0⟩ := HX.out.bcell (q := (w.heap.size + 1)) (vs := (vF kn jn sn tn pn cn K M vn X)) (by simp) 0 _ rfl
  obtain ⟨z1, zf1⟩ := HX.out.bcell (q := (w.heap.size + 1)) (vs := (vF kn jn sn tn pn cn K M vn X)) (by simp) 1 _ rfl
  obtain ⟨z2, zf2⟩ := HX.out.bcell (q := (w.heap.size + 1)) (vs := (vF kn jn sn tn pn cn K M vn X)) (by simp) 2 _ rfl
  obtain ⟨z3, zf3⟩ := HX.out.bcell (q := (w.heap.size + 1)) (vs := (vF kn jn sn tn pn cn K M vn X)) (by simp) 3 _ rfl
  obtain ⟨z4, zf4⟩ := HX.out.bcell (q := (w.heap.size + 1)) (vs := (vF kn jn sn tn pn cn K M vn X)) (by simp) 4 _ rfl
  obtain ⟨z5, zf5⟩ := HX.out.bcell (q := (w.heap.size + 1)) (vs := (vF kn jn sn tn pn cn K M vn X)) (by simp) 5 _ rfl
  obtain ⟨z6, zf6⟩ := HX.out.bcell (q := (w.heap.size + 1)) (vs := (vF kn jn sn tn pn cn K M vn X)) (by simp) 6 _ rfl
  obtain ⟨z7, zf7⟩ := HX.out.bcell (q := (w.heap.size + 1)) (vs := (vF kn jn sn tn pn cn K M vn X)) (by simp) 7 _ rfl
  obtain ⟨z8, zf8⟩ := HX.out.bcell (q := (w.heap.size + 1)) (vs := (vF kn jn sn tn pn cn K M vn X)) (by simp) 8 _ rfl
  obtain ⟨z9, zf9⟩ := HX.out.bcell (q := (w.heap.size + 1)) (vs := (vF kn jn sn tn pn cn K M vn X)) (by simp) 9 _ rfl
  go_wp2_with fail
  refine (CN.out _ _ HX).mono ?_
  rintro e w12 ⟨rfl, H12⟩
  clear CN HX z0 zf0 z1 zf1 z2 zf2 z3 zf3 z4 zf4 z5 zf5 z6 zf6 z7 zf7 z8 zf8 z9 zf9
  go_wp2_with fail
  refine (live_any _).mono ?_
  rintro e w13 ⟨rfl, hb⟩
  have HZ : Hid (Below w.heap.size w w13) := H12.out.bel.trans (hb.mono H12.out.size)
  clear H12 hb
  go_wp2_with fail
  go_ret
  exact ⟨rfl, HZ.out⟩
set_option maxHeartbeats 4000000 in
theorem back_ny (k i s : Int) (a0 : Option Addr) (n0 c0 : Nat) (kn jn sn tn pn cn : Int) (K M : ByteArray) (vn : Int) (X : ByteArray) (w : World)
    (CE : Hid (∀ (R : List Res) (wq : World), Hid (Has w.heap.size w R wq) → Calls Try.prog 13 #[.agg #[.int .i64 k, .int .i64 i, .int .i64 s, .slice a0 n0 c0]] wq fun e w' => e = .returned (.tuple #[.string ⟨#[]⟩, .int .i64 1]) ∧ Hid (Has w.heap.size w R w'))) (S2 : ByteArray) (hS2 : S2.size ≤ 20000)
    (CN : Hid (∀ (R : List Res) (wq : World), Hid (Has w.heap.size w R wq) → Calls Try.prog 6 #[.agg #[.int .i64 kn, .int .i64 jn, .int .i64 sn, .int .i64 tn, .int .i64 pn, .int .i64 cn, .string K, .string M, .int .i64 vn, .string X]] wq fun e w' => e = .returned (.tuple #[.string S2, .int .i64 0]) ∧ Hid (Has w.heap.size w R w')))
    (CRN : Hid (∀ (R : List Res) (wq : World), Hid (Has w.heap.size w R wq) → Calls Try.prog 16 #[.string S2] wq fun e w' => e = .returned (.tuple #[.agg #[.int .i64 kn, .int .i64 jn, .int .i64 sn, .int .i64 tn, .int .i64 pn, .int .i64 cn, .string K, .string M, .int .i64 vn, .string X], .int .i64 0]) ∧ Hid (Has w.heap.size w R w')))
    (CX : Hid (∀ (R : List Res) (wq : World), Hid (Has w.heap.size w R wq) → Calls Try.prog 12 #[.string S2] wq fun e w' => e = .returned (.int .i64 3) ∧ Hid (Has w.heap.size w R w')))
    (CX0 : Hid (∀ (R : List Res) (wq : World), Hid (Has w.heap.size w R wq) → Calls Try.prog 12 #[.string (S2 ++ ⟨#[0]⟩)] wq fun e w' => e = .returned (.int .i64 0) ∧ Hid (Has w.heap.size w R w'))) :
    Calls Try.prog 5 #[.agg #[.int .i64 k, .int .i64 i, .int .i64 s, .slice a0 n0 c0], .agg #[.int .i64 kn, .int .i64 jn, .int .i64 sn, .int .i64 tn, .int .i64 pn, .int .i64 cn, .string K, .string M, .int .i64 vn, .string X]] w fun e w' => e = .returned (.bool true) ∧ Below w.heap.size w w' := by
  have p2 : ¬ 9223372036854775807 < S2.size + (ByteArray.mk #[0]).size := by simp only [show (ByteArray.mk #[0]).size = 1 from rfl]; omega
  have r2 : ¬ 9223372036854775807 < S2.size + 1 := by omega
  have hne := neqSame kn jn sn tn pn cn K M vn X
  have HA : Hid (Has w.heap.size w [BlockR (w.heap.size + 1) (vF kn jn sn tn pn cn K M vn X), BlockR w.heap.size (vV k i s (.slice a0 n0 c0))] ((w.alloc (.cells #[.int .i64 k, .int .i64 i, .int .i64 s, .slice a0 n0 c0] 39)).alloc (.cells #[.int .i64 kn, .int .i64 jn, .int .i64 sn, .int .i64 tn, .int .i64 pn, .int .i64 cn, .string K, .string M, .int .i64 vn, .string X] 23))) := by
    have x := ((Has.start w).box (vV k i s (.slice a0 n0 c0)) 39).box (vF kn jn sn tn pn cn K M vn X) 23
    rw [World.size_alloc] at x
    exact x
  go_enter Try.func5, Try.ntmps5
  go_wp2_with fail
  refine (CE.out _ _ HA).mono ?_
  rintro e w7 ⟨rfl, HX⟩
  clear CE HA
  obtain ⟨z0, zf0⟩ := HX.out.bcell (q := (w.heap.size + 1)) (vs := (vF kn jn sn tn pn cn K M vn X)) (by simp) 0 _ rfl
  obtain ⟨z1, zf1⟩ := HX.out.bcell (q := (w.heap.size + 1)) (vs := (vF kn jn sn tn pn cn K M vn X)) (by simp) 1 _ rfl
  obtain ⟨z2, zf2⟩ := HX.out.bcell (q := (w.heap.size + 1)) (vs := (vF kn jn sn tn pn cn K M vn X)) (by simp) 2 _ rfl
  obtain ⟨z3, zf3⟩ := HX.out.bcell (q := (w.heap.size + 1)) (vs := (vF kn jn sn tn pn cn K M vn X)) (by simp) 3 _ rfl
  obtain ⟨z4, zf4⟩ := HX.out.bcell (q := (w.heap.size + 1)) (vs := (vF kn jn sn tn pn cn K M vn X)) (by simp) 4 _ rfl
  obtain ⟨z5, zf5⟩ := HX.out.bcell (q := (w.heap.size + 1)) (vs := (vF kn jn sn tn pn cn K M vn X)) (by simp) 5 _ rfl
  obtain ⟨z6, zf6⟩ := HX.out.bcell (q := (w.heap.size + 1)) (vs := (vF kn jn sn tn pn cn K M vn X)) (by simp) 6 _ rfl
  obtain ⟨z7, zf7⟩ := HX.out.bcell (q := (w.heap.size + 1)) (vs := (vF kn jn sn tn pn cn K M vn X)) (by simp) 7 _ rfl
  obtain ⟨z8, zf8⟩ := HX.out.bcell (q := (w.heap.size + 1)) (vs := (vF kn jn sn tn pn cn K M vn X)) (by simp) 8 _ rfl
  obtain ⟨z9, zf9⟩ := HX.out.bcell (q := (w.heap.size + 1)) (vs := (vF kn jn sn tn pn cn K M vn X)) (by simp) 9 _ rfl
  go_wp2_with fail
  refine (CN.out _ _ HX).mono ?_
  rintro e w8 ⟨rfl, H8⟩
  clear CN HX z0 zf0 z1 zf1 z2 zf2 z3 zf3 z4 zf4 z5 zf5 z6 zf6 z7 zf7 z8 zf8 z9 zf9
  go_wp2_with fail
  refine (CRN.out _ _ H8).mono ?_
  rintro e w9 ⟨rfl, H9⟩
  clear CRN H8
  have H10 : Hid (Has w.heap.size w (BlockR w9.heap.size (vF kn jn sn tn pn cn K M vn X) :: [BlockR (w.heap.size + 1) (vF kn jn sn tn pn cn K M vn X), BlockR w.heap.size (vV k i s (.slice a0 n0 c0))]) (w9.alloc (.cells #[.int .i64 kn, .int .i64 jn, .int .i64 sn, .int .i64 tn, .int .i64 pn, .int .i64 cn, .string K, .string M, .int .i64 vn, .string X] 23))) := H9.out.box (vF kn jn sn tn pn cn K M vn X) 23
  obtain ⟨z0, zf0⟩ := H10.out.bcell (q := (w.heap.size + 1)) (vs := (vF kn jn sn tn pn cn K M vn X)) (by simp) 0 _ rfl
  obtain ⟨z1, zf1⟩ := H10.out.bcell (q := (w.heap.size + 1)) (vs := (vF kn jn sn tn pn cn K M vn X)) (by simp) 1 _ rfl
  obtain ⟨z2, zf2⟩ := H10.out.bcell (q := (w.heap.size + 1)) (vs := (vF kn jn sn tn pn cn K M vn X)) (by simp) 2 _ rfl
  obtain ⟨z3, zf3⟩ := H10.out.bcell (q := (w.heap.size + 1)) (vs := (vF kn jn sn tn pn cn K M vn X)) (by simp) 3 _ rfl
  obtain ⟨z4, zf4⟩ := H10.out.bcell (q := (w.heap.size + 1)) (vs := (vF kn jn sn tn pn cn K M vn X)) (by simp) 4 _ rfl
  obtain ⟨z5, zf5⟩ := H10.out.bcell (q := (w.heap.size + 1)) (vs := (vF kn jn sn tn pn cn K M vn X)) (by simp) 5 _ rfl
  obtain ⟨z6, zf6⟩ := H10.out.bcell (q := (w.heap.size + 1)) (vs := (vF kn jn sn tn pn cn K M vn X)) (by simp) 6 _ rfl
  obtain ⟨z7, zf7⟩ := H10.out.bcell (q := (w.heap.size + 1)) (vs := (vF kn jn sn tn pn cn K M vn X)) (by simp) 7 _ rfl
  obtain ⟨z8, zf8⟩ := H10.out.bcell (q := (w.heap.size + 1)) (vs := (vF kn jn sn tn pn cn K M vn X)) (by simp) 8 _ rfl
  obtain ⟨z9, zf9⟩ := H10.out.bcell (q := (w.heap.size + 1)) (vs := (vF kn jn sn tn pn cn K M vn X)) (by simp) 9 _ rfl
  clear H9
  go_wp2_with fail
  refine (CX.out _ _ H10).mono ?_
  rintro e w11 ⟨rfl, H11⟩
  clear CX H10 z0 zf0 z1 zf1 z2 zf2 z3 zf3 z4 zf4 z5 zf5 z6 zf6 z7 zf7 z8 zf8 z9 zf9
  go_wp2_with fail
  refine (CX0.out _ _ H11).mono ?_
  rintro e w12 ⟨rfl, H12⟩
  clear CX0 H11
  go_wp2_with fail
  refine (live_any _).mono ?_
  rintro e w13 ⟨rfl, hb⟩
  have HZ : Hid (Below w.heap.size w w13) := H12.out.bel.trans (hb.mono H12.out.size)
  clear H12 hb
  go_wp2_with fail
  go_ret
  exact ⟨rfl, HZ.out⟩
set_option maxHeartbeats 4000000 in
theorem back_nn (k i s : Int) (a0 : Option Addr) (n0 c0 : Nat) (kn jn sn tn pn cn : Int) (K M : ByteArray) (vn : Int) (X : ByteArray) (w : World)
    (CE : Hid (∀ (R : List Res) (wq : World), Hid (Has w.heap.size w R wq) → Calls Try.prog 13 #[.agg #[.int .i64 k, .int .i64 i, .int .i64 s, .slice a0 n0 c0]] wq fun e w' => e = .returned (.tuple #[.string ⟨#[]⟩, .int .i64 1]) ∧ Hid (Has w.heap.size w R w')))
    (CN : Hid (∀ (R : List Res) (wq : World), Hid (Has w.heap.size w R wq) → Calls Try.prog 6 #[.agg #[.int .i64 kn, .int .i64 jn, .int .i64 sn, .int .i64 tn, .int .i64 pn, .int .i64 cn, .string K, .string M, .int .i64 vn, .string X]] wq fun e w' => e = .returned (.tuple #[.string ⟨#[]⟩, .int .i64 1]) ∧ Hid (Has w.heap.size w R w'))) :
    Calls Try.prog 5 #[.agg #[.int .i64 k, .int .i64 i, .int .i64 s, .slice a0 n0 c0], .agg #[.int .i64 kn, .int .i64 jn, .int .i64 sn, .int .i64 tn, .int .i64 pn, .int .i64 cn, .string K, .string M, .int .i64 vn, .string X]] w fun e w' => e = .returned (.bool true) ∧ Below w.heap.size w w' := by
  have HA : Hid (Has w.heap.size w [BlockR (w.heap.size + 1) (vF kn jn sn tn pn cn K M vn X), BlockR w.heap.size (vV k i s (.slice a0 n0 c0))] ((w.alloc (.cells #[.int .i64 k, .int .i64 i, .int .i64 s, .slice a0 n0 c0] 39)).alloc (.cells #[.int .i64 kn, .int .i64 jn, .int .i64 sn, .int .i64 tn, .int .i64 pn, .int .i64 cn, .string K, .string M, .int .i64 vn, .string X] 23))) := by
    have x := ((Has.start w).box (vV k i s (.slice a0 n0 c0)) 39).box (vF kn jn sn tn pn cn K M vn X) 23
    rw [World.size_alloc] at x
    exact x
  go_enter Try.func5, Try.ntmps5
  go_wp2_with fail
  refine (CE.out _ _ HA).mono ?_
  rintro e w7 ⟨rfl, HX⟩
  clear CE HA
  obtain ⟨z0, zf0⟩ := HX.out.bcell (q := (w.heap.size + 1)) (vs := (vF kn jn sn tn pn cn K M vn X)) (by simp) 0 _ rfl
  obtain ⟨z1, zf1⟩ := HX.out.bcell (q := (w.heap.size + 1)) (vs := (vF kn jn sn tn pn cn K M vn X)) (by simp) 1 _ rfl
  obtain ⟨z2, zf2⟩ := HX.out.bcell (q := (w.heap.size + 1)) (vs := (vF kn jn sn tn pn cn K M vn X)) (by simp) 2 _ rfl
  obtain ⟨z3, zf3⟩ := HX.out.bcell (q := (w.heap.size + 1)) (vs := (vF kn jn sn tn pn cn K M vn X)) (by simp) 3 _ rfl
  obtain ⟨z4, zf4⟩ := HX.out.bcell (q := (w.heap.size + 1)) (vs := (vF kn jn sn tn pn cn K M vn X)) (by simp) 4 _ rfl
  obtain ⟨z5, zf5⟩ := HX.out.bcell (q := (w.heap.size + 1)) (vs := (vF kn jn sn tn pn cn K M vn X)) (by simp) 5 _ rfl
  obtain ⟨z6, zf6⟩ := HX.out.bcell (q := (w.heap.size + 1)) (vs := (vF kn jn sn tn pn cn K M vn X)) (by simp) 6 _ rfl
  obtain ⟨z7, zf7⟩ := HX.out.bcell (q := (w.heap.size + 1)) (vs := (vF kn jn sn tn pn cn K M vn X)) (by simp) 7 _ rfl
  obtain ⟨z8, zf8⟩ := HX.out.bcell (q := (w.heap.size + 1)) (vs := (vF kn jn sn tn pn cn K M vn X)) (by simp) 8 _ rfl
  obtain ⟨z9, zf9⟩ := HX.out.bcell (q := (w.heap.size + 1)) (vs := (vF kn jn sn tn pn cn K M vn X)) (by simp) 9 _ rfl
  go_wp2_with fail
  refine (CN.out _ _ HX).mono ?_
  rintro e w12 ⟨rfl, H12⟩
  clear CN HX z0 zf0 z1 zf1 z2 zf2 z3 zf3 z4 zf4 z5 zf5 z6 zf6 z7 zf7 z8 zf8 z9 zf9
  go_wp2_with fail
  refine (live_any _).mono ?_
  rintro e w13 ⟨rfl, hb⟩
  have HZ : Hid (Below w.heap.size w w13) := H12.out.bel.trans (hb.mono H12.out.size)
  clear H12 hb
  go_wp2_with fail
  go_ret
  exact ⟨rfl, HZ.out⟩
end Go.Proofs.Yteicfkgcbpioiaa.Pl

/- CodecNotesBack of any event and any note, at tables of any content. -/
set_option linter.unusedVariables false
set_option linter.unusedSimpArgs false
set_option maxRecDepth 100000
namespace Go.Proofs.Yteicfkgcbpioiaa.Pl
open Go.RowKit Go.Proofs.Yteicfkgcbpioiaa

theorem evL_len {k i s : Nat} {xs : List (List UInt8)} (hk : k ≤ 6) (hi : i ≤ 60) (hs : s ≤ 7) (h : xs.length ≤ 2) (h2 : ∀ x ∈ xs, x.length ≤ 32) : (evL k i s xs).length ≤ 1000 := by
  have h1 := lst_small h h2
  have n1 := nums_len [1, i, s] (small3 (by omega) (by omega) (by omega))
  have n2 := nums_len [6, i] (small2 (by omega) (by omega))
  have n3 := nums_len [k, i, s] (small3 (by omega) (by omega) (by omega))
  simp only [List.length_cons, List.length_nil] at n1 n2 n3
  unfold evL
  rw [List.length_cons]
  split
  · rw [List.length_append]; omega
  · split <;> omega
theorem data_more (l : List UInt8) : ((⟨l.toArray⟩ : ByteArray) ++ ⟨#[0]⟩).data.toList = l ++ [0] := by simp [ByteArray.data_append]
theorem size_mk (l : List UInt8) : (⟨l.toArray⟩ : ByteArray).size = l.length := by simp [ByteArray.size]
theorem size_more (l : List UInt8) : ((⟨l.toArray⟩ : ByteArray) ++ ⟨#[0]⟩).size = l.length + 1 := by simp [ByteArray.size_append, ByteArray.size]
theorem codecNotesBack_walk (t : Tb) (k i s : Int) (v0 : Value) (xs : List (List UInt8)) (hx : xs.length ≤ 140737488355328) (hxs : ∀ s ∈ xs, s.length ≤ 140737488351232) (kn jn sn tn pn cn : Int) (K M : ByteArray) (vn : Int) (X : ByteArray) (hX : X.size ≤ 140737488351232) (w : World)
    (hT : TabX t w) (hlow : 1 < w.heap.size ∧ 2 < w.heap.size) (hS : SRow w v0 xs) :
    Calls Try.prog 5 #[.agg #[.int .i64 k, .int .i64 i, .int .i64 s, v0], .agg #[.int .i64 kn, .int .i64 jn, .int .i64 sn, .int .i64 tn, .int .i64 pn, .int .i64 cn, .string K, .string M, .int .i64 vn, .string X]] w fun e w' => e = .returned (.bool true) ∧ Below w.heap.size w w' := by
  obtain ⟨a0, c0, rfl, _⟩ := id hS
  have low : ∀ wq : World, w.heap.size ≤ wq.heap.size → Hid (1 < wq.heap.size ∧ 2 < wq.heap.size) := fun wq h => ⟨Nat.lt_of_lt_of_le hlow.1 h, Nat.lt_of_lt_of_le hlow.2 h⟩
  have tab : ∀ wq : World, Below w.heap.size w wq → Hid (TabX t wq) := fun wq h => hT.below h hlow
  cases hm : evMay t k i s xs with
  | true =>
    obtain ⟨f1, f2, f3, f4, f5, f6, f7, f8⟩ := evMay_facts hm
    obtain ⟨k, rfl⟩ := Int.eq_ofNat_of_zero_le (show 0 ≤ k by omega)
    obtain ⟨i, rfl⟩ := Int.eq_ofNat_of_zero_le (show 0 ≤ i by omega)
    obtain ⟨s, rfl⟩ := Int.eq_ofNat_of_zero_le (show 0 ≤ s by omega)
    have hL := evL_len (k := k) (i := i) (s := s) (by omega) (by omega) (by omega) f4 f5
    have CE : ∀ (R : List Res) (wq : World), Hid (Has w.heap.size w R wq) → Calls Try.prog 13 #[.agg #[.int .i64 (k : Int), .int .i64 (i : Int), .int .i64 (s : Int), .slice a0 xs.length c0]] wq fun e w' => e = .returned (.tuple #[.string ⟨(evL k i s xs).toArray⟩, .int .i64 0]) ∧ Hid (Has w.heap.size w R w') := fun R wq hq =>
      (event_yes t k i s _ xs wq (tab wq hq.out.bel) (low wq hq.out.size) (srow_below hS hq.out.bel) hm).mono fun e w' ⟨he, hb⟩ => ⟨he, hq.out.below hb⟩
    have z1 : (⟨(evL k i s xs).toArray⟩ : ByteArray).size ≤ 20000 := by rw [size_mk]; omega
    have z2 : (⟨(evL k i s xs).toArray⟩ : ByteArray).size ≤ 4611686018427387904 := by rw [size_mk]; omega
    have z3 : ((⟨(evL k i s xs).toArray⟩ : ByteArray) ++ ⟨#[0]⟩).size ≤ 4611686018427387904 := by rw [size_more]; omega
    rcases note_any kn jn sn tn pn cn K M vn X hX with ⟨l, hG⟩ | hN
    · have y5 := hG.2.2.2.2
      have y1 : (⟨l.toArray⟩ : ByteArray).size ≤ 20000 := by rw [size_mk]; omega
      have y2 : (⟨l.toArray⟩ : ByteArray).size ≤ 4611686018427387904 := by rw [size_mk]; omega
      have y3 : ((⟨l.toArray⟩ : ByteArray) ++ ⟨#[0]⟩).size ≤ 4611686018427387904 := by rw [size_more]; omega
      exact back_yy (k : Int) (i : Int) (s : Int) a0 xs.length c0 kn jn sn tn pn cn K M vn X w _ z1 xs rfl CE
        (fun R wq hq => readEvent_ok t z2 (tab w (Below.refl _ _)) (low w (Nat.le_refl _)) hm rfl hq.out)
        (fun ao cap R wq hq hmem => (sameEvent_true _ _ _ _ _ _ _ _ xs rfl hx wq (srow_below hS hq.out.bel) (hq.out.srowT hmem)).mono fun e w' ⟨he, hb⟩ => ⟨he, hq.out.below hb⟩)
        (fun R wq hq => whatE_ok t z2 (tab w (Below.refl _ _)) (low w (Nat.le_refl _)) hm rfl hq.out)
        (fun R wq hq => what_nil (readE_more t (r := [0]) z3 (tab w (Below.refl _ _)) (low w (Nat.le_refl _)) hm (by simp) (data_more _) hq.out))
        _ y1 (fun R wq hq => (hG.1 wq).mono fun e w' ⟨he, hb⟩ => ⟨he, hq.out.below hb⟩)
        (fun R wq hq => readNoteN_ok y2 hG rfl hq.out)
        (fun R wq hq => whatN_ok y2 hG rfl hq.out)
        (fun R wq hq => what_nil (readN_more (r := [0]) y3 hG (by simp) (data_more _) hq.out))
    · exact back_yn (k : Int) (i : Int) (s : Int) a0 xs.length c0 kn jn sn tn pn cn K M vn X w _ z1 xs rfl CE
        (fun R wq hq => readEvent_ok t z2 (tab w (Below.refl _ _)) (low w (Nat.le_refl _)) hm rfl hq.out)
        (fun ao cap R wq hq hmem => (sameEvent_true _ _ _ _ _ _ _ _ xs rfl hx wq (srow_below hS hq.out.bel) (hq.out.srowT hmem)).mono fun e w' ⟨he, hb⟩ => ⟨he, hq.out.below hb⟩)
        (fun R wq hq => whatE_ok t z2 (tab w (Below.refl _ _)) (low w (Nat.le_refl _)) hm rfl hq.out)
        (fun R wq hq => what_nil (readE_more t (r := [0]) z3 (tab w (Below.refl _ _)) (low w (Nat.le_refl _)) hm (by simp) (data_more _) hq.out))
        (fun R wq hq => (hN wq).mono fun e w' ⟨he, hb⟩ => ⟨he, hq.out.below hb⟩)
  | false =>
    have CE : ∀ (R : List Res) (wq : World), Hid (Has w.heap.size w R wq) → Calls Try.prog 13 #[.agg #[.int .i64 k, .int .i64 i, .int .i64 s, .slice a0 xs.length c0]] wq fun e w' => e = .returned (.tuple #[.string ⟨#[]⟩, .int .i64 1]) ∧ Hid (Has w.heap.size w R w') := fun R wq hq =>
      (event_no t k i s _ xs hx hxs wq (tab wq hq.out.bel) (low wq hq.out.size) (srow_below hS hq.out.bel) hm).mono fun e w' ⟨he, hb⟩ => ⟨he, hq.out.below hb⟩
    rcases note_any kn jn sn tn pn cn K M vn X hX with ⟨l, hG⟩ | hN
    · have y5 := hG.2.2.2.2
      have y1 : (⟨l.toArray⟩ : ByteArray).size ≤ 20000 := by rw [size_mk]; omega
      have y2 : (⟨l.toArray⟩ : ByteArray).size ≤ 4611686018427387904 := by rw [size_mk]; omega
      have y3 : ((⟨l.toArray⟩ : ByteArray) ++ ⟨#[0]⟩).size ≤ 4611686018427387904 := by rw [size_more]; omega
      exact back_ny k i s a0 xs.length c0 kn jn sn tn pn cn K M vn X w CE
        _ y1 (fun R wq hq => (hG.1 wq).mono fun e w' ⟨he, hb⟩ => ⟨he, hq.out.below hb⟩)
        (fun R wq hq => readNoteN_ok y2 hG rfl hq.out)
        (fun R wq hq => whatN_ok y2 hG rfl hq.out)
        (fun R wq hq => what_nil (readN_more (r := [0]) y3 hG (by simp) (data_more _) hq.out))
    · exact back_nn k i s a0 xs.length c0 kn jn sn tn pn cn K M vn X w CE
        (fun R wq hq => (hN wq).mono fun e w' ⟨he, hb⟩ => ⟨he, hq.out.below hb⟩)
end Go.Proofs.Yteicfkgcbpioiaa.Pl

/- The two tables hold something, in any world that a row speaks of. -/
set_option linter.unusedVariables false
set_option maxRecDepth 1000000
namespace Go.Proofs.Yteicfkgcbpioiaa
open Go.RowKit

theorem zero_first : ((begin Try.prog (fun _ _ => 0) default).world.heap[1]?).bind Obj.row? = some (Array.replicate 256 (.int .u8 0), 124) := by kernel_rfl
theorem zero_accept : ((begin Try.prog (fun _ _ => 0) default).world.heap[2]?).bind Obj.row? = some (Array.replicate 32 (.int .u8 0), 128) := by kernel_rfl
theorem types_first : Try.prog.cellTypes Try.prog.depth 124 = some (List.replicate 256 5) := by kernel_rfl
theorem types_accept : Try.prog.cellTypes Try.prog.depth 128 = some (List.replicate 32 5) := by kernel_rfl
theorem build_first : Try.prog.buildable 124 = true := by kernel_rfl
theorem build_accept : Try.prog.buildable 128 = true := by kernel_rfl
theorem row_u8 {W : World} {g N : Nat} {t : TypeId} {cs : Array Value} (hN : 0 < N) (hh : W.heap[g]? = some (.cells cs t)) (hs : cs.size = N) (ht : Try.prog.cellTypes Try.prog.depth t = some (List.replicate N 5)) (hr : Row.ok Try.prog W .any 0 t cs) (j : Nat) (hj : j < N) :
    ∃ n : Nat, W.cell? ⟨g, j, none⟩ = some (.int .u8 (n : Int)) ∧ n < 256 := by
  obtain ⟨ts, hts, _, hall⟩ := hr
  rw [ht] at hts
  cases hts
  have hjc : j < cs.size := by omega
  obtain ⟨u, hu, hok⟩ := hall j cs[j] (by simp [hjc])
  rw [List.length_replicate, Nat.mod_eq_of_lt hj] at hu
  have hu2 : u = 5 := by
    rw [List.getElem?_replicate] at hu
    simp [hj] at hu
    exact hu.symm
  subst hu2
  have hcell : W.cell? ⟨g, j, none⟩ = some cs[j] := by simp [World.cell?, hh, hjc]
  rw [hcell]
  unfold Cell.ok at hok
  rw [Try.underlying5] at hok
  cases hv : cs[j] <;> rw [hv] at hok <;> simp at hok
  case int k' n =>
    obtain ⟨rfl, h2⟩ := hok
    have h3 : 0 ≤ n ∧ n ≤ 255 := h2
    exact ⟨n.toNat, by rw [Int.toNat_of_nonneg h3.1], by omega⟩
def val (W : World) (g j : Nat) : Nat := match W.cell? ⟨g, j, none⟩ with
  | some (.int _ n) => n.toNat
  | _ => 0
theorem val_of {W : World} {g j n : Nat} (h : W.cell? ⟨g, j, none⟩ = some (.int .u8 (n : Int))) : val W g j = n := by unfold val; rw [h]; simp
theorem tabs_of_shape {W : World} (h : W.ShapedOpen Try.prog) : ∃ t : Tb, TabX t W ∧ (1 < W.heap.size ∧ 2 < W.heap.size) := by
  obtain ⟨cs, h1, h2, h3⟩ := h.1 1 _ _ (by decide +kernel) zero_first
  obtain ⟨ds, k1, k2, k3⟩ := h.1 2 _ _ (by decide +kernel) zero_accept
  have R1 := row_u8 (N := 256) (by omega) h1 (by rw [h2, Array.size_replicate]) types_first (h3 build_first)
  have R2 := row_u8 (N := 32) (by omega) k1 (by rw [k2, Array.size_replicate]) types_accept (k3 build_accept)
  refine ⟨⟨fun c => val W 1 c, fun i => val W 2 (2 * i), fun i => val W 2 (2 * i + 1)⟩, ⟨fun c hc => ?_, fun i hi => ⟨?_, ?_⟩⟩, ?_, ?_⟩
  · obtain ⟨n, hn, hl⟩ := R1 c hc
    show W.cell? _ = some (.int .u8 ((val W 1 c : Nat) : Int)) ∧ val W 1 c < 256
    rw [val_of hn]
    exact ⟨hn, hl⟩
  · obtain ⟨n, hn, hl⟩ := R2 (2 * i) (by omega)
    show W.cell? _ = some (.int .u8 ((val W 2 (2 * i) : Nat) : Int))
    rw [val_of hn]
    exact hn
  · obtain ⟨n, hn, hl⟩ := R2 (2 * i + 1) (by omega)
    show W.cell? _ = some (.int .u8 ((val W 2 (2 * i + 1) : Nat) : Int))
    rw [val_of hn]
    exact hn
  · exact (Array.getElem?_eq_some_iff.1 h1).1
  · exact (Array.getElem?_eq_some_iff.1 k1).1
end Go.Proofs.Yteicfkgcbpioiaa

/- An event that came in, read as data. -/
set_option linter.unusedVariables false
set_option maxRecDepth 100000
namespace Go.Proofs.Yteicfkgcbpioiaa
open Go.ChangeShapes Go.WideShapes Go.ChangeAt Go.RowKit

section
variable {H : Type} {enc : TypeId × Value → H} {w : World} {n : Nat}
/-- A list of texts read as data. -/
def KDat (d : DataW H) (xs : List (List UInt8)) : Prop := (d = .nil ∧ xs = []) ∨ ∃ sp, d = .slice (xs.map fun s => .lit (.string s)) sp
theorem open_keys {cs : List Value} {x : DataW H × List MemPlace} (h : DataW.trod enc Try.prog w 0 (fun _ => true) true n 29 cs = some x) : ∃ kv xs, cs = [kv] ∧ SRow w kv xs ∧ KDat x.1 xs := by
  rcases Go.Deep.open_strs Try.underlying29 Try.underlying9 (by kernel_rfl) h with ⟨hcs, hx⟩ | ⟨a, len, cap, m, Sx, hcs, _, hl, hm, hmm, hx, hcell⟩
  · exact ⟨_, [], hcs, ⟨none, 0, rfl, ⟨Nat.le_refl _, fun _ => rfl⟩, fun j hj => by simp at hj⟩, Or.inl ⟨by rw [hx], rfl⟩⟩
  · simp only [if_true] at hmm
    subst hmm
    refine ⟨_, (List.range len).map fun i => (Sx i).data.toList, hcs, ⟨some a, m, by simp, ⟨by simpa using hl, fun h => by cases h⟩, fun j hj => ?_⟩, Or.inr ⟨_, by rw [hx]; simp; rfl⟩⟩
    simp at hj
    obtain ⟨b, off, spot⟩ := a
    have hspot : spot = none := by simpa [Addr.add] using World.cell?_spot (hcell 0 (by omega)).1
    subst hspot
    refine ⟨b, off, rfl, ?_⟩
    have := (hcell j (by omega)).1
    rw [add_plain] at this
    rw [this]
    simp [Pl.strV_data]
theorem open_event {cs : List Value} {x : DataW H × List MemPlace} (h : DataW.trod enc Try.prog w 0 (fun _ => true) true n 39 cs = some x) :
    ∃ (k i s : Int) (kv : Value) (xs : List (List UInt8)) (kd : DataW H), cs = [.int .i64 k, .int .i64 i, .int .i64 s, kv] ∧ SRow w kv xs ∧ KDat kd xs ∧ x.1 = .agg [.lit (.int .i64 k), .lit (.int .i64 i), .lit (.int .i64 s), kd] := by
  obtain ⟨xs, m, rfl, hx, hl, hxl, hf⟩ := DataW.trod_struct Try.underlying39 h
  have hl4 : cs.length = 4 := by rw [hl]; kernel_rfl
  have hx4 : xs.length = 4 := by rw [hxl]; rfl
  have ci : Try.prog.cellsOf 3 = 1 := by kernel_rfl
  have ck : Try.prog.cellsOf 29 = 1 := by kernel_rfl
  obtain ⟨c0, c1, c2, c3, rfl⟩ : ∃ c0 c1 c2 c3, cs = [c0, c1, c2, c3] := by
    match cs, hl4 with
    | [c0, c1, c2, c3], _ => exact ⟨c0, c1, c2, c3, rfl⟩
  obtain ⟨x0, x1, x2, x3, rfl⟩ : ∃ x0 x1 x2 x3, xs = [x0, x1, x2, x3] := by
    match xs, hx4 with
    | [x0, x1, x2, x3], _ => exact ⟨x0, x1, x2, x3, rfl⟩
  have f0 : DataW.trod enc Try.prog w 0 (fun _ => true) true m 3 (([c0, c1, c2, c3].drop 0).take (Try.prog.cellsOf 3)) = some x0 := hf 0 _ rfl
  have f1 : DataW.trod enc Try.prog w 0 (fun _ => true) true m 3 (([c0, c1, c2, c3].drop 1).take (Try.prog.cellsOf 3)) = some x1 := hf 1 _ rfl
  have f2 : DataW.trod enc Try.prog w 0 (fun _ => true) true m 3 (([c0, c1, c2, c3].drop 2).take (Try.prog.cellsOf 3)) = some x2 := hf 2 _ rfl
  have f3 : DataW.trod enc Try.prog w 0 (fun _ => true) true m 29 (([c0, c1, c2, c3].drop 3).take (Try.prog.cellsOf 29)) = some x3 := hf 3 _ rfl
  rw [ci] at f0 f1 f2
  rw [ck] at f3
  obtain ⟨n0, e0, rfl, b0⟩ := DataW.trod_int Try.underlying3 f0
  obtain ⟨n1, e1, rfl, b1⟩ := DataW.trod_int Try.underlying3 f1
  obtain ⟨n2, e2, rfl, b2⟩ := DataW.trod_int Try.underlying3 f2
  obtain ⟨kv, kl, e3, hk, dk⟩ := open_keys f3
  obtain rfl : c0 = .int .i64 n0 := by simpa using e0
  obtain rfl : c1 = .int .i64 n1 := by simpa using e1
  obtain rfl : c2 = .int .i64 n2 := by simpa using e2
  obtain rfl : c3 = kv := by simpa using e3
  exact ⟨n0, n1, n2, c3, kl, x3.1, rfl, hk, dk, by rw [hx]; rfl⟩
theorem mem_weightsAll {P : Program} {e : TypeId} {k : Nat} {d : DataW H} : ∀ {l : List (DataW H)}, d ∈ l → k ∈ d.weights P e → k ∈ DataW.weightsAll P e l
  | x :: r, h, hk => by
    rw [DataW.weightsAll]
    rcases List.mem_cons.1 h with rfl | h
    · exact List.mem_append_left _ hk
    · exact List.mem_append_right _ (mem_weightsAll h hk)
theorem keys_sized {d : DataW H} {xs : List (List UInt8)} (h : KDat d xs) (hall : ∀ n, n ∈ d.weights Try.prog 29 → n ≤ reachBytes) : xs.length ≤ 140737488355328 ∧ ∀ s ∈ xs, s.length ≤ 140737488351232 := by
  have hr : reachBytes = 140737488351232 := rfl
  have hb : Try.prog.bytesOf 9 = 16 := by kernel_rfl
  rcases h with ⟨_, rfl⟩ | ⟨sp, rfl⟩
  · exact ⟨by simp, fun s hs => by cases hs⟩
  · rw [DataW.weights, Try.underlying29] at hall
    refine ⟨?_, fun s hs => ?_⟩
    · have := hall _ (List.mem_cons_self)
      rw [hb, List.length_map] at this
      omega
    · have := hall s.length (List.mem_cons_of_mem _ (List.mem_append_left _ (mem_weightsAll (List.mem_map.2 ⟨s, hs, rfl⟩) (by simp [DataW.weights]))))
      omega
/-- An event that came in. -/
theorem event_in {ts : List TypeId} {ds : List (DataW H)} {base : Nat} {v : Value} {d : DataW H} {p : List MemPlace} (hsz : (DataW.weightsEach Try.prog ts ds).all (· ≤ reachBytes) = true) {j : Nat} (ht : ts[j]? = some 39) (hd : ds[j]? = some d)
    (hv : Value.okWide Try.prog w .any base 39 v) (h : DataW.Trod enc Try.prog w 0 (fun _ => true) true 39 v d p) : ∃ (k i s : Int) (kv : Value) (xs : List (List UInt8)), v = .agg #[.int .i64 k, .int .i64 i, .int .i64 s, kv] ∧ SRow w kv xs ∧ xs.length ≤ 140737488355328 ∧ ∀ s ∈ xs, s.length ≤ 140737488351232 := by
  obtain ⟨cs, rfl, _⟩ := okWide_struct Try.underlying39 hv
  obtain ⟨n, hn⟩ := h
  obtain ⟨k, i, s, kv, xs, kd, e, hS, hk, rfl⟩ := open_event hn
  have hall : ∀ n, n ∈ (DataW.agg [.lit (.int .i64 k), .lit (.int .i64 i), .lit (.int .i64 s), kd] : DataW H).weights Try.prog 39 → n ≤ reachBytes := fun n hn => by
    have := List.all_eq_true.1 hsz _ (DataW.weights_mem_each ht hd n hn)
    simpa using this
  simp only [DataW.weights, Try.underlying39, DataW.weightsEach, List.map_cons, List.map_nil, List.mem_append] at hall
  obtain ⟨z1, z2⟩ := keys_sized hk (fun n hn => hall n (by simp [hn]))
  exact ⟨k, i, s, kv, xs, by rw [show cs = #[.int .i64 k, .int .i64 i, .int .i64 s, kv] from Array.toList_inj.1 (by simpa [Value.cells] using e)], hS, z1, z2⟩
end
end Go.Proofs.Yteicfkgcbpioiaa

/- For every event and every note, and whatever the tables of unicode/utf8 hold: what codec writes of it is read back the same, and is nothing with a byte more behind it (P7.4). No conditions. -/
set_option linter.unusedVariables false
set_option maxRecDepth 100000
namespace Go.Proofs.Yteicfkgcbpioiaa.codecNotesBack
open Go.ChangeShapes Go.WideShapes Go.ChangeAt Go.RowKit
open Go.ChangeMaps (open_string shut_string)

theorem contract (H : Type) (enc : TypeId × Value → H) (W : World) (base : Nat) (args : Array Value) (ds gs : List (DataW H)) (before : List MemPlace)
    (hval : ∀ (j : Nat) t v, Try.f5.params[j]? = some t → args[j]? = some v → Value.okWide Try.prog W .any base t v)
    (hW : DataW.Whole enc Try.prog Try.f5.params.toList Rows.codecNotesBackSpec.vars false W args.toList ds gs before)
    (hsz : (DataW.weightsEach Try.prog (Try.f5.params.toList ++ (OpenSpec.ofChange Rows.codecNotesBackSpec).bare.plain.varTypes Try.prog) (ds ++ gs)).all (· ≤ reachBytes) = true) (hsh : W.ShapedOpen Try.prog) :
    Calls Try.prog 5 args W fun e W' => ∃ v, e = .returned v ∧ Rows.codecNotesBackSpec.post enc Try.prog Try.f5 false true false false W args v W' := by
  have hW' := hW
  have hlt := hW.lt
  obtain ⟨p, q, hA0, hV, rfl, hfz, hnd⟩ := hW
  have hA : DataW.TrodAll enc Try.prog W 0 (fun _ => true) true Try.f5.params.toList args.toList ds p := hA0
  rw [Try.params5] at hA hval hsz
  obtain ⟨v0, vs0, d0, ds0, p0, q0, hargs, rfl, rfl, h0, r0⟩ := trodAll_cons hA
  obtain ⟨v1, vs1, d1, ds1, p1, q1, rfl, rfl, rfl, h1, r1⟩ := trodAll_cons r0
  obtain ⟨rfl, rfl, rfl⟩ := trodAll_nil r1
  obtain rfl : args = #[v0, v1] := by cases args; simp_all
  obtain ⟨rfl, rfl⟩ := trodVars_none hV
  have g0 := h0
  obtain ⟨k0, i0, s0, kv0, xs0, rfl, hS0, hx0, hxs0⟩ := event_in hsz (j := 0) rfl rfl (hval 0 39 v0 rfl rfl) h0
  obtain ⟨k1, i1, s1, t1, p1', c1, v1', K1, M1, X1, rfl, hK1, hM1, hX1⟩ := note_in hsz (j := 1) rfl rfl (hval 1 23 v1 rfl rfl) h1
  clear hA0 hfz hnd
  simp only [List.append_nil] at hW' hlt
  obtain ⟨t, hT, hlow⟩ := tabs_of_shape hsh
  refine (Pl.codecNotesBack_walk t k0 i0 s0 kv0 xs0 hx0 hxs0 k1 i1 s1 t1 p1' c1 K1 M1 v1' X1 hX1 W hT hlow hS0).mono fun e W' ⟨he, bel⟩ => ?_
  subst he
  exact ⟨_, rfl, _, _, _, [], _, [], hW', trodAll_cons_mk (shut_bool Try.underlying4 _) trodAll_mk0, (trodAll_cons_mk (WideElems.Trod_stays Try.laidOut (by kernel_rfl) (by decide +kernel) h0 (fun p hp => bel.same (hlt p (by simp [hp]))) (fun p hp => by simpa using hlt p (by simp [hp]))) (trodAll_cons_mk (WideElems.Trod_stays Try.laidOut (by kernel_rfl) (by decide +kernel) h1 (fun p hp => bel.same (hlt p (by simp [hp]))) (fun p hp => by simpa using hlt p (by simp [hp]))) trodAll_mk0)), rfl, bel.frame _, fun h => by cases h⟩

theorem laid_met (os : Os) : laidMet Try.prog Rows.codecNotesBackRow.laid ((holdW os).forCall (fun _ _ => 0) ⟨#[], #[Value.agg #[.int .i64 0, .int .i64 0, .int .i64 0, .slice none 0 0], Value.agg #[.int .i64 0, .int .i64 0, .int .i64 0, .int .i64 0, .int .i64 0, .int .i64 0, .string ByteArray.empty, .string ByteArray.empty, .int .i64 0, .string ByteArray.empty]], []⟩).memory :=
  laidMet_of_run' 8 (by kernel_rfl) (by kernel_rfl)
theorem reads (os : Os) {H : Type} (enc : TypeId × Value → H) : ∃ places, DataW.whole enc Try.prog ((holdW os).forCall (fun _ _ => 0) ⟨#[], #[Value.agg #[.int .i64 0, .int .i64 0, .int .i64 0, .slice none 0 0], Value.agg #[.int .i64 0, .int .i64 0, .int .i64 0, .int .i64 0, .int .i64 0, .int .i64 0, .string ByteArray.empty, .string ByteArray.empty, .int .i64 0, .string ByteArray.empty]], []⟩).memory Try.f5.params.toList Rows.codecNotesBackSpec.vars false #[Value.agg #[.int .i64 0, .int .i64 0, .int .i64 0, .slice none 0 0], Value.agg #[.int .i64 0, .int .i64 0, .int .i64 0, .int .i64 0, .int .i64 0, .int .i64 0, .string ByteArray.empty, .string ByteArray.empty, .int .i64 0, .string ByteArray.empty]].toList 8 = some ([.agg [.lit (.int .i64 0), .lit (.int .i64 0), .lit (.int .i64 0), .nil], .agg [.lit (.int .i64 0), .lit (.int .i64 0), .lit (.int .i64 0), .lit (.int .i64 0), .lit (.int .i64 0), .lit (.int .i64 0), .lit (.string []), .lit (.string []), .lit (.int .i64 0), .lit (.string [])]], [], places) :=
  ⟨[], by kernel_rfl⟩

set_option maxRecDepth 100000 in
theorem lifted (os : Os) (started : os.Started) (H : Type) (enc : TypeId × Value → H) (F : Stop.Interp) :
    ReturnsInHanded {} Try.checked os 5 .any ((OpenSpec.ofChange Rows.codecNotesBackSpec).preRow enc Try.prog Try.f5 Rows.codecNotesBackRow.domain false Rows.codecNotesBackRow.laid) (((OpenSpec.ofChange Rows.codecNotesBackSpec).at F).post enc Try.prog Try.f5 false true false false) := by
  obtain ⟨places, hx⟩ := reads os enc
  refine returnsInHanded_of_row (C := Try.checked) (s := (OpenSpec.ofChange Rows.codecNotesBackSpec)) own started (by kernel_rfl) Try.func5
    (witness_row_at (enc := enc) (C := Try.checked) false (holdW os) #[Value.agg #[.int .i64 0, .int .i64 0, .int .i64 0, .slice none 0 0], Value.agg #[.int .i64 0, .int .i64 0, .int .i64 0, .int .i64 0, .int .i64 0, .int .i64 0, .string ByteArray.empty, .string ByteArray.empty, .int .i64 0, .string ByteArray.empty]] rfl (by kernel_rfl) (by kernel_rfl) (by kernel_rfl)
      (OpenSpec.preRow_of_cond 8 hx (by kernel_rfl) (fun k hk => by cases hk) (by kernel_rfl) (laid_met os))) ?_
  intro W base args ds gs before hval hW hcnd hcond hsz hL hsh _
  exact contract H enc W base args ds gs before hval hW hsz hsh

end Go.Proofs.Yteicfkgcbpioiaa.codecNotesBack
namespace Go.Proofs.Yteicfkgcbpioiaa
theorem codecNotesBack_holds : Rows.CodecNotesBackSaid :=
  OpenClaim.holds_of_cond 5 Try.f5 rfl rfl rfl rfl rfl rfl rfl ⟨rfl, rfl, rfl, rfl, rfl⟩ rfl rfl rfl rfl rfl (by kernel_rfl) Try.func5 (by kernel_rfl)
    (of_decide_eq_true (by kernel_rfl)) (by unfold Func.isWrapper; first | (rw [if_pos (by decide +kernel)]; kernel_rfl) | (rw [if_neg (by decide +kernel)]; exact ⟨rfl, rfl⟩))
    (fun os started H enc _ F => by rw [OpenClaim.pre_eq_preRow]; exact codecNotesBack.lifted os started H enc F)
#print axioms codecNotesBack_holds
end Go.Proofs.Yteicfkgcbpioiaa
