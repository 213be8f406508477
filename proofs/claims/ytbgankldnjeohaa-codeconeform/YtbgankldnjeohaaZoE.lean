/- The texts OneW, TabS, OneL, OneForm, one behind the other. -/
import Derived.Test.YtbgankldnjeohaaZoD
import Derived.Test.YtbgankldnjeohaaLiveG
import Derived.Test.YtbgankldnjeohaaTabW
import Derived.KernelRfl
import Derived.Test.YtbgankldnjeohaaArgs
/- The walk of CodecOneForm: of a letter's form, an event's, a note's, and of what is none. -/
set_option linter.unusedVariables false
set_option linter.unusedSimpArgs false
set_option maxRecDepth 100000
namespace Go.Proofs.Ytbgankldnjeohaa.Pl
open Go.RowKit Go.Proofs.Ytbgankldnjeohaa

set_option maxHeartbeats 4000000 in
theorem one_L (S : ByteArray) (w : World) (k p i s o : Int) (xs : List (List UInt8))
    (CL : Hid (∀ (R : List Res) (wq : World), Hid (Has w.heap.size w R wq) → Calls Try.prog 9 #[.string S] wq fun e w' => ∃ ao cap, e = .returned (.tuple #[.agg #[.int .i64 k, .int .i64 p, .int .i64 i, .int .i64 s, .int .i64 o, .slice ao xs.length cap], .int .i64 0]) ∧ Hid (Has w.heap.size w (TR (.slice ao xs.length cap) xs :: R) w')))
    (CC : Hid (∀ ao cap (R : List Res) (wq : World), Hid (Has w.heap.size w R wq) → TR (.slice ao xs.length cap) xs ∈ R → Calls Try.prog 7 #[.agg #[.int .i64 k, .int .i64 p, .int .i64 i, .int .i64 s, .int .i64 o, .slice ao xs.length cap]] wq fun e w' => e = .returned (.tuple #[.string S, .int .i64 0]) ∧ Hid (Has w.heap.size w R w')))
    (CE : Hid (∀ (R : List Res) (wq : World), Hid (Has w.heap.size w R wq) → Calls Try.prog 15 #[.string S] wq fun e w' => e = .returned (.tuple #[.agg #[.int .i64 0, .int .i64 0, .int .i64 0, .slice none 0 0], .int .i64 70]) ∧ Hid (Has w.heap.size w R w')))
    (CN : Hid (∀ (R : List Res) (wq : World), Hid (Has w.heap.size w R wq) → Calls Try.prog 17 #[.string S] wq fun e w' => e = .returned (.tuple #[.agg #[.int .i64 0, .int .i64 0, .int .i64 0, .int .i64 0, .int .i64 0, .int .i64 0, .string ⟨#[]⟩, .string ⟨#[]⟩, .int .i64 0, .string ⟨#[]⟩], .int .i64 70]) ∧ Hid (Has w.heap.size w R w')))
    (CW : Hid (∀ (R : List Res) (wq : World), Hid (Has w.heap.size w R wq) → Calls Try.prog 11 #[.string S] wq fun e w' => e = .returned (.int .i64 1) ∧ Hid (Has w.heap.size w R w'))) :
    Calls Try.prog 6 #[.string S] w fun e w' => e = .returned (.bool true) ∧ Below w.heap.size w w' := by
  have H0 : Hid (Has w.heap.size w [] w) := Has.start w
  go_enter Try.func6, Try.ntmps6
  go_wp2_with fail
  refine (CL.out _ _ H0).mono ?_
  rintro e u1 ⟨ao, cap, rfl, A1⟩
  clear CL H0
  have B1 : Hid (Has w.heap.size w (BlockR u1.heap.size (vL k p i s o (.slice ao xs.length cap)) :: TR (.slice ao xs.length cap) xs :: []) (u1.alloc (.cells #[.int .i64 k, .int .i64 p, .int .i64 i, .int .i64 s, .int .i64 o, .slice ao xs.length cap] 24))) := A1.out.box (vL k p i s o (.slice ao xs.length cap)) 24
  clear A1
  go_wp2_with fail
  refine (CE.out _ _ B1).mono ?_
  rintro e u2 ⟨rfl, A2⟩
  clear CE B1
  have B2 : Hid (Has w.heap.size w (BlockR u2.heap.size (vV 0 0 0 nilS) :: BlockR u1.heap.size (vL k p i s o (.slice ao xs.length cap)) :: TR (.slice ao xs.length cap) xs :: []) (u2.alloc (.cells #[.int .i64 0, .int .i64 0, .int .i64 0, .slice none 0 0] 39))) := A2.out.box (vV 0 0 0 nilS) 39
  clear A2
  go_wp2_with fail
  refine (CN.out _ _ B2).mono ?_
  rintro e u3 ⟨rfl, A3⟩
  clear CN B2
  have B3 : Hid (Has w.heap.size w (BlockR u3.heap.size zN :: BlockR u2.heap.size (vV 0 0 0 nilS) :: BlockR u1.heap.size (vL k p i s o (.slice ao xs.length cap)) :: TR (.slice ao xs.length cap) xs :: []) (u3.alloc (.cells #[.int .i64 0, .int .i64 0, .int .i64 0, .int .i64 0, .int .i64 0, .int .i64 0, .string ⟨#[]⟩, .string ⟨#[]⟩, .int .i64 0, .string ⟨#[]⟩] 35))) := A3.out.box zN 35
  clear A3
  obtain ⟨x0, _⟩ := B3.out.bcell (q := u1.heap.size) (vs := (vL k p i s o (.slice ao xs.length cap))) (by simp) 0 _ rfl
  obtain ⟨x1, _⟩ := B3.out.bcell (q := u1.heap.size) (vs := (vL k p i s o (.slice ao xs.length cap))) (by simp) 1 _ rfl
  obtain ⟨x2, _⟩ := B3.out.bcell (q := u1.heap.size) (vs := (vL k p i s o (.slice ao xs.length cap))) (by simp) 2 _ rfl
  obtain ⟨x3, _⟩ := B3.out.bcell (q := u1.heap.size) (vs := (vL k p i s o (.slice ao xs.length cap))) (by simp) 3 _ rfl
  obtain ⟨x4, _⟩ := B3.out.bcell (q := u1.heap.size) (vs := (vL k p i s o (.slice ao xs.length cap))) (by simp) 4 _ rfl
  obtain ⟨x5, _⟩ := B3.out.bcell (q := u1.heap.size) (vs := (vL k p i s o (.slice ao xs.length cap))) (by simp) 5 _ rfl
  go_wp2_with fail
  refine (CC.out ao cap _ _ B3 (by simp)).mono ?_
  rintro e u4 ⟨rfl, B4⟩
  clear CC B3 x0 x1 x2 x3 x4 x5
  go_wp2_with fail
  refine (CW.out _ _ B4).mono ?_
  rintro e u5 ⟨rfl, B5⟩
  clear CW B4
  go_wp2_with fail
  refine (live_any _).mono ?_
  rintro e u6 ⟨rfl, hb⟩
  have HZ : Hid (Below w.heap.size w u6) := B5.out.bel.trans (hb.mono B5.out.size)
  clear B5 hb
  go_wp2_with fail
  go_ret
  exact ⟨rfl, HZ.out⟩
set_option maxHeartbeats 4000000 in
theorem one_E (S : ByteArray) (w : World) (k i s : Int) (xs : List (List UInt8))
    (CL : Hid (∀ (R : List Res) (wq : World), Hid (Has w.heap.size w R wq) → Calls Try.prog 9 #[.string S] wq fun e w' => e = .returned (.tuple #[.agg #[.int .i64 0, .int .i64 0, .int .i64 0, .int .i64 0, .int .i64 0, .slice none 0 0], .int .i64 70]) ∧ Hid (Has w.heap.size w R w')))
    (CE : Hid (∀ (R : List Res) (wq : World), Hid (Has w.heap.size w R wq) → Calls Try.prog 15 #[.string S] wq fun e w' => ∃ ao cap, e = .returned (.tuple #[.agg #[.int .i64 k, .int .i64 i, .int .i64 s, .slice ao xs.length cap], .int .i64 0]) ∧ Hid (Has w.heap.size w (TR (.slice ao xs.length cap) xs :: R) w')))
    (CC : Hid (∀ ao cap (R : List Res) (wq : World), Hid (Has w.heap.size w R wq) → TR (.slice ao xs.length cap) xs ∈ R → Calls Try.prog 14 #[.agg #[.int .i64 k, .int .i64 i, .int .i64 s, .slice ao xs.length cap]] wq fun e w' => e = .returned (.tuple #[.string S, .int .i64 0]) ∧ Hid (Has w.heap.size w R w')))
    (CN : Hid (∀ (R : List Res) (wq : World), Hid (Has w.heap.size w R wq) → Calls Try.prog 17 #[.string S] wq fun e w' => e = .returned (.tuple #[.agg #[.int .i64 0, .int .i64 0, .int .i64 0, .int .i64 0, .int .i64 0, .int .i64 0, .string ⟨#[]⟩, .string ⟨#[]⟩, .int .i64 0, .string ⟨#[]⟩], .int .i64 70]) ∧ Hid (Has w.heap.size w R w')))
    (CW : Hid (∀ (R : List Res) (wq : World), Hid (Has w.heap.size w R wq) → Calls Try.prog 11 #[.string S] wq fun e w' => e = .returned (.int .i64 2) ∧ Hid (Has w.heap.size w R w'))) :
    Calls Try.prog 6 #[.string S] w fun e w' => e = .returned (.bool true) ∧ Below w.heap.size w w' := by
  have H0 : Hid (Has w.heap.size w [] w) := Has.start w
  go_enter Try.func6, Try.ntmps6
  go_wp2_with fail
  refine (CL.out _ _ H0).mono ?_
  rintro e u1 ⟨rfl, A1⟩
  clear CL H0
  have B1 : Hid (Has w.heap.size w (BlockR u1.heap.size (vL 0 0 0 0 0 nilS) :: []) (u1.alloc (.cells #[.int .i64 0, .int .i64 0, .int .i64 0, .int .i64 0, .int .i64 0, .slice none 0 0] 24))) := A1.out.box (vL 0 0 0 0 0 nilS) 24
  clear A1
  go_wp2_with fail
  refine (CE.out _ _ B1).mono ?_
  rintro e u2 ⟨ao, cap, rfl, A2⟩
  clear CE B1
  have B2 : Hid (Has w.heap.size w (BlockR u2.heap.size (vV k i s (.slice ao xs.length cap)) :: TR (.slice ao xs.length cap) xs :: BlockR u1.heap.size (vL 0 0 0 0 0 nilS) :: []) (u2.alloc (.cells #[.int .i64 k, .int .i64 i, .int .i64 s, .slice ao xs.length cap] 39))) := A2.out.box (vV k i s (.slice ao xs.length cap)) 39
  clear A2
  go_wp2_with fail
  refine (CN.out _ _ B2).mono ?_
  rintro e u3 ⟨rfl, A3⟩
  clear CN B2
  have B3 : Hid (Has w.heap.size w (BlockR u3.heap.size zN :: BlockR u2.heap.size (vV k i s (.slice ao xs.length cap)) :: TR (.slice ao xs.length cap) xs :: BlockR u1.heap.size (vL 0 0 0 0 0 nilS) :: []) (u3.alloc (.cells #[.int .i64 0, .int .i64 0, .int .i64 0, .int .i64 0, .int .i64 0, .int .i64 0, .string ⟨#[]⟩, .string ⟨#[]⟩, .int .i64 0, .string ⟨#[]⟩] 35))) := A3.out.box zN 35
  clear A3
  obtain ⟨x0, _⟩ := B3.out.bcell (q := u2.heap.size) (vs := (vV k i s (.slice ao xs.length cap))) (by simp) 0 _ rfl
  obtain ⟨x1, _⟩ := B3.out.bcell (q := u2.heap.size) (vs := (vV k i s (.slice ao xs.length cap))) (by simp) 1 _ rfl
  obtain ⟨x2, _⟩ := B3.out.bcell (q := u2.heap.size) (vs := (vV k i s (.slice ao xs.length cap))) (by simp) 2 _ rfl
  obtain ⟨x3, _⟩ := B3.out.bcell (q := u2.heap.size) (vs := (vV k i s (.slice ao xs.length cap))) (by simp) 3 _ rfl
  go_wp2_with fail
  refine (CC.out ao cap _ _ B3 (by simp)).mono ?_
  rintro e u4 ⟨rfl, B4⟩
  clear CC B3 x0 x1 x2 x3
  go_wp2_with fail
  refine (CW.out _ _ B4).mono ?_
  rintro e u5 ⟨rfl, B5⟩
  clear CW B4
  go_wp2_with fail
  refine (live_any _).mono ?_
  rintro e u6 ⟨rfl, hb⟩
  have HZ : Hid (Below w.heap.size w u6) := B5.out.bel.trans (hb.mono B5.out.size)
  clear B5 hb
  go_wp2_with fail
  go_ret
  exact ⟨rfl, HZ.out⟩
set_option maxHeartbeats 4000000 in
theorem one_N (S : ByteArray) (w : World) (k i s t p c : Int) (K M : ByteArray) (v : Int) (X : ByteArray)
    (CL : Hid (∀ (R : List Res) (wq : World), Hid (Has w.heap.size w R wq) → Calls Try.prog 9 #[.string S] wq fun e w' => e = .returned (.tuple #[.agg #[.int .i64 0, .int .i64 0, .int .i64 0, .int .i64 0, .int .i64 0, .slice none 0 0], .int .i64 70]) ∧ Hid (Has w.heap.size w R w')))
    (CE : Hid (∀ (R : List Res) (wq : World), Hid (Has w.heap.size w R wq) → Calls Try.prog 15 #[.string S] wq fun e w' => e = .returned (.tuple #[.agg #[.int .i64 0, .int .i64 0, .int .i64 0, .slice none 0 0], .int .i64 70]) ∧ Hid (Has w.heap.size w R w')))
    (CN : Hid (∀ (R : List Res) (wq : World), Hid (Has w.heap.size w R wq) → Calls Try.prog 17 #[.string S] wq fun e w' => e = .returned (.tuple #[.agg #[.int .i64 k, .int .i64 i, .int .i64 s, .int .i64 t, .int .i64 p, .int .i64 c, .string K, .string M, .int .i64 v, .string X], .int .i64 0]) ∧ Hid (Has w.heap.size w R w')))
    (CC : Hid (∀ (R : List Res) (wq : World), Hid (Has w.heap.size w R wq) → Calls Try.prog 12 #[.agg #[.int .i64 k, .int .i64 i, .int .i64 s, .int .i64 t, .int .i64 p, .int .i64 c, .string K, .string M, .int .i64 v, .string X]] wq fun e w' => e = .returned (.tuple #[.string S, .int .i64 0]) ∧ Hid (Has w.heap.size w R w')))
    (CW : Hid (∀ (R : List Res) (wq : World), Hid (Has w.heap.size w R wq) → Calls Try.prog 11 #[.string S] wq fun e w' => e = .returned (.int .i64 3) ∧ Hid (Has w.heap.size w R w'))) :
    Calls Try.prog 6 #[.string S] w fun e w' => e = .returned (.bool true) ∧ Below w.heap.size w w' := by
  have H0 : Hid (Has w.heap.size w [] w) := Has.start w
  go_enter Try.func6, Try.ntmps6
  go_wp2_with fail
  refine (CL.out _ _ H0).mono ?_
  rintro e u1 ⟨rfl, A1⟩
  clear CL H0
  have B1 : Hid (Has w.heap.size w (BlockR u1.heap.size (vL 0 0 0 0 0 nilS) :: []) (u1.alloc (.cells #[.int .i64 0, .int .i64 0, .int .i64 0, .int .i64 0, .int .i64 0, .slice none 0 0] 24))) := A1.out.box (vL 0 0 0 0 0 nilS) 24
  clear A1
  go_wp2_with fail
  refine (CE.out _ _ B1).mono ?_
  rintro e u2 ⟨rfl, A2⟩
  clear CE B1
  have B2 : Hid (Has w.heap.size w (BlockR u2.heap.size (vV 0 0 0 nilS) :: BlockR u1.heap.size (vL 0 0 0 0 0 nilS) :: []) (u2.alloc (.cells #[.int .i64 0, .int .i64 0, .int .i64 0, .slice none 0 0] 39))) := A2.out.box (vV 0 0 0 nilS) 39
  clear A2
  go_wp2_with fail
  refine (CN.out _ _ B2).mono ?_
  rintro e u3 ⟨rfl, A3⟩
  clear CN B2
  have B3 : Hid (Has w.heap.size w (BlockR u3.heap.size (vF k i s t p c K M v X) :: BlockR u2.heap.size (vV 0 0 0 nilS) :: BlockR u1.heap.size (vL 0 0 0 0 0 nilS) :: []) (u3.alloc (.cells #[.int .i64 k, .int .i64 i, .int .i64 s, .int .i64 t, .int .i64 p, .int .i64 c, .string K, .string M, .int .i64 v, .string X] 35))) := A3.out.box (vF k i s t p c K M v X) 35
  clear A3
  obtain ⟨x0, _⟩ := B3.out.bcell (q := u3.heap.size) (vs := (vF k i s t p c K M v X)) (by simp) 0 _ rfl
  obtain ⟨x1, _⟩ := B3.out.bcell (q := u3.heap.size) (vs := (vF k i s t p c K M v X)) (by simp) 1 _ rfl
  obtain ⟨x2, _⟩ := B3.out.bcell (q := u3.heap.size) (vs := (vF k i s t p c K M v X)) (by simp) 2 _ rfl
  obtain ⟨x3, _⟩ := B3.out.bcell (q := u3.heap.size) (vs := (vF k i s t p c K M v X)) (by simp) 3 _ rfl
  obtain ⟨x4, _⟩ := B3.out.bcell (q := u3.heap.size) (vs := (vF k i s t p c K M v X)) (by simp) 4 _ rfl
  obtain ⟨x5, _⟩ := B3.out.bcell (q := u3.heap.size) (vs := (vF k i s t p c K M v X)) (by simp) 5 _ rfl
  obtain ⟨x6, _⟩ := B3.out.bcell (q := u3.heap.size) (vs := (vF k i s t p c K M v X)) (by simp) 6 _ rfl
  obtain ⟨x7, _⟩ := B3.out.bcell (q := u3.heap.size) (vs := (vF k i s t p c K M v X)) (by simp) 7 _ rfl
  obtain ⟨x8, _⟩ := B3.out.bcell (q := u3.heap.size) (vs := (vF k i s t p c K M v X)) (by simp) 8 _ rfl
  obtain ⟨x9, _⟩ := B3.out.bcell (q := u3.heap.size) (vs := (vF k i s t p c K M v X)) (by simp) 9 _ rfl
  go_wp2_with fail
  refine (CC.out _ _ B3).mono ?_
  rintro e u4 ⟨rfl, B4⟩
  clear CC B3 x0 x1 x2 x3 x4 x5 x6 x7 x8 x9
  go_wp2_with fail
  refine (CW.out _ _ B4).mono ?_
  rintro e u5 ⟨rfl, B5⟩
  clear CW B4
  go_wp2_with fail
  refine (live_any _).mono ?_
  rintro e u6 ⟨rfl, hb⟩
  have HZ : Hid (Below w.heap.size w u6) := B5.out.bel.trans (hb.mono B5.out.size)
  clear B5 hb
  go_wp2_with fail
  go_ret
  exact ⟨rfl, HZ.out⟩
set_option maxHeartbeats 4000000 in
theorem one_0 (S : ByteArray) (w : World) 
    (CL : Hid (∀ (R : List Res) (wq : World), Hid (Has w.heap.size w R wq) → Calls Try.prog 9 #[.string S] wq fun e w' => e = .returned (.tuple #[.agg #[.int .i64 0, .int .i64 0, .int .i64 0, .int .i64 0, .int .i64 0, .slice none 0 0], .int .i64 70]) ∧ Hid (Has w.heap.size w R w')))
    (CE : Hid (∀ (R : List Res) (wq : World), Hid (Has w.heap.size w R wq) → Calls Try.prog 15 #[.string S] wq fun e w' => e = .returned (.tuple #[.agg #[.int .i64 0, .int .i64 0, .int .i64 0, .slice none 0 0], .int .i64 70]) ∧ Hid (Has w.heap.size w R w')))
    (CN : Hid (∀ (R : List Res) (wq : World), Hid (Has w.heap.size w R wq) → Calls Try.prog 17 #[.string S] wq fun e w' => e = .returned (.tuple #[.agg #[.int .i64 0, .int .i64 0, .int .i64 0, .int .i64 0, .int .i64 0, .int .i64 0, .string ⟨#[]⟩, .string ⟨#[]⟩, .int .i64 0, .string ⟨#[]⟩], .int .i64 70]) ∧ Hid (Has w.heap.size w R w')))
    (CW : Hid (∀ (R : List Res) (wq : World), Hid (Has w.heap.size w R wq) → Calls Try.prog 11 #[.string S] wq fun e w' => e = .returned (.int .i64 0) ∧ Hid (Has w.heap.size w R w'))) :
    Calls Try.prog 6 #[.string S] w fun e w' => e = .returned (.bool true) ∧ Below w.heap.size w w' := by
  have H0 : Hid (Has w.heap.size w [] w) := Has.start w
  go_enter Try.func6, Try.ntmps6
  go_wp2_with fail
  refine (CL.out _ _ H0).mono ?_
  rintro e u1 ⟨rfl, A1⟩
  clear CL H0
  have B1 : Hid (Has w.heap.size w (BlockR u1.heap.size (vL 0 0 0 0 0 nilS) :: []) (u1.alloc (.cells #[.int .i64 0, .int .i64 0, .int .i64 0, .int .i64 0, .int .i64 0, .slice none 0 0] 24))) := A1.out.box (vL 0 0 0 0 0 nilS) 24
  clear A1
  go_wp2_with fail
  refine (CE.out _ _ B1).mono ?_
  rintro e u2 ⟨rfl, A2⟩
  clear CE B1
  have B2 : Hid (Has w.heap.size w (BlockR u2.heap.size (vV 0 0 0 nilS) :: BlockR u1.heap.size (vL 0 0 0 0 0 nilS) :: []) (u2.alloc (.cells #[.int .i64 0, .int .i64 0, .int .i64 0, .slice none 0 0] 39))) := A2.out.box (vV 0 0 0 nilS) 39
  clear A2
  go_wp2_with fail
  refine (CN.out _ _ B2).mono ?_
  rintro e u3 ⟨rfl, A3⟩
  clear CN B2
  have B3 : Hid (Has w.heap.size w (BlockR u3.heap.size zN :: BlockR u2.heap.size (vV 0 0 0 nilS) :: BlockR u1.heap.size (vL 0 0 0 0 0 nilS) :: []) (u3.alloc (.cells #[.int .i64 0, .int .i64 0, .int .i64 0, .int .i64 0, .int .i64 0, .int .i64 0, .string ⟨#[]⟩, .string ⟨#[]⟩, .int .i64 0, .string ⟨#[]⟩] 35))) := A3.out.box zN 35
  clear A3
  go_wp2_with fail
  refine (CW.out _ _ B3).mono ?_
  rintro e u5 ⟨rfl, B5⟩
  clear CW B3
  go_wp2_with fail
  refine (live_any _).mono ?_
  rintro e u6 ⟨rfl, hb⟩
  have HZ : Hid (Below w.heap.size w u6) := B5.out.bel.trans (hb.mono B5.out.size)
  clear B5 hb
  go_wp2_with fail
  go_ret
  exact ⟨rfl, HZ.out⟩
end Go.Proofs.Ytbgankldnjeohaa.Pl

/- The two tables hold something, in any world that a row speaks of. -/
set_option linter.unusedVariables false
set_option maxRecDepth 1000000
namespace Go.Proofs.Ytbgankldnjeohaa
open Go.RowKit

theorem zero_first : ((begin Try.prog (fun _ _ => 0) default).world.heap[0]?).bind Obj.row? = some (Array.replicate 256 (.int .u8 0), 120) := by kernel_rfl
theorem zero_accept : ((begin Try.prog (fun _ _ => 0) default).world.heap[1]?).bind Obj.row? = some (Array.replicate 32 (.int .u8 0), 124) := by kernel_rfl
theorem types_first : Try.prog.cellTypes Try.prog.depth 120 = some (List.replicate 256 5) := by kernel_rfl
theorem types_accept : Try.prog.cellTypes Try.prog.depth 124 = some (List.replicate 32 5) := by kernel_rfl
theorem build_first : Try.prog.buildable 120 = true := by kernel_rfl
theorem build_accept : Try.prog.buildable 124 = true := by kernel_rfl
theorem row_u8 {W : World} {g N : Nat} {t : TypeId} {cs : Array Value} (hN : 0 < N) (hh : W.heap[g]? = some (.cells cs t)) (hs : cs.size = N) (ht : Try.prog.cellTypes Try.prog.depth t = some (List.replicate N 5)) (hr : Row.ok Try.prog W .any 0 t cs) (j : Nat) (hj : j < N) :
    ∃ n : Nat, W.cell? ⟨g, j, none⟩ = some (.int .u8 (n : Int)) ∧ n < 256 := by
  obtain ⟨ts, hts, _, hall⟩ := hr
  rw [ht] at hts
  cases hts
  have hjc : j < cs.size := by omega
  obtain ⟨u, hu, hok⟩ := hall j cs[j] (by simp [hjc])
  rw [List.length_replicate, Nat.mod_eq_of_lt hj] at hu
  have hu2 : u = 5 := by
    rw [List.getElem?_replicate] at hu
    simp [hj] at hu
    exact hu.symm
  subst hu2
  have hcell : W.cell? ⟨g, j, none⟩ = some cs[j] := by simp [World.cell?, hh, hjc]
  rw [hcell]
  unfold Cell.ok at hok
  rw [Try.underlying5] at hok
  cases hv : cs[j] <;> rw [hv] at hok <;> simp at hok
  case int k' n =>
    obtain ⟨rfl, h2⟩ := hok
    have h3 : 0 ≤ n ∧ n ≤ 255 := h2
    exact ⟨n.toNat, by rw [Int.toNat_of_nonneg h3.1], by omega⟩
def val (W : World) (g j : Nat) : Nat := match W.cell? ⟨g, j, none⟩ with
  | some (.int _ n) => n.toNat
  | _ => 0
theorem val_of {W : World} {g j n : Nat} (h : W.cell? ⟨g, j, none⟩ = some (.int .u8 (n : Int))) : val W g j = n := by unfold val; rw [h]; simp
theorem tabs_of_shape {W : World} (h : W.ShapedOpen Try.prog) : ∃ t : Tb, TabX t W ∧ (0 < W.heap.size ∧ 1 < W.heap.size) := by
  obtain ⟨cs, h1, h2, h3⟩ := h.1 0 _ _ (by decide +kernel) zero_first
  obtain ⟨ds, k1, k2, k3⟩ := h.1 1 _ _ (by decide +kernel) zero_accept
  have R1 := row_u8 (N := 256) (by omega) h1 (by rw [h2, Array.size_replicate]) types_first (h3 build_first)
  have R2 := row_u8 (N := 32) (by omega) k1 (by rw [k2, Array.size_replicate]) types_accept (k3 build_accept)
  refine ⟨⟨fun c => val W 0 c, fun i => val W 1 (2 * i), fun i => val W 1 (2 * i + 1)⟩, ⟨fun c hc => ?_, fun i hi => ⟨?_, ?_⟩⟩, ?_, ?_⟩
  · obtain ⟨n, hn, hl⟩ := R1 c hc
    show W.cell? _ = some (.int .u8 ((val W 0 c : Nat) : Int)) ∧ val W 0 c < 256
    rw [val_of hn]
    exact ⟨hn, hl⟩
  · obtain ⟨n, hn, hl⟩ := R2 (2 * i) (by omega)
    show W.cell? _ = some (.int .u8 ((val W 1 (2 * i) : Nat) : Int))
    rw [val_of hn]
    exact hn
  · obtain ⟨n, hn, hl⟩ := R2 (2 * i + 1) (by omega)
    show W.cell? _ = some (.int .u8 ((val W 1 (2 * i + 1) : Nat) : Int))
    rw [val_of hn]
    exact hn
  · exact (Array.getElem?_eq_some_iff.1 h1).1
  · exact (Array.getElem?_eq_some_iff.1 k1).1
end Go.Proofs.Ytbgankldnjeohaa

/- CodecOneForm of any text, at tables of any content. -/
set_option linter.unusedVariables false
set_option linter.unusedSimpArgs false
set_option maxRecDepth 100000
namespace Go.Proofs.Ytbgankldnjeohaa.Pl
open Go.RowKit Go.Proofs.Ytbgankldnjeohaa

theorem bstr_of {S : ByteArray} {l : List UInt8} (he : S.data.toList = l) : bstr l = .string S := by
  subst he
  simp [bstr]
theorem codecOneForm_walk (t : Tb) (S : ByteArray) (hS : S.size ≤ 140737488351232) (w : World)
    (hT : TabX t w) (hlow : 0 < w.heap.size ∧ 1 < w.heap.size) :
    Calls Try.prog 6 #[.string S] w fun e w' => e = .returned (.bool true) ∧ Below w.heap.size w w' := by
  have z : S.size ≤ 4611686018427387904 := by omega
  have low : ∀ wq : World, w.heap.size ≤ wq.heap.size → Hid (0 < wq.heap.size ∧ 1 < wq.heap.size) := fun wq h => ⟨Nat.lt_of_lt_of_le hlow.1 h, Nat.lt_of_lt_of_le hlow.2 h⟩
  have tab : ∀ wq : World, Below w.heap.size w wq → Hid (TabX t wq) := fun wq h => hT.below h hlow
  have T0 := tab w (Below.refl _ _)
  have L0 := low w (Nat.le_refl _)
  rcases read_four t S z with ⟨k, p, i, s, o, xs, hm, he⟩ | ⟨k, i, s, xs, hm, he⟩ | ⟨k, i, s, x, p, c, K, M, v, X, hX, hm, he⟩ | hN
  · have hb := bstr_of he
    refine one_L S w (k : Int) p i s o xs
      (fun R wq hq => readLetter_ok t z T0 L0 hm he hq.out)
      (fun ao cap R wq hq hmem => ?_)
      (fun R wq hq => readEvent_not (fun rs wr h => (readL_ok t z T0 L0 hm he h.out).mono fun e w' ⟨ao, cap, he, hh⟩ => ⟨_, ta_l_e _, he, hh.out.drop⟩) hq.out)
      (fun R wq hq => readNote_not (fun rs wr h => (readL_ok t z T0 L0 hm he h.out).mono fun e w' ⟨ao, cap, he, hh⟩ => ⟨_, ta_l_n _, he, hh.out.drop⟩) hq.out)
      (fun R wq hq => whatL_ok t z T0 L0 hm he hq.out)
    have x := letter_yes t k p i s o _ xs wq (tab wq hq.out.bel) (low wq hq.out.size) (hq.out.srowT hmem) hm
    rw [hb] at x
    exact x.mono fun e w' ⟨he, hb⟩ => ⟨he, hq.out.below hb⟩
  · have hb := bstr_of he
    refine one_E S w (k : Int) i s xs
      (fun R wq hq => readLetter_not (fun rs wr h => (readE_ok t z T0 L0 hm he h.out).mono fun e w' ⟨ao, cap, he, hh⟩ => ⟨_, ta_letter _, he, hh.out.drop⟩) hq.out)
      (fun R wq hq => readEvent_ok t z T0 L0 hm he hq.out)
      (fun ao cap R wq hq hmem => ?_)
      (fun R wq hq => readNote_not (fun rs wr h => (readE_ok t z T0 L0 hm he h.out).mono fun e w' ⟨ao, cap, he, hh⟩ => ⟨_, ta_e_n _, he, hh.out.drop⟩) hq.out)
      (fun R wq hq => whatE_ok t z T0 L0 hm he hq.out)
    have x := event_yes t k i s _ xs wq (tab wq hq.out.bel) (low wq hq.out.size) (hq.out.srowT hmem) hm
    rw [hb] at x
    exact x.mono fun e w' ⟨he, hb⟩ => ⟨he, hq.out.below hb⟩
  · have hb := bstr_of he
    have hG := goodF k i s x p c K M v X (by omega) hm
    refine one_N S w (k : Int) i s x p c K M v X
      (fun R wq hq => readLetter_not (fun rs wr h => (readN_ok z hG he h.out).mono fun e w' ⟨he, hh⟩ => ⟨_, ta_note_letter _, he, hh⟩) hq.out)
      (fun R wq hq => readEvent_not (fun rs wr h => (readN_ok z hG he h.out).mono fun e w' ⟨he, hh⟩ => ⟨_, ta_note_event _, he, hh⟩) hq.out)
      (fun R wq hq => readNoteN_ok z hG he hq.out)
      (fun R wq hq => ?_)
      (fun R wq hq => whatN_ok z hG he hq.out)
    have x := hG.1 wq
    rw [hb] at x
    exact x.mono fun e w' ⟨he, hb⟩ => ⟨he, hq.out.below hb⟩
  · exact one_0 S w
      (fun R wq hq => readLetter_not (fun rs wr h => (hN _ _ _ _ T0 L0 h).mono fun e w' ⟨he, hh⟩ => ⟨_, ta_nil_letter, he, hh⟩) hq.out)
      (fun R wq hq => readEvent_not (fun rs wr h => (hN _ _ _ _ T0 L0 h).mono fun e w' ⟨he, hh⟩ => ⟨_, ta_nil_event, he, hh⟩) hq.out)
      (fun R wq hq => readNote_not (fun rs wr h => (hN _ _ _ _ T0 L0 h).mono fun e w' ⟨he, hh⟩ => ⟨_, ta_nil_note, he, hh⟩) hq.out)
      (fun R wq hq => what_nil (hN _ _ _ _ T0 L0 hq))
end Go.Proofs.Ytbgankldnjeohaa.Pl

/- For every text, and whatever the tables of unicode/utf8 hold: at most one of a letter, an event and a note is read out of it, What tells which, and what was read, written again, is the text (P7.4). No conditions. -/
set_option linter.unusedVariables false
set_option maxRecDepth 100000
namespace Go.Proofs.Ytbgankldnjeohaa.codecOneForm
open Go.ChangeShapes Go.WideShapes Go.ChangeAt Go.RowKit
open Go.ChangeMaps (open_string shut_string)

theorem contract (H : Type) (enc : TypeId × Value → H) (W : World) (base : Nat) (args : Array Value) (ds gs : List (DataW H)) (before : List MemPlace)
    (hval : ∀ (j : Nat) t v, Try.f6.params[j]? = some t → args[j]? = some v → Value.okWide Try.prog W .any base t v)
    (hW : DataW.Whole enc Try.prog Try.f6.params.toList Rows.codecOneFormSpec.vars false W args.toList ds gs before)
    (hsz : (DataW.weightsEach Try.prog (Try.f6.params.toList ++ (OpenSpec.ofChange Rows.codecOneFormSpec).bare.plain.varTypes Try.prog) (ds ++ gs)).all (· ≤ reachBytes) = true) (hsh : W.ShapedOpen Try.prog) :
    Calls Try.prog 6 args W fun e W' => ∃ v, e = .returned v ∧ Rows.codecOneFormSpec.post enc Try.prog Try.f6 false true false false W args v W' := by
  have hW' := hW
  have hlt := hW.lt
  obtain ⟨p, q, hA0, hV, rfl, hfz, hnd⟩ := hW
  have hA : DataW.TrodAll enc Try.prog W 0 (fun _ => true) true Try.f6.params.toList args.toList ds p := hA0
  rw [Try.params6] at hA hval hsz
  obtain ⟨v0, vs0, d0, ds0, p0, q0, hargs, rfl, rfl, h0, r0⟩ := trodAll_cons hA
  obtain ⟨rfl, rfl, rfl⟩ := trodAll_nil r0
  obtain rfl : args = #[v0] := by cases args; simp_all
  obtain ⟨rfl, rfl⟩ := trodVars_none hV
  have g0 := h0
  obtain ⟨s0, rfl, rfl, rfl, hs0⟩ := open_string Try.underlying9 (hval 0 9 v0 rfl rfl) h0
  have hz0 : s0.size ≤ 140737488351232 := (sized_string hsz (j := 0) rfl rfl : s0.data.toList.length ≤ reachBytes)
  clear hA0 hfz hnd
  simp only [List.append_nil] at hW' hlt
  obtain ⟨t, hT, hlow⟩ := tabs_of_shape hsh
  refine (Pl.codecOneForm_walk t s0 hz0 W hT hlow).mono fun e W' ⟨he, bel⟩ => ?_
  subst he
  exact ⟨_, rfl, _, _, _, [], _, [], hW', trodAll_cons_mk (shut_bool Try.underlying4 _) trodAll_mk0, (trodAll_cons_mk (WideElems.Trod_stays Try.laidOut (by kernel_rfl) (by decide +kernel) h0 (fun p hp => by cases hp) (fun p hp => by cases hp)) trodAll_mk0), rfl, bel.frame _, fun h => by cases h⟩

theorem laid_met (os : Os) : laidMet Try.prog Rows.codecOneFormRow.laid ((holdW os).forCall (fun _ _ => 0) ⟨#[], #[Value.string ByteArray.empty], []⟩).memory :=
  laidMet_of_run' 8 (by kernel_rfl) (by kernel_rfl)
theorem reads (os : Os) {H : Type} (enc : TypeId × Value → H) : ∃ places, DataW.whole enc Try.prog ((holdW os).forCall (fun _ _ => 0) ⟨#[], #[Value.string ByteArray.empty], []⟩).memory Try.f6.params.toList Rows.codecOneFormSpec.vars false #[Value.string ByteArray.empty].toList 8 = some ([.lit (.string [])], [], places) :=
  ⟨[], by kernel_rfl⟩

set_option maxRecDepth 100000 in
theorem lifted (os : Os) (started : os.Started) (H : Type) (enc : TypeId × Value → H) (F : Stop.Interp) :
    ReturnsInHanded {} Try.checked os 6 .any ((OpenSpec.ofChange Rows.codecOneFormSpec).preRow enc Try.prog Try.f6 Rows.codecOneFormRow.domain false Rows.codecOneFormRow.laid) (((OpenSpec.ofChange Rows.codecOneFormSpec).at F).post enc Try.prog Try.f6 false true false false) := by
  obtain ⟨places, hx⟩ := reads os enc
  refine returnsInHanded_of_row (C := Try.checked) (s := (OpenSpec.ofChange Rows.codecOneFormSpec)) own started (by kernel_rfl) Try.func6
    (witness_row_at (enc := enc) (C := Try.checked) false (holdW os) #[Value.string ByteArray.empty] rfl (by kernel_rfl) (by kernel_rfl) (by kernel_rfl)
      (OpenSpec.preRow_of_cond 8 hx (by kernel_rfl) (fun k hk => by cases hk) (by kernel_rfl) (laid_met os))) ?_
  intro W base args ds gs before hval hW hcnd hcond hsz hL hsh _
  exact contract H enc W base args ds gs before hval hW hsz hsh

end Go.Proofs.Ytbgankldnjeohaa.codecOneForm
namespace Go.Proofs.Ytbgankldnjeohaa
theorem codecOneForm_holds : Rows.CodecOneFormSaid :=
  OpenClaim.holds_of_cond 6 Try.f6 rfl rfl rfl rfl rfl rfl rfl ⟨rfl, rfl, rfl, rfl, rfl⟩ rfl rfl rfl rfl rfl (by kernel_rfl) Try.func6 (by kernel_rfl)
    (of_decide_eq_true (by kernel_rfl)) (by unfold Func.isWrapper; first | (rw [if_pos (by decide +kernel)]; kernel_rfl) | (rw [if_neg (by decide +kernel)]; exact ⟨rfl, rfl⟩))
    (fun os started H enc _ F => by rw [OpenClaim.pre_eq_preRow]; exact codecOneForm.lifted os started H enc F)
#print axioms codecOneForm_holds
end Go.Proofs.Ytbgankldnjeohaa
