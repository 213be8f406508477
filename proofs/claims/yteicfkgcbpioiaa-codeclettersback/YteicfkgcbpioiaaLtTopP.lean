/- ReadLetter and What of a letter's form; ReadLetter of what is none. -/
import Derived.Test.YteicfkgcbpioiaaLtGetP
import Derived.Test.YteicfkgcbpioiaaZzE
set_option linter.unusedVariables false
set_option linter.unusedSimpArgs false
set_option maxRecDepth 100000
namespace Go.Proofs.Yteicfkgcbpioiaa.Pl
open Go.RowKit Go.Proofs.Yteicfkgcbpioiaa

theorem ta_letter2 (x : Array Value) (w : World) : (Instr.typeAssert (.iface 52 (.agg x)) 55 52 true).run Try.prog w = .ok (.tuple #[.agg x, .bool true]) w := by kernel_rfl
section
variable {B : Nat} {w wr : World} {rs : List Res}
theorem whatL_ok (t : Tb) {k p i s o : Nat} {S : ByteArray} {xs : List (List UInt8)} (hS : S.size ≤ 4611686018427387904) (hT : Hid (TabX t w)) (hlow : Hid (1 < B ∧ 2 < B)) (hm : ltMay t k p i s o xs = true) (he : S.data.toList = ltL k p i s o xs) (h : Has B w rs wr) :
    Calls Try.prog 12 #[.string S] wr fun e w' => e = .returned (.int .i64 1) ∧ Hid (Has B w rs w') := by
  have D1 : Hid (Calls Try.prog 21 #[.string S] wr fun e w' => ∃ ao cap, e = .returned (.iface 52 (.agg #[.int .i64 (k : Int), .int .i64 (p : Int), .int .i64 (i : Int), .int .i64 (s : Int), .int .i64 (o : Int), .slice ao xs.length cap])) ∧ Hid (Has B w (TR (.slice ao xs.length cap) xs :: rs) w')) := readL_ok t hS hT hlow hm he h
  have hta := ta_letter2
  clear h he hm
  go_enter Try.func12, Try.ntmps12
  go_wp2_with fail
  refine D1.out.mono ?_
  rintro e w2 ⟨ao, cap, rfl, H2⟩
  clear D1
  go_wp2_with fail
  go_ret
  exact ⟨rfl, H2.out.drop⟩
set_option maxHeartbeats 2000000 in
theorem readLetter_ok (t : Tb) {k p i s o : Nat} {S : ByteArray} {xs : List (List UInt8)} (hS : S.size ≤ 4611686018427387904) (hT : Hid (TabX t w)) (hlow : Hid (1 < B ∧ 2 < B)) (hm : ltMay t k p i s o xs = true) (he : S.data.toList = ltL k p i s o xs) (h : Has B w rs wr) :
    Calls Try.prog 10 #[.string S] wr fun e w' => ∃ ao cap, e = .returned (.tuple #[.agg #[.int .i64 (k : Int), .int .i64 (p : Int), .int .i64 (i : Int), .int .i64 (s : Int), .int .i64 (o : Int), .slice ao xs.length cap], .int .i64 0]) ∧ Hid (Has B w (TR (.slice ao xs.length cap) xs :: rs) w') := by
  have H0 : Hid (Has B w (BlockR wr.heap.size (vL 0 0 0 0 0 nilS) :: rs) (wr.alloc (.cells #[.int .i64 0, .int .i64 0, .int .i64 0, .int .i64 0, .int .i64 0, .slice none 0 0] 31))) := h.box (vL 0 0 0 0 0 nilS) 31
  have D1 : Hid (Calls Try.prog 21 #[.string S] (wr.alloc (.cells #[.int .i64 0, .int .i64 0, .int .i64 0, .int .i64 0, .int .i64 0, .slice none 0 0] 31)) fun e w' => ∃ ao cap, e = .returned (.iface 52 (.agg #[.int .i64 (k : Int), .int .i64 (p : Int), .int .i64 (i : Int), .int .i64 (s : Int), .int .i64 (o : Int), .slice ao xs.length cap])) ∧ Hid (Has B w (TR (.slice ao xs.length cap) xs :: BlockR wr.heap.size (vL 0 0 0 0 0 nilS) :: rs) w')) := readL_ok t hS hT hlow hm he H0.out
  obtain ⟨rb, hrb⟩ : ∃ rb, wr.heap.size = rb := ⟨_, rfl⟩
  rw [hrb] at D1
  clear h H0 he hm hT
  have hta := ta_letter2
  go_enter Try.func10, Try.ntmps10
  go_wp2_with fail
  refine D1.out.mono ?_
  rintro e w2 ⟨ao, cap, rfl, h2⟩
  clear hrb D1
  have H2 : Hid (Has B w (BlockR rb (vL 0 0 0 0 0 nilS) :: BlockR w2.heap.size (vL k p i s o (.slice ao xs.length cap)) :: TR (.slice ao xs.length cap) xs :: rs) (w2.alloc (.cells #[.int .i64 (k : Int), .int .i64 (p : Int), .int .i64 (i : Int), .int .i64 (s : Int), .int .i64 (o : Int), .slice ao xs.length cap] 52))) := (h2.out.box (vL k p i s o (.slice ao xs.length cap)) 52).perm (List.perm_middle (l₁ := [_, _]) (l₂ := rs))
  clear h2
  go_upto_region 4 with fail
  generalize (w2.alloc (.cells #[.int .i64 (k : Int), .int .i64 (p : Int), .int .i64 (i : Int), .int .i64 (s : Int), .int .i64 (o : Int), .slice ao xs.length cap] 52)) = w3 at *
  generalize w2.heap.size = nb at *
  obtain ⟨x0, _⟩ := H2.out.bcell (q := nb) (vs := (vL k p i s o (.slice ao xs.length cap))) (by simp) 0 _ rfl
  obtain ⟨x1, _⟩ := H2.out.bcell (q := nb) (vs := (vL k p i s o (.slice ao xs.length cap))) (by simp) 1 _ rfl
  obtain ⟨x2, _⟩ := H2.out.bcell (q := nb) (vs := (vL k p i s o (.slice ao xs.length cap))) (by simp) 2 _ rfl
  obtain ⟨x3, _⟩ := H2.out.bcell (q := nb) (vs := (vL k p i s o (.slice ao xs.length cap))) (by simp) 3 _ rfl
  obtain ⟨x4, _⟩ := H2.out.bcell (q := nb) (vs := (vL k p i s o (.slice ao xs.length cap))) (by simp) 4 _ rfl
  obtain ⟨x5, _⟩ := H2.out.bcell (q := nb) (vs := (vL k p i s o (.slice ao xs.length cap))) (by simp) 5 _ rfl
  obtain ⟨y0, g0⟩ := H2.out.bcell (q := rb) (vs := (vL 0 0 0 0 0 nilS)) (by simp) 0 _ rfl
  obtain ⟨y1, g1⟩ := H2.out.bcell (q := rb) (vs := (vL 0 0 0 0 0 nilS)) (by simp) 1 _ rfl
  obtain ⟨y2, g2⟩ := H2.out.bcell (q := rb) (vs := (vL 0 0 0 0 0 nilS)) (by simp) 2 _ rfl
  obtain ⟨y3, g3⟩ := H2.out.bcell (q := rb) (vs := (vL 0 0 0 0 0 nilS)) (by simp) 3 _ rfl
  obtain ⟨y4, g4⟩ := H2.out.bcell (q := rb) (vs := (vL 0 0 0 0 0 nilS)) (by simp) 4 _ rfl
  obtain ⟨y5, g5⟩ := H2.out.bcell (q := rb) (vs := (vL 0 0 0 0 0 nilS)) (by simp) 5 _ rfl
  have HQ : Hid (Has B w (BlockR rb (vL k p i s o (.slice ao xs.length cap)) :: BlockR nb (vL k p i s o (.slice ao xs.length cap)) :: TR (.slice ao xs.length cap) xs :: rs) (setAll rb 0 (vL k p i s o (.slice ao xs.length cap)) w3)) := Has.puts (vL k p i s o (.slice ao xs.length cap)) [] (vL 0 0 0 0 0 nilS) H2.out rfl
  clear H2 hta
  go_wp2_with fail
  have HC : Hid (∀ j u, (vL k p i s o (.slice ao xs.length cap))[j]? = some u → (setAll rb 0 (vL k p i s o (.slice ao xs.length cap)) w3).cell? ⟨rb, j, none⟩ = some u) := fun j u hu => (HQ.out.bcell (q := rb) (vs := (vL k p i s o (.slice ao xs.length cap))) (by simp) j u hu).1
  refine bodyPost_ret (results_row_tmp rfl _ _ rb (vL k p i s o (.slice ao xs.length cap)) _ rfl HC.out Try.underlying31 rfl (by kernel_rfl)) rfl ⟨_, _, rfl, ?_⟩
  exact HQ.out.drop.drop
set_option maxHeartbeats 2000000 in
theorem readLetter_none {S : ByteArray} (C : ∀ (rs : List Res) (wr : World), Hid (Has B w rs wr) → Calls Try.prog 21 #[.string S] wr fun e w' => e = .returned .nilIface ∧ Hid (Has B w rs w')) (h : Has B w rs wr) :
    Calls Try.prog 10 #[.string S] wr fun e w' => e = .returned (.tuple #[.agg #[.int .i64 0, .int .i64 0, .int .i64 0, .int .i64 0, .int .i64 0, .slice none 0 0], .int .i64 70]) ∧ Hid (Has B w rs w') := by
  have H0 : Hid (Has B w (BlockR wr.heap.size (vL 0 0 0 0 0 nilS) :: rs) (wr.alloc (.cells #[.int .i64 0, .int .i64 0, .int .i64 0, .int .i64 0, .int .i64 0, .slice none 0 0] 31))) := h.box (vL 0 0 0 0 0 nilS) 31
  have D1 : Hid (Calls Try.prog 21 #[.string S] (wr.alloc (.cells #[.int .i64 0, .int .i64 0, .int .i64 0, .int .i64 0, .int .i64 0, .slice none 0 0] 31)) fun e w' => e = .returned .nilIface ∧ Hid (Has B w (BlockR wr.heap.size (vL 0 0 0 0 0 nilS) :: rs) w')) := C _ _ H0
  obtain ⟨rb, hrb⟩ : ∃ rb, wr.heap.size = rb := ⟨_, rfl⟩
  rw [hrb] at D1
  clear h H0 C
  have hta := ta_nil_letter
  go_enter Try.func10, Try.ntmps10
  go_wp2_with fail
  refine D1.out.mono ?_
  rintro e w2 ⟨rfl, h2⟩
  clear hrb D1
  have H2 : Hid (Has B w (BlockR rb (vL 0 0 0 0 0 nilS) :: rs) (w2.alloc (.cells #[.int .i64 0, .int .i64 0, .int .i64 0, .int .i64 0, .int .i64 0, .slice none 0 0] 52))) := h2.out.below (by go_grown)
  clear h2
  go_upto_region 3 with fail
  generalize (w2.alloc (.cells #[.int .i64 0, .int .i64 0, .int .i64 0, .int .i64 0, .int .i64 0, .slice none 0 0] 52)) = w3 at *
  obtain ⟨y0, g0⟩ := H2.out.bcell (q := rb) (vs := (vL 0 0 0 0 0 nilS)) (by simp) 0 _ rfl
  obtain ⟨y1, g1⟩ := H2.out.bcell (q := rb) (vs := (vL 0 0 0 0 0 nilS)) (by simp) 1 _ rfl
  obtain ⟨y2, g2⟩ := H2.out.bcell (q := rb) (vs := (vL 0 0 0 0 0 nilS)) (by simp) 2 _ rfl
  obtain ⟨y3, g3⟩ := H2.out.bcell (q := rb) (vs := (vL 0 0 0 0 0 nilS)) (by simp) 3 _ rfl
  obtain ⟨y4, g4⟩ := H2.out.bcell (q := rb) (vs := (vL 0 0 0 0 0 nilS)) (by simp) 4 _ rfl
  obtain ⟨y5, g5⟩ := H2.out.bcell (q := rb) (vs := (vL 0 0 0 0 0 nilS)) (by simp) 5 _ rfl
  have HQ : Hid (Has B w (BlockR rb (vL 0 0 0 0 0 nilS) :: rs) (setAll rb 0 (vL 0 0 0 0 0 nilS) w3)) := Has.puts (vL 0 0 0 0 0 nilS) [] (vL 0 0 0 0 0 nilS) H2.out rfl
  clear H2 hta
  go_wp2_with fail
  have HC : Hid (∀ j u, (vL 0 0 0 0 0 nilS)[j]? = some u → (setAll rb 0 (vL 0 0 0 0 0 nilS) w3).cell? ⟨rb, j, none⟩ = some u) := fun j u hu => (HQ.out.bcell (q := rb) (vs := (vL 0 0 0 0 0 nilS)) (by simp) j u hu).1
  refine bodyPost_ret (results_row_tmp rfl _ _ rb (vL 0 0 0 0 0 nilS) _ rfl HC.out Try.underlying31 rfl (by kernel_rfl)) rfl ⟨rfl, ?_⟩
  exact HQ.out.drop
end
end Go.Proofs.Yteicfkgcbpioiaa.Pl
