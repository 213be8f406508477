/- Reading an event: the three shapes. -/
import Derived.Test.YtbgankldnjeohaaRdKeys
import Derived.Test.YtbgankldnjeohaaLiveC
set_option linter.unusedVariables false
set_option maxRecDepth 100000
namespace Go.Proofs.Ytbgankldnjeohaa.Pl
open Go.RowKit Go.Proofs.Ytbgankldnjeohaa

def vV (k i s : Int) (v : Value) : List Value := [.int .i64 k, .int .i64 i, .int .i64 s, v]
abbrev nilS : Value := .slice none 0 0
section
variable {B : Nat} {w wr : World} {rs : List Res}
set_option maxHeartbeats 2000000 in
theorem evR6 {q i : Nat} {S : ByteArray} (hS : S.size ≤ 4611686018427387904) (hS3 : 3 ≤ S.size) (h : Has B w (RdR q S 1 :: rs) wr) (t1 : PackMath.tn (S.data.toList.drop 1) = (6, 1, 0)) (t2 : PackMath.tn (S.data.toList.drop 2) = (i, 1, 0)) :
    Calls Try.prog 33 #[.pointer (some ⟨q, 0, none⟩)] wr fun e w' => e = .returned (.agg (vV 6 i 0 nilS).toArray) ∧ Has B w (RdR q S 3 :: rs) w' := by
  have CN : Hid (∀ (a n : Nat) (rs : List Res) (wq : World), a ≤ S.size → PackMath.tn (S.data.toList.drop a) = (n, 1, 0) → Has B w (RdR q S a :: rs) wq → Calls Try.prog 37 #[.pointer (some ⟨q, 0, none⟩)] wq fun e w' => e = .returned (.int .i64 (n : Int)) ∧ Hid (Has B w (RdR q S (a + 1) :: rs) w')) := fun a n rs wq ha ht hq => numR_ok hS ha hq ht
  have H0 : Hid (Has B w (RdR q S 1 :: BlockR (wr.heap.size + 1) (vV 0 0 0 nilS) :: BlockR wr.heap.size (vV 0 0 0 nilS) :: rs) ((wr.alloc (.cells #[.int .i64 0, .int .i64 0, .int .i64 0, .slice none 0 0] 55)).alloc (.cells #[.int .i64 0, .int .i64 0, .int .i64 0, .slice none 0 0] 55))) := by
    have x := ((h.box (vV 0 0 0 nilS) 55).box (vV 0 0 0 nilS) 55)
    rw [World.size_alloc] at x
    exact x.perm ((List.perm_middle (l₁ := [_, _]) (l₂ := rs)))
  have D1 := CN.out 1 6 _ _ (by omega) t1 H0.out
  obtain ⟨rb, hrb⟩ : ∃ rb, wr.heap.size = rb := ⟨_, rfl⟩
  clear h H0
  rw [hrb] at D1
  go_enter Try.func33, Try.ntmps33
  go_wp2_with fail
  refine D1.mono ?_
  rintro e w1 ⟨rfl, H1⟩
  obtain ⟨nb, hnb⟩ : ∃ nb, rb + 1 = nb := ⟨_, rfl⟩
  rw [hnb] at H1
  have HP1 : Hid (Has B w (RdR q S 2 :: BlockR nb (vV 6 0 0 nilS) :: BlockR rb (vV 0 0 0 nilS) :: rs) (w1.setCell ⟨nb, 0, none⟩ (.int .i64 6))) := ((H1.out.perm (List.Perm.swap _ _ _)).put 0 (by simp [vV]) (.int .i64 6)).perm (List.Perm.swap _ _ _)
  obtain ⟨e0, f0⟩ := H1.out.bcell (q := nb) (vs := vV 0 0 0 nilS) (by simp) 0 _ rfl
  have D2 := CN.out 2 i _ _ (by omega) t2 HP1.out
  clear D1 H1 hrb
  go_wp2_with fail
  refine D2.mono ?_
  rintro e w2 ⟨rfl, H2⟩
  have HP2 : Hid (Has B w (RdR q S 3 :: BlockR nb (vV 6 i 0 nilS) :: BlockR rb (vV 0 0 0 nilS) :: rs) (w2.setCell ⟨nb, 1, none⟩ (.int .i64 (i : Int)))) := ((H2.out.perm (List.Perm.swap _ _ _)).put 1 (by simp [vV]) (.int .i64 (i : Int))).perm (List.Perm.swap _ _ _)
  clear e0 f0
  obtain ⟨z1, f1⟩ := H2.out.bcell (q := nb) (vs := vV 6 0 0 nilS) (by simp) 1 _ rfl
  obtain ⟨x0, _⟩ := HP2.out.bcell (q := nb) (vs := vV 6 i 0 nilS) (by simp) 0 _ rfl
  clear D2 HP1 H2
  have HPZ : Hid (Has B w (BlockR rb (vV 0 0 0 nilS) :: RdR q S 3 :: BlockR nb (vV 6 i 0 nilS) :: rs) (w2.setCell ⟨nb, 1, none⟩ (.int .i64 (i : Int)))) := HP2.out.perm (List.perm_middle (l₁ := [_, _]) (l₂ := rs))
  clear HP2
  clear CN
  obtain ⟨x1, _⟩ := HPZ.out.bcell (q := nb) (vs := vV 6 i 0 nilS) (by simp) 1 _ rfl
  obtain ⟨x2, _⟩ := HPZ.out.bcell (q := nb) (vs := vV 6 i 0 nilS) (by simp) 2 _ rfl
  obtain ⟨x3, _⟩ := HPZ.out.bcell (q := nb) (vs := vV 6 i 0 nilS) (by simp) 3 _ rfl
  obtain ⟨y0, g0⟩ := HPZ.out.bcell (q := rb) (vs := vV 0 0 0 nilS) (by simp) 0 _ rfl
  obtain ⟨y1, g1⟩ := HPZ.out.bcell (q := rb) (vs := vV 0 0 0 nilS) (by simp) 1 _ rfl
  obtain ⟨y2, g2⟩ := HPZ.out.bcell (q := rb) (vs := vV 0 0 0 nilS) (by simp) 2 _ rfl
  obtain ⟨y3, g3⟩ := HPZ.out.bcell (q := rb) (vs := vV 0 0 0 nilS) (by simp) 3 _ rfl
  have HQ : Hid (Has B w (BlockR rb (vV 6 i 0 nilS) :: RdR q S 3 :: BlockR nb (vV 6 i 0 nilS) :: rs) (setAll rb 0 (vV 6 i 0 nilS) (w2.setCell ⟨nb, 1, none⟩ (.int .i64 (i : Int))))) := Has.puts (vV 6 i 0 nilS) [] (vV 0 0 0 nilS) HPZ.out rfl
  clear HPZ
  go_wp2_with fail
  have HC : Hid (∀ j v, (vV 6 i 0 nilS)[j]? = some v → (setAll rb 0 (vV 6 i 0 nilS) (w2.setCell ⟨nb, 1, none⟩ (.int .i64 (i : Int)))).cell? ⟨rb, j, none⟩ = some v) := fun j v hv => (HQ.out.bcell (q := rb) (vs := vV 6 i 0 nilS) (by simp) j v hv).1
  refine bodyPost_ret (results_row rfl _ _ rb (vV 6 i 0 nilS) _ rfl HC.out Try.underlying55 rfl (by kernel_rfl)) rfl ⟨rfl, ?_⟩
  exact (HQ.out.drop.perm (List.Perm.swap _ _ _)).drop
set_option maxHeartbeats 2000000 in
theorem evRK {q k i s : Nat} {S : ByteArray} (hS : S.size ≤ 4611686018427387904) (hS3 : 4 ≤ S.size) (h : Has B w (RdR q S 1 :: rs) wr) (t1 : PackMath.tn (S.data.toList.drop 1) = (k, 1, 0)) (t2 : PackMath.tn (S.data.toList.drop 2) = (i, 1, 0)) (t3 : PackMath.tn (S.data.toList.drop 3) = (s, 1, 0)) (k1 : k ≠ 1) (k6 : k ≠ 6) :
    Calls Try.prog 33 #[.pointer (some ⟨q, 0, none⟩)] wr fun e w' => e = .returned (.agg (vV k i s nilS).toArray) ∧ Has B w (RdR q S 4 :: rs) w' := by
  have CN : Hid (∀ (a n : Nat) (rs : List Res) (wq : World), a ≤ S.size → PackMath.tn (S.data.toList.drop a) = (n, 1, 0) → Has B w (RdR q S a :: rs) wq → Calls Try.prog 37 #[.pointer (some ⟨q, 0, none⟩)] wq fun e w' => e = .returned (.int .i64 (n : Int)) ∧ Hid (Has B w (RdR q S (a + 1) :: rs) w')) := fun a n rs wq ha ht hq => numR_ok hS ha hq ht
  have k1' : ((k : Int) == 1) = false := beq_eq_false_iff_ne.2 (by omega)
  have k6' : ((k : Int) == 6) = false := beq_eq_false_iff_ne.2 (by omega)
  have H0 : Hid (Has B w (RdR q S 1 :: BlockR (wr.heap.size + 1) (vV 0 0 0 nilS) :: BlockR wr.heap.size (vV 0 0 0 nilS) :: rs) ((wr.alloc (.cells #[.int .i64 0, .int .i64 0, .int .i64 0, .slice none 0 0] 55)).alloc (.cells #[.int .i64 0, .int .i64 0, .int .i64 0, .slice none 0 0] 55))) := by
    have x := ((h.box (vV 0 0 0 nilS) 55).box (vV 0 0 0 nilS) 55)
    rw [World.size_alloc] at x
    exact x.perm ((List.perm_middle (l₁ := [_, _]) (l₂ := rs)))
  have D1 := CN.out 1 k _ _ (by omega) t1 H0.out
  obtain ⟨rb, hrb⟩ : ∃ rb, wr.heap.size = rb := ⟨_, rfl⟩
  clear h H0
  rw [hrb] at D1
  go_enter Try.func33, Try.ntmps33
  go_wp2_with fail
  refine D1.mono ?_
  rintro e w1 ⟨rfl, H1⟩
  obtain ⟨nb, hnb⟩ : ∃ nb, rb + 1 = nb := ⟨_, rfl⟩
  rw [hnb] at H1
  have HP1 : Hid (Has B w (RdR q S 2 :: BlockR nb (vV (k : Int) 0 0 nilS) :: BlockR rb (vV 0 0 0 nilS) :: rs) (w1.setCell ⟨nb, 0, none⟩ (.int .i64 (k : Int)))) := ((H1.out.perm (List.Perm.swap _ _ _)).put 0 (by simp [vV]) (.int .i64 (k : Int))).perm (List.Perm.swap _ _ _)
  obtain ⟨e0, f0⟩ := H1.out.bcell (q := nb) (vs := vV 0 0 0 nilS) (by simp) 0 _ rfl
  have D2 := CN.out 2 i _ _ (by omega) t2 HP1.out
  clear D1 H1 hrb
  go_wp2_with fail
  refine D2.mono ?_
  rintro e w2 ⟨rfl, H2⟩
  have HP2 : Hid (Has B w (RdR q S 3 :: BlockR nb (vV (k : Int) i 0 nilS) :: BlockR rb (vV 0 0 0 nilS) :: rs) (w2.setCell ⟨nb, 1, none⟩ (.int .i64 (i : Int)))) := ((H2.out.perm (List.Perm.swap _ _ _)).put 1 (by simp [vV]) (.int .i64 (i : Int))).perm (List.Perm.swap _ _ _)
  clear e0 f0
  obtain ⟨z1, f1⟩ := H2.out.bcell (q := nb) (vs := vV (k : Int) 0 0 nilS) (by simp) 1 _ rfl
  obtain ⟨x0, _⟩ := HP2.out.bcell (q := nb) (vs := vV (k : Int) i 0 nilS) (by simp) 0 _ rfl
  clear D2 HP1 H2
  have D3 := CN.out 3 s _ _ (by omega) t3 HP2.out
  go_wp2_with fail
  refine D3.mono ?_
  rintro e w3 ⟨rfl, H3⟩
  have HP3 : Hid (Has B w (RdR q S 4 :: BlockR nb (vV (k : Int) i s nilS) :: BlockR rb (vV 0 0 0 nilS) :: rs) (w3.setCell ⟨nb, 2, none⟩ (.int .i64 (s : Int)))) := ((H3.out.perm (List.Perm.swap _ _ _)).put 2 (by simp [vV]) (.int .i64 (s : Int))).perm (List.Perm.swap _ _ _)
  clear x0 z1 f1
  obtain ⟨z1, f1⟩ := H3.out.bcell (q := nb) (vs := vV (k : Int) i 0 nilS) (by simp) 2 _ rfl
  obtain ⟨x0, _⟩ := HP3.out.bcell (q := nb) (vs := vV (k : Int) i s nilS) (by simp) 0 _ rfl
  clear D3 HP2 H3
  have HPZ : Hid (Has B w (BlockR rb (vV 0 0 0 nilS) :: RdR q S 4 :: BlockR nb (vV (k : Int) i s nilS) :: rs) (w3.setCell ⟨nb, 2, none⟩ (.int .i64 (s : Int)))) := HP3.out.perm (List.perm_middle (l₁ := [_, _]) (l₂ := rs))
  clear HP3
  clear CN
  obtain ⟨x1, _⟩ := HPZ.out.bcell (q := nb) (vs := vV (k : Int) i s nilS) (by simp) 1 _ rfl
  obtain ⟨x2, _⟩ := HPZ.out.bcell (q := nb) (vs := vV (k : Int) i s nilS) (by simp) 2 _ rfl
  obtain ⟨x3, _⟩ := HPZ.out.bcell (q := nb) (vs := vV (k : Int) i s nilS) (by simp) 3 _ rfl
  obtain ⟨y0, g0⟩ := HPZ.out.bcell (q := rb) (vs := vV 0 0 0 nilS) (by simp) 0 _ rfl
  obtain ⟨y1, g1⟩ := HPZ.out.bcell (q := rb) (vs := vV 0 0 0 nilS) (by simp) 1 _ rfl
  obtain ⟨y2, g2⟩ := HPZ.out.bcell (q := rb) (vs := vV 0 0 0 nilS) (by simp) 2 _ rfl
  obtain ⟨y3, g3⟩ := HPZ.out.bcell (q := rb) (vs := vV 0 0 0 nilS) (by simp) 3 _ rfl
  have HQ : Hid (Has B w (BlockR rb (vV (k : Int) i s nilS) :: RdR q S 4 :: BlockR nb (vV (k : Int) i s nilS) :: rs) (setAll rb 0 (vV (k : Int) i s nilS) (w3.setCell ⟨nb, 2, none⟩ (.int .i64 (s : Int))))) := Has.puts (vV (k : Int) i s nilS) [] (vV 0 0 0 nilS) HPZ.out rfl
  clear HPZ
  go_wp2_with fail
  have HC : Hid (∀ j v, (vV (k : Int) i s nilS)[j]? = some v → (setAll rb 0 (vV (k : Int) i s nilS) (w3.setCell ⟨nb, 2, none⟩ (.int .i64 (s : Int)))).cell? ⟨rb, j, none⟩ = some v) := fun j v hv => (HQ.out.bcell (q := rb) (vs := vV (k : Int) i s nilS) (by simp) j v hv).1
  refine bodyPost_ret (results_row rfl _ _ rb (vV (k : Int) i s nilS) _ rfl HC.out Try.underlying55 rfl (by kernel_rfl)) rfl ⟨rfl, ?_⟩
  exact (HQ.out.drop.perm (List.Perm.swap _ _ _)).drop
set_option maxHeartbeats 2000000 in
theorem evR1 {q i s c : Nat} {xs : List (List UInt8)} {S : ByteArray} (hS : S.size ≤ 4611686018427387904) (hS3 : 4 ≤ S.size) (h : Has B w (RdR q S 1 :: rs) wr) (t1 : PackMath.tn (S.data.toList.drop 1) = (1, 1, 0)) (t2 : PackMath.tn (S.data.toList.drop 2) = (i, 1, 0)) (t3 : PackMath.tn (S.data.toList.drop 3) = (s, 1, 0)) (t4 : PackMath.tl (S.data.toList.drop 4) = (xs, c, 0)) :
    Calls Try.prog 33 #[.pointer (some ⟨q, 0, none⟩)] wr fun e w' => ∃ ao cap, e = .returned (.agg (vV 1 i s (.slice ao xs.length cap)).toArray) ∧ Hid (Has B w (RdR q S (4 + c) :: TR (.slice ao xs.length cap) xs :: rs) w') := by
  have CN : Hid (∀ (a n : Nat) (rs : List Res) (wq : World), a ≤ S.size → PackMath.tn (S.data.toList.drop a) = (n, 1, 0) → Has B w (RdR q S a :: rs) wq → Calls Try.prog 37 #[.pointer (some ⟨q, 0, none⟩)] wq fun e w' => e = .returned (.int .i64 (n : Int)) ∧ Hid (Has B w (RdR q S (a + 1) :: rs) w')) := fun a n rs wq ha ht hq => numR_ok hS ha hq ht
  have CK : Hid (∀ (rs : List Res) (wq : World), Has B w (RdR q S 4 :: rs) wq → Calls Try.prog 38 #[.pointer (some ⟨q, 0, none⟩)] wq fun e w' => ∃ v, e = .returned v ∧ (∃ ao cap, v = .slice ao xs.length cap) ∧ Hid (Has B w (RdR q S (4 + c) :: TR v xs :: rs) w')) := fun rs wq hq => keysR_ok hS hS3 hq t4
  have H0 : Hid (Has B w (RdR q S 1 :: BlockR (wr.heap.size + 1) (vV 0 0 0 nilS) :: BlockR wr.heap.size (vV 0 0 0 nilS) :: rs) ((wr.alloc (.cells #[.int .i64 0, .int .i64 0, .int .i64 0, .slice none 0 0] 55)).alloc (.cells #[.int .i64 0, .int .i64 0, .int .i64 0, .slice none 0 0] 55))) := by
    have x := ((h.box (vV 0 0 0 nilS) 55).box (vV 0 0 0 nilS) 55)
    rw [World.size_alloc] at x
    exact x.perm ((List.perm_middle (l₁ := [_, _]) (l₂ := rs)))
  have D1 := CN.out 1 1 _ _ (by omega) t1 H0.out
  obtain ⟨rb, hrb⟩ : ∃ rb, wr.heap.size = rb := ⟨_, rfl⟩
  clear h H0
  rw [hrb] at D1
  go_enter Try.func33, Try.ntmps33
  go_wp2_with fail
  refine D1.mono ?_
  rintro e w1 ⟨rfl, H1⟩
  obtain ⟨nb, hnb⟩ : ∃ nb, rb + 1 = nb := ⟨_, rfl⟩
  rw [hnb] at H1
  have HP1 : Hid (Has B w (RdR q S 2 :: BlockR nb (vV 1 0 0 nilS) :: BlockR rb (vV 0 0 0 nilS) :: rs) (w1.setCell ⟨nb, 0, none⟩ (.int .i64 1))) := ((H1.out.perm (List.Perm.swap _ _ _)).put 0 (by simp [vV]) (.int .i64 1)).perm (List.Perm.swap _ _ _)
  obtain ⟨e0, f0⟩ := H1.out.bcell (q := nb) (vs := vV 0 0 0 nilS) (by simp) 0 _ rfl
  have D2 := CN.out 2 i _ _ (by omega) t2 HP1.out
  clear D1 H1 hrb
  go_wp2_with fail
  refine D2.mono ?_
  rintro e w2 ⟨rfl, H2⟩
  have HP2 : Hid (Has B w (RdR q S 3 :: BlockR nb (vV 1 i 0 nilS) :: BlockR rb (vV 0 0 0 nilS) :: rs) (w2.setCell ⟨nb, 1, none⟩ (.int .i64 (i : Int)))) := ((H2.out.perm (List.Perm.swap _ _ _)).put 1 (by simp [vV]) (.int .i64 (i : Int))).perm (List.Perm.swap _ _ _)
  clear e0 f0
  obtain ⟨z1, f1⟩ := H2.out.bcell (q := nb) (vs := vV 1 0 0 nilS) (by simp) 1 _ rfl
  obtain ⟨x0, _⟩ := HP2.out.bcell (q := nb) (vs := vV 1 i 0 nilS) (by simp) 0 _ rfl
  clear D2 HP1 H2
  have D3 := CN.out 3 s _ _ (by omega) t3 HP2.out
  go_wp2_with fail
  refine D3.mono ?_
  rintro e w3 ⟨rfl, H3⟩
  have HP3 : Hid (Has B w (RdR q S 4 :: BlockR nb (vV 1 i s nilS) :: BlockR rb (vV 0 0 0 nilS) :: rs) (w3.setCell ⟨nb, 2, none⟩ (.int .i64 (s : Int)))) := ((H3.out.perm (List.Perm.swap _ _ _)).put 2 (by simp [vV]) (.int .i64 (s : Int))).perm (List.Perm.swap _ _ _)
  clear x0 z1 f1
  obtain ⟨z1, f1⟩ := H3.out.bcell (q := nb) (vs := vV 1 i 0 nilS) (by simp) 2 _ rfl
  obtain ⟨x0, _⟩ := HP3.out.bcell (q := nb) (vs := vV 1 i s nilS) (by simp) 0 _ rfl
  clear D3 HP2 H3
  have D4 := CK.out _ _ HP3.out
  go_wp2_with fail
  refine D4.mono ?_
  rintro e w4 ⟨v, rfl, ⟨ao, cap, rfl⟩, H4⟩
  have HX4 := H4.out.perm (List.perm_middle (l₁ := [_, _]) (a := BlockR nb (vV 1 i s nilS)))
  have HP4 : Hid (Has B w (BlockR nb (vV 1 i s (.slice ao xs.length cap)) :: RdR q S (4 + c) :: TR (.slice ao xs.length cap) xs :: BlockR rb (vV 0 0 0 nilS) :: rs) (w4.setCell ⟨nb, 3, none⟩ (.slice ao xs.length cap))) := HX4.put 3 (by simp [vV]) (.slice ao xs.length cap)
  clear x0 z1 f1
  obtain ⟨z1, f1⟩ := HX4.bcell (q := nb) (vs := vV 1 i s nilS) (by simp) 3 _ rfl
  obtain ⟨x0, _⟩ := HP4.out.bcell (q := nb) (vs := vV 1 i s (.slice ao xs.length cap)) (by simp) 0 _ rfl
  have HPZ : Hid (Has B w (BlockR rb (vV 0 0 0 nilS) :: BlockR nb (vV 1 i s (.slice ao xs.length cap)) :: RdR q S (4 + c) :: TR (.slice ao xs.length cap) xs :: rs) (w4.setCell ⟨nb, 3, none⟩ (.slice ao xs.length cap))) := HP4.out.perm (List.perm_middle (l₁ := [_, _, _]) (l₂ := rs))
  clear D4 HP3 H4 HX4 HP4 CK
  clear CN
  obtain ⟨x1, _⟩ := HPZ.out.bcell (q := nb) (vs := vV 1 i s (.slice ao xs.length cap)) (by simp) 1 _ rfl
  obtain ⟨x2, _⟩ := HPZ.out.bcell (q := nb) (vs := vV 1 i s (.slice ao xs.length cap)) (by simp) 2 _ rfl
  obtain ⟨x3, _⟩ := HPZ.out.bcell (q := nb) (vs := vV 1 i s (.slice ao xs.length cap)) (by simp) 3 _ rfl
  obtain ⟨y0, g0⟩ := HPZ.out.bcell (q := rb) (vs := vV 0 0 0 nilS) (by simp) 0 _ rfl
  obtain ⟨y1, g1⟩ := HPZ.out.bcell (q := rb) (vs := vV 0 0 0 nilS) (by simp) 1 _ rfl
  obtain ⟨y2, g2⟩ := HPZ.out.bcell (q := rb) (vs := vV 0 0 0 nilS) (by simp) 2 _ rfl
  obtain ⟨y3, g3⟩ := HPZ.out.bcell (q := rb) (vs := vV 0 0 0 nilS) (by simp) 3 _ rfl
  have HQ : Hid (Has B w (BlockR rb (vV 1 i s (.slice ao xs.length cap)) :: BlockR nb (vV 1 i s (.slice ao xs.length cap)) :: RdR q S (4 + c) :: TR (.slice ao xs.length cap) xs :: rs) (setAll rb 0 (vV 1 i s (.slice ao xs.length cap)) (w4.setCell ⟨nb, 3, none⟩ (.slice ao xs.length cap)))) := Has.puts (vV 1 i s (.slice ao xs.length cap)) [] (vV 0 0 0 nilS) HPZ.out rfl
  clear HPZ
  go_wp2_with fail
  have HC : Hid (∀ j v, (vV 1 i s (.slice ao xs.length cap))[j]? = some v → (setAll rb 0 (vV 1 i s (.slice ao xs.length cap)) (w4.setCell ⟨nb, 3, none⟩ (.slice ao xs.length cap))).cell? ⟨rb, j, none⟩ = some v) := fun j v hv => (HQ.out.bcell (q := rb) (vs := vV 1 i s (.slice ao xs.length cap)) (by simp) j v hv).1
  refine bodyPost_ret (results_row rfl _ _ rb (vV 1 i s (.slice ao xs.length cap)) _ rfl HC.out Try.underlying55 rfl (by kernel_rfl)) rfl ⟨_, _, rfl, ?_⟩
  exact HQ.out.drop.drop
end
end Go.Proofs.Ytbgankldnjeohaa.Pl
