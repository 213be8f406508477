/- Reading a letter: the shapes; and where the last of it is cut off. -/
import Derived.Test.YteicfkgcbpioiaaZzE
import Derived.Test.YteicfkgcbpioiaaLtFormP
set_option linter.unusedVariables false
set_option maxRecDepth 100000
namespace Go.Proofs.Yteicfkgcbpioiaa.Pl
open Go.RowKit Go.Proofs.Yteicfkgcbpioiaa

def vL (k p i s o : Int) (v : Value) : List Value := [.int .i64 k, .int .i64 p, .int .i64 i, .int .i64 s, .int .i64 o, v]
section
variable {B : Nat} {w wr : World} {rs : List Res}
set_option maxHeartbeats 2000000 in
theorem ltR3 {q p i : Nat} {S : ByteArray} (hS : S.size ≤ 4611686018427387904) (hS3 : 4 ≤ S.size) (h : Has B w (RdR q S 1 :: rs) wr) (tk : PackMath.tn (S.data.toList.drop 1) = (3, 1, 0)) (t0 : PackMath.tn (S.data.toList.drop 2) = (p, 1, 0)) (t1 : PackMath.tn (S.data.toList.drop 3) = (i, 1, 0)) :
    Calls Try.prog 33 #[.pointer (some ⟨q, 0, none⟩)] wr fun e w' => e = .returned (.agg (vL 3 (p : Int) (i : Int) 0 0 nilS).toArray) ∧ Has B w (RdR q S 4 :: rs) w' := by
  have CN : Hid (∀ (a n : Nat) (rs : List Res) (wq : World), a ≤ S.size → PackMath.tn (S.data.toList.drop a) = (n, 1, 0) → Has B w (RdR q S a :: rs) wq → Calls Try.prog 38 #[.pointer (some ⟨q, 0, none⟩)] wq fun e w' => e = .returned (.int .i64 (n : Int)) ∧ Hid (Has B w (RdR q S (a + 1) :: rs) w')) := fun a n rs wq ha ht hq => numR_ok hS ha hq ht
  have H0 : Hid (Has B w (RdR q S 1 :: BlockR (wr.heap.size + 1) (vL 0 0 0 0 0 nilS) :: BlockR wr.heap.size (vL 0 0 0 0 0 nilS) :: rs) ((wr.alloc (.cells #[.int .i64 0, .int .i64 0, .int .i64 0, .int .i64 0, .int .i64 0, .slice none 0 0] 52)).alloc (.cells #[.int .i64 0, .int .i64 0, .int .i64 0, .int .i64 0, .int .i64 0, .slice none 0 0] 52))) := by
    have x := ((h.box (vL 0 0 0 0 0 nilS) 52).box (vL 0 0 0 0 0 nilS) 52)
    rw [World.size_alloc] at x
    exact x.perm ((List.perm_middle (l₁ := [_, _]) (l₂ := rs)))
  have E := CN.out 1 3 _ _ (by omega) tk H0.out
  obtain ⟨rb, hrb⟩ : ∃ rb, wr.heap.size = rb := ⟨_, rfl⟩
  clear h H0
  rw [hrb] at E
  go_enter Try.func33, Try.ntmps33
  go_wp2_with fail
  refine E.mono ?_
  rintro e v0 ⟨rfl, G0⟩
  obtain ⟨nb, hnb⟩ : ∃ nb, rb + 1 = nb := ⟨_, rfl⟩
  rw [hnb] at G0
  have P0 : Hid (Has B w (RdR q S 2 :: BlockR nb (vL 3 0 0 0 0 nilS) :: BlockR rb (vL 0 0 0 0 0 nilS) :: rs) (v0.setCell ⟨nb, 0, none⟩ (.int .i64 3))) := ((G0.out.perm (List.Perm.swap _ _ _)).put 0 (by simp [vL]) (.int .i64 3)).perm (List.Perm.swap _ _ _)
  obtain ⟨e1, f1⟩ := G0.out.bcell (q := nb) (vs := (vL 0 0 0 0 0 nilS)) (by simp) 0 _ rfl
  obtain ⟨e0, _⟩ := P0.out.bcell (q := nb) (vs := (vL 3 0 0 0 0 nilS)) (by simp) 0 _ rfl
  clear E G0 hrb
  have E := CN.out 2 p _ _ (by omega) t0 P0.out
  go_wp2_with fail
  refine E.mono ?_
  rintro e v1 ⟨rfl, G1⟩
  have P1 : Hid (Has B w (RdR q S 3 :: BlockR nb (vL 3 (p : Int) 0 0 0 nilS) :: BlockR rb (vL 0 0 0 0 0 nilS) :: rs) (v1.setCell ⟨nb, 1, none⟩ (.int .i64 (p : Int)))) := ((G1.out.perm (List.Perm.swap _ _ _)).put 1 (by simp [vL]) (.int .i64 (p : Int))).perm (List.Perm.swap _ _ _)
  clear e0 e1 f1
  obtain ⟨e1, f1⟩ := G1.out.bcell (q := nb) (vs := (vL 3 0 0 0 0 nilS)) (by simp) 1 _ rfl
  obtain ⟨e0, _⟩ := P1.out.bcell (q := nb) (vs := (vL 3 (p : Int) 0 0 0 nilS)) (by simp) 0 _ rfl
  clear E G1 P0
  have E := CN.out 3 i _ _ (by omega) t1 P1.out
  go_wp2_with fail
  refine E.mono ?_
  rintro e v2 ⟨rfl, G2⟩
  have P2 : Hid (Has B w (RdR q S 4 :: BlockR nb (vL 3 (p : Int) (i : Int) 0 0 nilS) :: BlockR rb (vL 0 0 0 0 0 nilS) :: rs) (v2.setCell ⟨nb, 2, none⟩ (.int .i64 (i : Int)))) := ((G2.out.perm (List.Perm.swap _ _ _)).put 2 (by simp [vL]) (.int .i64 (i : Int))).perm (List.Perm.swap _ _ _)
  clear e0 e1 f1
  obtain ⟨e1, f1⟩ := G2.out.bcell (q := nb) (vs := (vL 3 (p : Int) 0 0 0 nilS)) (by simp) 2 _ rfl
  obtain ⟨e0, _⟩ := P2.out.bcell (q := nb) (vs := (vL 3 (p : Int) (i : Int) 0 0 nilS)) (by simp) 0 _ rfl
  clear E G2 P1
  have HPZ : Hid (Has B w (BlockR rb (vL 0 0 0 0 0 nilS) :: RdR q S 4 :: BlockR nb (vL 3 (p : Int) (i : Int) 0 0 nilS) :: rs) (v2.setCell ⟨nb, 2, none⟩ (.int .i64 (i : Int)))) := P2.out.perm (List.perm_middle (l₁ := [_, _]) (l₂ := rs))
  clear P2 e0
  clear CN
  obtain ⟨x0, _⟩ := HPZ.out.bcell (q := nb) (vs := (vL 3 (p : Int) (i : Int) 0 0 nilS)) (by simp) 0 _ rfl
  obtain ⟨x1, _⟩ := HPZ.out.bcell (q := nb) (vs := (vL 3 (p : Int) (i : Int) 0 0 nilS)) (by simp) 1 _ rfl
  obtain ⟨x2, _⟩ := HPZ.out.bcell (q := nb) (vs := (vL 3 (p : Int) (i : Int) 0 0 nilS)) (by simp) 2 _ rfl
  obtain ⟨x3, _⟩ := HPZ.out.bcell (q := nb) (vs := (vL 3 (p : Int) (i : Int) 0 0 nilS)) (by simp) 3 _ rfl
  obtain ⟨x4, _⟩ := HPZ.out.bcell (q := nb) (vs := (vL 3 (p : Int) (i : Int) 0 0 nilS)) (by simp) 4 _ rfl
  obtain ⟨x5, _⟩ := HPZ.out.bcell (q := nb) (vs := (vL 3 (p : Int) (i : Int) 0 0 nilS)) (by simp) 5 _ rfl
  obtain ⟨y0, g0⟩ := HPZ.out.bcell (q := rb) (vs := (vL 0 0 0 0 0 nilS)) (by simp) 0 _ rfl
  obtain ⟨y1, g1⟩ := HPZ.out.bcell (q := rb) (vs := (vL 0 0 0 0 0 nilS)) (by simp) 1 _ rfl
  obtain ⟨y2, g2⟩ := HPZ.out.bcell (q := rb) (vs := (vL 0 0 0 0 0 nilS)) (by simp) 2 _ rfl
  obtain ⟨y3, g3⟩ := HPZ.out.bcell (q := rb) (vs := (vL 0 0 0 0 0 nilS)) (by simp) 3 _ rfl
  obtain ⟨y4, g4⟩ := HPZ.out.bcell (q := rb) (vs := (vL 0 0 0 0 0 nilS)) (by simp) 4 _ rfl
  obtain ⟨y5, g5⟩ := HPZ.out.bcell (q := rb) (vs := (vL 0 0 0 0 0 nilS)) (by simp) 5 _ rfl
  have HQ : Hid (Has B w (BlockR rb (vL 3 (p : Int) (i : Int) 0 0 nilS) :: RdR q S 4 :: BlockR nb (vL 3 (p : Int) (i : Int) 0 0 nilS) :: rs) (setAll rb 0 (vL 3 (p : Int) (i : Int) 0 0 nilS) (v2.setCell ⟨nb, 2, none⟩ (.int .i64 (i : Int))))) := Has.puts (vL 3 (p : Int) (i : Int) 0 0 nilS) [] (vL 0 0 0 0 0 nilS) HPZ.out rfl
  clear HPZ
  go_wp2_with fail
  have HC : Hid (∀ j u, (vL 3 (p : Int) (i : Int) 0 0 nilS)[j]? = some u → (setAll rb 0 (vL 3 (p : Int) (i : Int) 0 0 nilS) (v2.setCell ⟨nb, 2, none⟩ (.int .i64 (i : Int)))).cell? ⟨rb, j, none⟩ = some u) := fun j u hu => (HQ.out.bcell (q := rb) (vs := (vL 3 (p : Int) (i : Int) 0 0 nilS)) (by simp) j u hu).1
  refine bodyPost_ret (results_row rfl _ _ rb (vL 3 (p : Int) (i : Int) 0 0 nilS) _ rfl HC.out Try.underlying52 rfl (by kernel_rfl)) rfl ⟨rfl, ?_⟩
  exact (HQ.out.drop.perm (List.Perm.swap _ _ _)).drop
set_option maxHeartbeats 2000000 in
theorem ltR9 {q p i : Nat} {S : ByteArray} (hS : S.size ≤ 4611686018427387904) (hS3 : 4 ≤ S.size) (h : Has B w (RdR q S 1 :: rs) wr) (tk : PackMath.tn (S.data.toList.drop 1) = (9, 1, 0)) (t0 : PackMath.tn (S.data.toList.drop 2) = (p, 1, 0)) (t1 : PackMath.tn (S.data.toList.drop 3) = (i, 1, 0)) :
    Calls Try.prog 33 #[.pointer (some ⟨q, 0, none⟩)] wr fun e w' => e = .returned (.agg (vL 9 (p : Int) (i : Int) 0 0 nilS).toArray) ∧ Has B w (RdR q S 4 :: rs) w' := by
  have CN : Hid (∀ (a n : Nat) (rs : List Res) (wq : World), a ≤ S.size → PackMath.tn (S.data.toList.drop a) = (n, 1, 0) → Has B w (RdR q S a :: rs) wq → Calls Try.prog 38 #[.pointer (some ⟨q, 0, none⟩)] wq fun e w' => e = .returned (.int .i64 (n : Int)) ∧ Hid (Has B w (RdR q S (a + 1) :: rs) w')) := fun a n rs wq ha ht hq => numR_ok hS ha hq ht
  have H0 : Hid (Has B w (RdR q S 1 :: BlockR (wr.heap.size + 1) (vL 0 0 0 0 0 nilS) :: BlockR wr.heap.size (vL 0 0 0 0 0 nilS) :: rs) ((wr.alloc (.cells #[.int .i64 0, .int .i64 0, .int .i64 0, .int .i64 0, .int .i64 0, .slice none 0 0] 52)).alloc (.cells #[.int .i64 0, .int .i64 0, .int .i64 0, .int .i64 0, .int .i64 0, .slice none 0 0] 52))) := by
    have x := ((h.box (vL 0 0 0 0 0 nilS) 52).box (vL 0 0 0 0 0 nilS) 52)
    rw [World.size_alloc] at x
    exact x.perm ((List.perm_middle (l₁ := [_, _]) (l₂ := rs)))
  have E := CN.out 1 9 _ _ (by omega) tk H0.out
  obtain ⟨rb, hrb⟩ : ∃ rb, wr.heap.size = rb := ⟨_, rfl⟩
  clear h H0
  rw [hrb] at E
  go_enter Try.func33, Try.ntmps33
  go_wp2_with fail
  refine E.mono ?_
  rintro e v0 ⟨rfl, G0⟩
  obtain ⟨nb, hnb⟩ : ∃ nb, rb + 1 = nb := ⟨_, rfl⟩
  rw [hnb] at G0
  have P0 : Hid (Has B w (RdR q S 2 :: BlockR nb (vL 9 0 0 0 0 nilS) :: BlockR rb (vL 0 0 0 0 0 nilS) :: rs) (v0.setCell ⟨nb, 0, none⟩ (.int .i64 9))) := ((G0.out.perm (List.Perm.swap _ _ _)).put 0 (by simp [vL]) (.int .i64 9)).perm (List.Perm.swap _ _ _)
  obtain ⟨e1, f1⟩ := G0.out.bcell (q := nb) (vs := (vL 0 0 0 0 0 nilS)) (by simp) 0 _ rfl
  obtain ⟨e0, _⟩ := P0.out.bcell (q := nb) (vs := (vL 9 0 0 0 0 nilS)) (by simp) 0 _ rfl
  clear E G0 hrb
  have E := CN.out 2 p _ _ (by omega) t0 P0.out
  go_wp2_with fail
  refine E.mono ?_
  rintro e v1 ⟨rfl, G1⟩
  have P1 : Hid (Has B w (RdR q S 3 :: BlockR nb (vL 9 (p : Int) 0 0 0 nilS) :: BlockR rb (vL 0 0 0 0 0 nilS) :: rs) (v1.setCell ⟨nb, 1, none⟩ (.int .i64 (p : Int)))) := ((G1.out.perm (List.Perm.swap _ _ _)).put 1 (by simp [vL]) (.int .i64 (p : Int))).perm (List.Perm.swap _ _ _)
  clear e0 e1 f1
  obtain ⟨e1, f1⟩ := G1.out.bcell (q := nb) (vs := (vL 9 0 0 0 0 nilS)) (by simp) 1 _ rfl
  obtain ⟨e0, _⟩ := P1.out.bcell (q := nb) (vs := (vL 9 (p : Int) 0 0 0 nilS)) (by simp) 0 _ rfl
  clear E G1 P0
  have E := CN.out 3 i _ _ (by omega) t1 P1.out
  go_wp2_with fail
  refine E.mono ?_
  rintro e v2 ⟨rfl, G2⟩
  have P2 : Hid (Has B w (RdR q S 4 :: BlockR nb (vL 9 (p : Int) (i : Int) 0 0 nilS) :: BlockR rb (vL 0 0 0 0 0 nilS) :: rs) (v2.setCell ⟨nb, 2, none⟩ (.int .i64 (i : Int)))) := ((G2.out.perm (List.Perm.swap _ _ _)).put 2 (by simp [vL]) (.int .i64 (i : Int))).perm (List.Perm.swap _ _ _)
  clear e0 e1 f1
  obtain ⟨e1, f1⟩ := G2.out.bcell (q := nb) (vs := (vL 9 (p : Int) 0 0 0 nilS)) (by simp) 2 _ rfl
  obtain ⟨e0, _⟩ := P2.out.bcell (q := nb) (vs := (vL 9 (p : Int) (i : Int) 0 0 nilS)) (by simp) 0 _ rfl
  clear E G2 P1
  have HPZ : Hid (Has B w (BlockR rb (vL 0 0 0 0 0 nilS) :: RdR q S 4 :: BlockR nb (vL 9 (p : Int) (i : Int) 0 0 nilS) :: rs) (v2.setCell ⟨nb, 2, none⟩ (.int .i64 (i : Int)))) := P2.out.perm (List.perm_middle (l₁ := [_, _]) (l₂ := rs))
  clear P2 e0
  clear CN
  obtain ⟨x0, _⟩ := HPZ.out.bcell (q := nb) (vs := (vL 9 (p : Int) (i : Int) 0 0 nilS)) (by simp) 0 _ rfl
  obtain ⟨x1, _⟩ := HPZ.out.bcell (q := nb) (vs := (vL 9 (p : Int) (i : Int) 0 0 nilS)) (by simp) 1 _ rfl
  obtain ⟨x2, _⟩ := HPZ.out.bcell (q := nb) (vs := (vL 9 (p : Int) (i : Int) 0 0 nilS)) (by simp) 2 _ rfl
  obtain ⟨x3, _⟩ := HPZ.out.bcell (q := nb) (vs := (vL 9 (p : Int) (i : Int) 0 0 nilS)) (by simp) 3 _ rfl
  obtain ⟨x4, _⟩ := HPZ.out.bcell (q := nb) (vs := (vL 9 (p : Int) (i : Int) 0 0 nilS)) (by simp) 4 _ rfl
  obtain ⟨x5, _⟩ := HPZ.out.bcell (q := nb) (vs := (vL 9 (p : Int) (i : Int) 0 0 nilS)) (by simp) 5 _ rfl
  obtain ⟨y0, g0⟩ := HPZ.out.bcell (q := rb) (vs := (vL 0 0 0 0 0 nilS)) (by simp) 0 _ rfl
  obtain ⟨y1, g1⟩ := HPZ.out.bcell (q := rb) (vs := (vL 0 0 0 0 0 nilS)) (by simp) 1 _ rfl
  obtain ⟨y2, g2⟩ := HPZ.out.bcell (q := rb) (vs := (vL 0 0 0 0 0 nilS)) (by simp) 2 _ rfl
  obtain ⟨y3, g3⟩ := HPZ.out.bcell (q := rb) (vs := (vL 0 0 0 0 0 nilS)) (by simp) 3 _ rfl
  obtain ⟨y4, g4⟩ := HPZ.out.bcell (q := rb) (vs := (vL 0 0 0 0 0 nilS)) (by simp) 4 _ rfl
  obtain ⟨y5, g5⟩ := HPZ.out.bcell (q := rb) (vs := (vL 0 0 0 0 0 nilS)) (by simp) 5 _ rfl
  have HQ : Hid (Has B w (BlockR rb (vL 9 (p : Int) (i : Int) 0 0 nilS) :: RdR q S 4 :: BlockR nb (vL 9 (p : Int) (i : Int) 0 0 nilS) :: rs) (setAll rb 0 (vL 9 (p : Int) (i : Int) 0 0 nilS) (v2.setCell ⟨nb, 2, none⟩ (.int .i64 (i : Int))))) := Has.puts (vL 9 (p : Int) (i : Int) 0 0 nilS) [] (vL 0 0 0 0 0 nilS) HPZ.out rfl
  clear HPZ
  go_wp2_with fail
  have HC : Hid (∀ j u, (vL 9 (p : Int) (i : Int) 0 0 nilS)[j]? = some u → (setAll rb 0 (vL 9 (p : Int) (i : Int) 0 0 nilS) (v2.setCell ⟨nb, 2, none⟩ (.int .i64 (i : Int)))).cell? ⟨rb, j, none⟩ = some u) := fun j u hu => (HQ.out.bcell (q := rb) (vs := (vL 9 (p : Int) (i : Int) 0 0 nilS)) (by simp) j u hu).1
  refine bodyPost_ret (results_row rfl _ _ rb (vL 9 (p : Int) (i : Int) 0 0 nilS) _ rfl HC.out Try.underlying52 rfl (by kernel_rfl)) rfl ⟨rfl, ?_⟩
  exact (HQ.out.drop.perm (List.Perm.swap _ _ _)).drop
set_option maxHeartbeats 2000000 in
theorem ltRK {q k p i s : Nat} {S : ByteArray} (hS : S.size ≤ 4611686018427387904) (hS3 : 5 ≤ S.size) (h : Has B w (RdR q S 1 :: rs) wr) (tk : PackMath.tn (S.data.toList.drop 1) = (k, 1, 0)) (t0 : PackMath.tn (S.data.toList.drop 2) = (p, 1, 0)) (t1 : PackMath.tn (S.data.toList.drop 3) = (i, 1, 0)) (t2 : PackMath.tn (S.data.toList.drop 4) = (s, 1, 0)) (k1 : k ≠ 1) (k3 : k ≠ 3) (k9 : k ≠ 9) :
    Calls Try.prog 33 #[.pointer (some ⟨q, 0, none⟩)] wr fun e w' => e = .returned (.agg (vL (k : Int) (p : Int) (i : Int) (s : Int) 0 nilS).toArray) ∧ Has B w (RdR q S 5 :: rs) w' := by
  have CN : Hid (∀ (a n : Nat) (rs : List Res) (wq : World), a ≤ S.size → PackMath.tn (S.data.toList.drop a) = (n, 1, 0) → Has B w (RdR q S a :: rs) wq → Calls Try.prog 38 #[.pointer (some ⟨q, 0, none⟩)] wq fun e w' => e = .returned (.int .i64 (n : Int)) ∧ Hid (Has B w (RdR q S (a + 1) :: rs) w')) := fun a n rs wq ha ht hq => numR_ok hS ha hq ht
  have k1' : ((k : Int) == 1) = false := beq_eq_false_iff_ne.2 (by omega)
  have k3' : ((k : Int) == 3) = false := beq_eq_false_iff_ne.2 (by omega)
  have k9' : ((k : Int) == 9) = false := beq_eq_false_iff_ne.2 (by omega)
  have k3n : ((k : Int) != 3) = true := by simp [bne, k3']
  have k9n : ((k : Int) != 9) = true := by simp [bne, k9']
  have k3m : ¬ (k : Int) = 3 := by omega
  have k9m : ¬ (k : Int) = 9 := by omega
  have H0 : Hid (Has B w (RdR q S 1 :: BlockR (wr.heap.size + 1) (vL 0 0 0 0 0 nilS) :: BlockR wr.heap.size (vL 0 0 0 0 0 nilS) :: rs) ((wr.alloc (.cells #[.int .i64 0, .int .i64 0, .int .i64 0, .int .i64 0, .int .i64 0, .slice none 0 0] 52)).alloc (.cells #[.int .i64 0, .int .i64 0, .int .i64 0, .int .i64 0, .int .i64 0, .slice none 0 0] 52))) := by
    have x := ((h.box (vL 0 0 0 0 0 nilS) 52).box (vL 0 0 0 0 0 nilS) 52)
    rw [World.size_alloc] at x
    exact x.perm ((List.perm_middle (l₁ := [_, _]) (l₂ := rs)))
  have E := CN.out 1 k _ _ (by omega) tk H0.out
  obtain ⟨rb, hrb⟩ : ∃ rb, wr.heap.size = rb := ⟨_, rfl⟩
  clear h H0
  rw [hrb] at E
  go_enter Try.func33, Try.ntmps33
  go_wp2_with fail
  refine E.mono ?_
  rintro e v0 ⟨rfl, G0⟩
  obtain ⟨nb, hnb⟩ : ∃ nb, rb + 1 = nb := ⟨_, rfl⟩
  rw [hnb] at G0
  have P0 : Hid (Has B w (RdR q S 2 :: BlockR nb (vL (k : Int) 0 0 0 0 nilS) :: BlockR rb (vL 0 0 0 0 0 nilS) :: rs) (v0.setCell ⟨nb, 0, none⟩ (.int .i64 (k : Int)))) := ((G0.out.perm (List.Perm.swap _ _ _)).put 0 (by simp [vL]) (.int .i64 (k : Int))).perm (List.Perm.swap _ _ _)
  obtain ⟨e1, f1⟩ := G0.out.bcell (q := nb) (vs := (vL 0 0 0 0 0 nilS)) (by simp) 0 _ rfl
  obtain ⟨e0, _⟩ := P0.out.bcell (q := nb) (vs := (vL (k : Int) 0 0 0 0 nilS)) (by simp) 0 _ rfl
  clear E G0 hrb
  have E := CN.out 2 p _ _ (by omega) t0 P0.out
  go_wp2_with fail
  refine E.mono ?_
  rintro e v1 ⟨rfl, G1⟩
  have P1 : Hid (Has B w (RdR q S 3 :: BlockR nb (vL (k : Int) (p : Int) 0 0 0 nilS) :: BlockR rb (vL 0 0 0 0 0 nilS) :: rs) (v1.setCell ⟨nb, 1, none⟩ (.int .i64 (p : Int)))) := ((G1.out.perm (List.Perm.swap _ _ _)).put 1 (by simp [vL]) (.int .i64 (p : Int))).perm (List.Perm.swap _ _ _)
  clear e0 e1 f1
  obtain ⟨e1, f1⟩ := G1.out.bcell (q := nb) (vs := (vL (k : Int) 0 0 0 0 nilS)) (by simp) 1 _ rfl
  obtain ⟨e0, _⟩ := P1.out.bcell (q := nb) (vs := (vL (k : Int) (p : Int) 0 0 0 nilS)) (by simp) 0 _ rfl
  clear E G1 P0
  have E := CN.out 3 i _ _ (by omega) t1 P1.out
  go_wp2_with fail
  refine E.mono ?_
  rintro e v2 ⟨rfl, G2⟩
  have P2 : Hid (Has B w (RdR q S 4 :: BlockR nb (vL (k : Int) (p : Int) (i : Int) 0 0 nilS) :: BlockR rb (vL 0 0 0 0 0 nilS) :: rs) (v2.setCell ⟨nb, 2, none⟩ (.int .i64 (i : Int)))) := ((G2.out.perm (List.Perm.swap _ _ _)).put 2 (by simp [vL]) (.int .i64 (i : Int))).perm (List.Perm.swap _ _ _)
  clear e0 e1 f1
  obtain ⟨e1, f1⟩ := G2.out.bcell (q := nb) (vs := (vL (k : Int) (p : Int) 0 0 0 nilS)) (by simp) 2 _ rfl
  obtain ⟨e0, _⟩ := P2.out.bcell (q := nb) (vs := (vL (k : Int) (p : Int) (i : Int) 0 0 nilS)) (by simp) 0 _ rfl
  clear E G2 P1
  have E := CN.out 4 s _ _ (by omega) t2 P2.out
  go_wp2_with fail
  refine E.mono ?_
  rintro e v3 ⟨rfl, G3⟩
  have P3 : Hid (Has B w (RdR q S 5 :: BlockR nb (vL (k : Int) (p : Int) (i : Int) (s : Int) 0 nilS) :: BlockR rb (vL 0 0 0 0 0 nilS) :: rs) (v3.setCell ⟨nb, 3, none⟩ (.int .i64 (s : Int)))) := ((G3.out.perm (List.Perm.swap _ _ _)).put 3 (by simp [vL]) (.int .i64 (s : Int))).perm (List.Perm.swap _ _ _)
  clear e0 e1 f1
  obtain ⟨e1, f1⟩ := G3.out.bcell (q := nb) (vs := (vL (k : Int) (p : Int) (i : Int) 0 0 nilS)) (by simp) 3 _ rfl
  obtain ⟨e0, _⟩ := P3.out.bcell (q := nb) (vs := (vL (k : Int) (p : Int) (i : Int) (s : Int) 0 nilS)) (by simp) 0 _ rfl
  clear E G3 P2
  have HPZ : Hid (Has B w (BlockR rb (vL 0 0 0 0 0 nilS) :: RdR q S 5 :: BlockR nb (vL (k : Int) (p : Int) (i : Int) (s : Int) 0 nilS) :: rs) (v3.setCell ⟨nb, 3, none⟩ (.int .i64 (s : Int)))) := P3.out.perm (List.perm_middle (l₁ := [_, _]) (l₂ := rs))
  clear P3 e0
  clear CN
  obtain ⟨x0, _⟩ := HPZ.out.bcell (q := nb) (vs := (vL (k : Int) (p : Int) (i : Int) (s : Int) 0 nilS)) (by simp) 0 _ rfl
  obtain ⟨x1, _⟩ := HPZ.out.bcell (q := nb) (vs := (vL (k : Int) (p : Int) (i : Int) (s : Int) 0 nilS)) (by simp) 1 _ rfl
  obtain ⟨x2, _⟩ := HPZ.out.bcell (q := nb) (vs := (vL (k : Int) (p : Int) (i : Int) (s : Int) 0 nilS)) (by simp) 2 _ rfl
  obtain ⟨x3, _⟩ := HPZ.out.bcell (q := nb) (vs := (vL (k : Int) (p : Int) (i : Int) (s : Int) 0 nilS)) (by simp) 3 _ rfl
  obtain ⟨x4, _⟩ := HPZ.out.bcell (q := nb) (vs := (vL (k : Int) (p : Int) (i : Int) (s : Int) 0 nilS)) (by simp) 4 _ rfl
  obtain ⟨x5, _⟩ := HPZ.out.bcell (q := nb) (vs := (vL (k : Int) (p : Int) (i : Int) (s : Int) 0 nilS)) (by simp) 5 _ rfl
  obtain ⟨y0, g0⟩ := HPZ.out.bcell (q := rb) (vs := (vL 0 0 0 0 0 nilS)) (by simp) 0 _ rfl
  obtain ⟨y1, g1⟩ := HPZ.out.bcell (q := rb) (vs := (vL 0 0 0 0 0 nilS)) (by simp) 1 _ rfl
  obtain ⟨y2, g2⟩ := HPZ.out.bcell (q := rb) (vs := (vL 0 0 0 0 0 nilS)) (by simp) 2 _ rfl
  obtain ⟨y3, g3⟩ := HPZ.out.bcell (q := rb) (vs := (vL 0 0 0 0 0 nilS)) (by simp) 3 _ rfl
  obtain ⟨y4, g4⟩ := HPZ.out.bcell (q := rb) (vs := (vL 0 0 0 0 0 nilS)) (by simp) 4 _ rfl
  obtain ⟨y5, g5⟩ := HPZ.out.bcell (q := rb) (vs := (vL 0 0 0 0 0 nilS)) (by simp) 5 _ rfl
  have HQ : Hid (Has B w (BlockR rb (vL (k : Int) (p : Int) (i : Int) (s : Int) 0 nilS) :: RdR q S 5 :: BlockR nb (vL (k : Int) (p : Int) (i : Int) (s : Int) 0 nilS) :: rs) (setAll rb 0 (vL (k : Int) (p : Int) (i : Int) (s : Int) 0 nilS) (v3.setCell ⟨nb, 3, none⟩ (.int .i64 (s : Int))))) := Has.puts (vL (k : Int) (p : Int) (i : Int) (s : Int) 0 nilS) [] (vL 0 0 0 0 0 nilS) HPZ.out rfl
  clear HPZ
  go_wp2_with fail
  have HC : Hid (∀ j u, (vL (k : Int) (p : Int) (i : Int) (s : Int) 0 nilS)[j]? = some u → (setAll rb 0 (vL (k : Int) (p : Int) (i : Int) (s : Int) 0 nilS) (v3.setCell ⟨nb, 3, none⟩ (.int .i64 (s : Int)))).cell? ⟨rb, j, none⟩ = some u) := fun j u hu => (HQ.out.bcell (q := rb) (vs := (vL (k : Int) (p : Int) (i : Int) (s : Int) 0 nilS)) (by simp) j u hu).1
  refine bodyPost_ret (results_row rfl _ _ rb (vL (k : Int) (p : Int) (i : Int) (s : Int) 0 nilS) _ rfl HC.out Try.underlying52 rfl (by kernel_rfl)) rfl ⟨rfl, ?_⟩
  exact (HQ.out.drop.perm (List.Perm.swap _ _ _)).drop
set_option maxHeartbeats 2000000 in
theorem ltR1 {q p i s o c : Nat} {xs : List (List UInt8)} {S : ByteArray} (hS : S.size ≤ 4611686018427387904) (hS3 : 6 ≤ S.size) (h : Has B w (RdR q S 1 :: rs) wr) (tk : PackMath.tn (S.data.toList.drop 1) = (1, 1, 0)) (t0 : PackMath.tn (S.data.toList.drop 2) = (p, 1, 0)) (t1 : PackMath.tn (S.data.toList.drop 3) = (i, 1, 0)) (t2 : PackMath.tn (S.data.toList.drop 4) = (s, 1, 0)) (t3 : PackMath.tn (S.data.toList.drop 5) = (o, 1, 0)) (tq : PackMath.tl (S.data.toList.drop 6) = (xs, c, 0)) :
    Calls Try.prog 33 #[.pointer (some ⟨q, 0, none⟩)] wr fun e w' => ∃ ao cap, e = .returned (.agg (vL 1 (p : Int) (i : Int) (s : Int) (o : Int) (.slice ao xs.length cap)).toArray) ∧ Hid (Has B w (RdR q S (6 + c) :: TR (.slice ao xs.length cap) xs :: rs) w') := by
  have CN : Hid (∀ (a n : Nat) (rs : List Res) (wq : World), a ≤ S.size → PackMath.tn (S.data.toList.drop a) = (n, 1, 0) → Has B w (RdR q S a :: rs) wq → Calls Try.prog 38 #[.pointer (some ⟨q, 0, none⟩)] wq fun e w' => e = .returned (.int .i64 (n : Int)) ∧ Hid (Has B w (RdR q S (a + 1) :: rs) w')) := fun a n rs wq ha ht hq => numR_ok hS ha hq ht
  have CK : Hid (∀ (rs : List Res) (wq : World), Has B w (RdR q S 6 :: rs) wq → Calls Try.prog 39 #[.pointer (some ⟨q, 0, none⟩)] wq fun e w' => ∃ v, e = .returned v ∧ (∃ ao cap, v = .slice ao xs.length cap) ∧ Hid (Has B w (RdR q S (6 + c) :: TR v xs :: rs) w')) := fun rs wq hq => keysR_ok hS hS3 hq tq
  have H0 : Hid (Has B w (RdR q S 1 :: BlockR (wr.heap.size + 1) (vL 0 0 0 0 0 nilS) :: BlockR wr.heap.size (vL 0 0 0 0 0 nilS) :: rs) ((wr.alloc (.cells #[.int .i64 0, .int .i64 0, .int .i64 0, .int .i64 0, .int .i64 0, .slice none 0 0] 52)).alloc (.cells #[.int .i64 0, .int .i64 0, .int .i64 0, .int .i64 0, .int .i64 0, .slice none 0 0] 52))) := by
    have x := ((h.box (vL 0 0 0 0 0 nilS) 52).box (vL 0 0 0 0 0 nilS) 52)
    rw [World.size_alloc] at x
    exact x.perm ((List.perm_middle (l₁ := [_, _]) (l₂ := rs)))
  have E := CN.out 1 1 _ _ (by omega) tk H0.out
  obtain ⟨rb, hrb⟩ : ∃ rb, wr.heap.size = rb := ⟨_, rfl⟩
  clear h H0
  rw [hrb] at E
  go_enter Try.func33, Try.ntmps33
  go_wp2_with fail
  refine E.mono ?_
  rintro e v0 ⟨rfl, G0⟩
  obtain ⟨nb, hnb⟩ : ∃ nb, rb + 1 = nb := ⟨_, rfl⟩
  rw [hnb] at G0
  have P0 : Hid (Has B w (RdR q S 2 :: BlockR nb (vL 1 0 0 0 0 nilS) :: BlockR rb (vL 0 0 0 0 0 nilS) :: rs) (v0.setCell ⟨nb, 0, none⟩ (.int .i64 1))) := ((G0.out.perm (List.Perm.swap _ _ _)).put 0 (by simp [vL]) (.int .i64 1)).perm (List.Perm.swap _ _ _)
  obtain ⟨e1, f1⟩ := G0.out.bcell (q := nb) (vs := (vL 0 0 0 0 0 nilS)) (by simp) 0 _ rfl
  obtain ⟨e0, _⟩ := P0.out.bcell (q := nb) (vs := (vL 1 0 0 0 0 nilS)) (by simp) 0 _ rfl
  clear E G0 hrb
  have E := CN.out 2 p _ _ (by omega) t0 P0.out
  go_wp2_with fail
  refine E.mono ?_
  rintro e v1 ⟨rfl, G1⟩
  have P1 : Hid (Has B w (RdR q S 3 :: BlockR nb (vL 1 (p : Int) 0 0 0 nilS) :: BlockR rb (vL 0 0 0 0 0 nilS) :: rs) (v1.setCell ⟨nb, 1, none⟩ (.int .i64 (p : Int)))) := ((G1.out.perm (List.Perm.swap _ _ _)).put 1 (by simp [vL]) (.int .i64 (p : Int))).perm (List.Perm.swap _ _ _)
  clear e0 e1 f1
  obtain ⟨e1, f1⟩ := G1.out.bcell (q := nb) (vs := (vL 1 0 0 0 0 nilS)) (by simp) 1 _ rfl
  obtain ⟨e0, _⟩ := P1.out.bcell (q := nb) (vs := (vL 1 (p : Int) 0 0 0 nilS)) (by simp) 0 _ rfl
  clear E G1 P0
  have E := CN.out 3 i _ _ (by omega) t1 P1.out
  go_wp2_with fail
  refine E.mono ?_
  rintro e v2 ⟨rfl, G2⟩
  have P2 : Hid (Has B w (RdR q S 4 :: BlockR nb (vL 1 (p : Int) (i : Int) 0 0 nilS) :: BlockR rb (vL 0 0 0 0 0 nilS) :: rs) (v2.setCell ⟨nb, 2, none⟩ (.int .i64 (i : Int)))) := ((G2.out.perm (List.Perm.swap _ _ _)).put 2 (by simp [vL]) (.int .i64 (i : Int))).perm (List.Perm.swap _ _ _)
  clear e0 e1 f1
  obtain ⟨e1, f1⟩ := G2.out.bcell (q := nb) (vs := (vL 1 (p : Int) 0 0 0 nilS)) (by simp) 2 _ rfl
  obtain ⟨e0, _⟩ := P2.out.bcell (q := nb) (vs := (vL 1 (p : Int) (i : Int) 0 0 nilS)) (by simp) 0 _ rfl
  clear E G2 P1
  have E := CN.out 4 s _ _ (by omega) t2 P2.out
  go_wp2_with fail
  refine E.mono ?_
  rintro e v3 ⟨rfl, G3⟩
  have P3 : Hid (Has B w (RdR q S 5 :: BlockR nb (vL 1 (p : Int) (i : Int) (s : Int) 0 nilS) :: BlockR rb (vL 0 0 0 0 0 nilS) :: rs) (v3.setCell ⟨nb, 3, none⟩ (.int .i64 (s : Int)))) := ((G3.out.perm (List.Perm.swap _ _ _)).put 3 (by simp [vL]) (.int .i64 (s : Int))).perm (List.Perm.swap _ _ _)
  clear e0 e1 f1
  obtain ⟨e1, f1⟩ := G3.out.bcell (q := nb) (vs := (vL 1 (p : Int) (i : Int) 0 0 nilS)) (by simp) 3 _ rfl
  obtain ⟨e0, _⟩ := P3.out.bcell (q := nb) (vs := (vL 1 (p : Int) (i : Int) (s : Int) 0 nilS)) (by simp) 0 _ rfl
  clear E G3 P2
  have E := CN.out 5 o _ _ (by omega) t3 P3.out
  go_wp2_with fail
  refine E.mono ?_
  rintro e v4 ⟨rfl, G4⟩
  have P4 : Hid (Has B w (RdR q S 6 :: BlockR nb (vL 1 (p : Int) (i : Int) (s : Int) (o : Int) nilS) :: BlockR rb (vL 0 0 0 0 0 nilS) :: rs) (v4.setCell ⟨nb, 4, none⟩ (.int .i64 (o : Int)))) := ((G4.out.perm (List.Perm.swap _ _ _)).put 4 (by simp [vL]) (.int .i64 (o : Int))).perm (List.Perm.swap _ _ _)
  clear e0 e1 f1
  obtain ⟨e1, f1⟩ := G4.out.bcell (q := nb) (vs := (vL 1 (p : Int) (i : Int) (s : Int) 0 nilS)) (by simp) 4 _ rfl
  obtain ⟨e0, _⟩ := P4.out.bcell (q := nb) (vs := (vL 1 (p : Int) (i : Int) (s : Int) (o : Int) nilS)) (by simp) 0 _ rfl
  clear E G4 P3
  have E := CK.out _ _ P4.out
  go_wp2_with fail
  refine E.mono ?_
  rintro e w4 ⟨v, rfl, ⟨ao, cap, rfl⟩, H4⟩
  have HX4 := H4.out.perm (List.perm_middle (l₁ := [_, _]) (a := BlockR nb (vL 1 (p : Int) (i : Int) (s : Int) (o : Int) nilS)))
  have HP4 : Hid (Has B w (BlockR nb (vL 1 (p : Int) (i : Int) (s : Int) (o : Int) (.slice ao xs.length cap)) :: RdR q S (6 + c) :: TR (.slice ao xs.length cap) xs :: BlockR rb (vL 0 0 0 0 0 nilS) :: rs) (w4.setCell ⟨nb, 5, none⟩ (.slice ao xs.length cap))) := HX4.put 5 (by simp [vL]) (.slice ao xs.length cap)
  clear e0 e1 f1
  obtain ⟨e1, f1⟩ := HX4.bcell (q := nb) (vs := (vL 1 (p : Int) (i : Int) (s : Int) (o : Int) nilS)) (by simp) 5 _ rfl
  have HPZ : Hid (Has B w (BlockR rb (vL 0 0 0 0 0 nilS) :: BlockR nb (vL 1 (p : Int) (i : Int) (s : Int) (o : Int) (.slice ao xs.length cap)) :: RdR q S (6 + c) :: TR (.slice ao xs.length cap) xs :: rs) (w4.setCell ⟨nb, 5, none⟩ (.slice ao xs.length cap))) := HP4.out.perm (List.perm_middle (l₁ := [_, _, _]) (l₂ := rs))
  clear E P4 H4 HX4 HP4 CK
  clear CN
  obtain ⟨x0, _⟩ := HPZ.out.bcell (q := nb) (vs := (vL 1 (p : Int) (i : Int) (s : Int) (o : Int) (.slice ao xs.length cap))) (by simp) 0 _ rfl
  obtain ⟨x1, _⟩ := HPZ.out.bcell (q := nb) (vs := (vL 1 (p : Int) (i : Int) (s : Int) (o : Int) (.slice ao xs.length cap))) (by simp) 1 _ rfl
  obtain ⟨x2, _⟩ := HPZ.out.bcell (q := nb) (vs := (vL 1 (p : Int) (i : Int) (s : Int) (o : Int) (.slice ao xs.length cap))) (by simp) 2 _ rfl
  obtain ⟨x3, _⟩ := HPZ.out.bcell (q := nb) (vs := (vL 1 (p : Int) (i : Int) (s : Int) (o : Int) (.slice ao xs.length cap))) (by simp) 3 _ rfl
  obtain ⟨x4, _⟩ := HPZ.out.bcell (q := nb) (vs := (vL 1 (p : Int) (i : Int) (s : Int) (o : Int) (.slice ao xs.length cap))) (by simp) 4 _ rfl
  obtain ⟨x5, _⟩ := HPZ.out.bcell (q := nb) (vs := (vL 1 (p : Int) (i : Int) (s : Int) (o : Int) (.slice ao xs.length cap))) (by simp) 5 _ rfl
  obtain ⟨y0, g0⟩ := HPZ.out.bcell (q := rb) (vs := (vL 0 0 0 0 0 nilS)) (by simp) 0 _ rfl
  obtain ⟨y1, g1⟩ := HPZ.out.bcell (q := rb) (vs := (vL 0 0 0 0 0 nilS)) (by simp) 1 _ rfl
  obtain ⟨y2, g2⟩ := HPZ.out.bcell (q := rb) (vs := (vL 0 0 0 0 0 nilS)) (by simp) 2 _ rfl
  obtain ⟨y3, g3⟩ := HPZ.out.bcell (q := rb) (vs := (vL 0 0 0 0 0 nilS)) (by simp) 3 _ rfl
  obtain ⟨y4, g4⟩ := HPZ.out.bcell (q := rb) (vs := (vL 0 0 0 0 0 nilS)) (by simp) 4 _ rfl
  obtain ⟨y5, g5⟩ := HPZ.out.bcell (q := rb) (vs := (vL 0 0 0 0 0 nilS)) (by simp) 5 _ rfl
  have HQ : Hid (Has B w (BlockR rb (vL 1 (p : Int) (i : Int) (s : Int) (o : Int) (.slice ao xs.length cap)) :: BlockR nb (vL 1 (p : Int) (i : Int) (s : Int) (o : Int) (.slice ao xs.length cap)) :: RdR q S (6 + c) :: TR (.slice ao xs.length cap) xs :: rs) (setAll rb 0 (vL 1 (p : Int) (i : Int) (s : Int) (o : Int) (.slice ao xs.length cap)) (w4.setCell ⟨nb, 5, none⟩ (.slice ao xs.length cap)))) := Has.puts (vL 1 (p : Int) (i : Int) (s : Int) (o : Int) (.slice ao xs.length cap)) [] (vL 0 0 0 0 0 nilS) HPZ.out rfl
  clear HPZ
  go_wp2_with fail
  have HC : Hid (∀ j u, (vL 1 (p : Int) (i : Int) (s : Int) (o : Int) (.slice ao xs.length cap))[j]? = some u → (setAll rb 0 (vL 1 (p : Int) (i : Int) (s : Int) (o : Int) (.slice ao xs.length cap)) (w4.setCell ⟨nb, 5, none⟩ (.slice ao xs.length cap))).cell? ⟨rb, j, none⟩ = some u) := fun j u hu => (HQ.out.bcell (q := rb) (vs := (vL 1 (p : Int) (i : Int) (s : Int) (o : Int) (.slice ao xs.length cap))) (by simp) j u hu).1
  refine bodyPost_ret (results_row rfl _ _ rb (vL 1 (p : Int) (i : Int) (s : Int) (o : Int) (.slice ao xs.length cap)) _ rfl HC.out Try.underlying52 rfl (by kernel_rfl)) rfl ⟨_, _, rfl, ?_⟩
  exact HQ.out.drop.drop
end
end Go.Proofs.Yteicfkgcbpioiaa.Pl
