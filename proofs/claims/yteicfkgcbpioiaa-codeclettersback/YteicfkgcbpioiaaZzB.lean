/- The texts NtRead, EvRead, one behind the other. -/
import Derived.Test.YteicfkgcbpioiaaZzA
import Derived.Test.YteicfkgcbpioiaaLiveC
/- Reading a note, by kinds. -/
set_option linter.unusedVariables false
set_option maxRecDepth 100000
namespace Go.Proofs.Yteicfkgcbpioiaa.Pl
open Go.RowKit Go.Proofs.Yteicfkgcbpioiaa

def vF (k i s t p c : Int) (K M : ByteArray) (v : Int) (X : ByteArray) : List Value := [.int .i64 k, .int .i64 i, .int .i64 s, .int .i64 t, .int .i64 p, .int .i64 c, .string K, .string M, .int .i64 v, .string X]
theorem strV_data (X : ByteArray) : strV X.data.toList = .string X := by unfold strV; cases X; simp
section
variable {B : Nat} {w wr : World} {rs : List Res}
set_option maxHeartbeats 2000000 in
theorem noteR1 {q nX : Nat} {S : ByteArray} {X : ByteArray} (hS : S.size ≤ 4611686018427387904) (h : Has B w (RdR q S 1 :: rs) wr) (tk : PackMath.tn (S.data.toList.drop 1) = (1, 1, 0)) (lk : 1 ≤ S.size) (t0 : PackMath.tt (S.data.toList.drop (2)) = (X.data.toList, nX, 0)) (l0 : 2 ≤ S.size) :
    Calls Try.prog 35 #[.pointer (some ⟨q, 0, none⟩)] wr fun e w' => e = .returned (.agg (vF 1 0 0 0 0 0 ⟨#[]⟩ ⟨#[]⟩ 0 X).toArray) ∧ Has B w (RdR q S (2 + nX) :: rs) w' := by
  have CN : Hid (∀ (a n : Nat) (rs : List Res) (wq : World), a ≤ S.size → PackMath.tn (S.data.toList.drop a) = (n, 1, 0) → Has B w (RdR q S a :: rs) wq → Calls Try.prog 38 #[.pointer (some ⟨q, 0, none⟩)] wq fun e w' => e = .returned (.int .i64 (n : Int)) ∧ Hid (Has B w (RdR q S (a + 1) :: rs) w')) := fun a n rs wq ha ht hq => numR_ok hS ha hq ht
  have CW : Hid (∀ (a c : Nat) (Y : ByteArray) (rs : List Res) (wq : World), a ≤ S.size → PackMath.tt (S.data.toList.drop a) = (Y.data.toList, c, 0) → Has B w (RdR q S a :: rs) wq → Calls Try.prog 40 #[.pointer (some ⟨q, 0, none⟩)] wq fun e w' => e = .returned (.string Y) ∧ Hid (Has B w (RdR q S (a + c) :: rs) w')) := fun a c Y rs wq ha ht hq => by
    have x := wordR_ok hS ha hq ht
    rw [strV_data] at x
    exact x
  have H0 : Hid (Has B w (RdR q S 1 :: BlockR wr.heap.size zN :: rs) (wr.alloc (.cells #[.int .i64 0, .int .i64 0, .int .i64 0, .int .i64 0, .int .i64 0, .int .i64 0, .string ⟨#[]⟩, .string ⟨#[]⟩, .int .i64 0, .string ⟨#[]⟩] 48))) := (h.box zN 48).perm (List.Perm.swap _ _ _)
  have D1 := CN.out 1 1 _ _ lk tk H0.out
  obtain ⟨rb, hrb⟩ : ∃ rb, wr.heap.size = rb := ⟨_, rfl⟩
  clear h H0
  rw [hrb] at D1
  go_enter Try.func35, Try.ntmps35
  go_wp2_with fail
  refine D1.mono ?_
  rintro e w1 ⟨rfl, H1⟩
  clear hrb
  have HB : Hid (Has B w (RdR q S 2 :: BlockR w1.heap.size (vF 1 0 0 0 0 0 ⟨#[]⟩ ⟨#[]⟩ 0 ⟨#[]⟩) :: BlockR rb zN :: rs) (w1.alloc (.cells #[.int .i64 1, .int .i64 0, .int .i64 0, .int .i64 0, .int .i64 0, .int .i64 0, .string ⟨#[]⟩, .string ⟨#[]⟩, .int .i64 0, .string ⟨#[]⟩] 48))) := (H1.out.box (vF 1 0 0 0 0 0 ⟨#[]⟩ ⟨#[]⟩ 0 ⟨#[]⟩) 48).perm (List.Perm.swap _ _ _)
  have E0 := CW.out (2) nX X _ _ l0 t0 HB.out
  go_wp2_with fail
  refine E0.mono ?_
  rintro e v0 ⟨rfl, G0⟩
  generalize w1.heap.size = nb at *
  clear E0 HB H1 D1
  have G0' : Hid (Has B w (RdR q S (2 + nX) :: BlockR nb (vF 1 0 0 0 0 0 ⟨#[]⟩ ⟨#[]⟩ 0 ⟨#[]⟩) :: BlockR rb zN :: rs) v0) := G0
  clear G0
  obtain ⟨e1, f1⟩ := G0'.out.bcell (q := nb) (vs := (vF 1 0 0 0 0 0 ⟨#[]⟩ ⟨#[]⟩ 0 ⟨#[]⟩)) (by simp) 9 _ rfl
  have P0 : Hid (Has B w (RdR q S (2 + nX) :: BlockR nb (vF 1 0 0 0 0 0 ⟨#[]⟩ ⟨#[]⟩ 0 X) :: BlockR rb zN :: rs) (v0.setCell ⟨nb, 9, none⟩ (.string X))) := ((G0'.out.perm (List.Perm.swap _ _ _)).put 9 (by simp [vF]) (.string X)).perm (List.Perm.swap _ _ _)
  obtain ⟨e0, _⟩ := P0.out.bcell (q := nb) (vs := (vF 1 0 0 0 0 0 ⟨#[]⟩ ⟨#[]⟩ 0 X)) (by simp) 0 _ rfl
  clear G0'
  have HPZ : Hid (Has B w (BlockR rb zN :: RdR q S (2 + nX) :: BlockR nb (vF 1 0 0 0 0 0 ⟨#[]⟩ ⟨#[]⟩ 0 X) :: rs) (v0.setCell ⟨nb, 9, none⟩ (.string X))) := P0.out.perm (List.perm_middle (l₁ := [_, _]) (l₂ := rs))
  clear P0 CN CW
  obtain ⟨x1, _⟩ := HPZ.out.bcell (q := nb) (vs := (vF 1 0 0 0 0 0 ⟨#[]⟩ ⟨#[]⟩ 0 X)) (by simp) 1 _ rfl
  obtain ⟨x2, _⟩ := HPZ.out.bcell (q := nb) (vs := (vF 1 0 0 0 0 0 ⟨#[]⟩ ⟨#[]⟩ 0 X)) (by simp) 2 _ rfl
  obtain ⟨x3, _⟩ := HPZ.out.bcell (q := nb) (vs := (vF 1 0 0 0 0 0 ⟨#[]⟩ ⟨#[]⟩ 0 X)) (by simp) 3 _ rfl
  obtain ⟨x4, _⟩ := HPZ.out.bcell (q := nb) (vs := (vF 1 0 0 0 0 0 ⟨#[]⟩ ⟨#[]⟩ 0 X)) (by simp) 4 _ rfl
  obtain ⟨x5, _⟩ := HPZ.out.bcell (q := nb) (vs := (vF 1 0 0 0 0 0 ⟨#[]⟩ ⟨#[]⟩ 0 X)) (by simp) 5 _ rfl
  obtain ⟨x6, _⟩ := HPZ.out.bcell (q := nb) (vs := (vF 1 0 0 0 0 0 ⟨#[]⟩ ⟨#[]⟩ 0 X)) (by simp) 6 _ rfl
  obtain ⟨x7, _⟩ := HPZ.out.bcell (q := nb) (vs := (vF 1 0 0 0 0 0 ⟨#[]⟩ ⟨#[]⟩ 0 X)) (by simp) 7 _ rfl
  obtain ⟨x8, _⟩ := HPZ.out.bcell (q := nb) (vs := (vF 1 0 0 0 0 0 ⟨#[]⟩ ⟨#[]⟩ 0 X)) (by simp) 8 _ rfl
  obtain ⟨x9, _⟩ := HPZ.out.bcell (q := nb) (vs := (vF 1 0 0 0 0 0 ⟨#[]⟩ ⟨#[]⟩ 0 X)) (by simp) 9 _ rfl
  obtain ⟨y0, g0⟩ := HPZ.out.bcell (q := rb) (vs := zN) (by simp) 0 _ rfl
  obtain ⟨y1, g1⟩ := HPZ.out.bcell (q := rb) (vs := zN) (by simp) 1 _ rfl
  obtain ⟨y2, g2⟩ := HPZ.out.bcell (q := rb) (vs := zN) (by simp) 2 _ rfl
  obtain ⟨y3, g3⟩ := HPZ.out.bcell (q := rb) (vs := zN) (by simp) 3 _ rfl
  obtain ⟨y4, g4⟩ := HPZ.out.bcell (q := rb) (vs := zN) (by simp) 4 _ rfl
  obtain ⟨y5, g5⟩ := HPZ.out.bcell (q := rb) (vs := zN) (by simp) 5 _ rfl
  obtain ⟨y6, g6⟩ := HPZ.out.bcell (q := rb) (vs := zN) (by simp) 6 _ rfl
  obtain ⟨y7, g7⟩ := HPZ.out.bcell (q := rb) (vs := zN) (by simp) 7 _ rfl
  obtain ⟨y8, g8⟩ := HPZ.out.bcell (q := rb) (vs := zN) (by simp) 8 _ rfl
  obtain ⟨y9, g9⟩ := HPZ.out.bcell (q := rb) (vs := zN) (by simp) 9 _ rfl
  have HQ : Hid (Has B w (BlockR rb (vF 1 0 0 0 0 0 ⟨#[]⟩ ⟨#[]⟩ 0 X) :: RdR q S (2 + nX) :: BlockR nb (vF 1 0 0 0 0 0 ⟨#[]⟩ ⟨#[]⟩ 0 X) :: rs) (setAll rb 0 (vF 1 0 0 0 0 0 ⟨#[]⟩ ⟨#[]⟩ 0 X) (v0.setCell ⟨nb, 9, none⟩ (.string X)))) := Has.puts (vF 1 0 0 0 0 0 ⟨#[]⟩ ⟨#[]⟩ 0 X) [] zN HPZ.out rfl
  clear HPZ
  go_wp2_with fail
  have HC : Hid (∀ j u, (vF 1 0 0 0 0 0 ⟨#[]⟩ ⟨#[]⟩ 0 X)[j]? = some u → (setAll rb 0 (vF 1 0 0 0 0 0 ⟨#[]⟩ ⟨#[]⟩ 0 X) (v0.setCell ⟨nb, 9, none⟩ (.string X))).cell? ⟨rb, j, none⟩ = some u) := fun j u hu => (HQ.out.bcell (q := rb) (vs := (vF 1 0 0 0 0 0 ⟨#[]⟩ ⟨#[]⟩ 0 X)) (by simp) j u hu).1
  refine bodyPost_ret (results_row rfl _ _ rb (vF 1 0 0 0 0 0 ⟨#[]⟩ ⟨#[]⟩ 0 X) _ rfl HC.out Try.underlying48 rfl (by kernel_rfl)) rfl ⟨rfl, ?_⟩
  exact (HQ.out.drop.perm (List.Perm.swap _ _ _)).drop
set_option maxHeartbeats 2000000 in
theorem noteR2 {q i v nK nM : Nat} {S : ByteArray} {K M : ByteArray} (hS : S.size ≤ 4611686018427387904) (h : Has B w (RdR q S 1 :: rs) wr) (tk : PackMath.tn (S.data.toList.drop 1) = (2, 1, 0)) (lk : 1 ≤ S.size) (t0 : PackMath.tn (S.data.toList.drop (2)) = (i, 1, 0)) (l0 : 2 ≤ S.size) (t1 : PackMath.tt (S.data.toList.drop (3)) = (K.data.toList, nK, 0)) (l1 : 3 ≤ S.size) (t2 : PackMath.tt (S.data.toList.drop (3 + nK)) = (M.data.toList, nM, 0)) (l2 : 3 + nK ≤ S.size) (t3 : PackMath.tn (S.data.toList.drop (3 + nK + nM)) = (v, 1, 0)) (l3 : 3 + nK + nM ≤ S.size) :
    Calls Try.prog 35 #[.pointer (some ⟨q, 0, none⟩)] wr fun e w' => e = .returned (.agg (vF 2 (i : Int) 0 0 0 0 K M (v : Int) ⟨#[]⟩).toArray) ∧ Has B w (RdR q S (3 + nK + nM + 1) :: rs) w' := by
  have CN : Hid (∀ (a n : Nat) (rs : List Res) (wq : World), a ≤ S.size → PackMath.tn (S.data.toList.drop a) = (n, 1, 0) → Has B w (RdR q S a :: rs) wq → Calls Try.prog 38 #[.pointer (some ⟨q, 0, none⟩)] wq fun e w' => e = .returned (.int .i64 (n : Int)) ∧ Hid (Has B w (RdR q S (a + 1) :: rs) w')) := fun a n rs wq ha ht hq => numR_ok hS ha hq ht
  have CW : Hid (∀ (a c : Nat) (Y : ByteArray) (rs : List Res) (wq : World), a ≤ S.size → PackMath.tt (S.data.toList.drop a) = (Y.data.toList, c, 0) → Has B w (RdR q S a :: rs) wq → Calls Try.prog 40 #[.pointer (some ⟨q, 0, none⟩)] wq fun e w' => e = .returned (.string Y) ∧ Hid (Has B w (RdR q S (a + c) :: rs) w')) := fun a c Y rs wq ha ht hq => by
    have x := wordR_ok hS ha hq ht
    rw [strV_data] at x
    exact x
  have H0 : Hid (Has B w (RdR q S 1 :: BlockR wr.heap.size zN :: rs) (wr.alloc (.cells #[.int .i64 0, .int .i64 0, .int .i64 0, .int .i64 0, .int .i64 0, .int .i64 0, .string ⟨#[]⟩, .string ⟨#[]⟩, .int .i64 0, .string ⟨#[]⟩] 48))) := (h.box zN 48).perm (List.Perm.swap _ _ _)
  have D1 := CN.out 1 2 _ _ lk tk H0.out
  obtain ⟨rb, hrb⟩ : ∃ rb, wr.heap.size = rb := ⟨_, rfl⟩
  clear h H0
  rw [hrb] at D1
  go_enter Try.func35, Try.ntmps35
  go_wp2_with fail
  refine D1.mono ?_
  rintro e w1 ⟨rfl, H1⟩
  clear hrb
  have HB : Hid (Has B w (RdR q S 2 :: BlockR w1.heap.size (vF 2 0 0 0 0 0 ⟨#[]⟩ ⟨#[]⟩ 0 ⟨#[]⟩) :: BlockR rb zN :: rs) (w1.alloc (.cells #[.int .i64 2, .int .i64 0, .int .i64 0, .int .i64 0, .int .i64 0, .int .i64 0, .string ⟨#[]⟩, .string ⟨#[]⟩, .int .i64 0, .string ⟨#[]⟩] 48))) := (H1.out.box (vF 2 0 0 0 0 0 ⟨#[]⟩ ⟨#[]⟩ 0 ⟨#[]⟩) 48).perm (List.Perm.swap _ _ _)
  have E0 := CN.out (2) i _ _ l0 t0 HB.out
  go_wp2_with fail
  refine E0.mono ?_
  rintro e v0 ⟨rfl, G0⟩
  generalize w1.heap.size = nb at *
  clear E0 HB H1 D1
  have G0' : Hid (Has B w (RdR q S (3) :: BlockR nb (vF 2 0 0 0 0 0 ⟨#[]⟩ ⟨#[]⟩ 0 ⟨#[]⟩) :: BlockR rb zN :: rs) v0) := G0
  clear G0
  obtain ⟨e1, f1⟩ := G0'.out.bcell (q := nb) (vs := (vF 2 0 0 0 0 0 ⟨#[]⟩ ⟨#[]⟩ 0 ⟨#[]⟩)) (by simp) 1 _ rfl
  have P0 : Hid (Has B w (RdR q S (3) :: BlockR nb (vF 2 (i : Int) 0 0 0 0 ⟨#[]⟩ ⟨#[]⟩ 0 ⟨#[]⟩) :: BlockR rb zN :: rs) (v0.setCell ⟨nb, 1, none⟩ (.int .i64 (i : Int)))) := ((G0'.out.perm (List.Perm.swap _ _ _)).put 1 (by simp [vF]) (.int .i64 (i : Int))).perm (List.Perm.swap _ _ _)
  obtain ⟨e0, _⟩ := P0.out.bcell (q := nb) (vs := (vF 2 (i : Int) 0 0 0 0 ⟨#[]⟩ ⟨#[]⟩ 0 ⟨#[]⟩)) (by simp) 0 _ rfl
  clear G0'
  have E1 := CW.out (3) nK K _ _ l1 t1 P0.out
  go_wp2_with fail
  refine E1.mono ?_
  rintro e v1 ⟨rfl, G1⟩
  clear E1 P0 e0 e1 f1
  have G1' : Hid (Has B w (RdR q S (3 + nK) :: BlockR nb (vF 2 (i : Int) 0 0 0 0 ⟨#[]⟩ ⟨#[]⟩ 0 ⟨#[]⟩) :: BlockR rb zN :: rs) v1) := G1
  clear G1
  obtain ⟨e1, f1⟩ := G1'.out.bcell (q := nb) (vs := (vF 2 (i : Int) 0 0 0 0 ⟨#[]⟩ ⟨#[]⟩ 0 ⟨#[]⟩)) (by simp) 6 _ rfl
  have P1 : Hid (Has B w (RdR q S (3 + nK) :: BlockR nb (vF 2 (i : Int) 0 0 0 0 K ⟨#[]⟩ 0 ⟨#[]⟩) :: BlockR rb zN :: rs) (v1.setCell ⟨nb, 6, none⟩ (.string K))) := ((G1'.out.perm (List.Perm.swap _ _ _)).put 6 (by simp [vF]) (.string K)).perm (List.Perm.swap _ _ _)
  obtain ⟨e0, _⟩ := P1.out.bcell (q := nb) (vs := (vF 2 (i : Int) 0 0 0 0 K ⟨#[]⟩ 0 ⟨#[]⟩)) (by simp) 0 _ rfl
  clear G1'
  have E2 := CW.out (3 + nK) nM M _ _ l2 t2 P1.out
  go_wp2_with fail
  refine E2.mono ?_
  rintro e v2 ⟨rfl, G2⟩
  clear E2 P1 e0 e1 f1
  have G2' : Hid (Has B w (RdR q S (3 + nK + nM) :: BlockR nb (vF 2 (i : Int) 0 0 0 0 K ⟨#[]⟩ 0 ⟨#[]⟩) :: BlockR rb zN :: rs) v2) := G2
  clear G2
  obtain ⟨e1, f1⟩ := G2'.out.bcell (q := nb) (vs := (vF 2 (i : Int) 0 0 0 0 K ⟨#[]⟩ 0 ⟨#[]⟩)) (by simp) 7 _ rfl
  have P2 : Hid (Has B w (RdR q S (3 + nK + nM) :: BlockR nb (vF 2 (i : Int) 0 0 0 0 K M 0 ⟨#[]⟩) :: BlockR rb zN :: rs) (v2.setCell ⟨nb, 7, none⟩ (.string M))) := ((G2'.out.perm (List.Perm.swap _ _ _)).put 7 (by simp [vF]) (.string M)).perm (List.Perm.swap _ _ _)
  obtain ⟨e0, _⟩ := P2.out.bcell (q := nb) (vs := (vF 2 (i : Int) 0 0 0 0 K M 0 ⟨#[]⟩)) (by simp) 0 _ rfl
  clear G2'
  have E3 := CN.out (3 + nK + nM) v _ _ l3 t3 P2.out
  go_wp2_with fail
  refine E3.mono ?_
  rintro e v3 ⟨rfl, G3⟩
  clear E3 P2 e0 e1 f1
  have G3' : Hid (Has B w (RdR q S (3 + nK + nM + 1) :: BlockR nb (vF 2 (i : Int) 0 0 0 0 K M 0 ⟨#[]⟩) :: BlockR rb zN :: rs) v3) := G3
  clear G3
  obtain ⟨e1, f1⟩ := G3'.out.bcell (q := nb) (vs := (vF 2 (i : Int) 0 0 0 0 K M 0 ⟨#[]⟩)) (by simp) 8 _ rfl
  have P3 : Hid (Has B w (RdR q S (3 + nK + nM + 1) :: BlockR nb (vF 2 (i : Int) 0 0 0 0 K M (v : Int) ⟨#[]⟩) :: BlockR rb zN :: rs) (v3.setCell ⟨nb, 8, none⟩ (.int .i64 (v : Int)))) := ((G3'.out.perm (List.Perm.swap _ _ _)).put 8 (by simp [vF]) (.int .i64 (v : Int))).perm (List.Perm.swap _ _ _)
  obtain ⟨e0, _⟩ := P3.out.bcell (q := nb) (vs := (vF 2 (i : Int) 0 0 0 0 K M (v : Int) ⟨#[]⟩)) (by simp) 0 _ rfl
  clear G3'
  have HPZ : Hid (Has B w (BlockR rb zN :: RdR q S (3 + nK + nM + 1) :: BlockR nb (vF 2 (i : Int) 0 0 0 0 K M (v : Int) ⟨#[]⟩) :: rs) (v3.setCell ⟨nb, 8, none⟩ (.int .i64 (v : Int)))) := P3.out.perm (List.perm_middle (l₁ := [_, _]) (l₂ := rs))
  clear P3 CN CW
  obtain ⟨x1, _⟩ := HPZ.out.bcell (q := nb) (vs := (vF 2 (i : Int) 0 0 0 0 K M (v : Int) ⟨#[]⟩)) (by simp) 1 _ rfl
  obtain ⟨x2, _⟩ := HPZ.out.bcell (q := nb) (vs := (vF 2 (i : Int) 0 0 0 0 K M (v : Int) ⟨#[]⟩)) (by simp) 2 _ rfl
  obtain ⟨x3, _⟩ := HPZ.out.bcell (q := nb) (vs := (vF 2 (i : Int) 0 0 0 0 K M (v : Int) ⟨#[]⟩)) (by simp) 3 _ rfl
  obtain ⟨x4, _⟩ := HPZ.out.bcell (q := nb) (vs := (vF 2 (i : Int) 0 0 0 0 K M (v : Int) ⟨#[]⟩)) (by simp) 4 _ rfl
  obtain ⟨x5, _⟩ := HPZ.out.bcell (q := nb) (vs := (vF 2 (i : Int) 0 0 0 0 K M (v : Int) ⟨#[]⟩)) (by simp) 5 _ rfl
  obtain ⟨x6, _⟩ := HPZ.out.bcell (q := nb) (vs := (vF 2 (i : Int) 0 0 0 0 K M (v : Int) ⟨#[]⟩)) (by simp) 6 _ rfl
  obtain ⟨x7, _⟩ := HPZ.out.bcell (q := nb) (vs := (vF 2 (i : Int) 0 0 0 0 K M (v : Int) ⟨#[]⟩)) (by simp) 7 _ rfl
  obtain ⟨x8, _⟩ := HPZ.out.bcell (q := nb) (vs := (vF 2 (i : Int) 0 0 0 0 K M (v : Int) ⟨#[]⟩)) (by simp) 8 _ rfl
  obtain ⟨x9, _⟩ := HPZ.out.bcell (q := nb) (vs := (vF 2 (i : Int) 0 0 0 0 K M (v : Int) ⟨#[]⟩)) (by simp) 9 _ rfl
  obtain ⟨y0, g0⟩ := HPZ.out.bcell (q := rb) (vs := zN) (by simp) 0 _ rfl
  obtain ⟨y1, g1⟩ := HPZ.out.bcell (q := rb) (vs := zN) (by simp) 1 _ rfl
  obtain ⟨y2, g2⟩ := HPZ.out.bcell (q := rb) (vs := zN) (by simp) 2 _ rfl
  obtain ⟨y3, g3⟩ := HPZ.out.bcell (q := rb) (vs := zN) (by simp) 3 _ rfl
  obtain ⟨y4, g4⟩ := HPZ.out.bcell (q := rb) (vs := zN) (by simp) 4 _ rfl
  obtain ⟨y5, g5⟩ := HPZ.out.bcell (q := rb) (vs := zN) (by simp) 5 _ rfl
  obtain ⟨y6, g6⟩ := HPZ.out.bcell (q := rb) (vs := zN) (by simp) 6 _ rfl
  obtain ⟨y7, g7⟩ := HPZ.out.bcell (q := rb) (vs := zN) (by simp) 7 _ rfl
  obtain ⟨y8, g8⟩ := HPZ.out.bcell (q := rb) (vs := zN) (by simp) 8 _ rfl
  obtain ⟨y9, g9⟩ := HPZ.out.bcell (q := rb) (vs := zN) (by simp) 9 _ rfl
  have HQ : Hid (Has B w (BlockR rb (vF 2 (i : Int) 0 0 0 0 K M (v : Int) ⟨#[]⟩) :: RdR q S (3 + nK + nM + 1) :: BlockR nb (vF 2 (i : Int) 0 0 0 0 K M (v : Int) ⟨#[]⟩) :: rs) (setAll rb 0 (vF 2 (i : Int) 0 0 0 0 K M (v : Int) ⟨#[]⟩) (v3.setCell ⟨nb, 8, none⟩ (.int .i64 (v : Int))))) := Has.puts (vF 2 (i : Int) 0 0 0 0 K M (v : Int) ⟨#[]⟩) [] zN HPZ.out rfl
  clear HPZ
  go_wp2_with fail
  have HC : Hid (∀ j u, (vF 2 (i : Int) 0 0 0 0 K M (v : Int) ⟨#[]⟩)[j]? = some u → (setAll rb 0 (vF 2 (i : Int) 0 0 0 0 K M (v : Int) ⟨#[]⟩) (v3.setCell ⟨nb, 8, none⟩ (.int .i64 (v : Int)))).cell? ⟨rb, j, none⟩ = some u) := fun j u hu => (HQ.out.bcell (q := rb) (vs := (vF 2 (i : Int) 0 0 0 0 K M (v : Int) ⟨#[]⟩)) (by simp) j u hu).1
  refine bodyPost_ret (results_row rfl _ _ rb (vF 2 (i : Int) 0 0 0 0 K M (v : Int) ⟨#[]⟩) _ rfl HC.out Try.underlying48 rfl (by kernel_rfl)) rfl ⟨rfl, ?_⟩
  exact (HQ.out.drop.perm (List.Perm.swap _ _ _)).drop
set_option maxHeartbeats 2000000 in
theorem noteR3 {q i : Nat} {S : ByteArray} (hS : S.size ≤ 4611686018427387904) (h : Has B w (RdR q S 1 :: rs) wr) (tk : PackMath.tn (S.data.toList.drop 1) = (3, 1, 0)) (lk : 1 ≤ S.size) (t0 : PackMath.tn (S.data.toList.drop (2)) = (i, 1, 0)) (l0 : 2 ≤ S.size) :
    Calls Try.prog 35 #[.pointer (some ⟨q, 0, none⟩)] wr fun e w' => e = .returned (.agg (vF 3 (i : Int) 0 0 0 0 ⟨#[]⟩ ⟨#[]⟩ 0 ⟨#[]⟩).toArray) ∧ Has B w (RdR q S (3) :: rs) w' := by
  have CN : Hid (∀ (a n : Nat) (rs : List Res) (wq : World), a ≤ S.size → PackMath.tn (S.data.toList.drop a) = (n, 1, 0) → Has B w (RdR q S a :: rs) wq → Calls Try.prog 38 #[.pointer (some ⟨q, 0, none⟩)] wq fun e w' => e = .returned (.int .i64 (n : Int)) ∧ Hid (Has B w (RdR q S (a + 1) :: rs) w')) := fun a n rs wq ha ht hq => numR_ok hS ha hq ht
  have H0 : Hid (Has B w (RdR q S 1 :: BlockR wr.heap.size zN :: rs) (wr.alloc (.cells #[.int .i64 0, .int .i64 0, .int .i64 0, .int .i64 0, .int .i64 0, .int .i64 0, .string ⟨#[]⟩, .string ⟨#[]⟩, .int .i64 0, .string ⟨#[]⟩] 48))) := (h.box zN 48).perm (List.Perm.swap _ _ _)
  have D1 := CN.out 1 3 _ _ lk tk H0.out
  obtain ⟨rb, hrb⟩ : ∃ rb, wr.heap.size = rb := ⟨_, rfl⟩
  clear h H0
  rw [hrb] at D1
  go_enter Try.func35, Try.ntmps35
  go_wp2_with fail
  refine D1.mono ?_
  rintro e w1 ⟨rfl, H1⟩
  clear hrb
  have HB : Hid (Has B w (RdR q S 2 :: BlockR w1.heap.size (vF 3 0 0 0 0 0 ⟨#[]⟩ ⟨#[]⟩ 0 ⟨#[]⟩) :: BlockR rb zN :: rs) (w1.alloc (.cells #[.int .i64 3, .int .i64 0, .int .i64 0, .int .i64 0, .int .i64 0, .int .i64 0, .string ⟨#[]⟩, .string ⟨#[]⟩, .int .i64 0, .string ⟨#[]⟩] 48))) := (H1.out.box (vF 3 0 0 0 0 0 ⟨#[]⟩ ⟨#[]⟩ 0 ⟨#[]⟩) 48).perm (List.Perm.swap _ _ _)
  have E0 := CN.out (2) i _ _ l0 t0 HB.out
  go_wp2_with fail
  refine E0.mono ?_
  rintro e v0 ⟨rfl, G0⟩
  generalize w1.heap.size = nb at *
  clear E0 HB H1 D1
  have G0' : Hid (Has B w (RdR q S (3) :: BlockR nb (vF 3 0 0 0 0 0 ⟨#[]⟩ ⟨#[]⟩ 0 ⟨#[]⟩) :: BlockR rb zN :: rs) v0) := G0
  clear G0
  obtain ⟨e1, f1⟩ := G0'.out.bcell (q := nb) (vs := (vF 3 0 0 0 0 0 ⟨#[]⟩ ⟨#[]⟩ 0 ⟨#[]⟩)) (by simp) 1 _ rfl
  have P0 : Hid (Has B w (RdR q S (3) :: BlockR nb (vF 3 (i : Int) 0 0 0 0 ⟨#[]⟩ ⟨#[]⟩ 0 ⟨#[]⟩) :: BlockR rb zN :: rs) (v0.setCell ⟨nb, 1, none⟩ (.int .i64 (i : Int)))) := ((G0'.out.perm (List.Perm.swap _ _ _)).put 1 (by simp [vF]) (.int .i64 (i : Int))).perm (List.Perm.swap _ _ _)
  obtain ⟨e0, _⟩ := P0.out.bcell (q := nb) (vs := (vF 3 (i : Int) 0 0 0 0 ⟨#[]⟩ ⟨#[]⟩ 0 ⟨#[]⟩)) (by simp) 0 _ rfl
  clear G0'
  have HPZ : Hid (Has B w (BlockR rb zN :: RdR q S (3) :: BlockR nb (vF 3 (i : Int) 0 0 0 0 ⟨#[]⟩ ⟨#[]⟩ 0 ⟨#[]⟩) :: rs) (v0.setCell ⟨nb, 1, none⟩ (.int .i64 (i : Int)))) := P0.out.perm (List.perm_middle (l₁ := [_, _]) (l₂ := rs))
  clear P0 CN
  obtain ⟨x1, _⟩ := HPZ.out.bcell (q := nb) (vs := (vF 3 (i : Int) 0 0 0 0 ⟨#[]⟩ ⟨#[]⟩ 0 ⟨#[]⟩)) (by simp) 1 _ rfl
  obtain ⟨x2, _⟩ := HPZ.out.bcell (q := nb) (vs := (vF 3 (i : Int) 0 0 0 0 ⟨#[]⟩ ⟨#[]⟩ 0 ⟨#[]⟩)) (by simp) 2 _ rfl
  obtain ⟨x3, _⟩ := HPZ.out.bcell (q := nb) (vs := (vF 3 (i : Int) 0 0 0 0 ⟨#[]⟩ ⟨#[]⟩ 0 ⟨#[]⟩)) (by simp) 3 _ rfl
  obtain ⟨x4, _⟩ := HPZ.out.bcell (q := nb) (vs := (vF 3 (i : Int) 0 0 0 0 ⟨#[]⟩ ⟨#[]⟩ 0 ⟨#[]⟩)) (by simp) 4 _ rfl
  obtain ⟨x5, _⟩ := HPZ.out.bcell (q := nb) (vs := (vF 3 (i : Int) 0 0 0 0 ⟨#[]⟩ ⟨#[]⟩ 0 ⟨#[]⟩)) (by simp) 5 _ rfl
  obtain ⟨x6, _⟩ := HPZ.out.bcell (q := nb) (vs := (vF 3 (i : Int) 0 0 0 0 ⟨#[]⟩ ⟨#[]⟩ 0 ⟨#[]⟩)) (by simp) 6 _ rfl
  obtain ⟨x7, _⟩ := HPZ.out.bcell (q := nb) (vs := (vF 3 (i : Int) 0 0 0 0 ⟨#[]⟩ ⟨#[]⟩ 0 ⟨#[]⟩)) (by simp) 7 _ rfl
  obtain ⟨x8, _⟩ := HPZ.out.bcell (q := nb) (vs := (vF 3 (i : Int) 0 0 0 0 ⟨#[]⟩ ⟨#[]⟩ 0 ⟨#[]⟩)) (by simp) 8 _ rfl
  obtain ⟨x9, _⟩ := HPZ.out.bcell (q := nb) (vs := (vF 3 (i : Int) 0 0 0 0 ⟨#[]⟩ ⟨#[]⟩ 0 ⟨#[]⟩)) (by simp) 9 _ rfl
  obtain ⟨y0, g0⟩ := HPZ.out.bcell (q := rb) (vs := zN) (by simp) 0 _ rfl
  obtain ⟨y1, g1⟩ := HPZ.out.bcell (q := rb) (vs := zN) (by simp) 1 _ rfl
  obtain ⟨y2, g2⟩ := HPZ.out.bcell (q := rb) (vs := zN) (by simp) 2 _ rfl
  obtain ⟨y3, g3⟩ := HPZ.out.bcell (q := rb) (vs := zN) (by simp) 3 _ rfl
  obtain ⟨y4, g4⟩ := HPZ.out.bcell (q := rb) (vs := zN) (by simp) 4 _ rfl
  obtain ⟨y5, g5⟩ := HPZ.out.bcell (q := rb) (vs := zN) (by simp) 5 _ rfl
  obtain ⟨y6, g6⟩ := HPZ.out.bcell (q := rb) (vs := zN) (by simp) 6 _ rfl
  obtain ⟨y7, g7⟩ := HPZ.out.bcell (q := rb) (vs := zN) (by simp) 7 _ rfl
  obtain ⟨y8, g8⟩ := HPZ.out.bcell (q := rb) (vs := zN) (by simp) 8 _ rfl
  obtain ⟨y9, g9⟩ := HPZ.out.bcell (q := rb) (vs := zN) (by simp) 9 _ rfl
  have HQ : Hid (Has B w (BlockR rb (vF 3 (i : Int) 0 0 0 0 ⟨#[]⟩ ⟨#[]⟩ 0 ⟨#[]⟩) :: RdR q S (3) :: BlockR nb (vF 3 (i : Int) 0 0 0 0 ⟨#[]⟩ ⟨#[]⟩ 0 ⟨#[]⟩) :: rs) (setAll rb 0 (vF 3 (i : Int) 0 0 0 0 ⟨#[]⟩ ⟨#[]⟩ 0 ⟨#[]⟩) (v0.setCell ⟨nb, 1, none⟩ (.int .i64 (i : Int))))) := Has.puts (vF 3 (i : Int) 0 0 0 0 ⟨#[]⟩ ⟨#[]⟩ 0 ⟨#[]⟩) [] zN HPZ.out rfl
  clear HPZ
  go_wp2_with fail
  have HC : Hid (∀ j u, (vF 3 (i : Int) 0 0 0 0 ⟨#[]⟩ ⟨#[]⟩ 0 ⟨#[]⟩)[j]? = some u → (setAll rb 0 (vF 3 (i : Int) 0 0 0 0 ⟨#[]⟩ ⟨#[]⟩ 0 ⟨#[]⟩) (v0.setCell ⟨nb, 1, none⟩ (.int .i64 (i : Int)))).cell? ⟨rb, j, none⟩ = some u) := fun j u hu => (HQ.out.bcell (q := rb) (vs := (vF 3 (i : Int) 0 0 0 0 ⟨#[]⟩ ⟨#[]⟩ 0 ⟨#[]⟩)) (by simp) j u hu).1
  refine bodyPost_ret (results_row rfl _ _ rb (vF 3 (i : Int) 0 0 0 0 ⟨#[]⟩ ⟨#[]⟩ 0 ⟨#[]⟩) _ rfl HC.out Try.underlying48 rfl (by kernel_rfl)) rfl ⟨rfl, ?_⟩
  exact (HQ.out.drop.perm (List.Perm.swap _ _ _)).drop
set_option maxHeartbeats 2000000 in
theorem noteR4 {q i : Nat} {S : ByteArray} (hS : S.size ≤ 4611686018427387904) (h : Has B w (RdR q S 1 :: rs) wr) (tk : PackMath.tn (S.data.toList.drop 1) = (4, 1, 0)) (lk : 1 ≤ S.size) (t0 : PackMath.tn (S.data.toList.drop (2)) = (i, 1, 0)) (l0 : 2 ≤ S.size) :
    Calls Try.prog 35 #[.pointer (some ⟨q, 0, none⟩)] wr fun e w' => e = .returned (.agg (vF 4 (i : Int) 0 0 0 0 ⟨#[]⟩ ⟨#[]⟩ 0 ⟨#[]⟩).toArray) ∧ Has B w (RdR q S (3) :: rs) w' := by
  have CN : Hid (∀ (a n : Nat) (rs : List Res) (wq : World), a ≤ S.size → PackMath.tn (S.data.toList.drop a) = (n, 1, 0) → Has B w (RdR q S a :: rs) wq → Calls Try.prog 38 #[.pointer (some ⟨q, 0, none⟩)] wq fun e w' => e = .returned (.int .i64 (n : Int)) ∧ Hid (Has B w (RdR q S (a + 1) :: rs) w')) := fun a n rs wq ha ht hq => numR_ok hS ha hq ht
  have H0 : Hid (Has B w (RdR q S 1 :: BlockR wr.heap.size zN :: rs) (wr.alloc (.cells #[.int .i64 0, .int .i64 0, .int .i64 0, .int .i64 0, .int .i64 0, .int .i64 0, .string ⟨#[]⟩, .string ⟨#[]⟩, .int .i64 0, .string ⟨#[]⟩] 48))) := (h.box zN 48).perm (List.Perm.swap _ _ _)
  have D1 := CN.out 1 4 _ _ lk tk H0.out
  obtain ⟨rb, hrb⟩ : ∃ rb, wr.heap.size = rb := ⟨_, rfl⟩
  clear h H0
  rw [hrb] at D1
  go_enter Try.func35, Try.ntmps35
  go_wp2_with fail
  refine D1.mono ?_
  rintro e w1 ⟨rfl, H1⟩
  clear hrb
  have HB : Hid (Has B w (RdR q S 2 :: BlockR w1.heap.size (vF 4 0 0 0 0 0 ⟨#[]⟩ ⟨#[]⟩ 0 ⟨#[]⟩) :: BlockR rb zN :: rs) (w1.alloc (.cells #[.int .i64 4, .int .i64 0, .int .i64 0, .int .i64 0, .int .i64 0, .int .i64 0, .string ⟨#[]⟩, .string ⟨#[]⟩, .int .i64 0, .string ⟨#[]⟩] 48))) := (H1.out.box (vF 4 0 0 0 0 0 ⟨#[]⟩ ⟨#[]⟩ 0 ⟨#[]⟩) 48).perm (List.Perm.swap _ _ _)
  have E0 := CN.out (2) i _ _ l0 t0 HB.out
  go_wp2_with fail
  refine E0.mono ?_
  rintro e v0 ⟨rfl, G0⟩
  generalize w1.heap.size = nb at *
  clear E0 HB H1 D1
  have G0' : Hid (Has B w (RdR q S (3) :: BlockR nb (vF 4 0 0 0 0 0 ⟨#[]⟩ ⟨#[]⟩ 0 ⟨#[]⟩) :: BlockR rb zN :: rs) v0) := G0
  clear G0
  obtain ⟨e1, f1⟩ := G0'.out.bcell (q := nb) (vs := (vF 4 0 0 0 0 0 ⟨#[]⟩ ⟨#[]⟩ 0 ⟨#[]⟩)) (by simp) 1 _ rfl
  have P0 : Hid (Has B w (RdR q S (3) :: BlockR nb (vF 4 (i : Int) 0 0 0 0 ⟨#[]⟩ ⟨#[]⟩ 0 ⟨#[]⟩) :: BlockR rb zN :: rs) (v0.setCell ⟨nb, 1, none⟩ (.int .i64 (i : Int)))) := ((G0'.out.perm (List.Perm.swap _ _ _)).put 1 (by simp [vF]) (.int .i64 (i : Int))).perm (List.Perm.swap _ _ _)
  obtain ⟨e0, _⟩ := P0.out.bcell (q := nb) (vs := (vF 4 (i : Int) 0 0 0 0 ⟨#[]⟩ ⟨#[]⟩ 0 ⟨#[]⟩)) (by simp) 0 _ rfl
  clear G0'
  have HPZ : Hid (Has B w (BlockR rb zN :: RdR q S (3) :: BlockR nb (vF 4 (i : Int) 0 0 0 0 ⟨#[]⟩ ⟨#[]⟩ 0 ⟨#[]⟩) :: rs) (v0.setCell ⟨nb, 1, none⟩ (.int .i64 (i : Int)))) := P0.out.perm (List.perm_middle (l₁ := [_, _]) (l₂ := rs))
  clear P0 CN
  obtain ⟨x1, _⟩ := HPZ.out.bcell (q := nb) (vs := (vF 4 (i : Int) 0 0 0 0 ⟨#[]⟩ ⟨#[]⟩ 0 ⟨#[]⟩)) (by simp) 1 _ rfl
  obtain ⟨x2, _⟩ := HPZ.out.bcell (q := nb) (vs := (vF 4 (i : Int) 0 0 0 0 ⟨#[]⟩ ⟨#[]⟩ 0 ⟨#[]⟩)) (by simp) 2 _ rfl
  obtain ⟨x3, _⟩ := HPZ.out.bcell (q := nb) (vs := (vF 4 (i : Int) 0 0 0 0 ⟨#[]⟩ ⟨#[]⟩ 0 ⟨#[]⟩)) (by simp) 3 _ rfl
  obtain ⟨x4, _⟩ := HPZ.out.bcell (q := nb) (vs := (vF 4 (i : Int) 0 0 0 0 ⟨#[]⟩ ⟨#[]⟩ 0 ⟨#[]⟩)) (by simp) 4 _ rfl
  obtain ⟨x5, _⟩ := HPZ.out.bcell (q := nb) (vs := (vF 4 (i : Int) 0 0 0 0 ⟨#[]⟩ ⟨#[]⟩ 0 ⟨#[]⟩)) (by simp) 5 _ rfl
  obtain ⟨x6, _⟩ := HPZ.out.bcell (q := nb) (vs := (vF 4 (i : Int) 0 0 0 0 ⟨#[]⟩ ⟨#[]⟩ 0 ⟨#[]⟩)) (by simp) 6 _ rfl
  obtain ⟨x7, _⟩ := HPZ.out.bcell (q := nb) (vs := (vF 4 (i : Int) 0 0 0 0 ⟨#[]⟩ ⟨#[]⟩ 0 ⟨#[]⟩)) (by simp) 7 _ rfl
  obtain ⟨x8, _⟩ := HPZ.out.bcell (q := nb) (vs := (vF 4 (i : Int) 0 0 0 0 ⟨#[]⟩ ⟨#[]⟩ 0 ⟨#[]⟩)) (by simp) 8 _ rfl
  obtain ⟨x9, _⟩ := HPZ.out.bcell (q := nb) (vs := (vF 4 (i : Int) 0 0 0 0 ⟨#[]⟩ ⟨#[]⟩ 0 ⟨#[]⟩)) (by simp) 9 _ rfl
  obtain ⟨y0, g0⟩ := HPZ.out.bcell (q := rb) (vs := zN) (by simp) 0 _ rfl
  obtain ⟨y1, g1⟩ := HPZ.out.bcell (q := rb) (vs := zN) (by simp) 1 _ rfl
  obtain ⟨y2, g2⟩ := HPZ.out.bcell (q := rb) (vs := zN) (by simp) 2 _ rfl
  obtain ⟨y3, g3⟩ := HPZ.out.bcell (q := rb) (vs := zN) (by simp) 3 _ rfl
  obtain ⟨y4, g4⟩ := HPZ.out.bcell (q := rb) (vs := zN) (by simp) 4 _ rfl
  obtain ⟨y5, g5⟩ := HPZ.out.bcell (q := rb) (vs := zN) (by simp) 5 _ rfl
  obtain ⟨y6, g6⟩ := HPZ.out.bcell (q := rb) (vs := zN) (by simp) 6 _ rfl
  obtain ⟨y7, g7⟩ := HPZ.out.bcell (q := rb) (vs := zN) (by simp) 7 _ rfl
  obtain ⟨y8, g8⟩ := HPZ.out.bcell (q := rb) (vs := zN) (by simp) 8 _ rfl
  obtain ⟨y9, g9⟩ := HPZ.out.bcell (q := rb) (vs := zN) (by simp) 9 _ rfl
  have HQ : Hid (Has B w (BlockR rb (vF 4 (i : Int) 0 0 0 0 ⟨#[]⟩ ⟨#[]⟩ 0 ⟨#[]⟩) :: RdR q S (3) :: BlockR nb (vF 4 (i : Int) 0 0 0 0 ⟨#[]⟩ ⟨#[]⟩ 0 ⟨#[]⟩) :: rs) (setAll rb 0 (vF 4 (i : Int) 0 0 0 0 ⟨#[]⟩ ⟨#[]⟩ 0 ⟨#[]⟩) (v0.setCell ⟨nb, 1, none⟩ (.int .i64 (i : Int))))) := Has.puts (vF 4 (i : Int) 0 0 0 0 ⟨#[]⟩ ⟨#[]⟩ 0 ⟨#[]⟩) [] zN HPZ.out rfl
  clear HPZ
  go_wp2_with fail
  have HC : Hid (∀ j u, (vF 4 (i : Int) 0 0 0 0 ⟨#[]⟩ ⟨#[]⟩ 0 ⟨#[]⟩)[j]? = some u → (setAll rb 0 (vF 4 (i : Int) 0 0 0 0 ⟨#[]⟩ ⟨#[]⟩ 0 ⟨#[]⟩) (v0.setCell ⟨nb, 1, none⟩ (.int .i64 (i : Int)))).cell? ⟨rb, j, none⟩ = some u) := fun j u hu => (HQ.out.bcell (q := rb) (vs := (vF 4 (i : Int) 0 0 0 0 ⟨#[]⟩ ⟨#[]⟩ 0 ⟨#[]⟩)) (by simp) j u hu).1
  refine bodyPost_ret (results_row rfl _ _ rb (vF 4 (i : Int) 0 0 0 0 ⟨#[]⟩ ⟨#[]⟩ 0 ⟨#[]⟩) _ rfl HC.out Try.underlying48 rfl (by kernel_rfl)) rfl ⟨rfl, ?_⟩
  exact (HQ.out.drop.perm (List.Perm.swap _ _ _)).drop
set_option maxHeartbeats 2000000 in
theorem noteR5 {q i s : Nat} {S : ByteArray} (hS : S.size ≤ 4611686018427387904) (h : Has B w (RdR q S 1 :: rs) wr) (tk : PackMath.tn (S.data.toList.drop 1) = (5, 1, 0)) (lk : 1 ≤ S.size) (t0 : PackMath.tn (S.data.toList.drop (2)) = (i, 1, 0)) (l0 : 2 ≤ S.size) (t1 : PackMath.tn (S.data.toList.drop (3)) = (s, 1, 0)) (l1 : 3 ≤ S.size) :
    Calls Try.prog 35 #[.pointer (some ⟨q, 0, none⟩)] wr fun e w' => e = .returned (.agg (vF 5 (i : Int) (s : Int) 0 0 0 ⟨#[]⟩ ⟨#[]⟩ 0 ⟨#[]⟩).toArray) ∧ Has B w (RdR q S (4) :: rs) w' := by
  have CN : Hid (∀ (a n : Nat) (rs : List Res) (wq : World), a ≤ S.size → PackMath.tn (S.data.toList.drop a) = (n, 1, 0) → Has B w (RdR q S a :: rs) wq → Calls Try.prog 38 #[.pointer (some ⟨q, 0, none⟩)] wq fun e w' => e = .returned (.int .i64 (n : Int)) ∧ Hid (Has B w (RdR q S (a + 1) :: rs) w')) := fun a n rs wq ha ht hq => numR_ok hS ha hq ht
  have H0 : Hid (Has B w (RdR q S 1 :: BlockR wr.heap.size zN :: rs) (wr.alloc (.cells #[.int .i64 0, .int .i64 0, .int .i64 0, .int .i64 0, .int .i64 0, .int .i64 0, .string ⟨#[]⟩, .string ⟨#[]⟩, .int .i64 0, .string ⟨#[]⟩] 48))) := (h.box zN 48).perm (List.Perm.swap _ _ _)
  have D1 := CN.out 1 5 _ _ lk tk H0.out
  obtain ⟨rb, hrb⟩ : ∃ rb, wr.heap.size = rb := ⟨_, rfl⟩
  clear h H0
  rw [hrb] at D1
  go_enter Try.func35, Try.ntmps35
  go_wp2_with fail
  refine D1.mono ?_
  rintro e w1 ⟨rfl, H1⟩
  clear hrb
  have HB : Hid (Has B w (RdR q S 2 :: BlockR w1.heap.size (vF 5 0 0 0 0 0 ⟨#[]⟩ ⟨#[]⟩ 0 ⟨#[]⟩) :: BlockR rb zN :: rs) (w1.alloc (.cells #[.int .i64 5, .int .i64 0, .int .i64 0, .int .i64 0, .int .i64 0, .int .i64 0, .string ⟨#[]⟩, .string ⟨#[]⟩, .int .i64 0, .string ⟨#[]⟩] 48))) := (H1.out.box (vF 5 0 0 0 0 0 ⟨#[]⟩ ⟨#[]⟩ 0 ⟨#[]⟩) 48).perm (List.Perm.swap _ _ _)
  have E0 := CN.out (2) i _ _ l0 t0 HB.out
  go_wp2_with fail
  refine E0.mono ?_
  rintro e v0 ⟨rfl, G0⟩
  generalize w1.heap.size = nb at *
  clear E0 HB H1 D1
  have G0' : Hid (Has B w (RdR q S (3) :: BlockR nb (vF 5 0 0 0 0 0 ⟨#[]⟩ ⟨#[]⟩ 0 ⟨#[]⟩) :: BlockR rb zN :: rs) v0) := G0
  clear G0
  obtain ⟨e1, f1⟩ := G0'.out.bcell (q := nb) (vs := (vF 5 0 0 0 0 0 ⟨#[]⟩ ⟨#[]⟩ 0 ⟨#[]⟩)) (by simp) 1 _ rfl
  have P0 : Hid (Has B w (RdR q S (3) :: BlockR nb (vF 5 (i : Int) 0 0 0 0 ⟨#[]⟩ ⟨#[]⟩ 0 ⟨#[]⟩) :: BlockR rb zN :: rs) (v0.setCell ⟨nb, 1, none⟩ (.int .i64 (i : Int)))) := ((G0'.out.perm (List.Perm.swap _ _ _)).put 1 (by simp [vF]) (.int .i64 (i : Int))).perm (List.Perm.swap _ _ _)
  obtain ⟨e0, _⟩ := P0.out.bcell (q := nb) (vs := (vF 5 (i : Int) 0 0 0 0 ⟨#[]⟩ ⟨#[]⟩ 0 ⟨#[]⟩)) (by simp) 0 _ rfl
  clear G0'
  have E1 := CN.out (3) s _ _ l1 t1 P0.out
  go_wp2_with fail
  refine E1.mono ?_
  rintro e v1 ⟨rfl, G1⟩
  clear E1 P0 e0 e1 f1
  have G1' : Hid (Has B w (RdR q S (4) :: BlockR nb (vF 5 (i : Int) 0 0 0 0 ⟨#[]⟩ ⟨#[]⟩ 0 ⟨#[]⟩) :: BlockR rb zN :: rs) v1) := G1
  clear G1
  obtain ⟨e1, f1⟩ := G1'.out.bcell (q := nb) (vs := (vF 5 (i : Int) 0 0 0 0 ⟨#[]⟩ ⟨#[]⟩ 0 ⟨#[]⟩)) (by simp) 2 _ rfl
  have P1 : Hid (Has B w (RdR q S (4) :: BlockR nb (vF 5 (i : Int) (s : Int) 0 0 0 ⟨#[]⟩ ⟨#[]⟩ 0 ⟨#[]⟩) :: BlockR rb zN :: rs) (v1.setCell ⟨nb, 2, none⟩ (.int .i64 (s : Int)))) := ((G1'.out.perm (List.Perm.swap _ _ _)).put 2 (by simp [vF]) (.int .i64 (s : Int))).perm (List.Perm.swap _ _ _)
  obtain ⟨e0, _⟩ := P1.out.bcell (q := nb) (vs := (vF 5 (i : Int) (s : Int) 0 0 0 ⟨#[]⟩ ⟨#[]⟩ 0 ⟨#[]⟩)) (by simp) 0 _ rfl
  clear G1'
  have HPZ : Hid (Has B w (BlockR rb zN :: RdR q S (4) :: BlockR nb (vF 5 (i : Int) (s : Int) 0 0 0 ⟨#[]⟩ ⟨#[]⟩ 0 ⟨#[]⟩) :: rs) (v1.setCell ⟨nb, 2, none⟩ (.int .i64 (s : Int)))) := P1.out.perm (List.perm_middle (l₁ := [_, _]) (l₂ := rs))
  clear P1 CN
  obtain ⟨x1, _⟩ := HPZ.out.bcell (q := nb) (vs := (vF 5 (i : Int) (s : Int) 0 0 0 ⟨#[]⟩ ⟨#[]⟩ 0 ⟨#[]⟩)) (by simp) 1 _ rfl
  obtain ⟨x2, _⟩ := HPZ.out.bcell (q := nb) (vs := (vF 5 (i : Int) (s : Int) 0 0 0 ⟨#[]⟩ ⟨#[]⟩ 0 ⟨#[]⟩)) (by simp) 2 _ rfl
  obtain ⟨x3, _⟩ := HPZ.out.bcell (q := nb) (vs := (vF 5 (i : Int) (s : Int) 0 0 0 ⟨#[]⟩ ⟨#[]⟩ 0 ⟨#[]⟩)) (by simp) 3 _ rfl
  obtain ⟨x4, _⟩ := HPZ.out.bcell (q := nb) (vs := (vF 5 (i : Int) (s : Int) 0 0 0 ⟨#[]⟩ ⟨#[]⟩ 0 ⟨#[]⟩)) (by simp) 4 _ rfl
  obtain ⟨x5, _⟩ := HPZ.out.bcell (q := nb) (vs := (vF 5 (i : Int) (s : Int) 0 0 0 ⟨#[]⟩ ⟨#[]⟩ 0 ⟨#[]⟩)) (by simp) 5 _ rfl
  obtain ⟨x6, _⟩ := HPZ.out.bcell (q := nb) (vs := (vF 5 (i : Int) (s : Int) 0 0 0 ⟨#[]⟩ ⟨#[]⟩ 0 ⟨#[]⟩)) (by simp) 6 _ rfl
  obtain ⟨x7, _⟩ := HPZ.out.bcell (q := nb) (vs := (vF 5 (i : Int) (s : Int) 0 0 0 ⟨#[]⟩ ⟨#[]⟩ 0 ⟨#[]⟩)) (by simp) 7 _ rfl
  obtain ⟨x8, _⟩ := HPZ.out.bcell (q := nb) (vs := (vF 5 (i : Int) (s : Int) 0 0 0 ⟨#[]⟩ ⟨#[]⟩ 0 ⟨#[]⟩)) (by simp) 8 _ rfl
  obtain ⟨x9, _⟩ := HPZ.out.bcell (q := nb) (vs := (vF 5 (i : Int) (s : Int) 0 0 0 ⟨#[]⟩ ⟨#[]⟩ 0 ⟨#[]⟩)) (by simp) 9 _ rfl
  obtain ⟨y0, g0⟩ := HPZ.out.bcell (q := rb) (vs := zN) (by simp) 0 _ rfl
  obtain ⟨y1, g1⟩ := HPZ.out.bcell (q := rb) (vs := zN) (by simp) 1 _ rfl
  obtain ⟨y2, g2⟩ := HPZ.out.bcell (q := rb) (vs := zN) (by simp) 2 _ rfl
  obtain ⟨y3, g3⟩ := HPZ.out.bcell (q := rb) (vs := zN) (by simp) 3 _ rfl
  obtain ⟨y4, g4⟩ := HPZ.out.bcell (q := rb) (vs := zN) (by simp) 4 _ rfl
  obtain ⟨y5, g5⟩ := HPZ.out.bcell (q := rb) (vs := zN) (by simp) 5 _ rfl
  obtain ⟨y6, g6⟩ := HPZ.out.bcell (q := rb) (vs := zN) (by simp) 6 _ rfl
  obtain ⟨y7, g7⟩ := HPZ.out.bcell (q := rb) (vs := zN) (by simp) 7 _ rfl
  obtain ⟨y8, g8⟩ := HPZ.out.bcell (q := rb) (vs := zN) (by simp) 8 _ rfl
  obtain ⟨y9, g9⟩ := HPZ.out.bcell (q := rb) (vs := zN) (by simp) 9 _ rfl
  have HQ : Hid (Has B w (BlockR rb (vF 5 (i : Int) (s : Int) 0 0 0 ⟨#[]⟩ ⟨#[]⟩ 0 ⟨#[]⟩) :: RdR q S (4) :: BlockR nb (vF 5 (i : Int) (s : Int) 0 0 0 ⟨#[]⟩ ⟨#[]⟩ 0 ⟨#[]⟩) :: rs) (setAll rb 0 (vF 5 (i : Int) (s : Int) 0 0 0 ⟨#[]⟩ ⟨#[]⟩ 0 ⟨#[]⟩) (v1.setCell ⟨nb, 2, none⟩ (.int .i64 (s : Int))))) := Has.puts (vF 5 (i : Int) (s : Int) 0 0 0 ⟨#[]⟩ ⟨#[]⟩ 0 ⟨#[]⟩) [] zN HPZ.out rfl
  clear HPZ
  go_wp2_with fail
  have HC : Hid (∀ j u, (vF 5 (i : Int) (s : Int) 0 0 0 ⟨#[]⟩ ⟨#[]⟩ 0 ⟨#[]⟩)[j]? = some u → (setAll rb 0 (vF 5 (i : Int) (s : Int) 0 0 0 ⟨#[]⟩ ⟨#[]⟩ 0 ⟨#[]⟩) (v1.setCell ⟨nb, 2, none⟩ (.int .i64 (s : Int)))).cell? ⟨rb, j, none⟩ = some u) := fun j u hu => (HQ.out.bcell (q := rb) (vs := (vF 5 (i : Int) (s : Int) 0 0 0 ⟨#[]⟩ ⟨#[]⟩ 0 ⟨#[]⟩)) (by simp) j u hu).1
  refine bodyPost_ret (results_row rfl _ _ rb (vF 5 (i : Int) (s : Int) 0 0 0 ⟨#[]⟩ ⟨#[]⟩ 0 ⟨#[]⟩) _ rfl HC.out Try.underlying48 rfl (by kernel_rfl)) rfl ⟨rfl, ?_⟩
  exact (HQ.out.drop.perm (List.Perm.swap _ _ _)).drop
set_option maxHeartbeats 2000000 in
theorem noteR6 {q i s t : Nat} {S : ByteArray} (hS : S.size ≤ 4611686018427387904) (h : Has B w (RdR q S 1 :: rs) wr) (tk : PackMath.tn (S.data.toList.drop 1) = (6, 1, 0)) (lk : 1 ≤ S.size) (t0 : PackMath.tn (S.data.toList.drop (2)) = (i, 1, 0)) (l0 : 2 ≤ S.size) (t1 : PackMath.tn (S.data.toList.drop (3)) = (s, 1, 0)) (l1 : 3 ≤ S.size) (t2 : PackMath.tn (S.data.toList.drop (4)) = (t, 1, 0)) (l2 : 4 ≤ S.size) :
    Calls Try.prog 35 #[.pointer (some ⟨q, 0, none⟩)] wr fun e w' => e = .returned (.agg (vF 6 (i : Int) (s : Int) (t : Int) 0 0 ⟨#[]⟩ ⟨#[]⟩ 0 ⟨#[]⟩).toArray) ∧ Has B w (RdR q S (5) :: rs) w' := by
  have CN : Hid (∀ (a n : Nat) (rs : List Res) (wq : World), a ≤ S.size → PackMath.tn (S.data.toList.drop a) = (n, 1, 0) → Has B w (RdR q S a :: rs) wq → Calls Try.prog 38 #[.pointer (some ⟨q, 0, none⟩)] wq fun e w' => e = .returned (.int .i64 (n : Int)) ∧ Hid (Has B w (RdR q S (a + 1) :: rs) w')) := fun a n rs wq ha ht hq => numR_ok hS ha hq ht
  have H0 : Hid (Has B w (RdR q S 1 :: BlockR wr.heap.size zN :: rs) (wr.alloc (.cells #[.int .i64 0, .int .i64 0, .int .i64 0, .int .i64 0, .int .i64 0, .int .i64 0, .string ⟨#[]⟩, .string ⟨#[]⟩, .int .i64 0, .string ⟨#[]⟩] 48))) := (h.box zN 48).perm (List.Perm.swap _ _ _)
  have D1 := CN.out 1 6 _ _ lk tk H0.out
  obtain ⟨rb, hrb⟩ : ∃ rb, wr.heap.size = rb := ⟨_, rfl⟩
  clear h H0
  rw [hrb] at D1
  go_enter Try.func35, Try.ntmps35
  go_wp2_with fail
  refine D1.mono ?_
  rintro e w1 ⟨rfl, H1⟩
  clear hrb
  have HB : Hid (Has B w (RdR q S 2 :: BlockR w1.heap.size (vF 6 0 0 0 0 0 ⟨#[]⟩ ⟨#[]⟩ 0 ⟨#[]⟩) :: BlockR rb zN :: rs) (w1.alloc (.cells #[.int .i64 6, .int .i64 0, .int .i64 0, .int .i64 0, .int .i64 0, .int .i64 0, .string ⟨#[]⟩, .string ⟨#[]⟩, .int .i64 0, .string ⟨#[]⟩] 48))) := (H1.out.box (vF 6 0 0 0 0 0 ⟨#[]⟩ ⟨#[]⟩ 0 ⟨#[]⟩) 48).perm (List.Perm.swap _ _ _)
  have E0 := CN.out (2) i _ _ l0 t0 HB.out
  go_wp2_with fail
  refine E0.mono ?_
  rintro e v0 ⟨rfl, G0⟩
  generalize w1.heap.size = nb at *
  clear E0 HB H1 D1
  have G0' : Hid (Has B w (RdR q S (3) :: BlockR nb (vF 6 0 0 0 0 0 ⟨#[]⟩ ⟨#[]⟩ 0 ⟨#[]⟩) :: BlockR rb zN :: rs) v0) := G0
  clear G0
  obtain ⟨e1, f1⟩ := G0'.out.bcell (q := nb) (vs := (vF 6 0 0 0 0 0 ⟨#[]⟩ ⟨#[]⟩ 0 ⟨#[]⟩)) (by simp) 1 _ rfl
  have P0 : Hid (Has B w (RdR q S (3) :: BlockR nb (vF 6 (i : Int) 0 0 0 0 ⟨#[]⟩ ⟨#[]⟩ 0 ⟨#[]⟩) :: BlockR rb zN :: rs) (v0.setCell ⟨nb, 1, none⟩ (.int .i64 (i : Int)))) := ((G0'.out.perm (List.Perm.swap _ _ _)).put 1 (by simp [vF]) (.int .i64 (i : Int))).perm (List.Perm.swap _ _ _)
  obtain ⟨e0, _⟩ := P0.out.bcell (q := nb) (vs := (vF 6 (i : Int) 0 0 0 0 ⟨#[]⟩ ⟨#[]⟩ 0 ⟨#[]⟩)) (by simp) 0 _ rfl
  clear G0'
  have E1 := CN.out (3) s _ _ l1 t1 P0.out
  go_wp2_with fail
  refine E1.mono ?_
  rintro e v1 ⟨rfl, G1⟩
  clear E1 P0 e0 e1 f1
  have G1' : Hid (Has B w (RdR q S (4) :: BlockR nb (vF 6 (i : Int) 0 0 0 0 ⟨#[]⟩ ⟨#[]⟩ 0 ⟨#[]⟩) :: BlockR rb zN :: rs) v1) := G1
  clear G1
  obtain ⟨e1, f1⟩ := G1'.out.bcell (q := nb) (vs := (vF 6 (i : Int) 0 0 0 0 ⟨#[]⟩ ⟨#[]⟩ 0 ⟨#[]⟩)) (by simp) 2 _ rfl
  have P1 : Hid (Has B w (RdR q S (4) :: BlockR nb (vF 6 (i : Int) (s : Int) 0 0 0 ⟨#[]⟩ ⟨#[]⟩ 0 ⟨#[]⟩) :: BlockR rb zN :: rs) (v1.setCell ⟨nb, 2, none⟩ (.int .i64 (s : Int)))) := ((G1'.out.perm (List.Perm.swap _ _ _)).put 2 (by simp [vF]) (.int .i64 (s : Int))).perm (List.Perm.swap _ _ _)
  obtain ⟨e0, _⟩ := P1.out.bcell (q := nb) (vs := (vF 6 (i : Int) (s : Int) 0 0 0 ⟨#[]⟩ ⟨#[]⟩ 0 ⟨#[]⟩)) (by simp) 0 _ rfl
  clear G1'
  have E2 := CN.out (4) t _ _ l2 t2 P1.out
  go_wp2_with fail
  refine E2.mono ?_
  rintro e v2 ⟨rfl, G2⟩
  clear E2 P1 e0 e1 f1
  have G2' : Hid (Has B w (RdR q S (5) :: BlockR nb (vF 6 (i : Int) (s : Int) 0 0 0 ⟨#[]⟩ ⟨#[]⟩ 0 ⟨#[]⟩) :: BlockR rb zN :: rs) v2) := G2
  clear G2
  obtain ⟨e1, f1⟩ := G2'.out.bcell (q := nb) (vs := (vF 6 (i : Int) (s : Int) 0 0 0 ⟨#[]⟩ ⟨#[]⟩ 0 ⟨#[]⟩)) (by simp) 3 _ rfl
  have P2 : Hid (Has B w (RdR q S (5) :: BlockR nb (vF 6 (i : Int) (s : Int) (t : Int) 0 0 ⟨#[]⟩ ⟨#[]⟩ 0 ⟨#[]⟩) :: BlockR rb zN :: rs) (v2.setCell ⟨nb, 3, none⟩ (.int .i64 (t : Int)))) := ((G2'.out.perm (List.Perm.swap _ _ _)).put 3 (by simp [vF]) (.int .i64 (t : Int))).perm (List.Perm.swap _ _ _)
  obtain ⟨e0, _⟩ := P2.out.bcell (q := nb) (vs := (vF 6 (i : Int) (s : Int) (t : Int) 0 0 ⟨#[]⟩ ⟨#[]⟩ 0 ⟨#[]⟩)) (by simp) 0 _ rfl
  clear G2'
  have HPZ : Hid (Has B w (BlockR rb zN :: RdR q S (5) :: BlockR nb (vF 6 (i : Int) (s : Int) (t : Int) 0 0 ⟨#[]⟩ ⟨#[]⟩ 0 ⟨#[]⟩) :: rs) (v2.setCell ⟨nb, 3, none⟩ (.int .i64 (t : Int)))) := P2.out.perm (List.perm_middle (l₁ := [_, _]) (l₂ := rs))
  clear P2 CN
  obtain ⟨x1, _⟩ := HPZ.out.bcell (q := nb) (vs := (vF 6 (i : Int) (s : Int) (t : Int) 0 0 ⟨#[]⟩ ⟨#[]⟩ 0 ⟨#[]⟩)) (by simp) 1 _ rfl
  obtain ⟨x2, _⟩ := HPZ.out.bcell (q := nb) (vs := (vF 6 (i : Int) (s : Int) (t : Int) 0 0 ⟨#[]⟩ ⟨#[]⟩ 0 ⟨#[]⟩)) (by simp) 2 _ rfl
  obtain ⟨x3, _⟩ := HPZ.out.bcell (q := nb) (vs := (vF 6 (i : Int) (s : Int) (t : Int) 0 0 ⟨#[]⟩ ⟨#[]⟩ 0 ⟨#[]⟩)) (by simp) 3 _ rfl
  obtain ⟨x4, _⟩ := HPZ.out.bcell (q := nb) (vs := (vF 6 (i : Int) (s : Int) (t : Int) 0 0 ⟨#[]⟩ ⟨#[]⟩ 0 ⟨#[]⟩)) (by simp) 4 _ rfl
  obtain ⟨x5, _⟩ := HPZ.out.bcell (q := nb) (vs := (vF 6 (i : Int) (s : Int) (t : Int) 0 0 ⟨#[]⟩ ⟨#[]⟩ 0 ⟨#[]⟩)) (by simp) 5 _ rfl
  obtain ⟨x6, _⟩ := HPZ.out.bcell (q := nb) (vs := (vF 6 (i : Int) (s : Int) (t : Int) 0 0 ⟨#[]⟩ ⟨#[]⟩ 0 ⟨#[]⟩)) (by simp) 6 _ rfl
  obtain ⟨x7, _⟩ := HPZ.out.bcell (q := nb) (vs := (vF 6 (i : Int) (s : Int) (t : Int) 0 0 ⟨#[]⟩ ⟨#[]⟩ 0 ⟨#[]⟩)) (by simp) 7 _ rfl
  obtain ⟨x8, _⟩ := HPZ.out.bcell (q := nb) (vs := (vF 6 (i : Int) (s : Int) (t : Int) 0 0 ⟨#[]⟩ ⟨#[]⟩ 0 ⟨#[]⟩)) (by simp) 8 _ rfl
  obtain ⟨x9, _⟩ := HPZ.out.bcell (q := nb) (vs := (vF 6 (i : Int) (s : Int) (t : Int) 0 0 ⟨#[]⟩ ⟨#[]⟩ 0 ⟨#[]⟩)) (by simp) 9 _ rfl
  obtain ⟨y0, g0⟩ := HPZ.out.bcell (q := rb) (vs := zN) (by simp) 0 _ rfl
  obtain ⟨y1, g1⟩ := HPZ.out.bcell (q := rb) (vs := zN) (by simp) 1 _ rfl
  obtain ⟨y2, g2⟩ := HPZ.out.bcell (q := rb) (vs := zN) (by simp) 2 _ rfl
  obtain ⟨y3, g3⟩ := HPZ.out.bcell (q := rb) (vs := zN) (by simp) 3 _ rfl
  obtain ⟨y4, g4⟩ := HPZ.out.bcell (q := rb) (vs := zN) (by simp) 4 _ rfl
  obtain ⟨y5, g5⟩ := HPZ.out.bcell (q := rb) (vs := zN) (by simp) 5 _ rfl
  obtain ⟨y6, g6⟩ := HPZ.out.bcell (q := rb) (vs := zN) (by simp) 6 _ rfl
  obtain ⟨y7, g7⟩ := HPZ.out.bcell (q := rb) (vs := zN) (by simp) 7 _ rfl
  obtain ⟨y8, g8⟩ := HPZ.out.bcell (q := rb) (vs := zN) (by simp) 8 _ rfl
  obtain ⟨y9, g9⟩ := HPZ.out.bcell (q := rb) (vs := zN) (by simp) 9 _ rfl
  have HQ : Hid (Has B w (BlockR rb (vF 6 (i : Int) (s : Int) (t : Int) 0 0 ⟨#[]⟩ ⟨#[]⟩ 0 ⟨#[]⟩) :: RdR q S (5) :: BlockR nb (vF 6 (i : Int) (s : Int) (t : Int) 0 0 ⟨#[]⟩ ⟨#[]⟩ 0 ⟨#[]⟩) :: rs) (setAll rb 0 (vF 6 (i : Int) (s : Int) (t : Int) 0 0 ⟨#[]⟩ ⟨#[]⟩ 0 ⟨#[]⟩) (v2.setCell ⟨nb, 3, none⟩ (.int .i64 (t : Int))))) := Has.puts (vF 6 (i : Int) (s : Int) (t : Int) 0 0 ⟨#[]⟩ ⟨#[]⟩ 0 ⟨#[]⟩) [] zN HPZ.out rfl
  clear HPZ
  go_wp2_with fail
  have HC : Hid (∀ j u, (vF 6 (i : Int) (s : Int) (t : Int) 0 0 ⟨#[]⟩ ⟨#[]⟩ 0 ⟨#[]⟩)[j]? = some u → (setAll rb 0 (vF 6 (i : Int) (s : Int) (t : Int) 0 0 ⟨#[]⟩ ⟨#[]⟩ 0 ⟨#[]⟩) (v2.setCell ⟨nb, 3, none⟩ (.int .i64 (t : Int)))).cell? ⟨rb, j, none⟩ = some u) := fun j u hu => (HQ.out.bcell (q := rb) (vs := (vF 6 (i : Int) (s : Int) (t : Int) 0 0 ⟨#[]⟩ ⟨#[]⟩ 0 ⟨#[]⟩)) (by simp) j u hu).1
  refine bodyPost_ret (results_row rfl _ _ rb (vF 6 (i : Int) (s : Int) (t : Int) 0 0 ⟨#[]⟩ ⟨#[]⟩ 0 ⟨#[]⟩) _ rfl HC.out Try.underlying48 rfl (by kernel_rfl)) rfl ⟨rfl, ?_⟩
  exact (HQ.out.drop.perm (List.Perm.swap _ _ _)).drop
set_option maxHeartbeats 2000000 in
theorem noteR7 {q i : Nat} {S : ByteArray} (hS : S.size ≤ 4611686018427387904) (h : Has B w (RdR q S 1 :: rs) wr) (tk : PackMath.tn (S.data.toList.drop 1) = (7, 1, 0)) (lk : 1 ≤ S.size) (t0 : PackMath.tn (S.data.toList.drop (2)) = (i, 1, 0)) (l0 : 2 ≤ S.size) :
    Calls Try.prog 35 #[.pointer (some ⟨q, 0, none⟩)] wr fun e w' => e = .returned (.agg (vF 7 (i : Int) 0 0 0 0 ⟨#[]⟩ ⟨#[]⟩ 0 ⟨#[]⟩).toArray) ∧ Has B w (RdR q S (3) :: rs) w' := by
  have CN : Hid (∀ (a n : Nat) (rs : List Res) (wq : World), a ≤ S.size → PackMath.tn (S.data.toList.drop a) = (n, 1, 0) → Has B w (RdR q S a :: rs) wq → Calls Try.prog 38 #[.pointer (some ⟨q, 0, none⟩)] wq fun e w' => e = .returned (.int .i64 (n : Int)) ∧ Hid (Has B w (RdR q S (a + 1) :: rs) w')) := fun a n rs wq ha ht hq => numR_ok hS ha hq ht
  have H0 : Hid (Has B w (RdR q S 1 :: BlockR wr.heap.size zN :: rs) (wr.alloc (.cells #[.int .i64 0, .int .i64 0, .int .i64 0, .int .i64 0, .int .i64 0, .int .i64 0, .string ⟨#[]⟩, .string ⟨#[]⟩, .int .i64 0, .string ⟨#[]⟩] 48))) := (h.box zN 48).perm (List.Perm.swap _ _ _)
  have D1 := CN.out 1 7 _ _ lk tk H0.out
  obtain ⟨rb, hrb⟩ : ∃ rb, wr.heap.size = rb := ⟨_, rfl⟩
  clear h H0
  rw [hrb] at D1
  go_enter Try.func35, Try.ntmps35
  go_wp2_with fail
  refine D1.mono ?_
  rintro e w1 ⟨rfl, H1⟩
  clear hrb
  have HB : Hid (Has B w (RdR q S 2 :: BlockR w1.heap.size (vF 7 0 0 0 0 0 ⟨#[]⟩ ⟨#[]⟩ 0 ⟨#[]⟩) :: BlockR rb zN :: rs) (w1.alloc (.cells #[.int .i64 7, .int .i64 0, .int .i64 0, .int .i64 0, .int .i64 0, .int .i64 0, .string ⟨#[]⟩, .string ⟨#[]⟩, .int .i64 0, .string ⟨#[]⟩] 48))) := (H1.out.box (vF 7 0 0 0 0 0 ⟨#[]⟩ ⟨#[]⟩ 0 ⟨#[]⟩) 48).perm (List.Perm.swap _ _ _)
  have E0 := CN.out (2) i _ _ l0 t0 HB.out
  go_wp2_with fail
  refine E0.mono ?_
  rintro e v0 ⟨rfl, G0⟩
  generalize w1.heap.size = nb at *
  clear E0 HB H1 D1
  have G0' : Hid (Has B w (RdR q S (3) :: BlockR nb (vF 7 0 0 0 0 0 ⟨#[]⟩ ⟨#[]⟩ 0 ⟨#[]⟩) :: BlockR rb zN :: rs) v0) := G0
  clear G0
  obtain ⟨e1, f1⟩ := G0'.out.bcell (q := nb) (vs := (vF 7 0 0 0 0 0 ⟨#[]⟩ ⟨#[]⟩ 0 ⟨#[]⟩)) (by simp) 1 _ rfl
  have P0 : Hid (Has B w (RdR q S (3) :: BlockR nb (vF 7 (i : Int) 0 0 0 0 ⟨#[]⟩ ⟨#[]⟩ 0 ⟨#[]⟩) :: BlockR rb zN :: rs) (v0.setCell ⟨nb, 1, none⟩ (.int .i64 (i : Int)))) := ((G0'.out.perm (List.Perm.swap _ _ _)).put 1 (by simp [vF]) (.int .i64 (i : Int))).perm (List.Perm.swap _ _ _)
  obtain ⟨e0, _⟩ := P0.out.bcell (q := nb) (vs := (vF 7 (i : Int) 0 0 0 0 ⟨#[]⟩ ⟨#[]⟩ 0 ⟨#[]⟩)) (by simp) 0 _ rfl
  clear G0'
  have HPZ : Hid (Has B w (BlockR rb zN :: RdR q S (3) :: BlockR nb (vF 7 (i : Int) 0 0 0 0 ⟨#[]⟩ ⟨#[]⟩ 0 ⟨#[]⟩) :: rs) (v0.setCell ⟨nb, 1, none⟩ (.int .i64 (i : Int)))) := P0.out.perm (List.perm_middle (l₁ := [_, _]) (l₂ := rs))
  clear P0 CN
  obtain ⟨x1, _⟩ := HPZ.out.bcell (q := nb) (vs := (vF 7 (i : Int) 0 0 0 0 ⟨#[]⟩ ⟨#[]⟩ 0 ⟨#[]⟩)) (by simp) 1 _ rfl
  obtain ⟨x2, _⟩ := HPZ.out.bcell (q := nb) (vs := (vF 7 (i : Int) 0 0 0 0 ⟨#[]⟩ ⟨#[]⟩ 0 ⟨#[]⟩)) (by simp) 2 _ rfl
  obtain ⟨x3, _⟩ := HPZ.out.bcell (q := nb) (vs := (vF 7 (i : Int) 0 0 0 0 ⟨#[]⟩ ⟨#[]⟩ 0 ⟨#[]⟩)) (by simp) 3 _ rfl
  obtain ⟨x4, _⟩ := HPZ.out.bcell (q := nb) (vs := (vF 7 (i : Int) 0 0 0 0 ⟨#[]⟩ ⟨#[]⟩ 0 ⟨#[]⟩)) (by simp) 4 _ rfl
  obtain ⟨x5, _⟩ := HPZ.out.bcell (q := nb) (vs := (vF 7 (i : Int) 0 0 0 0 ⟨#[]⟩ ⟨#[]⟩ 0 ⟨#[]⟩)) (by simp) 5 _ rfl
  obtain ⟨x6, _⟩ := HPZ.out.bcell (q := nb) (vs := (vF 7 (i : Int) 0 0 0 0 ⟨#[]⟩ ⟨#[]⟩ 0 ⟨#[]⟩)) (by simp) 6 _ rfl
  obtain ⟨x7, _⟩ := HPZ.out.bcell (q := nb) (vs := (vF 7 (i : Int) 0 0 0 0 ⟨#[]⟩ ⟨#[]⟩ 0 ⟨#[]⟩)) (by simp) 7 _ rfl
  obtain ⟨x8, _⟩ := HPZ.out.bcell (q := nb) (vs := (vF 7 (i : Int) 0 0 0 0 ⟨#[]⟩ ⟨#[]⟩ 0 ⟨#[]⟩)) (by simp) 8 _ rfl
  obtain ⟨x9, _⟩ := HPZ.out.bcell (q := nb) (vs := (vF 7 (i : Int) 0 0 0 0 ⟨#[]⟩ ⟨#[]⟩ 0 ⟨#[]⟩)) (by simp) 9 _ rfl
  obtain ⟨y0, g0⟩ := HPZ.out.bcell (q := rb) (vs := zN) (by simp) 0 _ rfl
  obtain ⟨y1, g1⟩ := HPZ.out.bcell (q := rb) (vs := zN) (by simp) 1 _ rfl
  obtain ⟨y2, g2⟩ := HPZ.out.bcell (q := rb) (vs := zN) (by simp) 2 _ rfl
  obtain ⟨y3, g3⟩ := HPZ.out.bcell (q := rb) (vs := zN) (by simp) 3 _ rfl
  obtain ⟨y4, g4⟩ := HPZ.out.bcell (q := rb) (vs := zN) (by simp) 4 _ rfl
  obtain ⟨y5, g5⟩ := HPZ.out.bcell (q := rb) (vs := zN) (by simp) 5 _ rfl
  obtain ⟨y6, g6⟩ := HPZ.out.bcell (q := rb) (vs := zN) (by simp) 6 _ rfl
  obtain ⟨y7, g7⟩ := HPZ.out.bcell (q := rb) (vs := zN) (by simp) 7 _ rfl
  obtain ⟨y8, g8⟩ := HPZ.out.bcell (q := rb) (vs := zN) (by simp) 8 _ rfl
  obtain ⟨y9, g9⟩ := HPZ.out.bcell (q := rb) (vs := zN) (by simp) 9 _ rfl
  have HQ : Hid (Has B w (BlockR rb (vF 7 (i : Int) 0 0 0 0 ⟨#[]⟩ ⟨#[]⟩ 0 ⟨#[]⟩) :: RdR q S (3) :: BlockR nb (vF 7 (i : Int) 0 0 0 0 ⟨#[]⟩ ⟨#[]⟩ 0 ⟨#[]⟩) :: rs) (setAll rb 0 (vF 7 (i : Int) 0 0 0 0 ⟨#[]⟩ ⟨#[]⟩ 0 ⟨#[]⟩) (v0.setCell ⟨nb, 1, none⟩ (.int .i64 (i : Int))))) := Has.puts (vF 7 (i : Int) 0 0 0 0 ⟨#[]⟩ ⟨#[]⟩ 0 ⟨#[]⟩) [] zN HPZ.out rfl
  clear HPZ
  go_wp2_with fail
  have HC : Hid (∀ j u, (vF 7 (i : Int) 0 0 0 0 ⟨#[]⟩ ⟨#[]⟩ 0 ⟨#[]⟩)[j]? = some u → (setAll rb 0 (vF 7 (i : Int) 0 0 0 0 ⟨#[]⟩ ⟨#[]⟩ 0 ⟨#[]⟩) (v0.setCell ⟨nb, 1, none⟩ (.int .i64 (i : Int)))).cell? ⟨rb, j, none⟩ = some u) := fun j u hu => (HQ.out.bcell (q := rb) (vs := (vF 7 (i : Int) 0 0 0 0 ⟨#[]⟩ ⟨#[]⟩ 0 ⟨#[]⟩)) (by simp) j u hu).1
  refine bodyPost_ret (results_row rfl _ _ rb (vF 7 (i : Int) 0 0 0 0 ⟨#[]⟩ ⟨#[]⟩ 0 ⟨#[]⟩) _ rfl HC.out Try.underlying48 rfl (by kernel_rfl)) rfl ⟨rfl, ?_⟩
  exact (HQ.out.drop.perm (List.Perm.swap _ _ _)).drop
set_option maxHeartbeats 2000000 in
theorem noteR8 {q i p : Nat} {S : ByteArray} (hS : S.size ≤ 4611686018427387904) (h : Has B w (RdR q S 1 :: rs) wr) (tk : PackMath.tn (S.data.toList.drop 1) = (8, 1, 0)) (lk : 1 ≤ S.size) (t0 : PackMath.tn (S.data.toList.drop (2)) = (i, 1, 0)) (l0 : 2 ≤ S.size) (t1 : PackMath.tn (S.data.toList.drop (3)) = (p, 1, 0)) (l1 : 3 ≤ S.size) :
    Calls Try.prog 35 #[.pointer (some ⟨q, 0, none⟩)] wr fun e w' => e = .returned (.agg (vF 8 (i : Int) 0 0 (p : Int) 0 ⟨#[]⟩ ⟨#[]⟩ 0 ⟨#[]⟩).toArray) ∧ Has B w (RdR q S (4) :: rs) w' := by
  have CN : Hid (∀ (a n : Nat) (rs : List Res) (wq : World), a ≤ S.size → PackMath.tn (S.data.toList.drop a) = (n, 1, 0) → Has B w (RdR q S a :: rs) wq → Calls Try.prog 38 #[.pointer (some ⟨q, 0, none⟩)] wq fun e w' => e = .returned (.int .i64 (n : Int)) ∧ Hid (Has B w (RdR q S (a + 1) :: rs) w')) := fun a n rs wq ha ht hq => numR_ok hS ha hq ht
  have H0 : Hid (Has B w (RdR q S 1 :: BlockR wr.heap.size zN :: rs) (wr.alloc (.cells #[.int .i64 0, .int .i64 0, .int .i64 0, .int .i64 0, .int .i64 0, .int .i64 0, .string ⟨#[]⟩, .string ⟨#[]⟩, .int .i64 0, .string ⟨#[]⟩] 48))) := (h.box zN 48).perm (List.Perm.swap _ _ _)
  have D1 := CN.out 1 8 _ _ lk tk H0.out
  obtain ⟨rb, hrb⟩ : ∃ rb, wr.heap.size = rb := ⟨_, rfl⟩
  clear h H0
  rw [hrb] at D1
  go_enter Try.func35, Try.ntmps35
  go_wp2_with fail
  refine D1.mono ?_
  rintro e w1 ⟨rfl, H1⟩
  clear hrb
  have HB : Hid (Has B w (RdR q S 2 :: BlockR w1.heap.size (vF 8 0 0 0 0 0 ⟨#[]⟩ ⟨#[]⟩ 0 ⟨#[]⟩) :: BlockR rb zN :: rs) (w1.alloc (.cells #[.int .i64 8, .int .i64 0, .int .i64 0, .int .i64 0, .int .i64 0, .int .i64 0, .string ⟨#[]⟩, .string ⟨#[]⟩, .int .i64 0, .string ⟨#[]⟩] 48))) := (H1.out.box (vF 8 0 0 0 0 0 ⟨#[]⟩ ⟨#[]⟩ 0 ⟨#[]⟩) 48).perm (List.Perm.swap _ _ _)
  have E0 := CN.out (2) i _ _ l0 t0 HB.out
  go_wp2_with fail
  refine E0.mono ?_
  rintro e v0 ⟨rfl, G0⟩
  generalize w1.heap.size = nb at *
  clear E0 HB H1 D1
  have G0' : Hid (Has B w (RdR q S (3) :: BlockR nb (vF 8 0 0 0 0 0 ⟨#[]⟩ ⟨#[]⟩ 0 ⟨#[]⟩) :: BlockR rb zN :: rs) v0) := G0
  clear G0
  obtain ⟨e1, f1⟩ := G0'.out.bcell (q := nb) (vs := (vF 8 0 0 0 0 0 ⟨#[]⟩ ⟨#[]⟩ 0 ⟨#[]⟩)) (by simp) 1 _ rfl
  have P0 : Hid (Has B w (RdR q S (3) :: BlockR nb (vF 8 (i : Int) 0 0 0 0 ⟨#[]⟩ ⟨#[]⟩ 0 ⟨#[]⟩) :: BlockR rb zN :: rs) (v0.setCell ⟨nb, 1, none⟩ (.int .i64 (i : Int)))) := ((G0'.out.perm (List.Perm.swap _ _ _)).put 1 (by simp [vF]) (.int .i64 (i : Int))).perm (List.Perm.swap _ _ _)
  obtain ⟨e0, _⟩ := P0.out.bcell (q := nb) (vs := (vF 8 (i : Int) 0 0 0 0 ⟨#[]⟩ ⟨#[]⟩ 0 ⟨#[]⟩)) (by simp) 0 _ rfl
  clear G0'
  have E1 := CN.out (3) p _ _ l1 t1 P0.out
  go_wp2_with fail
  refine E1.mono ?_
  rintro e v1 ⟨rfl, G1⟩
  clear E1 P0 e0 e1 f1
  have G1' : Hid (Has B w (RdR q S (4) :: BlockR nb (vF 8 (i : Int) 0 0 0 0 ⟨#[]⟩ ⟨#[]⟩ 0 ⟨#[]⟩) :: BlockR rb zN :: rs) v1) := G1
  clear G1
  obtain ⟨e1, f1⟩ := G1'.out.bcell (q := nb) (vs := (vF 8 (i : Int) 0 0 0 0 ⟨#[]⟩ ⟨#[]⟩ 0 ⟨#[]⟩)) (by simp) 4 _ rfl
  have P1 : Hid (Has B w (RdR q S (4) :: BlockR nb (vF 8 (i : Int) 0 0 (p : Int) 0 ⟨#[]⟩ ⟨#[]⟩ 0 ⟨#[]⟩) :: BlockR rb zN :: rs) (v1.setCell ⟨nb, 4, none⟩ (.int .i64 (p : Int)))) := ((G1'.out.perm (List.Perm.swap _ _ _)).put 4 (by simp [vF]) (.int .i64 (p : Int))).perm (List.Perm.swap _ _ _)
  obtain ⟨e0, _⟩ := P1.out.bcell (q := nb) (vs := (vF 8 (i : Int) 0 0 (p : Int) 0 ⟨#[]⟩ ⟨#[]⟩ 0 ⟨#[]⟩)) (by simp) 0 _ rfl
  clear G1'
  have HPZ : Hid (Has B w (BlockR rb zN :: RdR q S (4) :: BlockR nb (vF 8 (i : Int) 0 0 (p : Int) 0 ⟨#[]⟩ ⟨#[]⟩ 0 ⟨#[]⟩) :: rs) (v1.setCell ⟨nb, 4, none⟩ (.int .i64 (p : Int)))) := P1.out.perm (List.perm_middle (l₁ := [_, _]) (l₂ := rs))
  clear P1 CN
  obtain ⟨x1, _⟩ := HPZ.out.bcell (q := nb) (vs := (vF 8 (i : Int) 0 0 (p : Int) 0 ⟨#[]⟩ ⟨#[]⟩ 0 ⟨#[]⟩)) (by simp) 1 _ rfl
  obtain ⟨x2, _⟩ := HPZ.out.bcell (q := nb) (vs := (vF 8 (i : Int) 0 0 (p : Int) 0 ⟨#[]⟩ ⟨#[]⟩ 0 ⟨#[]⟩)) (by simp) 2 _ rfl
  obtain ⟨x3, _⟩ := HPZ.out.bcell (q := nb) (vs := (vF 8 (i : Int) 0 0 (p : Int) 0 ⟨#[]⟩ ⟨#[]⟩ 0 ⟨#[]⟩)) (by simp) 3 _ rfl
  obtain ⟨x4, _⟩ := HPZ.out.bcell (q := nb) (vs := (vF 8 (i : Int) 0 0 (p : Int) 0 ⟨#[]⟩ ⟨#[]⟩ 0 ⟨#[]⟩)) (by simp) 4 _ rfl
  obtain ⟨x5, _⟩ := HPZ.out.bcell (q := nb) (vs := (vF 8 (i : Int) 0 0 (p : Int) 0 ⟨#[]⟩ ⟨#[]⟩ 0 ⟨#[]⟩)) (by simp) 5 _ rfl
  obtain ⟨x6, _⟩ := HPZ.out.bcell (q := nb) (vs := (vF 8 (i : Int) 0 0 (p : Int) 0 ⟨#[]⟩ ⟨#[]⟩ 0 ⟨#[]⟩)) (by simp) 6 _ rfl
  obtain ⟨x7, _⟩ := HPZ.out.bcell (q := nb) (vs := (vF 8 (i : Int) 0 0 (p : Int) 0 ⟨#[]⟩ ⟨#[]⟩ 0 ⟨#[]⟩)) (by simp) 7 _ rfl
  obtain ⟨x8, _⟩ := HPZ.out.bcell (q := nb) (vs := (vF 8 (i : Int) 0 0 (p : Int) 0 ⟨#[]⟩ ⟨#[]⟩ 0 ⟨#[]⟩)) (by simp) 8 _ rfl
  obtain ⟨x9, _⟩ := HPZ.out.bcell (q := nb) (vs := (vF 8 (i : Int) 0 0 (p : Int) 0 ⟨#[]⟩ ⟨#[]⟩ 0 ⟨#[]⟩)) (by simp) 9 _ rfl
  obtain ⟨y0, g0⟩ := HPZ.out.bcell (q := rb) (vs := zN) (by simp) 0 _ rfl
  obtain ⟨y1, g1⟩ := HPZ.out.bcell (q := rb) (vs := zN) (by simp) 1 _ rfl
  obtain ⟨y2, g2⟩ := HPZ.out.bcell (q := rb) (vs := zN) (by simp) 2 _ rfl
  obtain ⟨y3, g3⟩ := HPZ.out.bcell (q := rb) (vs := zN) (by simp) 3 _ rfl
  obtain ⟨y4, g4⟩ := HPZ.out.bcell (q := rb) (vs := zN) (by simp) 4 _ rfl
  obtain ⟨y5, g5⟩ := HPZ.out.bcell (q := rb) (vs := zN) (by simp) 5 _ rfl
  obtain ⟨y6, g6⟩ := HPZ.out.bcell (q := rb) (vs := zN) (by simp) 6 _ rfl
  obtain ⟨y7, g7⟩ := HPZ.out.bcell (q := rb) (vs := zN) (by simp) 7 _ rfl
  obtain ⟨y8, g8⟩ := HPZ.out.bcell (q := rb) (vs := zN) (by simp) 8 _ rfl
  obtain ⟨y9, g9⟩ := HPZ.out.bcell (q := rb) (vs := zN) (by simp) 9 _ rfl
  have HQ : Hid (Has B w (BlockR rb (vF 8 (i : Int) 0 0 (p : Int) 0 ⟨#[]⟩ ⟨#[]⟩ 0 ⟨#[]⟩) :: RdR q S (4) :: BlockR nb (vF 8 (i : Int) 0 0 (p : Int) 0 ⟨#[]⟩ ⟨#[]⟩ 0 ⟨#[]⟩) :: rs) (setAll rb 0 (vF 8 (i : Int) 0 0 (p : Int) 0 ⟨#[]⟩ ⟨#[]⟩ 0 ⟨#[]⟩) (v1.setCell ⟨nb, 4, none⟩ (.int .i64 (p : Int))))) := Has.puts (vF 8 (i : Int) 0 0 (p : Int) 0 ⟨#[]⟩ ⟨#[]⟩ 0 ⟨#[]⟩) [] zN HPZ.out rfl
  clear HPZ
  go_wp2_with fail
  have HC : Hid (∀ j u, (vF 8 (i : Int) 0 0 (p : Int) 0 ⟨#[]⟩ ⟨#[]⟩ 0 ⟨#[]⟩)[j]? = some u → (setAll rb 0 (vF 8 (i : Int) 0 0 (p : Int) 0 ⟨#[]⟩ ⟨#[]⟩ 0 ⟨#[]⟩) (v1.setCell ⟨nb, 4, none⟩ (.int .i64 (p : Int)))).cell? ⟨rb, j, none⟩ = some u) := fun j u hu => (HQ.out.bcell (q := rb) (vs := (vF 8 (i : Int) 0 0 (p : Int) 0 ⟨#[]⟩ ⟨#[]⟩ 0 ⟨#[]⟩)) (by simp) j u hu).1
  refine bodyPost_ret (results_row rfl _ _ rb (vF 8 (i : Int) 0 0 (p : Int) 0 ⟨#[]⟩ ⟨#[]⟩ 0 ⟨#[]⟩) _ rfl HC.out Try.underlying48 rfl (by kernel_rfl)) rfl ⟨rfl, ?_⟩
  exact (HQ.out.drop.perm (List.Perm.swap _ _ _)).drop
set_option maxHeartbeats 2000000 in
theorem noteR9 {q i t c : Nat} {S : ByteArray} (hS : S.size ≤ 4611686018427387904) (h : Has B w (RdR q S 1 :: rs) wr) (tk : PackMath.tn (S.data.toList.drop 1) = (9, 1, 0)) (lk : 1 ≤ S.size) (t0 : PackMath.tn (S.data.toList.drop (2)) = (i, 1, 0)) (l0 : 2 ≤ S.size) (t1 : PackMath.tn (S.data.toList.drop (3)) = (t, 1, 0)) (l1 : 3 ≤ S.size) (t2 : PackMath.tn (S.data.toList.drop (4)) = (c, 1, 0)) (l2 : 4 ≤ S.size) :
    Calls Try.prog 35 #[.pointer (some ⟨q, 0, none⟩)] wr fun e w' => e = .returned (.agg (vF 9 (i : Int) 0 (t : Int) 0 (c : Int) ⟨#[]⟩ ⟨#[]⟩ 0 ⟨#[]⟩).toArray) ∧ Has B w (RdR q S (5) :: rs) w' := by
  have CN : Hid (∀ (a n : Nat) (rs : List Res) (wq : World), a ≤ S.size → PackMath.tn (S.data.toList.drop a) = (n, 1, 0) → Has B w (RdR q S a :: rs) wq → Calls Try.prog 38 #[.pointer (some ⟨q, 0, none⟩)] wq fun e w' => e = .returned (.int .i64 (n : Int)) ∧ Hid (Has B w (RdR q S (a + 1) :: rs) w')) := fun a n rs wq ha ht hq => numR_ok hS ha hq ht
  have H0 : Hid (Has B w (RdR q S 1 :: BlockR wr.heap.size zN :: rs) (wr.alloc (.cells #[.int .i64 0, .int .i64 0, .int .i64 0, .int .i64 0, .int .i64 0, .int .i64 0, .string ⟨#[]⟩, .string ⟨#[]⟩, .int .i64 0, .string ⟨#[]⟩] 48))) := (h.box zN 48).perm (List.Perm.swap _ _ _)
  have D1 := CN.out 1 9 _ _ lk tk H0.out
  obtain ⟨rb, hrb⟩ : ∃ rb, wr.heap.size = rb := ⟨_, rfl⟩
  clear h H0
  rw [hrb] at D1
  go_enter Try.func35, Try.ntmps35
  go_wp2_with fail
  refine D1.mono ?_
  rintro e w1 ⟨rfl, H1⟩
  clear hrb
  have HB : Hid (Has B w (RdR q S 2 :: BlockR w1.heap.size (vF 9 0 0 0 0 0 ⟨#[]⟩ ⟨#[]⟩ 0 ⟨#[]⟩) :: BlockR rb zN :: rs) (w1.alloc (.cells #[.int .i64 9, .int .i64 0, .int .i64 0, .int .i64 0, .int .i64 0, .int .i64 0, .string ⟨#[]⟩, .string ⟨#[]⟩, .int .i64 0, .string ⟨#[]⟩] 48))) := (H1.out.box (vF 9 0 0 0 0 0 ⟨#[]⟩ ⟨#[]⟩ 0 ⟨#[]⟩) 48).perm (List.Perm.swap _ _ _)
  have E0 := CN.out (2) i _ _ l0 t0 HB.out
  go_wp2_with fail
  refine E0.mono ?_
  rintro e v0 ⟨rfl, G0⟩
  generalize w1.heap.size = nb at *
  clear E0 HB H1 D1
  have G0' : Hid (Has B w (RdR q S (3) :: BlockR nb (vF 9 0 0 0 0 0 ⟨#[]⟩ ⟨#[]⟩ 0 ⟨#[]⟩) :: BlockR rb zN :: rs) v0) := G0
  clear G0
  obtain ⟨e1, f1⟩ := G0'.out.bcell (q := nb) (vs := (vF 9 0 0 0 0 0 ⟨#[]⟩ ⟨#[]⟩ 0 ⟨#[]⟩)) (by simp) 1 _ rfl
  have P0 : Hid (Has B w (RdR q S (3) :: BlockR nb (vF 9 (i : Int) 0 0 0 0 ⟨#[]⟩ ⟨#[]⟩ 0 ⟨#[]⟩) :: BlockR rb zN :: rs) (v0.setCell ⟨nb, 1, none⟩ (.int .i64 (i : Int)))) := ((G0'.out.perm (List.Perm.swap _ _ _)).put 1 (by simp [vF]) (.int .i64 (i : Int))).perm (List.Perm.swap _ _ _)
  obtain ⟨e0, _⟩ := P0.out.bcell (q := nb) (vs := (vF 9 (i : Int) 0 0 0 0 ⟨#[]⟩ ⟨#[]⟩ 0 ⟨#[]⟩)) (by simp) 0 _ rfl
  clear G0'
  have E1 := CN.out (3) t _ _ l1 t1 P0.out
  go_wp2_with fail
  refine E1.mono ?_
  rintro e v1 ⟨rfl, G1⟩
  clear E1 P0 e0 e1 f1
  have G1' : Hid (Has B w (RdR q S (4) :: BlockR nb (vF 9 (i : Int) 0 0 0 0 ⟨#[]⟩ ⟨#[]⟩ 0 ⟨#[]⟩) :: BlockR rb zN :: rs) v1) := G1
  clear G1
  obtain ⟨e1, f1⟩ := G1'.out.bcell (q := nb) (vs := (vF 9 (i : Int) 0 0 0 0 ⟨#[]⟩ ⟨#[]⟩ 0 ⟨#[]⟩)) (by simp) 3 _ rfl
  have P1 : Hid (Has B w (RdR q S (4) :: BlockR nb (vF 9 (i : Int) 0 (t : Int) 0 0 ⟨#[]⟩ ⟨#[]⟩ 0 ⟨#[]⟩) :: BlockR rb zN :: rs) (v1.setCell ⟨nb, 3, none⟩ (.int .i64 (t : Int)))) := ((G1'.out.perm (List.Perm.swap _ _ _)).put 3 (by simp [vF]) (.int .i64 (t : Int))).perm (List.Perm.swap _ _ _)
  obtain ⟨e0, _⟩ := P1.out.bcell (q := nb) (vs := (vF 9 (i : Int) 0 (t : Int) 0 0 ⟨#[]⟩ ⟨#[]⟩ 0 ⟨#[]⟩)) (by simp) 0 _ rfl
  clear G1'
  have E2 := CN.out (4) c _ _ l2 t2 P1.out
  go_wp2_with fail
  refine E2.mono ?_
  rintro e v2 ⟨rfl, G2⟩
  clear E2 P1 e0 e1 f1
  have G2' : Hid (Has B w (RdR q S (5) :: BlockR nb (vF 9 (i : Int) 0 (t : Int) 0 0 ⟨#[]⟩ ⟨#[]⟩ 0 ⟨#[]⟩) :: BlockR rb zN :: rs) v2) := G2
  clear G2
  obtain ⟨e1, f1⟩ := G2'.out.bcell (q := nb) (vs := (vF 9 (i : Int) 0 (t : Int) 0 0 ⟨#[]⟩ ⟨#[]⟩ 0 ⟨#[]⟩)) (by simp) 5 _ rfl
  have P2 : Hid (Has B w (RdR q S (5) :: BlockR nb (vF 9 (i : Int) 0 (t : Int) 0 (c : Int) ⟨#[]⟩ ⟨#[]⟩ 0 ⟨#[]⟩) :: BlockR rb zN :: rs) (v2.setCell ⟨nb, 5, none⟩ (.int .i64 (c : Int)))) := ((G2'.out.perm (List.Perm.swap _ _ _)).put 5 (by simp [vF]) (.int .i64 (c : Int))).perm (List.Perm.swap _ _ _)
  obtain ⟨e0, _⟩ := P2.out.bcell (q := nb) (vs := (vF 9 (i : Int) 0 (t : Int) 0 (c : Int) ⟨#[]⟩ ⟨#[]⟩ 0 ⟨#[]⟩)) (by simp) 0 _ rfl
  clear G2'
  have HPZ : Hid (Has B w (BlockR rb zN :: RdR q S (5) :: BlockR nb (vF 9 (i : Int) 0 (t : Int) 0 (c : Int) ⟨#[]⟩ ⟨#[]⟩ 0 ⟨#[]⟩) :: rs) (v2.setCell ⟨nb, 5, none⟩ (.int .i64 (c : Int)))) := P2.out.perm (List.perm_middle (l₁ := [_, _]) (l₂ := rs))
  clear P2 CN
  obtain ⟨x1, _⟩ := HPZ.out.bcell (q := nb) (vs := (vF 9 (i : Int) 0 (t : Int) 0 (c : Int) ⟨#[]⟩ ⟨#[]⟩ 0 ⟨#[]⟩)) (by simp) 1 _ rfl
  obtain ⟨x2, _⟩ := HPZ.out.bcell (q := nb) (vs := (vF 9 (i : Int) 0 (t : Int) 0 (c : Int) ⟨#[]⟩ ⟨#[]⟩ 0 ⟨#[]⟩)) (by simp) 2 _ rfl
  obtain ⟨x3, _⟩ := HPZ.out.bcell (q := nb) (vs := (vF 9 (i : Int) 0 (t : Int) 0 (c : Int) ⟨#[]⟩ ⟨#[]⟩ 0 ⟨#[]⟩)) (by simp) 3 _ rfl
  obtain ⟨x4, _⟩ := HPZ.out.bcell (q := nb) (vs := (vF 9 (i : Int) 0 (t : Int) 0 (c : Int) ⟨#[]⟩ ⟨#[]⟩ 0 ⟨#[]⟩)) (by simp) 4 _ rfl
  obtain ⟨x5, _⟩ := HPZ.out.bcell (q := nb) (vs := (vF 9 (i : Int) 0 (t : Int) 0 (c : Int) ⟨#[]⟩ ⟨#[]⟩ 0 ⟨#[]⟩)) (by simp) 5 _ rfl
  obtain ⟨x6, _⟩ := HPZ.out.bcell (q := nb) (vs := (vF 9 (i : Int) 0 (t : Int) 0 (c : Int) ⟨#[]⟩ ⟨#[]⟩ 0 ⟨#[]⟩)) (by simp) 6 _ rfl
  obtain ⟨x7, _⟩ := HPZ.out.bcell (q := nb) (vs := (vF 9 (i : Int) 0 (t : Int) 0 (c : Int) ⟨#[]⟩ ⟨#[]⟩ 0 ⟨#[]⟩)) (by simp) 7 _ rfl
  obtain ⟨x8, _⟩ := HPZ.out.bcell (q := nb) (vs := (vF 9 (i : Int) 0 (t : Int) 0 (c : Int) ⟨#[]⟩ ⟨#[]⟩ 0 ⟨#[]⟩)) (by simp) 8 _ rfl
  obtain ⟨x9, _⟩ := HPZ.out.bcell (q := nb) (vs := (vF 9 (i : Int) 0 (t : Int) 0 (c : Int) ⟨#[]⟩ ⟨#[]⟩ 0 ⟨#[]⟩)) (by simp) 9 _ rfl
  obtain ⟨y0, g0⟩ := HPZ.out.bcell (q := rb) (vs := zN) (by simp) 0 _ rfl
  obtain ⟨y1, g1⟩ := HPZ.out.bcell (q := rb) (vs := zN) (by simp) 1 _ rfl
  obtain ⟨y2, g2⟩ := HPZ.out.bcell (q := rb) (vs := zN) (by simp) 2 _ rfl
  obtain ⟨y3, g3⟩ := HPZ.out.bcell (q := rb) (vs := zN) (by simp) 3 _ rfl
  obtain ⟨y4, g4⟩ := HPZ.out.bcell (q := rb) (vs := zN) (by simp) 4 _ rfl
  obtain ⟨y5, g5⟩ := HPZ.out.bcell (q := rb) (vs := zN) (by simp) 5 _ rfl
  obtain ⟨y6, g6⟩ := HPZ.out.bcell (q := rb) (vs := zN) (by simp) 6 _ rfl
  obtain ⟨y7, g7⟩ := HPZ.out.bcell (q := rb) (vs := zN) (by simp) 7 _ rfl
  obtain ⟨y8, g8⟩ := HPZ.out.bcell (q := rb) (vs := zN) (by simp) 8 _ rfl
  obtain ⟨y9, g9⟩ := HPZ.out.bcell (q := rb) (vs := zN) (by simp) 9 _ rfl
  have HQ : Hid (Has B w (BlockR rb (vF 9 (i : Int) 0 (t : Int) 0 (c : Int) ⟨#[]⟩ ⟨#[]⟩ 0 ⟨#[]⟩) :: RdR q S (5) :: BlockR nb (vF 9 (i : Int) 0 (t : Int) 0 (c : Int) ⟨#[]⟩ ⟨#[]⟩ 0 ⟨#[]⟩) :: rs) (setAll rb 0 (vF 9 (i : Int) 0 (t : Int) 0 (c : Int) ⟨#[]⟩ ⟨#[]⟩ 0 ⟨#[]⟩) (v2.setCell ⟨nb, 5, none⟩ (.int .i64 (c : Int))))) := Has.puts (vF 9 (i : Int) 0 (t : Int) 0 (c : Int) ⟨#[]⟩ ⟨#[]⟩ 0 ⟨#[]⟩) [] zN HPZ.out rfl
  clear HPZ
  go_wp2_with fail
  have HC : Hid (∀ j u, (vF 9 (i : Int) 0 (t : Int) 0 (c : Int) ⟨#[]⟩ ⟨#[]⟩ 0 ⟨#[]⟩)[j]? = some u → (setAll rb 0 (vF 9 (i : Int) 0 (t : Int) 0 (c : Int) ⟨#[]⟩ ⟨#[]⟩ 0 ⟨#[]⟩) (v2.setCell ⟨nb, 5, none⟩ (.int .i64 (c : Int)))).cell? ⟨rb, j, none⟩ = some u) := fun j u hu => (HQ.out.bcell (q := rb) (vs := (vF 9 (i : Int) 0 (t : Int) 0 (c : Int) ⟨#[]⟩ ⟨#[]⟩ 0 ⟨#[]⟩)) (by simp) j u hu).1
  refine bodyPost_ret (results_row rfl _ _ rb (vF 9 (i : Int) 0 (t : Int) 0 (c : Int) ⟨#[]⟩ ⟨#[]⟩ 0 ⟨#[]⟩) _ rfl HC.out Try.underlying48 rfl (by kernel_rfl)) rfl ⟨rfl, ?_⟩
  exact (HQ.out.drop.perm (List.Perm.swap _ _ _)).drop
end
end Go.Proofs.Yteicfkgcbpioiaa.Pl

/- Reading an event: the three shapes. -/
set_option linter.unusedVariables false
set_option maxRecDepth 100000
namespace Go.Proofs.Yteicfkgcbpioiaa.Pl
open Go.RowKit Go.Proofs.Yteicfkgcbpioiaa

def vV (k i s : Int) (v : Value) : List Value := [.int .i64 k, .int .i64 i, .int .i64 s, v]
abbrev nilS : Value := .slice none 0 0
section
variable {B : Nat} {w wr : World} {rs : List Res}
set_option maxHeartbeats 2000000 in
theorem evR6 {q i : Nat} {S : ByteArray} (hS : S.size ≤ 4611686018427387904) (hS3 : 3 ≤ S.size) (h : Has B w (RdR q S 1 :: rs) wr) (t1 : PackMath.tn (S.data.toList.drop 1) = (6, 1, 0)) (t2 : PackMath.tn (S.data.toList.drop 2) = (i, 1, 0)) :
    Calls Try.prog 34 #[.pointer (some ⟨q, 0, none⟩)] wr fun e w' => e = .returned (.agg (vV 6 i 0 nilS).toArray) ∧ Has B w (RdR q S 3 :: rs) w' := by
  have CN : Hid (∀ (a n : Nat) (rs : List Res) (wq : World), a ≤ S.size → PackMath.tn (S.data.toList.drop a) = (n, 1, 0) → Has B w (RdR q S a :: rs) wq → Calls Try.prog 38 #[.pointer (some ⟨q, 0, none⟩)] wq fun e w' => e = .returned (.int .i64 (n : Int)) ∧ Hid (Has B w (RdR q S (a + 1) :: rs) w')) := fun a n rs wq ha ht hq => numR_ok hS ha hq ht
  have H0 : Hid (Has B w (RdR q S 1 :: BlockR (wr.heap.size + 1) (vV 0 0 0 nilS) :: BlockR wr.heap.size (vV 0 0 0 nilS) :: rs) ((wr.alloc (.cells #[.int .i64 0, .int .i64 0, .int .i64 0, .slice none 0 0] 58)).alloc (.cells #[.int .i64 0, .int .i64 0, .int .i64 0, .slice none 0 0] 58))) := by
    have x := ((h.box (vV 0 0 0 nilS) 58).box (vV 0 0 0 nilS) 58)
    rw [World.size_alloc] at x
    exact x.perm ((List.perm_middle (l₁ := [_, _]) (l₂ := rs)))
  have D1 := CN.out 1 6 _ _ (by omega) t1 H0.out
  obtain ⟨rb, hrb⟩ : ∃ rb, wr.heap.size = rb := ⟨_, rfl⟩
  clear h H0
  rw [hrb] at D1
  go_enter Try.func34, Try.ntmps34
  go_wp2_with fail
  refine D1.mono ?_
  rintro e w1 ⟨rfl, H1⟩
  obtain ⟨nb, hnb⟩ : ∃ nb, rb + 1 = nb := ⟨_, rfl⟩
  rw [hnb] at H1
  have HP1 : Hid (Has B w (RdR q S 2 :: BlockR nb (vV 6 0 0 nilS) :: BlockR rb (vV 0 0 0 nilS) :: rs) (w1.setCell ⟨nb, 0, none⟩ (.int .i64 6))) := ((H1.out.perm (List.Perm.swap _ _ _)).put 0 (by simp [vV]) (.int .i64 6)).perm (List.Perm.swap _ _ _)
  obtain ⟨e0, f0⟩ := H1.out.bcell (q := nb) (vs := vV 0 0 0 nilS) (by simp) 0 _ rfl
  have D2 := CN.out 2 i _ _ (by omega) t2 HP1.out
  clear D1 H1 hrb
  go_wp2_with fail
  refine D2.mono ?_
  rintro e w2 ⟨rfl, H2⟩
  have HP2 : Hid (Has B w (RdR q S 3 :: BlockR nb (vV 6 i 0 nilS) :: BlockR rb (vV 0 0 0 nilS) :: rs) (w2.setCell ⟨nb, 1, none⟩ (.int .i64 (i : Int)))) := ((H2.out.perm (List.Perm.swap _ _ _)).put 1 (by simp [vV]) (.int .i64 (i : Int))).perm (List.Perm.swap _ _ _)
  clear e0 f0
  obtain ⟨z1, f1⟩ := H2.out.bcell (q := nb) (vs := vV 6 0 0 nilS) (by simp) 1 _ rfl
  obtain ⟨x0, _⟩ := HP2.out.bcell (q := nb) (vs := vV 6 i 0 nilS) (by simp) 0 _ rfl
  clear D2 HP1 H2
  have HPZ : Hid (Has B w (BlockR rb (vV 0 0 0 nilS) :: RdR q S 3 :: BlockR nb (vV 6 i 0 nilS) :: rs) (w2.setCell ⟨nb, 1, none⟩ (.int .i64 (i : Int)))) := HP2.out.perm (List.perm_middle (l₁ := [_, _]) (l₂ := rs))
  clear HP2
  clear CN
  obtain ⟨x1, _⟩ := HPZ.out.bcell (q := nb) (vs := vV 6 i 0 nilS) (by simp) 1 _ rfl
  obtain ⟨x2, _⟩ := HPZ.out.bcell (q := nb) (vs := vV 6 i 0 nilS) (by simp) 2 _ rfl
  obtain ⟨x3, _⟩ := HPZ.out.bcell (q := nb) (vs := vV 6 i 0 nilS) (by simp) 3 _ rfl
  obtain ⟨y0, g0⟩ := HPZ.out.bcell (q := rb) (vs := vV 0 0 0 nilS) (by simp) 0 _ rfl
  obtain ⟨y1, g1⟩ := HPZ.out.bcell (q := rb) (vs := vV 0 0 0 nilS) (by simp) 1 _ rfl
  obtain ⟨y2, g2⟩ := HPZ.out.bcell (q := rb) (vs := vV 0 0 0 nilS) (by simp) 2 _ rfl
  obtain ⟨y3, g3⟩ := HPZ.out.bcell (q := rb) (vs := vV 0 0 0 nilS) (by simp) 3 _ rfl
  have HQ : Hid (Has B w (BlockR rb (vV 6 i 0 nilS) :: RdR q S 3 :: BlockR nb (vV 6 i 0 nilS) :: rs) (setAll rb 0 (vV 6 i 0 nilS) (w2.setCell ⟨nb, 1, none⟩ (.int .i64 (i : Int))))) := Has.puts (vV 6 i 0 nilS) [] (vV 0 0 0 nilS) HPZ.out rfl
  clear HPZ
  go_wp2_with fail
  have HC : Hid (∀ j v, (vV 6 i 0 nilS)[j]? = some v → (setAll rb 0 (vV 6 i 0 nilS) (w2.setCell ⟨nb, 1, none⟩ (.int .i64 (i : Int)))).cell? ⟨rb, j, none⟩ = some v) := fun j v hv => (HQ.out.bcell (q := rb) (vs := vV 6 i 0 nilS) (by simp) j v hv).1
  refine bodyPost_ret (results_row rfl _ _ rb (vV 6 i 0 nilS) _ rfl HC.out Try.underlying58 rfl (by kernel_rfl)) rfl ⟨rfl, ?_⟩
  exact (HQ.out.drop.perm (List.Perm.swap _ _ _)).drop
set_option maxHeartbeats 2000000 in
theorem evRK {q k i s : Nat} {S : ByteArray} (hS : S.size ≤ 4611686018427387904) (hS3 : 4 ≤ S.size) (h : Has B w (RdR q S 1 :: rs) wr) (t1 : PackMath.tn (S.data.toList.drop 1) = (k, 1, 0)) (t2 : PackMath.tn (S.data.toList.drop 2) = (i, 1, 0)) (t3 : PackMath.tn (S.data.toList.drop 3) = (s, 1, 0)) (k1 : k ≠ 1) (k6 : k ≠ 6) :
    Calls Try.prog 34 #[.pointer (some ⟨q, 0, none⟩)] wr fun e w' => e = .returned (.agg (vV k i s nilS).toArray) ∧ Has B w (RdR q S 4 :: rs) w' := by
  have CN : Hid (∀ (a n : Nat) (rs : List Res) (wq : World), a ≤ S.size → PackMath.tn (S.data.toList.drop a) = (n, 1, 0) → Has B w (RdR q S a :: rs) wq → Calls Try.prog 38 #[.pointer (some ⟨q, 0, none⟩)] wq fun e w' => e = .returned (.int .i64 (n : Int)) ∧ Hid (Has B w (RdR q S (a + 1) :: rs) w')) := fun a n rs wq ha ht hq => numR_ok hS ha hq ht
  have k1' : ((k : Int) == 1) = false := beq_eq_false_iff_ne.2 (by omega)
  have k6' : ((k : Int) == 6) = false := beq_eq_false_iff_ne.2 (by omega)
  have H0 : Hid (Has B w (RdR q S 1 :: BlockR (wr.heap.size + 1) (vV 0 0 0 nilS) :: BlockR wr.heap.size (vV 0 0 0 nilS) :: rs) ((wr.alloc (.cells #[.int .i64 0, .int .i64 0, .int .i64 0, .slice none 0 0] 58)).alloc (.cells #[.int .i64 0, .int .i64 0, .int .i64 0, .slice none 0 0] 58))) := by
    have x := ((h.box (vV 0 0 0 nilS) 58).box (vV 0 0 0 nilS) 58)
    rw [World.size_alloc] at x
    exact x.perm ((List.perm_middle (l₁ := [_, _]) (l₂ := rs)))
  have D1 := CN.out 1 k _ _ (by omega) t1 H0.out
  obtain ⟨rb, hrb⟩ : ∃ rb, wr.heap.size = rb := ⟨_, rfl⟩
  clear h H0
  rw [hrb] at D1
  go_enter Try.func34, Try.ntmps34
  go_wp2_with fail
  refine D1.mono ?_
  rintro e w1 ⟨rfl, H1⟩
  obtain ⟨nb, hnb⟩ : ∃ nb, rb + 1 = nb := ⟨_, rfl⟩
  rw [hnb] at H1
  have HP1 : Hid (Has B w (RdR q S 2 :: BlockR nb (vV (k : Int) 0 0 nilS) :: BlockR rb (vV 0 0 0 nilS) :: rs) (w1.setCell ⟨nb, 0, none⟩ (.int .i64 (k : Int)))) := ((H1.out.perm (List.Perm.swap _ _ _)).put 0 (by simp [vV]) (.int .i64 (k : Int))).perm (List.Perm.swap _ _ _)
  obtain ⟨e0, f0⟩ := H1.out.bcell (q := nb) (vs := vV 0 0 0 nilS) (by simp) 0 _ rfl
  have D2 := CN.out 2 i _ _ (by omega) t2 HP1.out
  clear D1 H1 hrb
  go_wp2_with fail
  refine D2.mono ?_
  rintro e w2 ⟨rfl, H2⟩
  have HP2 : Hid (Has B w (RdR q S 3 :: BlockR nb (vV (k : Int) i 0 nilS) :: BlockR rb (vV 0 0 0 nilS) :: rs) (w2.setCell ⟨nb, 1, none⟩ (.int .i64 (i : Int)))) := ((H2.out.perm (List.Perm.swap _ _ _)).put 1 (by simp [vV]) (.int .i64 (i : Int))).perm (List.Perm.swap _ _ _)
  clear e0 f0
  obtain ⟨z1, f1⟩ := H2.out.bcell (q := nb) (vs := vV (k : Int) 0 0 nilS) (by simp) 1 _ rfl
  obtain ⟨x0, _⟩ := HP2.out.bcell (q := nb) (vs := vV (k : Int) i 0 nilS) (by simp) 0 _ rfl
  clear D2 HP1 H2
  have D3 := CN.out 3 s _ _ (by omega) t3 HP2.out
  go_wp2_with fail
  refine D3.mono ?_
  rintro e w3 ⟨rfl, H3⟩
  have HP3 : Hid (Has B w (RdR q S 4 :: BlockR nb (vV (k : Int) i s nilS) :: BlockR rb (vV 0 0 0 nilS) :: rs) (w3.setCell ⟨nb, 2, none⟩ (.int .i64 (s : Int)))) := ((H3.out.perm (List.Perm.swap _ _ _)).put 2 (by simp [vV]) (.int .i64 (s : Int))).perm (List.Perm.swap _ _ _)
  clear x0 z1 f1
  obtain ⟨z1, f1⟩ := H3.out.bcell (q := nb) (vs := vV (k : Int) i 0 nilS) (by simp) 2 _ rfl
  obtain ⟨x0, _⟩ := HP3.out.bcell (q := nb) (vs := vV (k : Int) i s nilS) (by simp) 0 _ rfl
  clear D3 HP2 H3
  have HPZ : Hid (Has B w (BlockR rb (vV 0 0 0 nilS) :: RdR q S 4 :: BlockR nb (vV (k : Int) i s nilS) :: rs) (w3.setCell ⟨nb, 2, none⟩ (.int .i64 (s : Int)))) := HP3.out.perm (List.perm_middle (l₁ := [_, _]) (l₂ := rs))
  clear HP3
  clear CN
  obtain ⟨x1, _⟩ := HPZ.out.bcell (q := nb) (vs := vV (k : Int) i s nilS) (by simp) 1 _ rfl
  obtain ⟨x2, _⟩ := HPZ.out.bcell (q := nb) (vs := vV (k : Int) i s nilS) (by simp) 2 _ rfl
  obtain ⟨x3, _⟩ := HPZ.out.bcell (q := nb) (vs := vV (k : Int) i s nilS) (by simp) 3 _ rfl
  obtain ⟨y0, g0⟩ := HPZ.out.bcell (q := rb) (vs := vV 0 0 0 nilS) (by simp) 0 _ rfl
  obtain ⟨y1, g1⟩ := HPZ.out.bcell (q := rb) (vs := vV 0 0 0 nilS) (by simp) 1 _ rfl
  obtain ⟨y2, g2⟩ := HPZ.out.bcell (q := rb) (vs := vV 0 0 0 nilS) (by simp) 2 _ rfl
  obtain ⟨y3, g3⟩ := HPZ.out.bcell (q := rb) (vs := vV 0 0 0 nilS) (by simp) 3 _ rfl
  have HQ : Hid (Has B w (BlockR rb (vV (k : Int) i s nilS) :: RdR q S 4 :: BlockR nb (vV (k : Int) i s nilS) :: rs) (setAll rb 0 (vV (k : Int) i s nilS) (w3.setCell ⟨nb, 2, none⟩ (.int .i64 (s : Int))))) := Has.puts (vV (k : Int) i s nilS) [] (vV 0 0 0 nilS) HPZ.out rfl
  clear HPZ
  go_wp2_with fail
  have HC : Hid (∀ j v, (vV (k : Int) i s nilS)[j]? = some v → (setAll rb 0 (vV (k : Int) i s nilS) (w3.setCell ⟨nb, 2, none⟩ (.int .i64 (s : Int)))).cell? ⟨rb, j, none⟩ = some v) := fun j v hv => (HQ.out.bcell (q := rb) (vs := vV (k : Int) i s nilS) (by simp) j v hv).1
  refine bodyPost_ret (results_row rfl _ _ rb (vV (k : Int) i s nilS) _ rfl HC.out Try.underlying58 rfl (by kernel_rfl)) rfl ⟨rfl, ?_⟩
  exact (HQ.out.drop.perm (List.Perm.swap _ _ _)).drop
set_option maxHeartbeats 2000000 in
theorem evR1 {q i s c : Nat} {xs : List (List UInt8)} {S : ByteArray} (hS : S.size ≤ 4611686018427387904) (hS3 : 4 ≤ S.size) (h : Has B w (RdR q S 1 :: rs) wr) (t1 : PackMath.tn (S.data.toList.drop 1) = (1, 1, 0)) (t2 : PackMath.tn (S.data.toList.drop 2) = (i, 1, 0)) (t3 : PackMath.tn (S.data.toList.drop 3) = (s, 1, 0)) (t4 : PackMath.tl (S.data.toList.drop 4) = (xs, c, 0)) :
    Calls Try.prog 34 #[.pointer (some ⟨q, 0, none⟩)] wr fun e w' => ∃ ao cap, e = .returned (.agg (vV 1 i s (.slice ao xs.length cap)).toArray) ∧ Hid (Has B w (RdR q S (4 + c) :: TR (.slice ao xs.length cap) xs :: rs) w') := by
  have CN : Hid (∀ (a n : Nat) (rs : List Res) (wq : World), a ≤ S.size → PackMath.tn (S.data.toList.drop a) = (n, 1, 0) → Has B w (RdR q S a :: rs) wq → Calls Try.prog 38 #[.pointer (some ⟨q, 0, none⟩)] wq fun e w' => e = .returned (.int .i64 (n : Int)) ∧ Hid (Has B w (RdR q S (a + 1) :: rs) w')) := fun a n rs wq ha ht hq => numR_ok hS ha hq ht
  have CK : Hid (∀ (rs : List Res) (wq : World), Has B w (RdR q S 4 :: rs) wq → Calls Try.prog 39 #[.pointer (some ⟨q, 0, none⟩)] wq fun e w' => ∃ v, e = .returned v ∧ (∃ ao cap, v = .slice ao xs.length cap) ∧ Hid (Has B w (RdR q S (4 + c) :: TR v xs :: rs) w')) := fun rs wq hq => keysR_ok hS hS3 hq t4
  have H0 : Hid (Has B w (RdR q S 1 :: BlockR (wr.heap.size + 1) (vV 0 0 0 nilS) :: BlockR wr.heap.size (vV 0 0 0 nilS) :: rs) ((wr.alloc (.cells #[.int .i64 0, .int .i64 0, .int .i64 0, .slice none 0 0] 58)).alloc (.cells #[.int .i64 0, .int .i64 0, .int .i64 0, .slice none 0 0] 58))) := by
    have x := ((h.box (vV 0 0 0 nilS) 58).box (vV 0 0 0 nilS) 58)
    rw [World.size_alloc] at x
    exact x.perm ((List.perm_middle (l₁ := [_, _]) (l₂ := rs)))
  have D1 := CN.out 1 1 _ _ (by omega) t1 H0.out
  obtain ⟨rb, hrb⟩ : ∃ rb, wr.heap.size = rb := ⟨_, rfl⟩
  clear h H0
  rw [hrb] at D1
  go_enter Try.func34, Try.ntmps34
  go_wp2_with fail
  refine D1.mono ?_
  rintro e w1 ⟨rfl, H1⟩
  obtain ⟨nb, hnb⟩ : ∃ nb, rb + 1 = nb := ⟨_, rfl⟩
  rw [hnb] at H1
  have HP1 : Hid (Has B w (RdR q S 2 :: BlockR nb (vV 1 0 0 nilS) :: BlockR rb (vV 0 0 0 nilS) :: rs) (w1.setCell ⟨nb, 0, none⟩ (.int .i64 1))) := ((H1.out.perm (List.Perm.swap _ _ _)).put 0 (by simp [vV]) (.int .i64 1)).perm (List.Perm.swap _ _ _)
  obtain ⟨e0, f0⟩ := H1.out.bcell (q := nb) (vs := vV 0 0 0 nilS) (by simp) 0 _ rfl
  have D2 := CN.out 2 i _ _ (by omega) t2 HP1.out
  clear D1 H1 hrb
  go_wp2_with fail
  refine D2.mono ?_
  rintro e w2 ⟨rfl, H2⟩
  have HP2 : Hid (Has B w (RdR q S 3 :: BlockR nb (vV 1 i 0 nilS) :: BlockR rb (vV 0 0 0 nilS) :: rs) (w2.setCell ⟨nb, 1, none⟩ (.int .i64 (i : Int)))) := ((H2.out.perm (List.Perm.swap _ _ _)).put 1 (by simp [vV]) (.int .i64 (i : Int))).perm (List.Perm.swap _ _ _)
  clear e0 f0
  obtain ⟨z1, f1⟩ := H2.out.bcell (q := nb) (vs := vV 1 0 0 nilS) (by simp) 1 _ rfl
  obtain ⟨x0, _⟩ := HP2.out.bcell (q := nb) (vs := vV 1 i 0 nilS) (by simp) 0 _ rfl
  clear D2 HP1 H2
  have D3 := CN.out 3 s _ _ (by omega) t3 HP2.out
  go_wp2_with fail
  refine D3.mono ?_
  rintro e w3 ⟨rfl, H3⟩
  have HP3 : Hid (Has B w (RdR q S 4 :: BlockR nb (vV 1 i s nilS) :: BlockR rb (vV 0 0 0 nilS) :: rs) (w3.setCell ⟨nb, 2, none⟩ (.int .i64 (s : Int)))) := ((H3.out.perm (List.Perm.swap _ _ _)).put 2 (by simp [vV]) (.int .i64 (s : Int))).perm (List.Perm.swap _ _ _)
  clear x0 z1 f1
  obtain ⟨z1, f1⟩ := H3.out.bcell (q := nb) (vs := vV 1 i 0 nilS) (by simp) 2 _ rfl
  obtain ⟨x0, _⟩ := HP3.out.bcell (q := nb) (vs := vV 1 i s nilS) (by simp) 0 _ rfl
  clear D3 HP2 H3
  have D4 := CK.out _ _ HP3.out
  go_wp2_with fail
  refine D4.mono ?_
  rintro e w4 ⟨v, rfl, ⟨ao, cap, rfl⟩, H4⟩
  have HX4 := H4.out.perm (List.perm_middle (l₁ := [_, _]) (a := BlockR nb (vV 1 i s nilS)))
  have HP4 : Hid (Has B w (BlockR nb (vV 1 i s (.slice ao xs.length cap)) :: RdR q S (4 + c) :: TR (.slice ao xs.length cap) xs :: BlockR rb (vV 0 0 0 nilS) :: rs) (w4.setCell ⟨nb, 3, none⟩ (.slice ao xs.length cap))) := HX4.put 3 (by simp [vV]) (.slice ao xs.length cap)
  clear x0 z1 f1
  obtain ⟨z1, f1⟩ := HX4.bcell (q := nb) (vs := vV 1 i s nilS) (by simp) 3 _ rfl
  obtain ⟨x0, _⟩ := HP4.out.bcell (q := nb) (vs := vV 1 i s (.slice ao xs.length cap)) (by simp) 0 _ rfl
  have HPZ : Hid (Has B w (BlockR rb (vV 0 0 0 nilS) :: BlockR nb (vV 1 i s (.slice ao xs.length cap)) :: RdR q S (4 + c) :: TR (.slice ao xs.length cap) xs :: rs) (w4.setCell ⟨nb, 3, none⟩ (.slice ao xs.length cap))) := HP4.out.perm (List.perm_middle (l₁ := [_, _, _]) (l₂ := rs))
  clear D4 HP3 H4 HX4 HP4 CK
  clear CN
  obtain ⟨x1, _⟩ := HPZ.out.bcell (q := nb) (vs := vV 1 i s (.slice ao xs.length cap)) (by simp) 1 _ rfl
  obtain ⟨x2, _⟩ := HPZ.out.bcell (q := nb) (vs := vV 1 i s (.slice ao xs.length cap)) (by simp) 2 _ rfl
  obtain ⟨x3, _⟩ := HPZ.out.bcell (q := nb) (vs := vV 1 i s (.slice ao xs.length cap)) (by simp) 3 _ rfl
  obtain ⟨y0, g0⟩ := HPZ.out.bcell (q := rb) (vs := vV 0 0 0 nilS) (by simp) 0 _ rfl
  obtain ⟨y1, g1⟩ := HPZ.out.bcell (q := rb) (vs := vV 0 0 0 nilS) (by simp) 1 _ rfl
  obtain ⟨y2, g2⟩ := HPZ.out.bcell (q := rb) (vs := vV 0 0 0 nilS) (by simp) 2 _ rfl
  obtain ⟨y3, g3⟩ := HPZ.out.bcell (q := rb) (vs := vV 0 0 0 nilS) (by simp) 3 _ rfl
  have HQ : Hid (Has B w (BlockR rb (vV 1 i s (.slice ao xs.length cap)) :: BlockR nb (vV 1 i s (.slice ao xs.length cap)) :: RdR q S (4 + c) :: TR (.slice ao xs.length cap) xs :: rs) (setAll rb 0 (vV 1 i s (.slice ao xs.length cap)) (w4.setCell ⟨nb, 3, none⟩ (.slice ao xs.length cap)))) := Has.puts (vV 1 i s (.slice ao xs.length cap)) [] (vV 0 0 0 nilS) HPZ.out rfl
  clear HPZ
  go_wp2_with fail
  have HC : Hid (∀ j v, (vV 1 i s (.slice ao xs.length cap))[j]? = some v → (setAll rb 0 (vV 1 i s (.slice ao xs.length cap)) (w4.setCell ⟨nb, 3, none⟩ (.slice ao xs.length cap))).cell? ⟨rb, j, none⟩ = some v) := fun j v hv => (HQ.out.bcell (q := rb) (vs := vV 1 i s (.slice ao xs.length cap)) (by simp) j v hv).1
  refine bodyPost_ret (results_row rfl _ _ rb (vV 1 i s (.slice ao xs.length cap)) _ rfl HC.out Try.underlying58 rfl (by kernel_rfl)) rfl ⟨_, _, rfl, ?_⟩
  exact HQ.out.drop.drop
end
end Go.Proofs.Yteicfkgcbpioiaa.Pl
