/- The texts LtCut, LtCutV, NtRead, one behind the other. -/
import Derived.Test.YtbgankldnjeohaaZoA
import Derived.Test.YtbgankldnjeohaaRdKeys
import Derived.Test.YtbgankldnjeohaaLiveC
/- A letter's form cut short by its last byte: whoever reads it gives up. -/
set_option linter.unusedVariables false
set_option linter.unusedSimpArgs false
set_option maxRecDepth 100000
namespace Go.Proofs.Ytbgankldnjeohaa.Pl
open Go.RowKit Go.Proofs.Ytbgankldnjeohaa

section
variable {B : Nat} {w wr : World} {rs : List Res}
theorem pass_no {q : Nat} {x e : Int} (he : e ≠ 0) (wr : World) : Calls Try.prog 43 #[.pointer (some ⟨q, 0, none⟩), .int .i64 x, .int .i64 e] wr fun en w' => en = gave ∧ w' = wr := by
  have he' : (e == 0) = false := beq_eq_false_iff_ne.2 he
  go_enter Try.func43, Try.ntmps43
  go_wp2_with fail
  refine (giveUp_any _).mono ?_
  rintro en w2 ⟨rfl, hw⟩
  rw [hw]
  go_wp2
  exact bodyPost_dies rfl ⟨rfl, rfl⟩
set_option maxHeartbeats 1000000 in
theorem numR_no {q a n c e : Nat} {S : ByteArray} (hS : S.size ≤ 4611686018427387904) (ha : a ≤ S.size) (h : Has B w (RdR q S a :: rs) wr) (ht : PackMath.tn (S.data.toList.drop a) = (n, c, e)) (he : e ≠ 0) :
    Calls Try.prog 37 #[.pointer (some ⟨q, 0, none⟩)] wr fun en w' => en = gave ∧ Hid (Has B w (RdR q S a :: rs) w') := by
  have HD : Hid (∀ m, Has B w (RdR q S a :: rs) (wr.drewN m)) := fun m => h.below (below_drewN (Below.refl _ _) m)
  have HT : Hid (∀ w, Calls Try.prog 42 #[.string S, .int .i64 (a : Int)] w fun en w' => en = .returned (.tuple #[.int .i64 (n : Int), .int .i64 0, .int .i64 (e : Int)]) ∧ w' = w) := fun w => by
    have x := Pk.takeNum_any S a hS ha w
    rw [Pk.tnV_of ht, if_neg he] at x
    exact x
  have CP : Hid (∀ wq, Calls Try.prog 43 #[.pointer (some ⟨q, 0, none⟩), .int .i64 0, .int .i64 (e : Int)] wq fun en w' => en = gave ∧ w' = wq) := fun wq => pass_no (by omega) wq
  obtain ⟨c0, f0⟩ := h.bcell (q := q) (vs := [.string S, .int .i64 (a : Int)]) List.mem_cons_self 0 _ rfl
  obtain ⟨c1, f1⟩ := h.bcell (q := q) (vs := [.string S, .int .i64 (a : Int)]) List.mem_cons_self 1 _ rfl
  clear h ht hS ha he
  go_enter Try.func37, Try.ntmps37
  go_wp2_with fail
  go_quiet ((go_at_call 42; exact Calls.quiet_of_same (HT.out _)))
  go_wp2_with fail
  refine (CP.out _).mono ?_
  rintro en w2 ⟨rfl, hw2⟩
  rw [hw2]
  go_wp2_with fail
  exact bodyPost_dies rfl ⟨rfl, HD.out _⟩
set_option maxHeartbeats 2000000 in
theorem keysR_no {q a c e : Nat} {S : ByteArray} {xs : List (List UInt8)} (hS : S.size ≤ 4611686018427387904) (ha : a ≤ S.size) (h : Has B w (RdR q S a :: rs) wr) (ht : PackMath.tl (S.data.toList.drop a) = (xs, c, e)) (he : e ≠ 0) :
    Calls Try.prog 38 #[.pointer (some ⟨q, 0, none⟩)] wr fun en w' => en = gave ∧ Hid (Has B w (RdR q S a :: rs) w') := by
  have HT : Hid (∀ wq, Hid (Has B w (RdR q S a :: rs) wq) → Calls Try.prog 44 #[.string S, .int .i64 (a : Int)] wq fun en w' => ∃ ao cap, en = .returned (.tuple #[.slice ao xs.length cap, .int .i64 0, .int .i64 (e : Int)]) ∧
      w'.cell? ⟨q, 0, none⟩ = some (.string S) ∧ w'.cell? ⟨q, 1, none⟩ = some (.int .i64 (a : Int)) ∧ Hid (Has B w (RdR q S a :: rs) w')) := fun wq hq => by
    refine (Pk.takeList_any S a hS ha wq).mono ?_
    rintro en w' ⟨v, xs', c', e', h1, h2, h3, h4, h5⟩
    rw [ht] at h1
    obtain ⟨rfl, rfl, rfl⟩ : xs = xs' ∧ c = c' ∧ e = e' := by simpa using h1
    obtain ⟨ao, cap, rfl, _⟩ := own_form h4
    have y : Has B w (RdR q S a :: rs) w' := hq.out.below h5
    rw [if_neg he] at h2
    exact ⟨ao, cap, h2, (y.bcell (q := q) (vs := [.string S, .int .i64 (a : Int)]) List.mem_cons_self 0 _ rfl).1, (y.bcell (q := q) (vs := [.string S, .int .i64 (a : Int)]) List.mem_cons_self 1 _ rfl).1, y⟩
  have CP : Hid (∀ wq, Calls Try.prog 43 #[.pointer (some ⟨q, 0, none⟩), .int .i64 0, .int .i64 (e : Int)] wq fun en w' => en = gave ∧ w' = wq) := fun wq => pass_no (by omega) wq
  have HD : Hid (∀ m, Hid (Has B w (RdR q S a :: rs) (wr.drewN m))) := fun m => h.below (below_drewN (Below.refl _ _) m)
  have H1 : Hid (Has B w (RdR q S a :: rs) wr.drew) := h.below (by go_grown)
  have H0 : Hid (Has B w (RdR q S a :: rs) wr) := h
  obtain ⟨c0, f0⟩ := h.bcell (q := q) (vs := [.string S, .int .i64 (a : Int)]) List.mem_cons_self 0 _ rfl
  obtain ⟨c1, f1⟩ := h.bcell (q := q) (vs := [.string S, .int .i64 (a : Int)]) List.mem_cons_self 1 _ rfl
  clear h ht hS ha he
  go_enter Try.func38, Try.ntmps38
  go_wp2_with fail
  go_region_held3 (fun w' => w'.cell? ⟨q, 0, none⟩ = some (.string S) ∧ w'.cell? ⟨q, 1, none⟩ = some (.int .i64 (a : Int))) (go_keep) (first | (go_at_call 44; refine (HT.out _ (by first | exact H1 | exact H0 | exact HD.out _)).mono ?_; rintro en w2 ⟨ao, cap, rfl, m0, m1, H2⟩))
  all_goals go_wp2_with fail
  all_goals refine (CP.out _).mono ?_
  all_goals rintro en w3 ⟨rfl, hw3⟩
  all_goals rw [hw3]
  all_goals go_wp2_with fail
  all_goals exact bodyPost_dies rfl ⟨rfl, by first | exact H2 | exact H2.out.below (by go_grown)⟩
set_option maxHeartbeats 2000000 in
theorem ltC3 {q p c e n : Nat} {S : ByteArray} (hS : S.size ≤ 4611686018427387904) (hS3 : 3 ≤ S.size) (h : Has B w (RdR q S 1 :: rs) wr) (tk : PackMath.tn (S.data.toList.drop 1) = (3, 1, 0)) (t0 : PackMath.tn (S.data.toList.drop 2) = (p, 1, 0)) (tq : PackMath.tn (S.data.toList.drop 3) = (n, c, e)) (he : e ≠ 0) :
    Calls Try.prog 32 #[.pointer (some ⟨q, 0, none⟩)] wr fun en w' => en = gave ∧ Hid (Has B w rs w') := by
  have CN : Hid (∀ (a n : Nat) (rs : List Res) (wq : World), a ≤ S.size → PackMath.tn (S.data.toList.drop a) = (n, 1, 0) → Has B w (RdR q S a :: rs) wq → Calls Try.prog 37 #[.pointer (some ⟨q, 0, none⟩)] wq fun e w' => e = .returned (.int .i64 (n : Int)) ∧ Hid (Has B w (RdR q S (a + 1) :: rs) w')) := fun a n rs wq ha ht hq => numR_ok hS ha hq ht
  have CX : Hid (∀ (rs : List Res) (wq : World), Has B w (RdR q S 3 :: rs) wq → Calls Try.prog 37 #[.pointer (some ⟨q, 0, none⟩)] wq fun en w' => en = gave ∧ Hid (Has B w (RdR q S 3 :: rs) w')) := fun rs wq hq => numR_no hS hS3 hq tq he
  have H0 : Hid (Has B w (RdR q S 1 :: BlockR (wr.heap.size + 1) (vL 0 0 0 0 0 nilS) :: BlockR wr.heap.size (vL 0 0 0 0 0 nilS) :: rs) ((wr.alloc (.cells #[.int .i64 0, .int .i64 0, .int .i64 0, .int .i64 0, .int .i64 0, .slice none 0 0] 49)).alloc (.cells #[.int .i64 0, .int .i64 0, .int .i64 0, .int .i64 0, .int .i64 0, .slice none 0 0] 49))) := by
    have x := ((h.box (vL 0 0 0 0 0 nilS) 49).box (vL 0 0 0 0 0 nilS) 49)
    rw [World.size_alloc] at x
    exact x.perm ((List.perm_middle (l₁ := [_, _]) (l₂ := rs)))
  have E := CN.out 1 3 _ _ (by omega) tk H0.out
  obtain ⟨rb, hrb⟩ : ∃ rb, wr.heap.size = rb := ⟨_, rfl⟩
  clear h H0
  rw [hrb] at E
  go_enter Try.func32, Try.ntmps32
  go_wp2_with fail
  refine E.mono ?_
  rintro e v0 ⟨rfl, G0⟩
  obtain ⟨nb, hnb⟩ : ∃ nb, rb + 1 = nb := ⟨_, rfl⟩
  rw [hnb] at G0
  have P0 : Hid (Has B w (RdR q S 2 :: BlockR nb (vL 3 0 0 0 0 nilS) :: BlockR rb (vL 0 0 0 0 0 nilS) :: rs) (v0.setCell ⟨nb, 0, none⟩ (.int .i64 3))) := ((G0.out.perm (List.Perm.swap _ _ _)).put 0 (by simp [vL]) (.int .i64 3)).perm (List.Perm.swap _ _ _)
  obtain ⟨e1, f1⟩ := G0.out.bcell (q := nb) (vs := (vL 0 0 0 0 0 nilS)) (by simp) 0 _ rfl
  obtain ⟨e0, _⟩ := P0.out.bcell (q := nb) (vs := (vL 3 0 0 0 0 nilS)) (by simp) 0 _ rfl
  clear E G0 hrb
  have E := CN.out 2 p _ _ (by omega) t0 P0.out
  go_wp2_with fail
  refine E.mono ?_
  rintro e v1 ⟨rfl, G1⟩
  have P1 : Hid (Has B w (RdR q S 3 :: BlockR nb (vL 3 (p : Int) 0 0 0 nilS) :: BlockR rb (vL 0 0 0 0 0 nilS) :: rs) (v1.setCell ⟨nb, 1, none⟩ (.int .i64 (p : Int)))) := ((G1.out.perm (List.Perm.swap _ _ _)).put 1 (by simp [vL]) (.int .i64 (p : Int))).perm (List.Perm.swap _ _ _)
  clear e0 e1 f1
  obtain ⟨e1, f1⟩ := G1.out.bcell (q := nb) (vs := (vL 3 0 0 0 0 nilS)) (by simp) 1 _ rfl
  obtain ⟨e0, _⟩ := P1.out.bcell (q := nb) (vs := (vL 3 (p : Int) 0 0 0 nilS)) (by simp) 0 _ rfl
  clear E G1 P0
  have E := CX.out _ _ P1.out
  clear CX CN tq
  go_wp2_with fail
  refine E.mono ?_
  rintro en w4 ⟨rfl, H4⟩
  have HZ : Hid (Has B w rs w4) := H4.out.drop.drop.drop
  clear E H4 P1
  go_wp2_with fail
  exact bodyPost_dies rfl ⟨rfl, HZ⟩
set_option maxHeartbeats 2000000 in
theorem ltC9 {q p c e n : Nat} {S : ByteArray} (hS : S.size ≤ 4611686018427387904) (hS3 : 3 ≤ S.size) (h : Has B w (RdR q S 1 :: rs) wr) (tk : PackMath.tn (S.data.toList.drop 1) = (9, 1, 0)) (t0 : PackMath.tn (S.data.toList.drop 2) = (p, 1, 0)) (tq : PackMath.tn (S.data.toList.drop 3) = (n, c, e)) (he : e ≠ 0) :
    Calls Try.prog 32 #[.pointer (some ⟨q, 0, none⟩)] wr fun en w' => en = gave ∧ Hid (Has B w rs w') := by
  have CN : Hid (∀ (a n : Nat) (rs : List Res) (wq : World), a ≤ S.size → PackMath.tn (S.data.toList.drop a) = (n, 1, 0) → Has B w (RdR q S a :: rs) wq → Calls Try.prog 37 #[.pointer (some ⟨q, 0, none⟩)] wq fun e w' => e = .returned (.int .i64 (n : Int)) ∧ Hid (Has B w (RdR q S (a + 1) :: rs) w')) := fun a n rs wq ha ht hq => numR_ok hS ha hq ht
  have CX : Hid (∀ (rs : List Res) (wq : World), Has B w (RdR q S 3 :: rs) wq → Calls Try.prog 37 #[.pointer (some ⟨q, 0, none⟩)] wq fun en w' => en = gave ∧ Hid (Has B w (RdR q S 3 :: rs) w')) := fun rs wq hq => numR_no hS hS3 hq tq he
  have H0 : Hid (Has B w (RdR q S 1 :: BlockR (wr.heap.size + 1) (vL 0 0 0 0 0 nilS) :: BlockR wr.heap.size (vL 0 0 0 0 0 nilS) :: rs) ((wr.alloc (.cells #[.int .i64 0, .int .i64 0, .int .i64 0, .int .i64 0, .int .i64 0, .slice none 0 0] 49)).alloc (.cells #[.int .i64 0, .int .i64 0, .int .i64 0, .int .i64 0, .int .i64 0, .slice none 0 0] 49))) := by
    have x := ((h.box (vL 0 0 0 0 0 nilS) 49).box (vL 0 0 0 0 0 nilS) 49)
    rw [World.size_alloc] at x
    exact x.perm ((List.perm_middle (l₁ := [_, _]) (l₂ := rs)))
  have E := CN.out 1 9 _ _ (by omega) tk H0.out
  obtain ⟨rb, hrb⟩ : ∃ rb, wr.heap.size = rb := ⟨_, rfl⟩
  clear h H0
  rw [hrb] at E
  go_enter Try.func32, Try.ntmps32
  go_wp2_with fail
  refine E.mono ?_
  rintro e v0 ⟨rfl, G0⟩
  obtain ⟨nb, hnb⟩ : ∃ nb, rb + 1 = nb := ⟨_, rfl⟩
  rw [hnb] at G0
  have P0 : Hid (Has B w (RdR q S 2 :: BlockR nb (vL 9 0 0 0 0 nilS) :: BlockR rb (vL 0 0 0 0 0 nilS) :: rs) (v0.setCell ⟨nb, 0, none⟩ (.int .i64 9))) := ((G0.out.perm (List.Perm.swap _ _ _)).put 0 (by simp [vL]) (.int .i64 9)).perm (List.Perm.swap _ _ _)
  obtain ⟨e1, f1⟩ := G0.out.bcell (q := nb) (vs := (vL 0 0 0 0 0 nilS)) (by simp) 0 _ rfl
  obtain ⟨e0, _⟩ := P0.out.bcell (q := nb) (vs := (vL 9 0 0 0 0 nilS)) (by simp) 0 _ rfl
  clear E G0 hrb
  have E := CN.out 2 p _ _ (by omega) t0 P0.out
  go_wp2_with fail
  refine E.mono ?_
  rintro e v1 ⟨rfl, G1⟩
  have P1 : Hid (Has B w (RdR q S 3 :: BlockR nb (vL 9 (p : Int) 0 0 0 nilS) :: BlockR rb (vL 0 0 0 0 0 nilS) :: rs) (v1.setCell ⟨nb, 1, none⟩ (.int .i64 (p : Int)))) := ((G1.out.perm (List.Perm.swap _ _ _)).put 1 (by simp [vL]) (.int .i64 (p : Int))).perm (List.Perm.swap _ _ _)
  clear e0 e1 f1
  obtain ⟨e1, f1⟩ := G1.out.bcell (q := nb) (vs := (vL 9 0 0 0 0 nilS)) (by simp) 1 _ rfl
  obtain ⟨e0, _⟩ := P1.out.bcell (q := nb) (vs := (vL 9 (p : Int) 0 0 0 nilS)) (by simp) 0 _ rfl
  clear E G1 P0
  have E := CX.out _ _ P1.out
  clear CX CN tq
  go_wp2_with fail
  refine E.mono ?_
  rintro en w4 ⟨rfl, H4⟩
  have HZ : Hid (Has B w rs w4) := H4.out.drop.drop.drop
  clear E H4 P1
  go_wp2_with fail
  exact bodyPost_dies rfl ⟨rfl, HZ⟩
set_option maxHeartbeats 2000000 in
theorem ltCK {q k p i c e n : Nat} {S : ByteArray} (hS : S.size ≤ 4611686018427387904) (hS3 : 4 ≤ S.size) (h : Has B w (RdR q S 1 :: rs) wr) (tk : PackMath.tn (S.data.toList.drop 1) = (k, 1, 0)) (t0 : PackMath.tn (S.data.toList.drop 2) = (p, 1, 0)) (t1 : PackMath.tn (S.data.toList.drop 3) = (i, 1, 0)) (tq : PackMath.tn (S.data.toList.drop 4) = (n, c, e)) (he : e ≠ 0) (k1 : k ≠ 1) (k3 : k ≠ 3) (k9 : k ≠ 9) :
    Calls Try.prog 32 #[.pointer (some ⟨q, 0, none⟩)] wr fun en w' => en = gave ∧ Hid (Has B w rs w') := by
  have CN : Hid (∀ (a n : Nat) (rs : List Res) (wq : World), a ≤ S.size → PackMath.tn (S.data.toList.drop a) = (n, 1, 0) → Has B w (RdR q S a :: rs) wq → Calls Try.prog 37 #[.pointer (some ⟨q, 0, none⟩)] wq fun e w' => e = .returned (.int .i64 (n : Int)) ∧ Hid (Has B w (RdR q S (a + 1) :: rs) w')) := fun a n rs wq ha ht hq => numR_ok hS ha hq ht
  have k1' : ((k : Int) == 1) = false := beq_eq_false_iff_ne.2 (by omega)
  have k3' : ((k : Int) == 3) = false := beq_eq_false_iff_ne.2 (by omega)
  have k9' : ((k : Int) == 9) = false := beq_eq_false_iff_ne.2 (by omega)
  have k3n : ((k : Int) != 3) = true := by simp [bne, k3']
  have k9n : ((k : Int) != 9) = true := by simp [bne, k9']
  have k3m : ¬ (k : Int) = 3 := by omega
  have k9m : ¬ (k : Int) = 9 := by omega
  have CX : Hid (∀ (rs : List Res) (wq : World), Has B w (RdR q S 4 :: rs) wq → Calls Try.prog 37 #[.pointer (some ⟨q, 0, none⟩)] wq fun en w' => en = gave ∧ Hid (Has B w (RdR q S 4 :: rs) w')) := fun rs wq hq => numR_no hS hS3 hq tq he
  have H0 : Hid (Has B w (RdR q S 1 :: BlockR (wr.heap.size + 1) (vL 0 0 0 0 0 nilS) :: BlockR wr.heap.size (vL 0 0 0 0 0 nilS) :: rs) ((wr.alloc (.cells #[.int .i64 0, .int .i64 0, .int .i64 0, .int .i64 0, .int .i64 0, .slice none 0 0] 49)).alloc (.cells #[.int .i64 0, .int .i64 0, .int .i64 0, .int .i64 0, .int .i64 0, .slice none 0 0] 49))) := by
    have x := ((h.box (vL 0 0 0 0 0 nilS) 49).box (vL 0 0 0 0 0 nilS) 49)
    rw [World.size_alloc] at x
    exact x.perm ((List.perm_middle (l₁ := [_, _]) (l₂ := rs)))
  have E := CN.out 1 k _ _ (by omega) tk H0.out
  obtain ⟨rb, hrb⟩ : ∃ rb, wr.heap.size = rb := ⟨_, rfl⟩
  clear h H0
  rw [hrb] at E
  go_enter Try.func32, Try.ntmps32
  go_wp2_with fail
  refine E.mono ?_
  rintro e v0 ⟨rfl, G0⟩
  obtain ⟨nb, hnb⟩ : ∃ nb, rb + 1 = nb := ⟨_, rfl⟩
  rw [hnb] at G0
  have P0 : Hid (Has B w (RdR q S 2 :: BlockR nb (vL (k : Int) 0 0 0 0 nilS) :: BlockR rb (vL 0 0 0 0 0 nilS) :: rs) (v0.setCell ⟨nb, 0, none⟩ (.int .i64 (k : Int)))) := ((G0.out.perm (List.Perm.swap _ _ _)).put 0 (by simp [vL]) (.int .i64 (k : Int))).perm (List.Perm.swap _ _ _)
  obtain ⟨e1, f1⟩ := G0.out.bcell (q := nb) (vs := (vL 0 0 0 0 0 nilS)) (by simp) 0 _ rfl
  obtain ⟨e0, _⟩ := P0.out.bcell (q := nb) (vs := (vL (k : Int) 0 0 0 0 nilS)) (by simp) 0 _ rfl
  clear E G0 hrb
  have E := CN.out 2 p _ _ (by omega) t0 P0.out
  go_wp2_with fail
  refine E.mono ?_
  rintro e v1 ⟨rfl, G1⟩
  have P1 : Hid (Has B w (RdR q S 3 :: BlockR nb (vL (k : Int) (p : Int) 0 0 0 nilS) :: BlockR rb (vL 0 0 0 0 0 nilS) :: rs) (v1.setCell ⟨nb, 1, none⟩ (.int .i64 (p : Int)))) := ((G1.out.perm (List.Perm.swap _ _ _)).put 1 (by simp [vL]) (.int .i64 (p : Int))).perm (List.Perm.swap _ _ _)
  clear e0 e1 f1
  obtain ⟨e1, f1⟩ := G1.out.bcell (q := nb) (vs := (vL (k : Int) 0 0 0 0 nilS)) (by simp) 1 _ rfl
  obtain ⟨e0, _⟩ := P1.out.bcell (q := nb) (vs := (vL (k : Int) (p : Int) 0 0 0 nilS)) (by simp) 0 _ rfl
  clear E G1 P0
  have E := CN.out 3 i _ _ (by omega) t1 P1.out
  go_wp2_with fail
  refine E.mono ?_
  rintro e v2 ⟨rfl, G2⟩
  have P2 : Hid (Has B w (RdR q S 4 :: BlockR nb (vL (k : Int) (p : Int) (i : Int) 0 0 nilS) :: BlockR rb (vL 0 0 0 0 0 nilS) :: rs) (v2.setCell ⟨nb, 2, none⟩ (.int .i64 (i : Int)))) := ((G2.out.perm (List.Perm.swap _ _ _)).put 2 (by simp [vL]) (.int .i64 (i : Int))).perm (List.Perm.swap _ _ _)
  clear e0 e1 f1
  obtain ⟨e1, f1⟩ := G2.out.bcell (q := nb) (vs := (vL (k : Int) (p : Int) 0 0 0 nilS)) (by simp) 2 _ rfl
  obtain ⟨e0, _⟩ := P2.out.bcell (q := nb) (vs := (vL (k : Int) (p : Int) (i : Int) 0 0 nilS)) (by simp) 0 _ rfl
  clear E G2 P1
  have E := CX.out _ _ P2.out
  clear CX CN tq
  go_wp2_with fail
  refine E.mono ?_
  rintro en w4 ⟨rfl, H4⟩
  have HZ : Hid (Has B w rs w4) := H4.out.drop.drop.drop
  clear E H4 P2
  go_wp2_with fail
  exact bodyPost_dies rfl ⟨rfl, HZ⟩
set_option maxHeartbeats 2000000 in
theorem ltC1 {q p i s o c e : Nat} {xs : List (List UInt8)} {S : ByteArray} (hS : S.size ≤ 4611686018427387904) (hS3 : 6 ≤ S.size) (h : Has B w (RdR q S 1 :: rs) wr) (tk : PackMath.tn (S.data.toList.drop 1) = (1, 1, 0)) (t0 : PackMath.tn (S.data.toList.drop 2) = (p, 1, 0)) (t1 : PackMath.tn (S.data.toList.drop 3) = (i, 1, 0)) (t2 : PackMath.tn (S.data.toList.drop 4) = (s, 1, 0)) (t3 : PackMath.tn (S.data.toList.drop 5) = (o, 1, 0)) (tq : PackMath.tl (S.data.toList.drop 6) = (xs, c, e)) (he : e ≠ 0) :
    Calls Try.prog 32 #[.pointer (some ⟨q, 0, none⟩)] wr fun en w' => en = gave ∧ Hid (Has B w rs w') := by
  have CN : Hid (∀ (a n : Nat) (rs : List Res) (wq : World), a ≤ S.size → PackMath.tn (S.data.toList.drop a) = (n, 1, 0) → Has B w (RdR q S a :: rs) wq → Calls Try.prog 37 #[.pointer (some ⟨q, 0, none⟩)] wq fun e w' => e = .returned (.int .i64 (n : Int)) ∧ Hid (Has B w (RdR q S (a + 1) :: rs) w')) := fun a n rs wq ha ht hq => numR_ok hS ha hq ht
  have CX : Hid (∀ (rs : List Res) (wq : World), Has B w (RdR q S 6 :: rs) wq → Calls Try.prog 38 #[.pointer (some ⟨q, 0, none⟩)] wq fun en w' => en = gave ∧ Hid (Has B w (RdR q S 6 :: rs) w')) := fun rs wq hq => keysR_no hS hS3 hq tq he
  have H0 : Hid (Has B w (RdR q S 1 :: BlockR (wr.heap.size + 1) (vL 0 0 0 0 0 nilS) :: BlockR wr.heap.size (vL 0 0 0 0 0 nilS) :: rs) ((wr.alloc (.cells #[.int .i64 0, .int .i64 0, .int .i64 0, .int .i64 0, .int .i64 0, .slice none 0 0] 49)).alloc (.cells #[.int .i64 0, .int .i64 0, .int .i64 0, .int .i64 0, .int .i64 0, .slice none 0 0] 49))) := by
    have x := ((h.box (vL 0 0 0 0 0 nilS) 49).box (vL 0 0 0 0 0 nilS) 49)
    rw [World.size_alloc] at x
    exact x.perm ((List.perm_middle (l₁ := [_, _]) (l₂ := rs)))
  have E := CN.out 1 1 _ _ (by omega) tk H0.out
  obtain ⟨rb, hrb⟩ : ∃ rb, wr.heap.size = rb := ⟨_, rfl⟩
  clear h H0
  rw [hrb] at E
  go_enter Try.func32, Try.ntmps32
  go_wp2_with fail
  refine E.mono ?_
  rintro e v0 ⟨rfl, G0⟩
  obtain ⟨nb, hnb⟩ : ∃ nb, rb + 1 = nb := ⟨_, rfl⟩
  rw [hnb] at G0
  have P0 : Hid (Has B w (RdR q S 2 :: BlockR nb (vL 1 0 0 0 0 nilS) :: BlockR rb (vL 0 0 0 0 0 nilS) :: rs) (v0.setCell ⟨nb, 0, none⟩ (.int .i64 1))) := ((G0.out.perm (List.Perm.swap _ _ _)).put 0 (by simp [vL]) (.int .i64 1)).perm (List.Perm.swap _ _ _)
  obtain ⟨e1, f1⟩ := G0.out.bcell (q := nb) (vs := (vL 0 0 0 0 0 nilS)) (by simp) 0 _ rfl
  obtain ⟨e0, _⟩ := P0.out.bcell (q := nb) (vs := (vL 1 0 0 0 0 nilS)) (by simp) 0 _ rfl
  clear E G0 hrb
  have E := CN.out 2 p _ _ (by omega) t0 P0.out
  go_wp2_with fail
  refine E.mono ?_
  rintro e v1 ⟨rfl, G1⟩
  have P1 : Hid (Has B w (RdR q S 3 :: BlockR nb (vL 1 (p : Int) 0 0 0 nilS) :: BlockR rb (vL 0 0 0 0 0 nilS) :: rs) (v1.setCell ⟨nb, 1, none⟩ (.int .i64 (p : Int)))) := ((G1.out.perm (List.Perm.swap _ _ _)).put 1 (by simp [vL]) (.int .i64 (p : Int))).perm (List.Perm.swap _ _ _)
  clear e0 e1 f1
  obtain ⟨e1, f1⟩ := G1.out.bcell (q := nb) (vs := (vL 1 0 0 0 0 nilS)) (by simp) 1 _ rfl
  obtain ⟨e0, _⟩ := P1.out.bcell (q := nb) (vs := (vL 1 (p : Int) 0 0 0 nilS)) (by simp) 0 _ rfl
  clear E G1 P0
  have E := CN.out 3 i _ _ (by omega) t1 P1.out
  go_wp2_with fail
  refine E.mono ?_
  rintro e v2 ⟨rfl, G2⟩
  have P2 : Hid (Has B w (RdR q S 4 :: BlockR nb (vL 1 (p : Int) (i : Int) 0 0 nilS) :: BlockR rb (vL 0 0 0 0 0 nilS) :: rs) (v2.setCell ⟨nb, 2, none⟩ (.int .i64 (i : Int)))) := ((G2.out.perm (List.Perm.swap _ _ _)).put 2 (by simp [vL]) (.int .i64 (i : Int))).perm (List.Perm.swap _ _ _)
  clear e0 e1 f1
  obtain ⟨e1, f1⟩ := G2.out.bcell (q := nb) (vs := (vL 1 (p : Int) 0 0 0 nilS)) (by simp) 2 _ rfl
  obtain ⟨e0, _⟩ := P2.out.bcell (q := nb) (vs := (vL 1 (p : Int) (i : Int) 0 0 nilS)) (by simp) 0 _ rfl
  clear E G2 P1
  have E := CN.out 4 s _ _ (by omega) t2 P2.out
  go_wp2_with fail
  refine E.mono ?_
  rintro e v3 ⟨rfl, G3⟩
  have P3 : Hid (Has B w (RdR q S 5 :: BlockR nb (vL 1 (p : Int) (i : Int) (s : Int) 0 nilS) :: BlockR rb (vL 0 0 0 0 0 nilS) :: rs) (v3.setCell ⟨nb, 3, none⟩ (.int .i64 (s : Int)))) := ((G3.out.perm (List.Perm.swap _ _ _)).put 3 (by simp [vL]) (.int .i64 (s : Int))).perm (List.Perm.swap _ _ _)
  clear e0 e1 f1
  obtain ⟨e1, f1⟩ := G3.out.bcell (q := nb) (vs := (vL 1 (p : Int) (i : Int) 0 0 nilS)) (by simp) 3 _ rfl
  obtain ⟨e0, _⟩ := P3.out.bcell (q := nb) (vs := (vL 1 (p : Int) (i : Int) (s : Int) 0 nilS)) (by simp) 0 _ rfl
  clear E G3 P2
  have E := CN.out 5 o _ _ (by omega) t3 P3.out
  go_wp2_with fail
  refine E.mono ?_
  rintro e v4 ⟨rfl, G4⟩
  have P4 : Hid (Has B w (RdR q S 6 :: BlockR nb (vL 1 (p : Int) (i : Int) (s : Int) (o : Int) nilS) :: BlockR rb (vL 0 0 0 0 0 nilS) :: rs) (v4.setCell ⟨nb, 4, none⟩ (.int .i64 (o : Int)))) := ((G4.out.perm (List.Perm.swap _ _ _)).put 4 (by simp [vL]) (.int .i64 (o : Int))).perm (List.Perm.swap _ _ _)
  clear e0 e1 f1
  obtain ⟨e1, f1⟩ := G4.out.bcell (q := nb) (vs := (vL 1 (p : Int) (i : Int) (s : Int) 0 nilS)) (by simp) 4 _ rfl
  obtain ⟨e0, _⟩ := P4.out.bcell (q := nb) (vs := (vL 1 (p : Int) (i : Int) (s : Int) (o : Int) nilS)) (by simp) 0 _ rfl
  clear E G4 P3
  have E := CX.out _ _ P4.out
  clear CX CN tq
  go_wp2_with fail
  refine E.mono ?_
  rintro en w4 ⟨rfl, H4⟩
  have HZ : Hid (Has B w rs w4) := H4.out.drop.drop.drop
  clear E H4 P4
  go_wp2_with fail
  exact bodyPost_dies rfl ⟨rfl, HZ⟩
end
end Go.Proofs.Ytbgankldnjeohaa.Pl

/- read of a letter's form cut short, of one with more behind it. -/
set_option linter.unusedVariables false
set_option linter.unusedSimpArgs false
set_option maxRecDepth 100000
namespace Go.Proofs.Ytbgankldnjeohaa.Pl
open Go.RowKit Go.Proofs.Ytbgankldnjeohaa

theorem tn_nil : PackMath.tn [] = (0, 0, 31) := by decide +kernel
theorem lst_pos (xs : List (List UInt8)) : 1 ≤ (PackMath.lst xs).length := by
  have := PackMath.num_pos xs.length
  unfold PackMath.lst
  rw [List.length_append]
  omega
theorem tl_cut (xs : List (List UInt8)) (h : xs.length ≤ 4000) (hs : ∀ s ∈ xs, s.length ≤ 2000) : PackMath.tl ((PackMath.lst xs).take ((PackMath.lst xs).length - 1)) = ([], 0, 31) := by
  have x := PackMath.tl_lst xs [] h hs
  rw [List.append_nil] at x
  have hp := lst_pos xs
  obtain ⟨_, _, _, _, _, _, hc⟩ := PackMath.tl_ok x
  exact hc _ (by omega)
section
variable {B : Nat} {w wr : World} {rs : List Res}
theorem letterR_cut {q k p i s o : Nat} {S : ByteArray} {xs : List (List UInt8)} (hS : S.size ≤ 4611686018427387904) (hk : 1 ≤ k ∧ k ≤ 9) (hp : p ≤ 3) (hi : i ≤ 60) (hs : s ≤ 7) (ho : o ≤ 3) (hx : xs.length ≤ 4000) (hxs : ∀ x ∈ xs, x.length ≤ 2000) (hn : k ≠ 1 → xs = [] ∧ o = 0)
    (he : S.data.toList = (ltL k p i s o xs).take ((ltL k p i s o xs).length - 1)) (h : Has B w (RdR q S 1 :: rs) wr) :
    Calls Try.prog 32 #[.pointer (some ⟨q, 0, none⟩)] wr fun en w' => en = gave ∧ Hid (Has B w rs w') := by
  have hl : S.data.toList.length = S.size := Array.length_toList
  unfold ltL at he
  by_cases k1 : k = 1
  · subst k1
    rw [if_pos rfl, nums_5 (by omega) (by omega) (by omega) (by omega) (by omega)] at he
    have hL := lst_pos xs
    have e1 : S.data.toList = 76 :: UInt8.ofNat 1 :: UInt8.ofNat p :: UInt8.ofNat i :: UInt8.ofNat s :: UInt8.ofNat o :: ((PackMath.lst xs).take ((PackMath.lst xs).length - 1)) := by
      rw [he]
      have e2 : (76 :: ([UInt8.ofNat 1, UInt8.ofNat p, UInt8.ofNat i, UInt8.ofNat s, UInt8.ofNat o] ++ PackMath.lst xs)).length - 1 = ((PackMath.lst xs).length - 1) + 6 := by simp; omega
      rw [e2]
      rfl
    have h4 : 6 ≤ S.size := by rw [← hl, e1]; simp
    exact ltC1 (c := 0) (e := 31) (xs := []) hS h4 h (by rw [e1]; exact tn_one (by omega) _) (by rw [e1]; exact tn_one (by omega) _) (by rw [e1]; exact tn_one (by omega) _) (by rw [e1]; exact tn_one (by omega) _) (by rw [e1]; exact tn_one (by omega) _) (by rw [e1]; exact tl_cut xs hx hxs) (by decide)
  · obtain ⟨rfl, rfl⟩ := hn k1
    by_cases k3 : k = 3
    · subst k3
      rw [if_neg (by decide), if_pos rfl, nums_three (by omega) (by omega) (by omega)] at he
      have e1 : S.data.toList = [76, UInt8.ofNat 3, UInt8.ofNat p] := he
      have h4 : 3 ≤ S.size := by rw [← hl, e1]; simp
      exact ltC3 (c := 0) (e := 31) (n := 0) hS h4 h (by rw [e1]; exact tn_one (by omega) _) (by rw [e1]; exact tn_one (by omega) _) (by rw [e1]; exact tn_nil) (by decide)
    · by_cases k9 : k = 9
      · subst k9
        rw [if_neg (by decide), if_neg (by decide), if_pos rfl, nums_three (by omega) (by omega) (by omega)] at he
        have e1 : S.data.toList = [76, UInt8.ofNat 9, UInt8.ofNat p] := he
        have h4 : 3 ≤ S.size := by rw [← hl, e1]; simp
        exact ltC9 (c := 0) (e := 31) (n := 0) hS h4 h (by rw [e1]; exact tn_one (by omega) _) (by rw [e1]; exact tn_one (by omega) _) (by rw [e1]; exact tn_nil) (by decide)
      · rw [if_neg k1, if_neg k3, if_neg k9, nums_4 (by omega) (by omega) (by omega) (by omega)] at he
        have e1 : S.data.toList = [76, UInt8.ofNat k, UInt8.ofNat p, UInt8.ofNat i] := he
        have h4 : 4 ≤ S.size := by rw [← hl, e1]; simp
        exact ltCK (c := 0) (e := 31) (n := 0) hS h4 h (by rw [e1]; exact tn_one (by omega) _) (by rw [e1]; exact tn_one (by omega) _) (by rw [e1]; exact tn_one (by omega) _) (by rw [e1]; exact tn_nil) (by decide) k1 k3 k9
theorem ltL_two {k p i s o : Nat} {xs : List (List UInt8)} : ∃ a m, ltL k p i s o xs = 76 :: a :: m := by
  have hz : ∀ (x : Nat) (l : List Nat), ∃ a m, numsL (x :: l) = a :: m := fun x l => by
    have := PackMath.num_pos x
    cases e : PackMath.num x with
    | nil => rw [e] at this; simp at this
    | cons a m => exact ⟨a, m ++ numsL l, by unfold numsL; simp [e]⟩
  unfold ltL
  split
  · obtain ⟨a, m, e⟩ := hz 1 [p, i, s, o]
    rw [e]
    exact ⟨a, _, rfl⟩
  · split
    · obtain ⟨a, m, e⟩ := hz 3 [p, i]
      rw [e]
      exact ⟨a, _, rfl⟩
    · split
      · obtain ⟨a, m, e⟩ := hz 9 [p, i]
        rw [e]
        exact ⟨a, _, rfl⟩
      · obtain ⟨a, m, e⟩ := hz k [p, i, s]
        rw [e]
        exact ⟨a, _, rfl⟩
set_option maxHeartbeats 2000000 in
theorem valueL_cut {q : Nat} {S : ByteArray} {m : List UInt8} (hc : S.data.toList = 76 :: m) (C : ∀ wr, Hid (Has B w (RdR q S 1 :: rs) wr) → Calls Try.prog 32 #[.pointer (some ⟨q, 0, none⟩)] wr fun en w' => en = gave ∧ Hid (Has B w rs w')) (h : Has B w (RdR q S 0 :: rs) wr) :
    Calls Try.prog 25 #[.pointer (some ⟨q, 0, none⟩)] wr fun en w' => en = gave ∧ Hid (Has B w rs w') := by
  have hl : S.data.toList.length = S.size := Array.length_toList
  have hz : S.size ≠ 0 := by rw [← hl, hc]; simp
  have hz1 : (1 : Int) ≤ (S.size : Int) := by omega
  have hem := emp_no S hz
  have k1 := head_is hc 76
  rw [show ((76 : UInt8) == 76) = true from by decide] at k1
  have H1 : Hid (Has B w (RdR q S 1 :: rs) (wr.setCell ⟨q, 1, none⟩ (.int .i64 1))) := h.put 1 (by simp) (.int .i64 1)
  have D1 := C _ H1
  obtain ⟨c0, _⟩ := h.bcell (q := q) (vs := [.string S, .int .i64 0]) List.mem_cons_self 0 _ rfl
  obtain ⟨c1, f1⟩ := h.bcell (q := q) (vs := [.string S, .int .i64 0]) List.mem_cons_self 1 _ rfl
  clear h H1 hc hl C
  go_enter Try.func25, Try.ntmps25
  go_wp2_with fail
  refine D1.mono ?_
  rintro en w2 ⟨rfl, H2⟩
  clear D1
  go_wp2_with fail
  exact bodyPost_dies rfl ⟨rfl, H2⟩
set_option maxHeartbeats 2000000 in
theorem read_cut {S : ByteArray} (C : ∀ (rs : List Res) (q : Nat) (wr : World), Hid (Has B w (RdR q S 0 :: rs) wr) → Calls Try.prog 25 #[.pointer (some ⟨q, 0, none⟩)] wr fun en w' => en = gave ∧ Hid (Has B w rs w')) (h : Has B w rs wr) :
    Calls Try.prog 19 #[.string S] wr fun e w' => e = .returned .nilIface ∧ Hid (Has B w rs w') := by
  have hmf : ∀ (fn : Fn) (first cap : Array Value) (w : World), (Instr.makeFunc fn first cap).run Try.prog w = .ok (.func fn first cap) w := fun _ _ _ _ => rfl
  have H1 : Hid (Has B w (RdR (wr.heap.size + 1) S 0 :: BlockR wr.heap.size [.nilIface] :: rs) ((wr.alloc (.cells #[.nilIface] 52)).alloc (.cells #[.string S, .int .i64 0] 65))) := by
    have x := (h.box [.nilIface] 52).box [.string S, .int .i64 0] 65
    rw [World.size_alloc] at x
    exact x
  have D1 := C _ _ _ H1
  clear h H1 C
  go_enter_defers Try.func19, Try.ntmps19
  go_wp2_with fail
  refine D1.mono ?_
  rintro e w3 ⟨rfl, H2⟩
  clear D1
  obtain ⟨y0, g0⟩ := H2.out.bcell (q := wr.heap.size) (vs := [.nilIface]) (by simp) 0 _ rfl
  have y2 : (w3.setCell ⟨wr.heap.size, 0, none⟩ .nilIface).cell? ⟨wr.heap.size, 0, none⟩ = some .nilIface := World.cell?_setCell_same _ _ _ y0
  have HZ : Hid (Has B w rs (w3.setCell ⟨wr.heap.size, 0, none⟩ .nilIface)) := (H2.out.put 0 (by simp) .nilIface).drop
  clear H2
  go_wp2_with fail
  refine leaves_cons (f := 24) (args := #[.pointer (some ⟨wr.heap.size, 0, none⟩)]) (by simp) (by simp [go_sem]) ?_
  refine (catch_finds ⟨wr.heap.size, 0, none⟩ _ _ y0 g0).mono ?_
  rintro e u' w'' ⟨rfl, rfl, rfl⟩
  simp [Leaves, settle, results, Try.results19, go_sem, y2]
  exact HZ
theorem readL_cut (t : Tb) {k p i s o : Nat} {S : ByteArray} {xs : List (List UInt8)} (hS : S.size ≤ 4611686018427387904) (hm : ltMay t k p i s o xs = true) (he : S.data.toList = (ltL k p i s o xs).take ((ltL k p i s o xs).length - 1)) (h : Has B w rs wr) :
    Calls Try.prog 19 #[.string S] wr fun e w' => e = .returned .nilIface ∧ Hid (Has B w rs w') := by
  obtain ⟨f1, f2, f2b, f3, f3b, f4, f5, f6, f7⟩ := ltMay_facts hm
  obtain ⟨a, m, e2⟩ := ltL_two (k := k) (p := p) (i := i) (s := s) (o := o) (xs := xs)
  have hc : S.data.toList = 76 :: (a :: m).take m.length := by rw [he, e2]; simp
  refine read_cut (fun rs q wr hq => valueL_cut hc (fun wr hq => ?_) hq.out) h
  exact letterR_cut hS (by omega) (by omega) (by omega) (by omega) (by omega) (by omega : xs.length ≤ 4000) (fun x hx => by have := f5 x hx; omega) (fun hk => by have := f6 (by omega); exact ⟨this.1, by omega⟩) he hq.out
end
end Go.Proofs.Ytbgankldnjeohaa.Pl

/- Reading a note, by kinds. -/
set_option linter.unusedVariables false
set_option maxRecDepth 100000
namespace Go.Proofs.Ytbgankldnjeohaa.Pl
open Go.RowKit Go.Proofs.Ytbgankldnjeohaa

def vF (k i s t p c : Int) (K M : ByteArray) (v : Int) (X : ByteArray) : List Value := [.int .i64 k, .int .i64 i, .int .i64 s, .int .i64 t, .int .i64 p, .int .i64 c, .string K, .string M, .int .i64 v, .string X]
theorem strV_data (X : ByteArray) : strV X.data.toList = .string X := by unfold strV; cases X; simp
section
variable {B : Nat} {w wr : World} {rs : List Res}
set_option maxHeartbeats 2000000 in
theorem noteR1 {q nX : Nat} {S : ByteArray} {X : ByteArray} (hS : S.size ≤ 4611686018427387904) (h : Has B w (RdR q S 1 :: rs) wr) (tk : PackMath.tn (S.data.toList.drop 1) = (1, 1, 0)) (lk : 1 ≤ S.size) (t0 : PackMath.tt (S.data.toList.drop (2)) = (X.data.toList, nX, 0)) (l0 : 2 ≤ S.size) :
    Calls Try.prog 34 #[.pointer (some ⟨q, 0, none⟩)] wr fun e w' => e = .returned (.agg (vF 1 0 0 0 0 0 ⟨#[]⟩ ⟨#[]⟩ 0 X).toArray) ∧ Has B w (RdR q S (2 + nX) :: rs) w' := by
  have CN : Hid (∀ (a n : Nat) (rs : List Res) (wq : World), a ≤ S.size → PackMath.tn (S.data.toList.drop a) = (n, 1, 0) → Has B w (RdR q S a :: rs) wq → Calls Try.prog 37 #[.pointer (some ⟨q, 0, none⟩)] wq fun e w' => e = .returned (.int .i64 (n : Int)) ∧ Hid (Has B w (RdR q S (a + 1) :: rs) w')) := fun a n rs wq ha ht hq => numR_ok hS ha hq ht
  have CW : Hid (∀ (a c : Nat) (Y : ByteArray) (rs : List Res) (wq : World), a ≤ S.size → PackMath.tt (S.data.toList.drop a) = (Y.data.toList, c, 0) → Has B w (RdR q S a :: rs) wq → Calls Try.prog 39 #[.pointer (some ⟨q, 0, none⟩)] wq fun e w' => e = .returned (.string Y) ∧ Hid (Has B w (RdR q S (a + c) :: rs) w')) := fun a c Y rs wq ha ht hq => by
    have x := wordR_ok hS ha hq ht
    rw [strV_data] at x
    exact x
  have H0 : Hid (Has B w (RdR q S 1 :: BlockR wr.heap.size zN :: rs) (wr.alloc (.cells #[.int .i64 0, .int .i64 0, .int .i64 0, .int .i64 0, .int .i64 0, .int .i64 0, .string ⟨#[]⟩, .string ⟨#[]⟩, .int .i64 0, .string ⟨#[]⟩] 56))) := (h.box zN 56).perm (List.Perm.swap _ _ _)
  have D1 := CN.out 1 1 _ _ lk tk H0.out
  obtain ⟨rb, hrb⟩ : ∃ rb, wr.heap.size = rb := ⟨_, rfl⟩
  clear h H0
  rw [hrb] at D1
  go_enter Try.func34, Try.ntmps34
  go_wp2_with fail
  refine D1.mono ?_
  rintro e w1 ⟨rfl, H1⟩
  clear hrb
  have HB : Hid (Has B w (RdR q S 2 :: BlockR w1.heap.size (vF 1 0 0 0 0 0 ⟨#[]⟩ ⟨#[]⟩ 0 ⟨#[]⟩) :: BlockR rb zN :: rs) (w1.alloc (.cells #[.int .i64 1, .int .i64 0, .int .i64 0, .int .i64 0, .int .i64 0, .int .i64 0, .string ⟨#[]⟩, .string ⟨#[]⟩, .int .i64 0, .string ⟨#[]⟩] 56))) := (H1.out.box (vF 1 0 0 0 0 0 ⟨#[]⟩ ⟨#[]⟩ 0 ⟨#[]⟩) 56).perm (List.Perm.swap _ _ _)
  have E0 := CW.out (2) nX X _ _ l0 t0 HB.out
  go_wp2_with fail
  refine E0.mono ?_
  rintro e v0 ⟨rfl, G0⟩
  generalize w1.heap.size = nb at *
  clear E0 HB H1 D1
  have G0' : Hid (Has B w (RdR q S (2 + nX) :: BlockR nb (vF 1 0 0 0 0 0 ⟨#[]⟩ ⟨#[]⟩ 0 ⟨#[]⟩) :: BlockR rb zN :: rs) v0) := G0
  clear G0
  obtain ⟨e1, f1⟩ := G0'.out.bcell (q := nb) (vs := (vF 1 0 0 0 0 0 ⟨#[]⟩ ⟨#[]⟩ 0 ⟨#[]⟩)) (by simp) 9 _ rfl
  have P0 : Hid (Has B w (RdR q S (2 + nX) :: BlockR nb (vF 1 0 0 0 0 0 ⟨#[]⟩ ⟨#[]⟩ 0 X) :: BlockR rb zN :: rs) (v0.setCell ⟨nb, 9, none⟩ (.string X))) := ((G0'.out.perm (List.Perm.swap _ _ _)).put 9 (by simp [vF]) (.string X)).perm (List.Perm.swap _ _ _)
  obtain ⟨e0, _⟩ := P0.out.bcell (q := nb) (vs := (vF 1 0 0 0 0 0 ⟨#[]⟩ ⟨#[]⟩ 0 X)) (by simp) 0 _ rfl
  clear G0'
  have HPZ : Hid (Has B w (BlockR rb zN :: RdR q S (2 + nX) :: BlockR nb (vF 1 0 0 0 0 0 ⟨#[]⟩ ⟨#[]⟩ 0 X) :: rs) (v0.setCell ⟨nb, 9, none⟩ (.string X))) := P0.out.perm (List.perm_middle (l₁ := [_, _]) (l₂ := rs))
  clear P0 CN CW
  obtain ⟨x1, _⟩ := HPZ.out.bcell (q := nb) (vs := (vF 1 0 0 0 0 0 ⟨#[]⟩ ⟨#[]⟩ 0 X)) (by simp) 1 _ rfl
  obtain ⟨x2, _⟩ := HPZ.out.bcell (q := nb) (vs := (vF 1 0 0 0 0 0 ⟨#[]⟩ ⟨#[]⟩ 0 X)) (by simp) 2 _ rfl
  obtain ⟨x3, _⟩ := HPZ.out.bcell (q := nb) (vs := (vF 1 0 0 0 0 0 ⟨#[]⟩ ⟨#[]⟩ 0 X)) (by simp) 3 _ rfl
  obtain ⟨x4, _⟩ := HPZ.out.bcell (q := nb) (vs := (vF 1 0 0 0 0 0 ⟨#[]⟩ ⟨#[]⟩ 0 X)) (by simp) 4 _ rfl
  obtain ⟨x5, _⟩ := HPZ.out.bcell (q := nb) (vs := (vF 1 0 0 0 0 0 ⟨#[]⟩ ⟨#[]⟩ 0 X)) (by simp) 5 _ rfl
  obtain ⟨x6, _⟩ := HPZ.out.bcell (q := nb) (vs := (vF 1 0 0 0 0 0 ⟨#[]⟩ ⟨#[]⟩ 0 X)) (by simp) 6 _ rfl
  obtain ⟨x7, _⟩ := HPZ.out.bcell (q := nb) (vs := (vF 1 0 0 0 0 0 ⟨#[]⟩ ⟨#[]⟩ 0 X)) (by simp) 7 _ rfl
  obtain ⟨x8, _⟩ := HPZ.out.bcell (q := nb) (vs := (vF 1 0 0 0 0 0 ⟨#[]⟩ ⟨#[]⟩ 0 X)) (by simp) 8 _ rfl
  obtain ⟨x9, _⟩ := HPZ.out.bcell (q := nb) (vs := (vF 1 0 0 0 0 0 ⟨#[]⟩ ⟨#[]⟩ 0 X)) (by simp) 9 _ rfl
  obtain ⟨y0, g0⟩ := HPZ.out.bcell (q := rb) (vs := zN) (by simp) 0 _ rfl
  obtain ⟨y1, g1⟩ := HPZ.out.bcell (q := rb) (vs := zN) (by simp) 1 _ rfl
  obtain ⟨y2, g2⟩ := HPZ.out.bcell (q := rb) (vs := zN) (by simp) 2 _ rfl
  obtain ⟨y3, g3⟩ := HPZ.out.bcell (q := rb) (vs := zN) (by simp) 3 _ rfl
  obtain ⟨y4, g4⟩ := HPZ.out.bcell (q := rb) (vs := zN) (by simp) 4 _ rfl
  obtain ⟨y5, g5⟩ := HPZ.out.bcell (q := rb) (vs := zN) (by simp) 5 _ rfl
  obtain ⟨y6, g6⟩ := HPZ.out.bcell (q := rb) (vs := zN) (by simp) 6 _ rfl
  obtain ⟨y7, g7⟩ := HPZ.out.bcell (q := rb) (vs := zN) (by simp) 7 _ rfl
  obtain ⟨y8, g8⟩ := HPZ.out.bcell (q := rb) (vs := zN) (by simp) 8 _ rfl
  obtain ⟨y9, g9⟩ := HPZ.out.bcell (q := rb) (vs := zN) (by simp) 9 _ rfl
  have HQ : Hid (Has B w (BlockR rb (vF 1 0 0 0 0 0 ⟨#[]⟩ ⟨#[]⟩ 0 X) :: RdR q S (2 + nX) :: BlockR nb (vF 1 0 0 0 0 0 ⟨#[]⟩ ⟨#[]⟩ 0 X) :: rs) (setAll rb 0 (vF 1 0 0 0 0 0 ⟨#[]⟩ ⟨#[]⟩ 0 X) (v0.setCell ⟨nb, 9, none⟩ (.string X)))) := Has.puts (vF 1 0 0 0 0 0 ⟨#[]⟩ ⟨#[]⟩ 0 X) [] zN HPZ.out rfl
  clear HPZ
  go_wp2_with fail
  have HC : Hid (∀ j u, (vF 1 0 0 0 0 0 ⟨#[]⟩ ⟨#[]⟩ 0 X)[j]? = some u → (setAll rb 0 (vF 1 0 0 0 0 0 ⟨#[]⟩ ⟨#[]⟩ 0 X) (v0.setCell ⟨nb, 9, none⟩ (.string X))).cell? ⟨rb, j, none⟩ = some u) := fun j u hu => (HQ.out.bcell (q := rb) (vs := (vF 1 0 0 0 0 0 ⟨#[]⟩ ⟨#[]⟩ 0 X)) (by simp) j u hu).1
  refine bodyPost_ret (results_row rfl _ _ rb (vF 1 0 0 0 0 0 ⟨#[]⟩ ⟨#[]⟩ 0 X) _ rfl HC.out Try.underlying56 rfl (by kernel_rfl)) rfl ⟨rfl, ?_⟩
  exact (HQ.out.drop.perm (List.Perm.swap _ _ _)).drop
set_option maxHeartbeats 2000000 in
theorem noteR2 {q i v nK nM : Nat} {S : ByteArray} {K M : ByteArray} (hS : S.size ≤ 4611686018427387904) (h : Has B w (RdR q S 1 :: rs) wr) (tk : PackMath.tn (S.data.toList.drop 1) = (2, 1, 0)) (lk : 1 ≤ S.size) (t0 : PackMath.tn (S.data.toList.drop (2)) = (i, 1, 0)) (l0 : 2 ≤ S.size) (t1 : PackMath.tt (S.data.toList.drop (3)) = (K.data.toList, nK, 0)) (l1 : 3 ≤ S.size) (t2 : PackMath.tt (S.data.toList.drop (3 + nK)) = (M.data.toList, nM, 0)) (l2 : 3 + nK ≤ S.size) (t3 : PackMath.tn (S.data.toList.drop (3 + nK + nM)) = (v, 1, 0)) (l3 : 3 + nK + nM ≤ S.size) :
    Calls Try.prog 34 #[.pointer (some ⟨q, 0, none⟩)] wr fun e w' => e = .returned (.agg (vF 2 (i : Int) 0 0 0 0 K M (v : Int) ⟨#[]⟩).toArray) ∧ Has B w (RdR q S (3 + nK + nM + 1) :: rs) w' := by
  have CN : Hid (∀ (a n : Nat) (rs : List Res) (wq : World), a ≤ S.size → PackMath.tn (S.data.toList.drop a) = (n, 1, 0) → Has B w (RdR q S a :: rs) wq → Calls Try.prog 37 #[.pointer (some ⟨q, 0, none⟩)] wq fun e w' => e = .returned (.int .i64 (n : Int)) ∧ Hid (Has B w (RdR q S (a + 1) :: rs) w')) := fun a n rs wq ha ht hq => numR_ok hS ha hq ht
  have CW : Hid (∀ (a c : Nat) (Y : ByteArray) (rs : List Res) (wq : World), a ≤ S.size → PackMath.tt (S.data.toList.drop a) = (Y.data.toList, c, 0) → Has B w (RdR q S a :: rs) wq → Calls Try.prog 39 #[.pointer (some ⟨q, 0, none⟩)] wq fun e w' => e = .returned (.string Y) ∧ Hid (Has B w (RdR q S (a + c) :: rs) w')) := fun a c Y rs wq ha ht hq => by
    have x := wordR_ok hS ha hq ht
    rw [strV_data] at x
    exact x
  have H0 : Hid (Has B w (RdR q S 1 :: BlockR wr.heap.size zN :: rs) (wr.alloc (.cells #[.int .i64 0, .int .i64 0, .int .i64 0, .int .i64 0, .int .i64 0, .int .i64 0, .string ⟨#[]⟩, .string ⟨#[]⟩, .int .i64 0, .string ⟨#[]⟩] 56))) := (h.box zN 56).perm (List.Perm.swap _ _ _)
  have D1 := CN.out 1 2 _ _ lk tk H0.out
  obtain ⟨rb, hrb⟩ : ∃ rb, wr.heap.size = rb := ⟨_, rfl⟩
  clear h H0
  rw [hrb] at D1
  go_enter Try.func34, Try.ntmps34
  go_wp2_with fail
  refine D1.mono ?_
  rintro e w1 ⟨rfl, H1⟩
  clear hrb
  have HB : Hid (Has B w (RdR q S 2 :: BlockR w1.heap.size (vF 2 0 0 0 0 0 ⟨#[]⟩ ⟨#[]⟩ 0 ⟨#[]⟩) :: BlockR rb zN :: rs) (w1.alloc (.cells #[.int .i64 2, .int .i64 0, .int .i64 0, .int .i64 0, .int .i64 0, .int .i64 0, .string ⟨#[]⟩, .string ⟨#[]⟩, .int .i64 0, .string ⟨#[]⟩] 56))) := (H1.out.box (vF 2 0 0 0 0 0 ⟨#[]⟩ ⟨#[]⟩ 0 ⟨#[]⟩) 56).perm (List.Perm.swap _ _ _)
  have E0 := CN.out (2) i _ _ l0 t0 HB.out
  go_wp2_with fail
  refine E0.mono ?_
  rintro e v0 ⟨rfl, G0⟩
  generalize w1.heap.size = nb at *
  clear E0 HB H1 D1
  have G0' : Hid (Has B w (RdR q S (3) :: BlockR nb (vF 2 0 0 0 0 0 ⟨#[]⟩ ⟨#[]⟩ 0 ⟨#[]⟩) :: BlockR rb zN :: rs) v0) := G0
  clear G0
  obtain ⟨e1, f1⟩ := G0'.out.bcell (q := nb) (vs := (vF 2 0 0 0 0 0 ⟨#[]⟩ ⟨#[]⟩ 0 ⟨#[]⟩)) (by simp) 1 _ rfl
  have P0 : Hid (Has B w (RdR q S (3) :: BlockR nb (vF 2 (i : Int) 0 0 0 0 ⟨#[]⟩ ⟨#[]⟩ 0 ⟨#[]⟩) :: BlockR rb zN :: rs) (v0.setCell ⟨nb, 1, none⟩ (.int .i64 (i : Int)))) := ((G0'.out.perm (List.Perm.swap _ _ _)).put 1 (by simp [vF]) (.int .i64 (i : Int))).perm (List.Perm.swap _ _ _)
  obtain ⟨e0, _⟩ := P0.out.bcell (q := nb) (vs := (vF 2 (i : Int) 0 0 0 0 ⟨#[]⟩ ⟨#[]⟩ 0 ⟨#[]⟩)) (by simp) 0 _ rfl
  clear G0'
  have E1 := CW.out (3) nK K _ _ l1 t1 P0.out
  go_wp2_with fail
  refine E1.mono ?_
  rintro e v1 ⟨rfl, G1⟩
  clear E1 P0 e0 e1 f1
  have G1' : Hid (Has B w (RdR q S (3 + nK) :: BlockR nb (vF 2 (i : Int) 0 0 0 0 ⟨#[]⟩ ⟨#[]⟩ 0 ⟨#[]⟩) :: BlockR rb zN :: rs) v1) := G1
  clear G1
  obtain ⟨e1, f1⟩ := G1'.out.bcell (q := nb) (vs := (vF 2 (i : Int) 0 0 0 0 ⟨#[]⟩ ⟨#[]⟩ 0 ⟨#[]⟩)) (by simp) 6 _ rfl
  have P1 : Hid (Has B w (RdR q S (3 + nK) :: BlockR nb (vF 2 (i : Int) 0 0 0 0 K ⟨#[]⟩ 0 ⟨#[]⟩) :: BlockR rb zN :: rs) (v1.setCell ⟨nb, 6, none⟩ (.string K))) := ((G1'.out.perm (List.Perm.swap _ _ _)).put 6 (by simp [vF]) (.string K)).perm (List.Perm.swap _ _ _)
  obtain ⟨e0, _⟩ := P1.out.bcell (q := nb) (vs := (vF 2 (i : Int) 0 0 0 0 K ⟨#[]⟩ 0 ⟨#[]⟩)) (by simp) 0 _ rfl
  clear G1'
  have E2 := CW.out (3 + nK) nM M _ _ l2 t2 P1.out
  go_wp2_with fail
  refine E2.mono ?_
  rintro e v2 ⟨rfl, G2⟩
  clear E2 P1 e0 e1 f1
  have G2' : Hid (Has B w (RdR q S (3 + nK + nM) :: BlockR nb (vF 2 (i : Int) 0 0 0 0 K ⟨#[]⟩ 0 ⟨#[]⟩) :: BlockR rb zN :: rs) v2) := G2
  clear G2
  obtain ⟨e1, f1⟩ := G2'.out.bcell (q := nb) (vs := (vF 2 (i : Int) 0 0 0 0 K ⟨#[]⟩ 0 ⟨#[]⟩)) (by simp) 7 _ rfl
  have P2 : Hid (Has B w (RdR q S (3 + nK + nM) :: BlockR nb (vF 2 (i : Int) 0 0 0 0 K M 0 ⟨#[]⟩) :: BlockR rb zN :: rs) (v2.setCell ⟨nb, 7, none⟩ (.string M))) := ((G2'.out.perm (List.Perm.swap _ _ _)).put 7 (by simp [vF]) (.string M)).perm (List.Perm.swap _ _ _)
  obtain ⟨e0, _⟩ := P2.out.bcell (q := nb) (vs := (vF 2 (i : Int) 0 0 0 0 K M 0 ⟨#[]⟩)) (by simp) 0 _ rfl
  clear G2'
  have E3 := CN.out (3 + nK + nM) v _ _ l3 t3 P2.out
  go_wp2_with fail
  refine E3.mono ?_
  rintro e v3 ⟨rfl, G3⟩
  clear E3 P2 e0 e1 f1
  have G3' : Hid (Has B w (RdR q S (3 + nK + nM + 1) :: BlockR nb (vF 2 (i : Int) 0 0 0 0 K M 0 ⟨#[]⟩) :: BlockR rb zN :: rs) v3) := G3
  clear G3
  obtain ⟨e1, f1⟩ := G3'.out.bcell (q := nb) (vs := (vF 2 (i : Int) 0 0 0 0 K M 0 ⟨#[]⟩)) (by simp) 8 _ rfl
  have P3 : Hid (Has B w (RdR q S (3 + nK + nM + 1) :: BlockR nb (vF 2 (i : Int) 0 0 0 0 K M (v : Int) ⟨#[]⟩) :: BlockR rb zN :: rs) (v3.setCell ⟨nb, 8, none⟩ (.int .i64 (v : Int)))) := ((G3'.out.perm (List.Perm.swap _ _ _)).put 8 (by simp [vF]) (.int .i64 (v : Int))).perm (List.Perm.swap _ _ _)
  obtain ⟨e0, _⟩ := P3.out.bcell (q := nb) (vs := (vF 2 (i : Int) 0 0 0 0 K M (v : Int) ⟨#[]⟩)) (by simp) 0 _ rfl
  clear G3'
  have HPZ : Hid (Has B w (BlockR rb zN :: RdR q S (3 + nK + nM + 1) :: BlockR nb (vF 2 (i : Int) 0 0 0 0 K M (v : Int) ⟨#[]⟩) :: rs) (v3.setCell ⟨nb, 8, none⟩ (.int .i64 (v : Int)))) := P3.out.perm (List.perm_middle (l₁ := [_, _]) (l₂ := rs))
  clear P3 CN CW
  obtain ⟨x1, _⟩ := HPZ.out.bcell (q := nb) (vs := (vF 2 (i : Int) 0 0 0 0 K M (v : Int) ⟨#[]⟩)) (by simp) 1 _ rfl
  obtain ⟨x2, _⟩ := HPZ.out.bcell (q := nb) (vs := (vF 2 (i : Int) 0 0 0 0 K M (v : Int) ⟨#[]⟩)) (by simp) 2 _ rfl
  obtain ⟨x3, _⟩ := HPZ.out.bcell (q := nb) (vs := (vF 2 (i : Int) 0 0 0 0 K M (v : Int) ⟨#[]⟩)) (by simp) 3 _ rfl
  obtain ⟨x4, _⟩ := HPZ.out.bcell (q := nb) (vs := (vF 2 (i : Int) 0 0 0 0 K M (v : Int) ⟨#[]⟩)) (by simp) 4 _ rfl
  obtain ⟨x5, _⟩ := HPZ.out.bcell (q := nb) (vs := (vF 2 (i : Int) 0 0 0 0 K M (v : Int) ⟨#[]⟩)) (by simp) 5 _ rfl
  obtain ⟨x6, _⟩ := HPZ.out.bcell (q := nb) (vs := (vF 2 (i : Int) 0 0 0 0 K M (v : Int) ⟨#[]⟩)) (by simp) 6 _ rfl
  obtain ⟨x7, _⟩ := HPZ.out.bcell (q := nb) (vs := (vF 2 (i : Int) 0 0 0 0 K M (v : Int) ⟨#[]⟩)) (by simp) 7 _ rfl
  obtain ⟨x8, _⟩ := HPZ.out.bcell (q := nb) (vs := (vF 2 (i : Int) 0 0 0 0 K M (v : Int) ⟨#[]⟩)) (by simp) 8 _ rfl
  obtain ⟨x9, _⟩ := HPZ.out.bcell (q := nb) (vs := (vF 2 (i : Int) 0 0 0 0 K M (v : Int) ⟨#[]⟩)) (by simp) 9 _ rfl
  obtain ⟨y0, g0⟩ := HPZ.out.bcell (q := rb) (vs := zN) (by simp) 0 _ rfl
  obtain ⟨y1, g1⟩ := HPZ.out.bcell (q := rb) (vs := zN) (by simp) 1 _ rfl
  obtain ⟨y2, g2⟩ := HPZ.out.bcell (q := rb) (vs := zN) (by simp) 2 _ rfl
  obtain ⟨y3, g3⟩ := HPZ.out.bcell (q := rb) (vs := zN) (by simp) 3 _ rfl
  obtain ⟨y4, g4⟩ := HPZ.out.bcell (q := rb) (vs := zN) (by simp) 4 _ rfl
  obtain ⟨y5, g5⟩ := HPZ.out.bcell (q := rb) (vs := zN) (by simp) 5 _ rfl
  obtain ⟨y6, g6⟩ := HPZ.out.bcell (q := rb) (vs := zN) (by simp) 6 _ rfl
  obtain ⟨y7, g7⟩ := HPZ.out.bcell (q := rb) (vs := zN) (by simp) 7 _ rfl
  obtain ⟨y8, g8⟩ := HPZ.out.bcell (q := rb) (vs := zN) (by simp) 8 _ rfl
  obtain ⟨y9, g9⟩ := HPZ.out.bcell (q := rb) (vs := zN) (by simp) 9 _ rfl
  have HQ : Hid (Has B w (BlockR rb (vF 2 (i : Int) 0 0 0 0 K M (v : Int) ⟨#[]⟩) :: RdR q S (3 + nK + nM + 1) :: BlockR nb (vF 2 (i : Int) 0 0 0 0 K M (v : Int) ⟨#[]⟩) :: rs) (setAll rb 0 (vF 2 (i : Int) 0 0 0 0 K M (v : Int) ⟨#[]⟩) (v3.setCell ⟨nb, 8, none⟩ (.int .i64 (v : Int))))) := Has.puts (vF 2 (i : Int) 0 0 0 0 K M (v : Int) ⟨#[]⟩) [] zN HPZ.out rfl
  clear HPZ
  go_wp2_with fail
  have HC : Hid (∀ j u, (vF 2 (i : Int) 0 0 0 0 K M (v : Int) ⟨#[]⟩)[j]? = some u → (setAll rb 0 (vF 2 (i : Int) 0 0 0 0 K M (v : Int) ⟨#[]⟩) (v3.setCell ⟨nb, 8, none⟩ (.int .i64 (v : Int)))).cell? ⟨rb, j, none⟩ = some u) := fun j u hu => (HQ.out.bcell (q := rb) (vs := (vF 2 (i : Int) 0 0 0 0 K M (v : Int) ⟨#[]⟩)) (by simp) j u hu).1
  refine bodyPost_ret (results_row rfl _ _ rb (vF 2 (i : Int) 0 0 0 0 K M (v : Int) ⟨#[]⟩) _ rfl HC.out Try.underlying56 rfl (by kernel_rfl)) rfl ⟨rfl, ?_⟩
  exact (HQ.out.drop.perm (List.Perm.swap _ _ _)).drop
set_option maxHeartbeats 2000000 in
theorem noteR3 {q i : Nat} {S : ByteArray} (hS : S.size ≤ 4611686018427387904) (h : Has B w (RdR q S 1 :: rs) wr) (tk : PackMath.tn (S.data.toList.drop 1) = (3, 1, 0)) (lk : 1 ≤ S.size) (t0 : PackMath.tn (S.data.toList.drop (2)) = (i, 1, 0)) (l0 : 2 ≤ S.size) :
    Calls Try.prog 34 #[.pointer (some ⟨q, 0, none⟩)] wr fun e w' => e = .returned (.agg (vF 3 (i : Int) 0 0 0 0 ⟨#[]⟩ ⟨#[]⟩ 0 ⟨#[]⟩).toArray) ∧ Has B w (RdR q S (3) :: rs) w' := by
  have CN : Hid (∀ (a n : Nat) (rs : List Res) (wq : World), a ≤ S.size → PackMath.tn (S.data.toList.drop a) = (n, 1, 0) → Has B w (RdR q S a :: rs) wq → Calls Try.prog 37 #[.pointer (some ⟨q, 0, none⟩)] wq fun e w' => e = .returned (.int .i64 (n : Int)) ∧ Hid (Has B w (RdR q S (a + 1) :: rs) w')) := fun a n rs wq ha ht hq => numR_ok hS ha hq ht
  have H0 : Hid (Has B w (RdR q S 1 :: BlockR wr.heap.size zN :: rs) (wr.alloc (.cells #[.int .i64 0, .int .i64 0, .int .i64 0, .int .i64 0, .int .i64 0, .int .i64 0, .string ⟨#[]⟩, .string ⟨#[]⟩, .int .i64 0, .string ⟨#[]⟩] 56))) := (h.box zN 56).perm (List.Perm.swap _ _ _)
  have D1 := CN.out 1 3 _ _ lk tk H0.out
  obtain ⟨rb, hrb⟩ : ∃ rb, wr.heap.size = rb := ⟨_, rfl⟩
  clear h H0
  rw [hrb] at D1
  go_enter Try.func34, Try.ntmps34
  go_wp2_with fail
  refine D1.mono ?_
  rintro e w1 ⟨rfl, H1⟩
  clear hrb
  have HB : Hid (Has B w (RdR q S 2 :: BlockR w1.heap.size (vF 3 0 0 0 0 0 ⟨#[]⟩ ⟨#[]⟩ 0 ⟨#[]⟩) :: BlockR rb zN :: rs) (w1.alloc (.cells #[.int .i64 3, .int .i64 0, .int .i64 0, .int .i64 0, .int .i64 0, .int .i64 0, .string ⟨#[]⟩, .string ⟨#[]⟩, .int .i64 0, .string ⟨#[]⟩] 56))) := (H1.out.box (vF 3 0 0 0 0 0 ⟨#[]⟩ ⟨#[]⟩ 0 ⟨#[]⟩) 56).perm (List.Perm.swap _ _ _)
  have E0 := CN.out (2) i _ _ l0 t0 HB.out
  go_wp2_with fail
  refine E0.mono ?_
  rintro e v0 ⟨rfl, G0⟩
  generalize w1.heap.size = nb at *
  clear E0 HB H1 D1
  have G0' : Hid (Has B w (RdR q S (3) :: BlockR nb (vF 3 0 0 0 0 0 ⟨#[]⟩ ⟨#[]⟩ 0 ⟨#[]⟩) :: BlockR rb zN :: rs) v0) := G0
  clear G0
  obtain ⟨e1, f1⟩ := G0'.out.bcell (q := nb) (vs := (vF 3 0 0 0 0 0 ⟨#[]⟩ ⟨#[]⟩ 0 ⟨#[]⟩)) (by simp) 1 _ rfl
  have P0 : Hid (Has B w (RdR q S (3) :: BlockR nb (vF 3 (i : Int) 0 0 0 0 ⟨#[]⟩ ⟨#[]⟩ 0 ⟨#[]⟩) :: BlockR rb zN :: rs) (v0.setCell ⟨nb, 1, none⟩ (.int .i64 (i : Int)))) := ((G0'.out.perm (List.Perm.swap _ _ _)).put 1 (by simp [vF]) (.int .i64 (i : Int))).perm (List.Perm.swap _ _ _)
  obtain ⟨e0, _⟩ := P0.out.bcell (q := nb) (vs := (vF 3 (i : Int) 0 0 0 0 ⟨#[]⟩ ⟨#[]⟩ 0 ⟨#[]⟩)) (by simp) 0 _ rfl
  clear G0'
  have HPZ : Hid (Has B w (BlockR rb zN :: RdR q S (3) :: BlockR nb (vF 3 (i : Int) 0 0 0 0 ⟨#[]⟩ ⟨#[]⟩ 0 ⟨#[]⟩) :: rs) (v0.setCell ⟨nb, 1, none⟩ (.int .i64 (i : Int)))) := P0.out.perm (List.perm_middle (l₁ := [_, _]) (l₂ := rs))
  clear P0 CN
  obtain ⟨x1, _⟩ := HPZ.out.bcell (q := nb) (vs := (vF 3 (i : Int) 0 0 0 0 ⟨#[]⟩ ⟨#[]⟩ 0 ⟨#[]⟩)) (by simp) 1 _ rfl
  obtain ⟨x2, _⟩ := HPZ.out.bcell (q := nb) (vs := (vF 3 (i : Int) 0 0 0 0 ⟨#[]⟩ ⟨#[]⟩ 0 ⟨#[]⟩)) (by simp) 2 _ rfl
  obtain ⟨x3, _⟩ := HPZ.out.bcell (q := nb) (vs := (vF 3 (i : Int) 0 0 0 0 ⟨#[]⟩ ⟨#[]⟩ 0 ⟨#[]⟩)) (by simp) 3 _ rfl
  obtain ⟨x4, _⟩ := HPZ.out.bcell (q := nb) (vs := (vF 3 (i : Int) 0 0 0 0 ⟨#[]⟩ ⟨#[]⟩ 0 ⟨#[]⟩)) (by simp) 4 _ rfl
  obtain ⟨x5, _⟩ := HPZ.out.bcell (q := nb) (vs := (vF 3 (i : Int) 0 0 0 0 ⟨#[]⟩ ⟨#[]⟩ 0 ⟨#[]⟩)) (by simp) 5 _ rfl
  obtain ⟨x6, _⟩ := HPZ.out.bcell (q := nb) (vs := (vF 3 (i : Int) 0 0 0 0 ⟨#[]⟩ ⟨#[]⟩ 0 ⟨#[]⟩)) (by simp) 6 _ rfl
  obtain ⟨x7, _⟩ := HPZ.out.bcell (q := nb) (vs := (vF 3 (i : Int) 0 0 0 0 ⟨#[]⟩ ⟨#[]⟩ 0 ⟨#[]⟩)) (by simp) 7 _ rfl
  obtain ⟨x8, _⟩ := HPZ.out.bcell (q := nb) (vs := (vF 3 (i : Int) 0 0 0 0 ⟨#[]⟩ ⟨#[]⟩ 0 ⟨#[]⟩)) (by simp) 8 _ rfl
  obtain ⟨x9, _⟩ := HPZ.out.bcell (q := nb) (vs := (vF 3 (i : Int) 0 0 0 0 ⟨#[]⟩ ⟨#[]⟩ 0 ⟨#[]⟩)) (by simp) 9 _ rfl
  obtain ⟨y0, g0⟩ := HPZ.out.bcell (q := rb) (vs := zN) (by simp) 0 _ rfl
  obtain ⟨y1, g1⟩ := HPZ.out.bcell (q := rb) (vs := zN) (by simp) 1 _ rfl
  obtain ⟨y2, g2⟩ := HPZ.out.bcell (q := rb) (vs := zN) (by simp) 2 _ rfl
  obtain ⟨y3, g3⟩ := HPZ.out.bcell (q := rb) (vs := zN) (by simp) 3 _ rfl
  obtain ⟨y4, g4⟩ := HPZ.out.bcell (q := rb) (vs := zN) (by simp) 4 _ rfl
  obtain ⟨y5, g5⟩ := HPZ.out.bcell (q := rb) (vs := zN) (by simp) 5 _ rfl
  obtain ⟨y6, g6⟩ := HPZ.out.bcell (q := rb) (vs := zN) (by simp) 6 _ rfl
  obtain ⟨y7, g7⟩ := HPZ.out.bcell (q := rb) (vs := zN) (by simp) 7 _ rfl
  obtain ⟨y8, g8⟩ := HPZ.out.bcell (q := rb) (vs := zN) (by simp) 8 _ rfl
  obtain ⟨y9, g9⟩ := HPZ.out.bcell (q := rb) (vs := zN) (by simp) 9 _ rfl
  have HQ : Hid (Has B w (BlockR rb (vF 3 (i : Int) 0 0 0 0 ⟨#[]⟩ ⟨#[]⟩ 0 ⟨#[]⟩) :: RdR q S (3) :: BlockR nb (vF 3 (i : Int) 0 0 0 0 ⟨#[]⟩ ⟨#[]⟩ 0 ⟨#[]⟩) :: rs) (setAll rb 0 (vF 3 (i : Int) 0 0 0 0 ⟨#[]⟩ ⟨#[]⟩ 0 ⟨#[]⟩) (v0.setCell ⟨nb, 1, none⟩ (.int .i64 (i : Int))))) := Has.puts (vF 3 (i : Int) 0 0 0 0 ⟨#[]⟩ ⟨#[]⟩ 0 ⟨#[]⟩) [] zN HPZ.out rfl
  clear HPZ
  go_wp2_with fail
  have HC : Hid (∀ j u, (vF 3 (i : Int) 0 0 0 0 ⟨#[]⟩ ⟨#[]⟩ 0 ⟨#[]⟩)[j]? = some u → (setAll rb 0 (vF 3 (i : Int) 0 0 0 0 ⟨#[]⟩ ⟨#[]⟩ 0 ⟨#[]⟩) (v0.setCell ⟨nb, 1, none⟩ (.int .i64 (i : Int)))).cell? ⟨rb, j, none⟩ = some u) := fun j u hu => (HQ.out.bcell (q := rb) (vs := (vF 3 (i : Int) 0 0 0 0 ⟨#[]⟩ ⟨#[]⟩ 0 ⟨#[]⟩)) (by simp) j u hu).1
  refine bodyPost_ret (results_row rfl _ _ rb (vF 3 (i : Int) 0 0 0 0 ⟨#[]⟩ ⟨#[]⟩ 0 ⟨#[]⟩) _ rfl HC.out Try.underlying56 rfl (by kernel_rfl)) rfl ⟨rfl, ?_⟩
  exact (HQ.out.drop.perm (List.Perm.swap _ _ _)).drop
set_option maxHeartbeats 2000000 in
theorem noteR4 {q i : Nat} {S : ByteArray} (hS : S.size ≤ 4611686018427387904) (h : Has B w (RdR q S 1 :: rs) wr) (tk : PackMath.tn (S.data.toList.drop 1) = (4, 1, 0)) (lk : 1 ≤ S.size) (t0 : PackMath.tn (S.data.toList.drop (2)) = (i, 1, 0)) (l0 : 2 ≤ S.size) :
    Calls Try.prog 34 #[.pointer (some ⟨q, 0, none⟩)] wr fun e w' => e = .returned (.agg (vF 4 (i : Int) 0 0 0 0 ⟨#[]⟩ ⟨#[]⟩ 0 ⟨#[]⟩).toArray) ∧ Has B w (RdR q S (3) :: rs) w' := by
  have CN : Hid (∀ (a n : Nat) (rs : List Res) (wq : World), a ≤ S.size → PackMath.tn (S.data.toList.drop a) = (n, 1, 0) → Has B w (RdR q S a :: rs) wq → Calls Try.prog 37 #[.pointer (some ⟨q, 0, none⟩)] wq fun e w' => e = .returned (.int .i64 (n : Int)) ∧ Hid (Has B w (RdR q S (a + 1) :: rs) w')) := fun a n rs wq ha ht hq => numR_ok hS ha hq ht
  have H0 : Hid (Has B w (RdR q S 1 :: BlockR wr.heap.size zN :: rs) (wr.alloc (.cells #[.int .i64 0, .int .i64 0, .int .i64 0, .int .i64 0, .int .i64 0, .int .i64 0, .string ⟨#[]⟩, .string ⟨#[]⟩, .int .i64 0, .string ⟨#[]⟩] 56))) := (h.box zN 56).perm (List.Perm.swap _ _ _)
  have D1 := CN.out 1 4 _ _ lk tk H0.out
  obtain ⟨rb, hrb⟩ : ∃ rb, wr.heap.size = rb := ⟨_, rfl⟩
  clear h H0
  rw [hrb] at D1
  go_enter Try.func34, Try.ntmps34
  go_wp2_with fail
  refine D1.mono ?_
  rintro e w1 ⟨rfl, H1⟩
  clear hrb
  have HB : Hid (Has B w (RdR q S 2 :: BlockR w1.heap.size (vF 4 0 0 0 0 0 ⟨#[]⟩ ⟨#[]⟩ 0 ⟨#[]⟩) :: BlockR rb zN :: rs) (w1.alloc (.cells #[.int .i64 4, .int .i64 0, .int .i64 0, .int .i64 0, .int .i64 0, .int .i64 0, .string ⟨#[]⟩, .string ⟨#[]⟩, .int .i64 0, .string ⟨#[]⟩] 56))) := (H1.out.box (vF 4 0 0 0 0 0 ⟨#[]⟩ ⟨#[]⟩ 0 ⟨#[]⟩) 56).perm (List.Perm.swap _ _ _)
  have E0 := CN.out (2) i _ _ l0 t0 HB.out
  go_wp2_with fail
  refine E0.mono ?_
  rintro e v0 ⟨rfl, G0⟩
  generalize w1.heap.size = nb at *
  clear E0 HB H1 D1
  have G0' : Hid (Has B w (RdR q S (3) :: BlockR nb (vF 4 0 0 0 0 0 ⟨#[]⟩ ⟨#[]⟩ 0 ⟨#[]⟩) :: BlockR rb zN :: rs) v0) := G0
  clear G0
  obtain ⟨e1, f1⟩ := G0'.out.bcell (q := nb) (vs := (vF 4 0 0 0 0 0 ⟨#[]⟩ ⟨#[]⟩ 0 ⟨#[]⟩)) (by simp) 1 _ rfl
  have P0 : Hid (Has B w (RdR q S (3) :: BlockR nb (vF 4 (i : Int) 0 0 0 0 ⟨#[]⟩ ⟨#[]⟩ 0 ⟨#[]⟩) :: BlockR rb zN :: rs) (v0.setCell ⟨nb, 1, none⟩ (.int .i64 (i : Int)))) := ((G0'.out.perm (List.Perm.swap _ _ _)).put 1 (by simp [vF]) (.int .i64 (i : Int))).perm (List.Perm.swap _ _ _)
  obtain ⟨e0, _⟩ := P0.out.bcell (q := nb) (vs := (vF 4 (i : Int) 0 0 0 0 ⟨#[]⟩ ⟨#[]⟩ 0 ⟨#[]⟩)) (by simp) 0 _ rfl
  clear G0'
  have HPZ : Hid (Has B w (BlockR rb zN :: RdR q S (3) :: BlockR nb (vF 4 (i : Int) 0 0 0 0 ⟨#[]⟩ ⟨#[]⟩ 0 ⟨#[]⟩) :: rs) (v0.setCell ⟨nb, 1, none⟩ (.int .i64 (i : Int)))) := P0.out.perm (List.perm_middle (l₁ := [_, _]) (l₂ := rs))
  clear P0 CN
  obtain ⟨x1, _⟩ := HPZ.out.bcell (q := nb) (vs := (vF 4 (i : Int) 0 0 0 0 ⟨#[]⟩ ⟨#[]⟩ 0 ⟨#[]⟩)) (by simp) 1 _ rfl
  obtain ⟨x2, _⟩ := HPZ.out.bcell (q := nb) (vs := (vF 4 (i : Int) 0 0 0 0 ⟨#[]⟩ ⟨#[]⟩ 0 ⟨#[]⟩)) (by simp) 2 _ rfl
  obtain ⟨x3, _⟩ := HPZ.out.bcell (q := nb) (vs := (vF 4 (i : Int) 0 0 0 0 ⟨#[]⟩ ⟨#[]⟩ 0 ⟨#[]⟩)) (by simp) 3 _ rfl
  obtain ⟨x4, _⟩ := HPZ.out.bcell (q := nb) (vs := (vF 4 (i : Int) 0 0 0 0 ⟨#[]⟩ ⟨#[]⟩ 0 ⟨#[]⟩)) (by simp) 4 _ rfl
  obtain ⟨x5, _⟩ := HPZ.out.bcell (q := nb) (vs := (vF 4 (i : Int) 0 0 0 0 ⟨#[]⟩ ⟨#[]⟩ 0 ⟨#[]⟩)) (by simp) 5 _ rfl
  obtain ⟨x6, _⟩ := HPZ.out.bcell (q := nb) (vs := (vF 4 (i : Int) 0 0 0 0 ⟨#[]⟩ ⟨#[]⟩ 0 ⟨#[]⟩)) (by simp) 6 _ rfl
  obtain ⟨x7, _⟩ := HPZ.out.bcell (q := nb) (vs := (vF 4 (i : Int) 0 0 0 0 ⟨#[]⟩ ⟨#[]⟩ 0 ⟨#[]⟩)) (by simp) 7 _ rfl
  obtain ⟨x8, _⟩ := HPZ.out.bcell (q := nb) (vs := (vF 4 (i : Int) 0 0 0 0 ⟨#[]⟩ ⟨#[]⟩ 0 ⟨#[]⟩)) (by simp) 8 _ rfl
  obtain ⟨x9, _⟩ := HPZ.out.bcell (q := nb) (vs := (vF 4 (i : Int) 0 0 0 0 ⟨#[]⟩ ⟨#[]⟩ 0 ⟨#[]⟩)) (by simp) 9 _ rfl
  obtain ⟨y0, g0⟩ := HPZ.out.bcell (q := rb) (vs := zN) (by simp) 0 _ rfl
  obtain ⟨y1, g1⟩ := HPZ.out.bcell (q := rb) (vs := zN) (by simp) 1 _ rfl
  obtain ⟨y2, g2⟩ := HPZ.out.bcell (q := rb) (vs := zN) (by simp) 2 _ rfl
  obtain ⟨y3, g3⟩ := HPZ.out.bcell (q := rb) (vs := zN) (by simp) 3 _ rfl
  obtain ⟨y4, g4⟩ := HPZ.out.bcell (q := rb) (vs := zN) (by simp) 4 _ rfl
  obtain ⟨y5, g5⟩ := HPZ.out.bcell (q := rb) (vs := zN) (by simp) 5 _ rfl
  obtain ⟨y6, g6⟩ := HPZ.out.bcell (q := rb) (vs := zN) (by simp) 6 _ rfl
  obtain ⟨y7, g7⟩ := HPZ.out.bcell (q := rb) (vs := zN) (by simp) 7 _ rfl
  obtain ⟨y8, g8⟩ := HPZ.out.bcell (q := rb) (vs := zN) (by simp) 8 _ rfl
  obtain ⟨y9, g9⟩ := HPZ.out.bcell (q := rb) (vs := zN) (by simp) 9 _ rfl
  have HQ : Hid (Has B w (BlockR rb (vF 4 (i : Int) 0 0 0 0 ⟨#[]⟩ ⟨#[]⟩ 0 ⟨#[]⟩) :: RdR q S (3) :: BlockR nb (vF 4 (i : Int) 0 0 0 0 ⟨#[]⟩ ⟨#[]⟩ 0 ⟨#[]⟩) :: rs) (setAll rb 0 (vF 4 (i : Int) 0 0 0 0 ⟨#[]⟩ ⟨#[]⟩ 0 ⟨#[]⟩) (v0.setCell ⟨nb, 1, none⟩ (.int .i64 (i : Int))))) := Has.puts (vF 4 (i : Int) 0 0 0 0 ⟨#[]⟩ ⟨#[]⟩ 0 ⟨#[]⟩) [] zN HPZ.out rfl
  clear HPZ
  go_wp2_with fail
  have HC : Hid (∀ j u, (vF 4 (i : Int) 0 0 0 0 ⟨#[]⟩ ⟨#[]⟩ 0 ⟨#[]⟩)[j]? = some u → (setAll rb 0 (vF 4 (i : Int) 0 0 0 0 ⟨#[]⟩ ⟨#[]⟩ 0 ⟨#[]⟩) (v0.setCell ⟨nb, 1, none⟩ (.int .i64 (i : Int)))).cell? ⟨rb, j, none⟩ = some u) := fun j u hu => (HQ.out.bcell (q := rb) (vs := (vF 4 (i : Int) 0 0 0 0 ⟨#[]⟩ ⟨#[]⟩ 0 ⟨#[]⟩)) (by simp) j u hu).1
  refine bodyPost_ret (results_row rfl _ _ rb (vF 4 (i : Int) 0 0 0 0 ⟨#[]⟩ ⟨#[]⟩ 0 ⟨#[]⟩) _ rfl HC.out Try.underlying56 rfl (by kernel_rfl)) rfl ⟨rfl, ?_⟩
  exact (HQ.out.drop.perm (List.Perm.swap _ _ _)).drop
set_option maxHeartbeats 2000000 in
theorem noteR5 {q i s : Nat} {S : ByteArray} (hS : S.size ≤ 4611686018427387904) (h : Has B w (RdR q S 1 :: rs) wr) (tk : PackMath.tn (S.data.toList.drop 1) = (5, 1, 0)) (lk : 1 ≤ S.size) (t0 : PackMath.tn (S.data.toList.drop (2)) = (i, 1, 0)) (l0 : 2 ≤ S.size) (t1 : PackMath.tn (S.data.toList.drop (3)) = (s, 1, 0)) (l1 : 3 ≤ S.size) :
    Calls Try.prog 34 #[.pointer (some ⟨q, 0, none⟩)] wr fun e w' => e = .returned (.agg (vF 5 (i : Int) (s : Int) 0 0 0 ⟨#[]⟩ ⟨#[]⟩ 0 ⟨#[]⟩).toArray) ∧ Has B w (RdR q S (4) :: rs) w' := by
  have CN : Hid (∀ (a n : Nat) (rs : List Res) (wq : World), a ≤ S.size → PackMath.tn (S.data.toList.drop a) = (n, 1, 0) → Has B w (RdR q S a :: rs) wq → Calls Try.prog 37 #[.pointer (some ⟨q, 0, none⟩)] wq fun e w' => e = .returned (.int .i64 (n : Int)) ∧ Hid (Has B w (RdR q S (a + 1) :: rs) w')) := fun a n rs wq ha ht hq => numR_ok hS ha hq ht
  have H0 : Hid (Has B w (RdR q S 1 :: BlockR wr.heap.size zN :: rs) (wr.alloc (.cells #[.int .i64 0, .int .i64 0, .int .i64 0, .int .i64 0, .int .i64 0, .int .i64 0, .string ⟨#[]⟩, .string ⟨#[]⟩, .int .i64 0, .string ⟨#[]⟩] 56))) := (h.box zN 56).perm (List.Perm.swap _ _ _)
  have D1 := CN.out 1 5 _ _ lk tk H0.out
  obtain ⟨rb, hrb⟩ : ∃ rb, wr.heap.size = rb := ⟨_, rfl⟩
  clear h H0
  rw [hrb] at D1
  go_enter Try.func34, Try.ntmps34
  go_wp2_with fail
  refine D1.mono ?_
  rintro e w1 ⟨rfl, H1⟩
  clear hrb
  have HB : Hid (Has B w (RdR q S 2 :: BlockR w1.heap.size (vF 5 0 0 0 0 0 ⟨#[]⟩ ⟨#[]⟩ 0 ⟨#[]⟩) :: BlockR rb zN :: rs) (w1.alloc (.cells #[.int .i64 5, .int .i64 0, .int .i64 0, .int .i64 0, .int .i64 0, .int .i64 0, .string ⟨#[]⟩, .string ⟨#[]⟩, .int .i64 0, .string ⟨#[]⟩] 56))) := (H1.out.box (vF 5 0 0 0 0 0 ⟨#[]⟩ ⟨#[]⟩ 0 ⟨#[]⟩) 56).perm (List.Perm.swap _ _ _)
  have E0 := CN.out (2) i _ _ l0 t0 HB.out
  go_wp2_with fail
  refine E0.mono ?_
  rintro e v0 ⟨rfl, G0⟩
  generalize w1.heap.size = nb at *
  clear E0 HB H1 D1
  have G0' : Hid (Has B w (RdR q S (3) :: BlockR nb (vF 5 0 0 0 0 0 ⟨#[]⟩ ⟨#[]⟩ 0 ⟨#[]⟩) :: BlockR rb zN :: rs) v0) := G0
  clear G0
  obtain ⟨e1, f1⟩ := G0'.out.bcell (q := nb) (vs := (vF 5 0 0 0 0 0 ⟨#[]⟩ ⟨#[]⟩ 0 ⟨#[]⟩)) (by simp) 1 _ rfl
  have P0 : Hid (Has B w (RdR q S (3) :: BlockR nb (vF 5 (i : Int) 0 0 0 0 ⟨#[]⟩ ⟨#[]⟩ 0 ⟨#[]⟩) :: BlockR rb zN :: rs) (v0.setCell ⟨nb, 1, none⟩ (.int .i64 (i : Int)))) := ((G0'.out.perm (List.Perm.swap _ _ _)).put 1 (by simp [vF]) (.int .i64 (i : Int))).perm (List.Perm.swap _ _ _)
  obtain ⟨e0, _⟩ := P0.out.bcell (q := nb) (vs := (vF 5 (i : Int) 0 0 0 0 ⟨#[]⟩ ⟨#[]⟩ 0 ⟨#[]⟩)) (by simp) 0 _ rfl
  clear G0'
  have E1 := CN.out (3) s _ _ l1 t1 P0.out
  go_wp2_with fail
  refine E1.mono ?_
  rintro e v1 ⟨rfl, G1⟩
  clear E1 P0 e0 e1 f1
  have G1' : Hid (Has B w (RdR q S (4) :: BlockR nb (vF 5 (i : Int) 0 0 0 0 ⟨#[]⟩ ⟨#[]⟩ 0 ⟨#[]⟩) :: BlockR rb zN :: rs) v1) := G1
  clear G1
  obtain ⟨e1, f1⟩ := G1'.out.bcell (q := nb) (vs := (vF 5 (i : Int) 0 0 0 0 ⟨#[]⟩ ⟨#[]⟩ 0 ⟨#[]⟩)) (by simp) 2 _ rfl
  have P1 : Hid (Has B w (RdR q S (4) :: BlockR nb (vF 5 (i : Int) (s : Int) 0 0 0 ⟨#[]⟩ ⟨#[]⟩ 0 ⟨#[]⟩) :: BlockR rb zN :: rs) (v1.setCell ⟨nb, 2, none⟩ (.int .i64 (s : Int)))) := ((G1'.out.perm (List.Perm.swap _ _ _)).put 2 (by simp [vF]) (.int .i64 (s : Int))).perm (List.Perm.swap _ _ _)
  obtain ⟨e0, _⟩ := P1.out.bcell (q := nb) (vs := (vF 5 (i : Int) (s : Int) 0 0 0 ⟨#[]⟩ ⟨#[]⟩ 0 ⟨#[]⟩)) (by simp) 0 _ rfl
  clear G1'
  have HPZ : Hid (Has B w (BlockR rb zN :: RdR q S (4) :: BlockR nb (vF 5 (i : Int) (s : Int) 0 0 0 ⟨#[]⟩ ⟨#[]⟩ 0 ⟨#[]⟩) :: rs) (v1.setCell ⟨nb, 2, none⟩ (.int .i64 (s : Int)))) := P1.out.perm (List.perm_middle (l₁ := [_, _]) (l₂ := rs))
  clear P1 CN
  obtain ⟨x1, _⟩ := HPZ.out.bcell (q := nb) (vs := (vF 5 (i : Int) (s : Int) 0 0 0 ⟨#[]⟩ ⟨#[]⟩ 0 ⟨#[]⟩)) (by simp) 1 _ rfl
  obtain ⟨x2, _⟩ := HPZ.out.bcell (q := nb) (vs := (vF 5 (i : Int) (s : Int) 0 0 0 ⟨#[]⟩ ⟨#[]⟩ 0 ⟨#[]⟩)) (by simp) 2 _ rfl
  obtain ⟨x3, _⟩ := HPZ.out.bcell (q := nb) (vs := (vF 5 (i : Int) (s : Int) 0 0 0 ⟨#[]⟩ ⟨#[]⟩ 0 ⟨#[]⟩)) (by simp) 3 _ rfl
  obtain ⟨x4, _⟩ := HPZ.out.bcell (q := nb) (vs := (vF 5 (i : Int) (s : Int) 0 0 0 ⟨#[]⟩ ⟨#[]⟩ 0 ⟨#[]⟩)) (by simp) 4 _ rfl
  obtain ⟨x5, _⟩ := HPZ.out.bcell (q := nb) (vs := (vF 5 (i : Int) (s : Int) 0 0 0 ⟨#[]⟩ ⟨#[]⟩ 0 ⟨#[]⟩)) (by simp) 5 _ rfl
  obtain ⟨x6, _⟩ := HPZ.out.bcell (q := nb) (vs := (vF 5 (i : Int) (s : Int) 0 0 0 ⟨#[]⟩ ⟨#[]⟩ 0 ⟨#[]⟩)) (by simp) 6 _ rfl
  obtain ⟨x7, _⟩ := HPZ.out.bcell (q := nb) (vs := (vF 5 (i : Int) (s : Int) 0 0 0 ⟨#[]⟩ ⟨#[]⟩ 0 ⟨#[]⟩)) (by simp) 7 _ rfl
  obtain ⟨x8, _⟩ := HPZ.out.bcell (q := nb) (vs := (vF 5 (i : Int) (s : Int) 0 0 0 ⟨#[]⟩ ⟨#[]⟩ 0 ⟨#[]⟩)) (by simp) 8 _ rfl
  obtain ⟨x9, _⟩ := HPZ.out.bcell (q := nb) (vs := (vF 5 (i : Int) (s : Int) 0 0 0 ⟨#[]⟩ ⟨#[]⟩ 0 ⟨#[]⟩)) (by simp) 9 _ rfl
  obtain ⟨y0, g0⟩ := HPZ.out.bcell (q := rb) (vs := zN) (by simp) 0 _ rfl
  obtain ⟨y1, g1⟩ := HPZ.out.bcell (q := rb) (vs := zN) (by simp) 1 _ rfl
  obtain ⟨y2, g2⟩ := HPZ.out.bcell (q := rb) (vs := zN) (by simp) 2 _ rfl
  obtain ⟨y3, g3⟩ := HPZ.out.bcell (q := rb) (vs := zN) (by simp) 3 _ rfl
  obtain ⟨y4, g4⟩ := HPZ.out.bcell (q := rb) (vs := zN) (by simp) 4 _ rfl
  obtain ⟨y5, g5⟩ := HPZ.out.bcell (q := rb) (vs := zN) (by simp) 5 _ rfl
  obtain ⟨y6, g6⟩ := HPZ.out.bcell (q := rb) (vs := zN) (by simp) 6 _ rfl
  obtain ⟨y7, g7⟩ := HPZ.out.bcell (q := rb) (vs := zN) (by simp) 7 _ rfl
  obtain ⟨y8, g8⟩ := HPZ.out.bcell (q := rb) (vs := zN) (by simp) 8 _ rfl
  obtain ⟨y9, g9⟩ := HPZ.out.bcell (q := rb) (vs := zN) (by simp) 9 _ rfl
  have HQ : Hid (Has B w (BlockR rb (vF 5 (i : Int) (s : Int) 0 0 0 ⟨#[]⟩ ⟨#[]⟩ 0 ⟨#[]⟩) :: RdR q S (4) :: BlockR nb (vF 5 (i : Int) (s : Int) 0 0 0 ⟨#[]⟩ ⟨#[]⟩ 0 ⟨#[]⟩) :: rs) (setAll rb 0 (vF 5 (i : Int) (s : Int) 0 0 0 ⟨#[]⟩ ⟨#[]⟩ 0 ⟨#[]⟩) (v1.setCell ⟨nb, 2, none⟩ (.int .i64 (s : Int))))) := Has.puts (vF 5 (i : Int) (s : Int) 0 0 0 ⟨#[]⟩ ⟨#[]⟩ 0 ⟨#[]⟩) [] zN HPZ.out rfl
  clear HPZ
  go_wp2_with fail
  have HC : Hid (∀ j u, (vF 5 (i : Int) (s : Int) 0 0 0 ⟨#[]⟩ ⟨#[]⟩ 0 ⟨#[]⟩)[j]? = some u → (setAll rb 0 (vF 5 (i : Int) (s : Int) 0 0 0 ⟨#[]⟩ ⟨#[]⟩ 0 ⟨#[]⟩) (v1.setCell ⟨nb, 2, none⟩ (.int .i64 (s : Int)))).cell? ⟨rb, j, none⟩ = some u) := fun j u hu => (HQ.out.bcell (q := rb) (vs := (vF 5 (i : Int) (s : Int) 0 0 0 ⟨#[]⟩ ⟨#[]⟩ 0 ⟨#[]⟩)) (by simp) j u hu).1
  refine bodyPost_ret (results_row rfl _ _ rb (vF 5 (i : Int) (s : Int) 0 0 0 ⟨#[]⟩ ⟨#[]⟩ 0 ⟨#[]⟩) _ rfl HC.out Try.underlying56 rfl (by kernel_rfl)) rfl ⟨rfl, ?_⟩
  exact (HQ.out.drop.perm (List.Perm.swap _ _ _)).drop
set_option maxHeartbeats 2000000 in
theorem noteR6 {q i s t : Nat} {S : ByteArray} (hS : S.size ≤ 4611686018427387904) (h : Has B w (RdR q S 1 :: rs) wr) (tk : PackMath.tn (S.data.toList.drop 1) = (6, 1, 0)) (lk : 1 ≤ S.size) (t0 : PackMath.tn (S.data.toList.drop (2)) = (i, 1, 0)) (l0 : 2 ≤ S.size) (t1 : PackMath.tn (S.data.toList.drop (3)) = (s, 1, 0)) (l1 : 3 ≤ S.size) (t2 : PackMath.tn (S.data.toList.drop (4)) = (t, 1, 0)) (l2 : 4 ≤ S.size) :
    Calls Try.prog 34 #[.pointer (some ⟨q, 0, none⟩)] wr fun e w' => e = .returned (.agg (vF 6 (i : Int) (s : Int) (t : Int) 0 0 ⟨#[]⟩ ⟨#[]⟩ 0 ⟨#[]⟩).toArray) ∧ Has B w (RdR q S (5) :: rs) w' := by
  have CN : Hid (∀ (a n : Nat) (rs : List Res) (wq : World), a ≤ S.size → PackMath.tn (S.data.toList.drop a) = (n, 1, 0) → Has B w (RdR q S a :: rs) wq → Calls Try.prog 37 #[.pointer (some ⟨q, 0, none⟩)] wq fun e w' => e = .returned (.int .i64 (n : Int)) ∧ Hid (Has B w (RdR q S (a + 1) :: rs) w')) := fun a n rs wq ha ht hq => numR_ok hS ha hq ht
  have H0 : Hid (Has B w (RdR q S 1 :: BlockR wr.heap.size zN :: rs) (wr.alloc (.cells #[.int .i64 0, .int .i64 0, .int .i64 0, .int .i64 0, .int .i64 0, .int .i64 0, .string ⟨#[]⟩, .string ⟨#[]⟩, .int .i64 0, .string ⟨#[]⟩] 56))) := (h.box zN 56).perm (List.Perm.swap _ _ _)
  have D1 := CN.out 1 6 _ _ lk tk H0.out
  obtain ⟨rb, hrb⟩ : ∃ rb, wr.heap.size = rb := ⟨_, rfl⟩
  clear h H0
  rw [hrb] at D1
  go_enter Try.func34, Try.ntmps34
  go_wp2_with fail
  refine D1.mono ?_
  rintro e w1 ⟨rfl, H1⟩
  clear hrb
  have HB : Hid (Has B w (RdR q S 2 :: BlockR w1.heap.size (vF 6 0 0 0 0 0 ⟨#[]⟩ ⟨#[]⟩ 0 ⟨#[]⟩) :: BlockR rb zN :: rs) (w1.alloc (.cells #[.int .i64 6, .int .i64 0, .int .i64 0, .int .i64 0, .int .i64 0, .int .i64 0, .string ⟨#[]⟩, .string ⟨#[]⟩, .int .i64 0, .string ⟨#[]⟩] 56))) := (H1.out.box (vF 6 0 0 0 0 0 ⟨#[]⟩ ⟨#[]⟩ 0 ⟨#[]⟩) 56).perm (List.Perm.swap _ _ _)
  have E0 := CN.out (2) i _ _ l0 t0 HB.out
  go_wp2_with fail
  refine E0.mono ?_
  rintro e v0 ⟨rfl, G0⟩
  generalize w1.heap.size = nb at *
  clear E0 HB H1 D1
  have G0' : Hid (Has B w (RdR q S (3) :: BlockR nb (vF 6 0 0 0 0 0 ⟨#[]⟩ ⟨#[]⟩ 0 ⟨#[]⟩) :: BlockR rb zN :: rs) v0) := G0
  clear G0
  obtain ⟨e1, f1⟩ := G0'.out.bcell (q := nb) (vs := (vF 6 0 0 0 0 0 ⟨#[]⟩ ⟨#[]⟩ 0 ⟨#[]⟩)) (by simp) 1 _ rfl
  have P0 : Hid (Has B w (RdR q S (3) :: BlockR nb (vF 6 (i : Int) 0 0 0 0 ⟨#[]⟩ ⟨#[]⟩ 0 ⟨#[]⟩) :: BlockR rb zN :: rs) (v0.setCell ⟨nb, 1, none⟩ (.int .i64 (i : Int)))) := ((G0'.out.perm (List.Perm.swap _ _ _)).put 1 (by simp [vF]) (.int .i64 (i : Int))).perm (List.Perm.swap _ _ _)
  obtain ⟨e0, _⟩ := P0.out.bcell (q := nb) (vs := (vF 6 (i : Int) 0 0 0 0 ⟨#[]⟩ ⟨#[]⟩ 0 ⟨#[]⟩)) (by simp) 0 _ rfl
  clear G0'
  have E1 := CN.out (3) s _ _ l1 t1 P0.out
  go_wp2_with fail
  refine E1.mono ?_
  rintro e v1 ⟨rfl, G1⟩
  clear E1 P0 e0 e1 f1
  have G1' : Hid (Has B w (RdR q S (4) :: BlockR nb (vF 6 (i : Int) 0 0 0 0 ⟨#[]⟩ ⟨#[]⟩ 0 ⟨#[]⟩) :: BlockR rb zN :: rs) v1) := G1
  clear G1
  obtain ⟨e1, f1⟩ := G1'.out.bcell (q := nb) (vs := (vF 6 (i : Int) 0 0 0 0 ⟨#[]⟩ ⟨#[]⟩ 0 ⟨#[]⟩)) (by simp) 2 _ rfl
  have P1 : Hid (Has B w (RdR q S (4) :: BlockR nb (vF 6 (i : Int) (s : Int) 0 0 0 ⟨#[]⟩ ⟨#[]⟩ 0 ⟨#[]⟩) :: BlockR rb zN :: rs) (v1.setCell ⟨nb, 2, none⟩ (.int .i64 (s : Int)))) := ((G1'.out.perm (List.Perm.swap _ _ _)).put 2 (by simp [vF]) (.int .i64 (s : Int))).perm (List.Perm.swap _ _ _)
  obtain ⟨e0, _⟩ := P1.out.bcell (q := nb) (vs := (vF 6 (i : Int) (s : Int) 0 0 0 ⟨#[]⟩ ⟨#[]⟩ 0 ⟨#[]⟩)) (by simp) 0 _ rfl
  clear G1'
  have E2 := CN.out (4) t _ _ l2 t2 P1.out
  go_wp2_with fail
  refine E2.mono ?_
  rintro e v2 ⟨rfl, G2⟩
  clear E2 P1 e0 e1 f1
  have G2' : Hid (Has B w (RdR q S (5) :: BlockR nb (vF 6 (i : Int) (s : Int) 0 0 0 ⟨#[]⟩ ⟨#[]⟩ 0 ⟨#[]⟩) :: BlockR rb zN :: rs) v2) := G2
  clear G2
  obtain ⟨e1, f1⟩ := G2'.out.bcell (q := nb) (vs := (vF 6 (i : Int) (s : Int) 0 0 0 ⟨#[]⟩ ⟨#[]⟩ 0 ⟨#[]⟩)) (by simp) 3 _ rfl
  have P2 : Hid (Has B w (RdR q S (5) :: BlockR nb (vF 6 (i : Int) (s : Int) (t : Int) 0 0 ⟨#[]⟩ ⟨#[]⟩ 0 ⟨#[]⟩) :: BlockR rb zN :: rs) (v2.setCell ⟨nb, 3, none⟩ (.int .i64 (t : Int)))) := ((G2'.out.perm (List.Perm.swap _ _ _)).put 3 (by simp [vF]) (.int .i64 (t : Int))).perm (List.Perm.swap _ _ _)
  obtain ⟨e0, _⟩ := P2.out.bcell (q := nb) (vs := (vF 6 (i : Int) (s : Int) (t : Int) 0 0 ⟨#[]⟩ ⟨#[]⟩ 0 ⟨#[]⟩)) (by simp) 0 _ rfl
  clear G2'
  have HPZ : Hid (Has B w (BlockR rb zN :: RdR q S (5) :: BlockR nb (vF 6 (i : Int) (s : Int) (t : Int) 0 0 ⟨#[]⟩ ⟨#[]⟩ 0 ⟨#[]⟩) :: rs) (v2.setCell ⟨nb, 3, none⟩ (.int .i64 (t : Int)))) := P2.out.perm (List.perm_middle (l₁ := [_, _]) (l₂ := rs))
  clear P2 CN
  obtain ⟨x1, _⟩ := HPZ.out.bcell (q := nb) (vs := (vF 6 (i : Int) (s : Int) (t : Int) 0 0 ⟨#[]⟩ ⟨#[]⟩ 0 ⟨#[]⟩)) (by simp) 1 _ rfl
  obtain ⟨x2, _⟩ := HPZ.out.bcell (q := nb) (vs := (vF 6 (i : Int) (s : Int) (t : Int) 0 0 ⟨#[]⟩ ⟨#[]⟩ 0 ⟨#[]⟩)) (by simp) 2 _ rfl
  obtain ⟨x3, _⟩ := HPZ.out.bcell (q := nb) (vs := (vF 6 (i : Int) (s : Int) (t : Int) 0 0 ⟨#[]⟩ ⟨#[]⟩ 0 ⟨#[]⟩)) (by simp) 3 _ rfl
  obtain ⟨x4, _⟩ := HPZ.out.bcell (q := nb) (vs := (vF 6 (i : Int) (s : Int) (t : Int) 0 0 ⟨#[]⟩ ⟨#[]⟩ 0 ⟨#[]⟩)) (by simp) 4 _ rfl
  obtain ⟨x5, _⟩ := HPZ.out.bcell (q := nb) (vs := (vF 6 (i : Int) (s : Int) (t : Int) 0 0 ⟨#[]⟩ ⟨#[]⟩ 0 ⟨#[]⟩)) (by simp) 5 _ rfl
  obtain ⟨x6, _⟩ := HPZ.out.bcell (q := nb) (vs := (vF 6 (i : Int) (s : Int) (t : Int) 0 0 ⟨#[]⟩ ⟨#[]⟩ 0 ⟨#[]⟩)) (by simp) 6 _ rfl
  obtain ⟨x7, _⟩ := HPZ.out.bcell (q := nb) (vs := (vF 6 (i : Int) (s : Int) (t : Int) 0 0 ⟨#[]⟩ ⟨#[]⟩ 0 ⟨#[]⟩)) (by simp) 7 _ rfl
  obtain ⟨x8, _⟩ := HPZ.out.bcell (q := nb) (vs := (vF 6 (i : Int) (s : Int) (t : Int) 0 0 ⟨#[]⟩ ⟨#[]⟩ 0 ⟨#[]⟩)) (by simp) 8 _ rfl
  obtain ⟨x9, _⟩ := HPZ.out.bcell (q := nb) (vs := (vF 6 (i : Int) (s : Int) (t : Int) 0 0 ⟨#[]⟩ ⟨#[]⟩ 0 ⟨#[]⟩)) (by simp) 9 _ rfl
  obtain ⟨y0, g0⟩ := HPZ.out.bcell (q := rb) (vs := zN) (by simp) 0 _ rfl
  obtain ⟨y1, g1⟩ := HPZ.out.bcell (q := rb) (vs := zN) (by simp) 1 _ rfl
  obtain ⟨y2, g2⟩ := HPZ.out.bcell (q := rb) (vs := zN) (by simp) 2 _ rfl
  obtain ⟨y3, g3⟩ := HPZ.out.bcell (q := rb) (vs := zN) (by simp) 3 _ rfl
  obtain ⟨y4, g4⟩ := HPZ.out.bcell (q := rb) (vs := zN) (by simp) 4 _ rfl
  obtain ⟨y5, g5⟩ := HPZ.out.bcell (q := rb) (vs := zN) (by simp) 5 _ rfl
  obtain ⟨y6, g6⟩ := HPZ.out.bcell (q := rb) (vs := zN) (by simp) 6 _ rfl
  obtain ⟨y7, g7⟩ := HPZ.out.bcell (q := rb) (vs := zN) (by simp) 7 _ rfl
  obtain ⟨y8, g8⟩ := HPZ.out.bcell (q := rb) (vs := zN) (by simp) 8 _ rfl
  obtain ⟨y9, g9⟩ := HPZ.out.bcell (q := rb) (vs := zN) (by simp) 9 _ rfl
  have HQ : Hid (Has B w (BlockR rb (vF 6 (i : Int) (s : Int) (t : Int) 0 0 ⟨#[]⟩ ⟨#[]⟩ 0 ⟨#[]⟩) :: RdR q S (5) :: BlockR nb (vF 6 (i : Int) (s : Int) (t : Int) 0 0 ⟨#[]⟩ ⟨#[]⟩ 0 ⟨#[]⟩) :: rs) (setAll rb 0 (vF 6 (i : Int) (s : Int) (t : Int) 0 0 ⟨#[]⟩ ⟨#[]⟩ 0 ⟨#[]⟩) (v2.setCell ⟨nb, 3, none⟩ (.int .i64 (t : Int))))) := Has.puts (vF 6 (i : Int) (s : Int) (t : Int) 0 0 ⟨#[]⟩ ⟨#[]⟩ 0 ⟨#[]⟩) [] zN HPZ.out rfl
  clear HPZ
  go_wp2_with fail
  have HC : Hid (∀ j u, (vF 6 (i : Int) (s : Int) (t : Int) 0 0 ⟨#[]⟩ ⟨#[]⟩ 0 ⟨#[]⟩)[j]? = some u → (setAll rb 0 (vF 6 (i : Int) (s : Int) (t : Int) 0 0 ⟨#[]⟩ ⟨#[]⟩ 0 ⟨#[]⟩) (v2.setCell ⟨nb, 3, none⟩ (.int .i64 (t : Int)))).cell? ⟨rb, j, none⟩ = some u) := fun j u hu => (HQ.out.bcell (q := rb) (vs := (vF 6 (i : Int) (s : Int) (t : Int) 0 0 ⟨#[]⟩ ⟨#[]⟩ 0 ⟨#[]⟩)) (by simp) j u hu).1
  refine bodyPost_ret (results_row rfl _ _ rb (vF 6 (i : Int) (s : Int) (t : Int) 0 0 ⟨#[]⟩ ⟨#[]⟩ 0 ⟨#[]⟩) _ rfl HC.out Try.underlying56 rfl (by kernel_rfl)) rfl ⟨rfl, ?_⟩
  exact (HQ.out.drop.perm (List.Perm.swap _ _ _)).drop
set_option maxHeartbeats 2000000 in
theorem noteR7 {q i : Nat} {S : ByteArray} (hS : S.size ≤ 4611686018427387904) (h : Has B w (RdR q S 1 :: rs) wr) (tk : PackMath.tn (S.data.toList.drop 1) = (7, 1, 0)) (lk : 1 ≤ S.size) (t0 : PackMath.tn (S.data.toList.drop (2)) = (i, 1, 0)) (l0 : 2 ≤ S.size) :
    Calls Try.prog 34 #[.pointer (some ⟨q, 0, none⟩)] wr fun e w' => e = .returned (.agg (vF 7 (i : Int) 0 0 0 0 ⟨#[]⟩ ⟨#[]⟩ 0 ⟨#[]⟩).toArray) ∧ Has B w (RdR q S (3) :: rs) w' := by
  have CN : Hid (∀ (a n : Nat) (rs : List Res) (wq : World), a ≤ S.size → PackMath.tn (S.data.toList.drop a) = (n, 1, 0) → Has B w (RdR q S a :: rs) wq → Calls Try.prog 37 #[.pointer (some ⟨q, 0, none⟩)] wq fun e w' => e = .returned (.int .i64 (n : Int)) ∧ Hid (Has B w (RdR q S (a + 1) :: rs) w')) := fun a n rs wq ha ht hq => numR_ok hS ha hq ht
  have H0 : Hid (Has B w (RdR q S 1 :: BlockR wr.heap.size zN :: rs) (wr.alloc (.cells #[.int .i64 0, .int .i64 0, .int .i64 0, .int .i64 0, .int .i64 0, .int .i64 0, .string ⟨#[]⟩, .string ⟨#[]⟩, .int .i64 0, .string ⟨#[]⟩] 56))) := (h.box zN 56).perm (List.Perm.swap _ _ _)
  have D1 := CN.out 1 7 _ _ lk tk H0.out
  obtain ⟨rb, hrb⟩ : ∃ rb, wr.heap.size = rb := ⟨_, rfl⟩
  clear h H0
  rw [hrb] at D1
  go_enter Try.func34, Try.ntmps34
  go_wp2_with fail
  refine D1.mono ?_
  rintro e w1 ⟨rfl, H1⟩
  clear hrb
  have HB : Hid (Has B w (RdR q S 2 :: BlockR w1.heap.size (vF 7 0 0 0 0 0 ⟨#[]⟩ ⟨#[]⟩ 0 ⟨#[]⟩) :: BlockR rb zN :: rs) (w1.alloc (.cells #[.int .i64 7, .int .i64 0, .int .i64 0, .int .i64 0, .int .i64 0, .int .i64 0, .string ⟨#[]⟩, .string ⟨#[]⟩, .int .i64 0, .string ⟨#[]⟩] 56))) := (H1.out.box (vF 7 0 0 0 0 0 ⟨#[]⟩ ⟨#[]⟩ 0 ⟨#[]⟩) 56).perm (List.Perm.swap _ _ _)
  have E0 := CN.out (2) i _ _ l0 t0 HB.out
  go_wp2_with fail
  refine E0.mono ?_
  rintro e v0 ⟨rfl, G0⟩
  generalize w1.heap.size = nb at *
  clear E0 HB H1 D1
  have G0' : Hid (Has B w (RdR q S (3) :: BlockR nb (vF 7 0 0 0 0 0 ⟨#[]⟩ ⟨#[]⟩ 0 ⟨#[]⟩) :: BlockR rb zN :: rs) v0) := G0
  clear G0
  obtain ⟨e1, f1⟩ := G0'.out.bcell (q := nb) (vs := (vF 7 0 0 0 0 0 ⟨#[]⟩ ⟨#[]⟩ 0 ⟨#[]⟩)) (by simp) 1 _ rfl
  have P0 : Hid (Has B w (RdR q S (3) :: BlockR nb (vF 7 (i : Int) 0 0 0 0 ⟨#[]⟩ ⟨#[]⟩ 0 ⟨#[]⟩) :: BlockR rb zN :: rs) (v0.setCell ⟨nb, 1, none⟩ (.int .i64 (i : Int)))) := ((G0'.out.perm (List.Perm.swap _ _ _)).put 1 (by simp [vF]) (.int .i64 (i : Int))).perm (List.Perm.swap _ _ _)
  obtain ⟨e0, _⟩ := P0.out.bcell (q := nb) (vs := (vF 7 (i : Int) 0 0 0 0 ⟨#[]⟩ ⟨#[]⟩ 0 ⟨#[]⟩)) (by simp) 0 _ rfl
  clear G0'
  have HPZ : Hid (Has B w (BlockR rb zN :: RdR q S (3) :: BlockR nb (vF 7 (i : Int) 0 0 0 0 ⟨#[]⟩ ⟨#[]⟩ 0 ⟨#[]⟩) :: rs) (v0.setCell ⟨nb, 1, none⟩ (.int .i64 (i : Int)))) := P0.out.perm (List.perm_middle (l₁ := [_, _]) (l₂ := rs))
  clear P0 CN
  obtain ⟨x1, _⟩ := HPZ.out.bcell (q := nb) (vs := (vF 7 (i : Int) 0 0 0 0 ⟨#[]⟩ ⟨#[]⟩ 0 ⟨#[]⟩)) (by simp) 1 _ rfl
  obtain ⟨x2, _⟩ := HPZ.out.bcell (q := nb) (vs := (vF 7 (i : Int) 0 0 0 0 ⟨#[]⟩ ⟨#[]⟩ 0 ⟨#[]⟩)) (by simp) 2 _ rfl
  obtain ⟨x3, _⟩ := HPZ.out.bcell (q := nb) (vs := (vF 7 (i : Int) 0 0 0 0 ⟨#[]⟩ ⟨#[]⟩ 0 ⟨#[]⟩)) (by simp) 3 _ rfl
  obtain ⟨x4, _⟩ := HPZ.out.bcell (q := nb) (vs := (vF 7 (i : Int) 0 0 0 0 ⟨#[]⟩ ⟨#[]⟩ 0 ⟨#[]⟩)) (by simp) 4 _ rfl
  obtain ⟨x5, _⟩ := HPZ.out.bcell (q := nb) (vs := (vF 7 (i : Int) 0 0 0 0 ⟨#[]⟩ ⟨#[]⟩ 0 ⟨#[]⟩)) (by simp) 5 _ rfl
  obtain ⟨x6, _⟩ := HPZ.out.bcell (q := nb) (vs := (vF 7 (i : Int) 0 0 0 0 ⟨#[]⟩ ⟨#[]⟩ 0 ⟨#[]⟩)) (by simp) 6 _ rfl
  obtain ⟨x7, _⟩ := HPZ.out.bcell (q := nb) (vs := (vF 7 (i : Int) 0 0 0 0 ⟨#[]⟩ ⟨#[]⟩ 0 ⟨#[]⟩)) (by simp) 7 _ rfl
  obtain ⟨x8, _⟩ := HPZ.out.bcell (q := nb) (vs := (vF 7 (i : Int) 0 0 0 0 ⟨#[]⟩ ⟨#[]⟩ 0 ⟨#[]⟩)) (by simp) 8 _ rfl
  obtain ⟨x9, _⟩ := HPZ.out.bcell (q := nb) (vs := (vF 7 (i : Int) 0 0 0 0 ⟨#[]⟩ ⟨#[]⟩ 0 ⟨#[]⟩)) (by simp) 9 _ rfl
  obtain ⟨y0, g0⟩ := HPZ.out.bcell (q := rb) (vs := zN) (by simp) 0 _ rfl
  obtain ⟨y1, g1⟩ := HPZ.out.bcell (q := rb) (vs := zN) (by simp) 1 _ rfl
  obtain ⟨y2, g2⟩ := HPZ.out.bcell (q := rb) (vs := zN) (by simp) 2 _ rfl
  obtain ⟨y3, g3⟩ := HPZ.out.bcell (q := rb) (vs := zN) (by simp) 3 _ rfl
  obtain ⟨y4, g4⟩ := HPZ.out.bcell (q := rb) (vs := zN) (by simp) 4 _ rfl
  obtain ⟨y5, g5⟩ := HPZ.out.bcell (q := rb) (vs := zN) (by simp) 5 _ rfl
  obtain ⟨y6, g6⟩ := HPZ.out.bcell (q := rb) (vs := zN) (by simp) 6 _ rfl
  obtain ⟨y7, g7⟩ := HPZ.out.bcell (q := rb) (vs := zN) (by simp) 7 _ rfl
  obtain ⟨y8, g8⟩ := HPZ.out.bcell (q := rb) (vs := zN) (by simp) 8 _ rfl
  obtain ⟨y9, g9⟩ := HPZ.out.bcell (q := rb) (vs := zN) (by simp) 9 _ rfl
  have HQ : Hid (Has B w (BlockR rb (vF 7 (i : Int) 0 0 0 0 ⟨#[]⟩ ⟨#[]⟩ 0 ⟨#[]⟩) :: RdR q S (3) :: BlockR nb (vF 7 (i : Int) 0 0 0 0 ⟨#[]⟩ ⟨#[]⟩ 0 ⟨#[]⟩) :: rs) (setAll rb 0 (vF 7 (i : Int) 0 0 0 0 ⟨#[]⟩ ⟨#[]⟩ 0 ⟨#[]⟩) (v0.setCell ⟨nb, 1, none⟩ (.int .i64 (i : Int))))) := Has.puts (vF 7 (i : Int) 0 0 0 0 ⟨#[]⟩ ⟨#[]⟩ 0 ⟨#[]⟩) [] zN HPZ.out rfl
  clear HPZ
  go_wp2_with fail
  have HC : Hid (∀ j u, (vF 7 (i : Int) 0 0 0 0 ⟨#[]⟩ ⟨#[]⟩ 0 ⟨#[]⟩)[j]? = some u → (setAll rb 0 (vF 7 (i : Int) 0 0 0 0 ⟨#[]⟩ ⟨#[]⟩ 0 ⟨#[]⟩) (v0.setCell ⟨nb, 1, none⟩ (.int .i64 (i : Int)))).cell? ⟨rb, j, none⟩ = some u) := fun j u hu => (HQ.out.bcell (q := rb) (vs := (vF 7 (i : Int) 0 0 0 0 ⟨#[]⟩ ⟨#[]⟩ 0 ⟨#[]⟩)) (by simp) j u hu).1
  refine bodyPost_ret (results_row rfl _ _ rb (vF 7 (i : Int) 0 0 0 0 ⟨#[]⟩ ⟨#[]⟩ 0 ⟨#[]⟩) _ rfl HC.out Try.underlying56 rfl (by kernel_rfl)) rfl ⟨rfl, ?_⟩
  exact (HQ.out.drop.perm (List.Perm.swap _ _ _)).drop
set_option maxHeartbeats 2000000 in
theorem noteR8 {q i p : Nat} {S : ByteArray} (hS : S.size ≤ 4611686018427387904) (h : Has B w (RdR q S 1 :: rs) wr) (tk : PackMath.tn (S.data.toList.drop 1) = (8, 1, 0)) (lk : 1 ≤ S.size) (t0 : PackMath.tn (S.data.toList.drop (2)) = (i, 1, 0)) (l0 : 2 ≤ S.size) (t1 : PackMath.tn (S.data.toList.drop (3)) = (p, 1, 0)) (l1 : 3 ≤ S.size) :
    Calls Try.prog 34 #[.pointer (some ⟨q, 0, none⟩)] wr fun e w' => e = .returned (.agg (vF 8 (i : Int) 0 0 (p : Int) 0 ⟨#[]⟩ ⟨#[]⟩ 0 ⟨#[]⟩).toArray) ∧ Has B w (RdR q S (4) :: rs) w' := by
  have CN : Hid (∀ (a n : Nat) (rs : List Res) (wq : World), a ≤ S.size → PackMath.tn (S.data.toList.drop a) = (n, 1, 0) → Has B w (RdR q S a :: rs) wq → Calls Try.prog 37 #[.pointer (some ⟨q, 0, none⟩)] wq fun e w' => e = .returned (.int .i64 (n : Int)) ∧ Hid (Has B w (RdR q S (a + 1) :: rs) w')) := fun a n rs wq ha ht hq => numR_ok hS ha hq ht
  have H0 : Hid (Has B w (RdR q S 1 :: BlockR wr.heap.size zN :: rs) (wr.alloc (.cells #[.int .i64 0, .int .i64 0, .int .i64 0, .int .i64 0, .int .i64 0, .int .i64 0, .string ⟨#[]⟩, .string ⟨#[]⟩, .int .i64 0, .string ⟨#[]⟩] 56))) := (h.box zN 56).perm (List.Perm.swap _ _ _)
  have D1 := CN.out 1 8 _ _ lk tk H0.out
  obtain ⟨rb, hrb⟩ : ∃ rb, wr.heap.size = rb := ⟨_, rfl⟩
  clear h H0
  rw [hrb] at D1
  go_enter Try.func34, Try.ntmps34
  go_wp2_with fail
  refine D1.mono ?_
  rintro e w1 ⟨rfl, H1⟩
  clear hrb
  have HB : Hid (Has B w (RdR q S 2 :: BlockR w1.heap.size (vF 8 0 0 0 0 0 ⟨#[]⟩ ⟨#[]⟩ 0 ⟨#[]⟩) :: BlockR rb zN :: rs) (w1.alloc (.cells #[.int .i64 8, .int .i64 0, .int .i64 0, .int .i64 0, .int .i64 0, .int .i64 0, .string ⟨#[]⟩, .string ⟨#[]⟩, .int .i64 0, .string ⟨#[]⟩] 56))) := (H1.out.box (vF 8 0 0 0 0 0 ⟨#[]⟩ ⟨#[]⟩ 0 ⟨#[]⟩) 56).perm (List.Perm.swap _ _ _)
  have E0 := CN.out (2) i _ _ l0 t0 HB.out
  go_wp2_with fail
  refine E0.mono ?_
  rintro e v0 ⟨rfl, G0⟩
  generalize w1.heap.size = nb at *
  clear E0 HB H1 D1
  have G0' : Hid (Has B w (RdR q S (3) :: BlockR nb (vF 8 0 0 0 0 0 ⟨#[]⟩ ⟨#[]⟩ 0 ⟨#[]⟩) :: BlockR rb zN :: rs) v0) := G0
  clear G0
  obtain ⟨e1, f1⟩ := G0'.out.bcell (q := nb) (vs := (vF 8 0 0 0 0 0 ⟨#[]⟩ ⟨#[]⟩ 0 ⟨#[]⟩)) (by simp) 1 _ rfl
  have P0 : Hid (Has B w (RdR q S (3) :: BlockR nb (vF 8 (i : Int) 0 0 0 0 ⟨#[]⟩ ⟨#[]⟩ 0 ⟨#[]⟩) :: BlockR rb zN :: rs) (v0.setCell ⟨nb, 1, none⟩ (.int .i64 (i : Int)))) := ((G0'.out.perm (List.Perm.swap _ _ _)).put 1 (by simp [vF]) (.int .i64 (i : Int))).perm (List.Perm.swap _ _ _)
  obtain ⟨e0, _⟩ := P0.out.bcell (q := nb) (vs := (vF 8 (i : Int) 0 0 0 0 ⟨#[]⟩ ⟨#[]⟩ 0 ⟨#[]⟩)) (by simp) 0 _ rfl
  clear G0'
  have E1 := CN.out (3) p _ _ l1 t1 P0.out
  go_wp2_with fail
  refine E1.mono ?_
  rintro e v1 ⟨rfl, G1⟩
  clear E1 P0 e0 e1 f1
  have G1' : Hid (Has B w (RdR q S (4) :: BlockR nb (vF 8 (i : Int) 0 0 0 0 ⟨#[]⟩ ⟨#[]⟩ 0 ⟨#[]⟩) :: BlockR rb zN :: rs) v1) := G1
  clear G1
  obtain ⟨e1, f1⟩ := G1'.out.bcell (q := nb) (vs := (vF 8 (i : Int) 0 0 0 0 ⟨#[]⟩ ⟨#[]⟩ 0 ⟨#[]⟩)) (by simp) 4 _ rfl
  have P1 : Hid (Has B w (RdR q S (4) :: BlockR nb (vF 8 (i : Int) 0 0 (p : Int) 0 ⟨#[]⟩ ⟨#[]⟩ 0 ⟨#[]⟩) :: BlockR rb zN :: rs) (v1.setCell ⟨nb, 4, none⟩ (.int .i64 (p : Int)))) := ((G1'.out.perm (List.Perm.swap _ _ _)).put 4 (by simp [vF]) (.int .i64 (p : Int))).perm (List.Perm.swap _ _ _)
  obtain ⟨e0, _⟩ := P1.out.bcell (q := nb) (vs := (vF 8 (i : Int) 0 0 (p : Int) 0 ⟨#[]⟩ ⟨#[]⟩ 0 ⟨#[]⟩)) (by simp) 0 _ rfl
  clear G1'
  have HPZ : Hid (Has B w (BlockR rb zN :: RdR q S (4) :: BlockR nb (vF 8 (i : Int) 0 0 (p : Int) 0 ⟨#[]⟩ ⟨#[]⟩ 0 ⟨#[]⟩) :: rs) (v1.setCell ⟨nb, 4, none⟩ (.int .i64 (p : Int)))) := P1.out.perm (List.perm_middle (l₁ := [_, _]) (l₂ := rs))
  clear P1 CN
  obtain ⟨x1, _⟩ := HPZ.out.bcell (q := nb) (vs := (vF 8 (i : Int) 0 0 (p : Int) 0 ⟨#[]⟩ ⟨#[]⟩ 0 ⟨#[]⟩)) (by simp) 1 _ rfl
  obtain ⟨x2, _⟩ := HPZ.out.bcell (q := nb) (vs := (vF 8 (i : Int) 0 0 (p : Int) 0 ⟨#[]⟩ ⟨#[]⟩ 0 ⟨#[]⟩)) (by simp) 2 _ rfl
  obtain ⟨x3, _⟩ := HPZ.out.bcell (q := nb) (vs := (vF 8 (i : Int) 0 0 (p : Int) 0 ⟨#[]⟩ ⟨#[]⟩ 0 ⟨#[]⟩)) (by simp) 3 _ rfl
  obtain ⟨x4, _⟩ := HPZ.out.bcell (q := nb) (vs := (vF 8 (i : Int) 0 0 (p : Int) 0 ⟨#[]⟩ ⟨#[]⟩ 0 ⟨#[]⟩)) (by simp) 4 _ rfl
  obtain ⟨x5, _⟩ := HPZ.out.bcell (q := nb) (vs := (vF 8 (i : Int) 0 0 (p : Int) 0 ⟨#[]⟩ ⟨#[]⟩ 0 ⟨#[]⟩)) (by simp) 5 _ rfl
  obtain ⟨x6, _⟩ := HPZ.out.bcell (q := nb) (vs := (vF 8 (i : Int) 0 0 (p : Int) 0 ⟨#[]⟩ ⟨#[]⟩ 0 ⟨#[]⟩)) (by simp) 6 _ rfl
  obtain ⟨x7, _⟩ := HPZ.out.bcell (q := nb) (vs := (vF 8 (i : Int) 0 0 (p : Int) 0 ⟨#[]⟩ ⟨#[]⟩ 0 ⟨#[]⟩)) (by simp) 7 _ rfl
  obtain ⟨x8, _⟩ := HPZ.out.bcell (q := nb) (vs := (vF 8 (i : Int) 0 0 (p : Int) 0 ⟨#[]⟩ ⟨#[]⟩ 0 ⟨#[]⟩)) (by simp) 8 _ rfl
  obtain ⟨x9, _⟩ := HPZ.out.bcell (q := nb) (vs := (vF 8 (i : Int) 0 0 (p : Int) 0 ⟨#[]⟩ ⟨#[]⟩ 0 ⟨#[]⟩)) (by simp) 9 _ rfl
  obtain ⟨y0, g0⟩ := HPZ.out.bcell (q := rb) (vs := zN) (by simp) 0 _ rfl
  obtain ⟨y1, g1⟩ := HPZ.out.bcell (q := rb) (vs := zN) (by simp) 1 _ rfl
  obtain ⟨y2, g2⟩ := HPZ.out.bcell (q := rb) (vs := zN) (by simp) 2 _ rfl
  obtain ⟨y3, g3⟩ := HPZ.out.bcell (q := rb) (vs := zN) (by simp) 3 _ rfl
  obtain ⟨y4, g4⟩ := HPZ.out.bcell (q := rb) (vs := zN) (by simp) 4 _ rfl
  obtain ⟨y5, g5⟩ := HPZ.out.bcell (q := rb) (vs := zN) (by simp) 5 _ rfl
  obtain ⟨y6, g6⟩ := HPZ.out.bcell (q := rb) (vs := zN) (by simp) 6 _ rfl
  obtain ⟨y7, g7⟩ := HPZ.out.bcell (q := rb) (vs := zN) (by simp) 7 _ rfl
  obtain ⟨y8, g8⟩ := HPZ.out.bcell (q := rb) (vs := zN) (by simp) 8 _ rfl
  obtain ⟨y9, g9⟩ := HPZ.out.bcell (q := rb) (vs := zN) (by simp) 9 _ rfl
  have HQ : Hid (Has B w (BlockR rb (vF 8 (i : Int) 0 0 (p : Int) 0 ⟨#[]⟩ ⟨#[]⟩ 0 ⟨#[]⟩) :: RdR q S (4) :: BlockR nb (vF 8 (i : Int) 0 0 (p : Int) 0 ⟨#[]⟩ ⟨#[]⟩ 0 ⟨#[]⟩) :: rs) (setAll rb 0 (vF 8 (i : Int) 0 0 (p : Int) 0 ⟨#[]⟩ ⟨#[]⟩ 0 ⟨#[]⟩) (v1.setCell ⟨nb, 4, none⟩ (.int .i64 (p : Int))))) := Has.puts (vF 8 (i : Int) 0 0 (p : Int) 0 ⟨#[]⟩ ⟨#[]⟩ 0 ⟨#[]⟩) [] zN HPZ.out rfl
  clear HPZ
  go_wp2_with fail
  have HC : Hid (∀ j u, (vF 8 (i : Int) 0 0 (p : Int) 0 ⟨#[]⟩ ⟨#[]⟩ 0 ⟨#[]⟩)[j]? = some u → (setAll rb 0 (vF 8 (i : Int) 0 0 (p : Int) 0 ⟨#[]⟩ ⟨#[]⟩ 0 ⟨#[]⟩) (v1.setCell ⟨nb, 4, none⟩ (.int .i64 (p : Int)))).cell? ⟨rb, j, none⟩ = some u) := fun j u hu => (HQ.out.bcell (q := rb) (vs := (vF 8 (i : Int) 0 0 (p : Int) 0 ⟨#[]⟩ ⟨#[]⟩ 0 ⟨#[]⟩)) (by simp) j u hu).1
  refine bodyPost_ret (results_row rfl _ _ rb (vF 8 (i : Int) 0 0 (p : Int) 0 ⟨#[]⟩ ⟨#[]⟩ 0 ⟨#[]⟩) _ rfl HC.out Try.underlying56 rfl (by kernel_rfl)) rfl ⟨rfl, ?_⟩
  exact (HQ.out.drop.perm (List.Perm.swap _ _ _)).drop
set_option maxHeartbeats 2000000 in
theorem noteR9 {q i t c : Nat} {S : ByteArray} (hS : S.size ≤ 4611686018427387904) (h : Has B w (RdR q S 1 :: rs) wr) (tk : PackMath.tn (S.data.toList.drop 1) = (9, 1, 0)) (lk : 1 ≤ S.size) (t0 : PackMath.tn (S.data.toList.drop (2)) = (i, 1, 0)) (l0 : 2 ≤ S.size) (t1 : PackMath.tn (S.data.toList.drop (3)) = (t, 1, 0)) (l1 : 3 ≤ S.size) (t2 : PackMath.tn (S.data.toList.drop (4)) = (c, 1, 0)) (l2 : 4 ≤ S.size) :
    Calls Try.prog 34 #[.pointer (some ⟨q, 0, none⟩)] wr fun e w' => e = .returned (.agg (vF 9 (i : Int) 0 (t : Int) 0 (c : Int) ⟨#[]⟩ ⟨#[]⟩ 0 ⟨#[]⟩).toArray) ∧ Has B w (RdR q S (5) :: rs) w' := by
  have CN : Hid (∀ (a n : Nat) (rs : List Res) (wq : World), a ≤ S.size → PackMath.tn (S.data.toList.drop a) = (n, 1, 0) → Has B w (RdR q S a :: rs) wq → Calls Try.prog 37 #[.pointer (some ⟨q, 0, none⟩)] wq fun e w' => e = .returned (.int .i64 (n : Int)) ∧ Hid (Has B w (RdR q S (a + 1) :: rs) w')) := fun a n rs wq ha ht hq => numR_ok hS ha hq ht
  have H0 : Hid (Has B w (RdR q S 1 :: BlockR wr.heap.size zN :: rs) (wr.alloc (.cells #[.int .i64 0, .int .i64 0, .int .i64 0, .int .i64 0, .int .i64 0, .int .i64 0, .string ⟨#[]⟩, .string ⟨#[]⟩, .int .i64 0, .string ⟨#[]⟩] 56))) := (h.box zN 56).perm (List.Perm.swap _ _ _)
  have D1 := CN.out 1 9 _ _ lk tk H0.out
  obtain ⟨rb, hrb⟩ : ∃ rb, wr.heap.size = rb := ⟨_, rfl⟩
  clear h H0
  rw [hrb] at D1
  go_enter Try.func34, Try.ntmps34
  go_wp2_with fail
  refine D1.mono ?_
  rintro e w1 ⟨rfl, H1⟩
  clear hrb
  have HB : Hid (Has B w (RdR q S 2 :: BlockR w1.heap.size (vF 9 0 0 0 0 0 ⟨#[]⟩ ⟨#[]⟩ 0 ⟨#[]⟩) :: BlockR rb zN :: rs) (w1.alloc (.cells #[.int .i64 9, .int .i64 0, .int .i64 0, .int .i64 0, .int .i64 0, .int .i64 0, .string ⟨#[]⟩, .string ⟨#[]⟩, .int .i64 0, .string ⟨#[]⟩] 56))) := (H1.out.box (vF 9 0 0 0 0 0 ⟨#[]⟩ ⟨#[]⟩ 0 ⟨#[]⟩) 56).perm (List.Perm.swap _ _ _)
  have E0 := CN.out (2) i _ _ l0 t0 HB.out
  go_wp2_with fail
  refine E0.mono ?_
  rintro e v0 ⟨rfl, G0⟩
  generalize w1.heap.size = nb at *
  clear E0 HB H1 D1
  have G0' : Hid (Has B w (RdR q S (3) :: BlockR nb (vF 9 0 0 0 0 0 ⟨#[]⟩ ⟨#[]⟩ 0 ⟨#[]⟩) :: BlockR rb zN :: rs) v0) := G0
  clear G0
  obtain ⟨e1, f1⟩ := G0'.out.bcell (q := nb) (vs := (vF 9 0 0 0 0 0 ⟨#[]⟩ ⟨#[]⟩ 0 ⟨#[]⟩)) (by simp) 1 _ rfl
  have P0 : Hid (Has B w (RdR q S (3) :: BlockR nb (vF 9 (i : Int) 0 0 0 0 ⟨#[]⟩ ⟨#[]⟩ 0 ⟨#[]⟩) :: BlockR rb zN :: rs) (v0.setCell ⟨nb, 1, none⟩ (.int .i64 (i : Int)))) := ((G0'.out.perm (List.Perm.swap _ _ _)).put 1 (by simp [vF]) (.int .i64 (i : Int))).perm (List.Perm.swap _ _ _)
  obtain ⟨e0, _⟩ := P0.out.bcell (q := nb) (vs := (vF 9 (i : Int) 0 0 0 0 ⟨#[]⟩ ⟨#[]⟩ 0 ⟨#[]⟩)) (by simp) 0 _ rfl
  clear G0'
  have E1 := CN.out (3) t _ _ l1 t1 P0.out
  go_wp2_with fail
  refine E1.mono ?_
  rintro e v1 ⟨rfl, G1⟩
  clear E1 P0 e0 e1 f1
  have G1' : Hid (Has B w (RdR q S (4) :: BlockR nb (vF 9 (i : Int) 0 0 0 0 ⟨#[]⟩ ⟨#[]⟩ 0 ⟨#[]⟩) :: BlockR rb zN :: rs) v1) := G1
  clear G1
  obtain ⟨e1, f1⟩ := G1'.out.bcell (q := nb) (vs := (vF 9 (i : Int) 0 0 0 0 ⟨#[]⟩ ⟨#[]⟩ 0 ⟨#[]⟩)) (by simp) 3 _ rfl
  have P1 : Hid (Has B w (RdR q S (4) :: BlockR nb (vF 9 (i : Int) 0 (t : Int) 0 0 ⟨#[]⟩ ⟨#[]⟩ 0 ⟨#[]⟩) :: BlockR rb zN :: rs) (v1.setCell ⟨nb, 3, none⟩ (.int .i64 (t : Int)))) := ((G1'.out.perm (List.Perm.swap _ _ _)).put 3 (by simp [vF]) (.int .i64 (t : Int))).perm (List.Perm.swap _ _ _)
  obtain ⟨e0, _⟩ := P1.out.bcell (q := nb) (vs := (vF 9 (i : Int) 0 (t : Int) 0 0 ⟨#[]⟩ ⟨#[]⟩ 0 ⟨#[]⟩)) (by simp) 0 _ rfl
  clear G1'
  have E2 := CN.out (4) c _ _ l2 t2 P1.out
  go_wp2_with fail
  refine E2.mono ?_
  rintro e v2 ⟨rfl, G2⟩
  clear E2 P1 e0 e1 f1
  have G2' : Hid (Has B w (RdR q S (5) :: BlockR nb (vF 9 (i : Int) 0 (t : Int) 0 0 ⟨#[]⟩ ⟨#[]⟩ 0 ⟨#[]⟩) :: BlockR rb zN :: rs) v2) := G2
  clear G2
  obtain ⟨e1, f1⟩ := G2'.out.bcell (q := nb) (vs := (vF 9 (i : Int) 0 (t : Int) 0 0 ⟨#[]⟩ ⟨#[]⟩ 0 ⟨#[]⟩)) (by simp) 5 _ rfl
  have P2 : Hid (Has B w (RdR q S (5) :: BlockR nb (vF 9 (i : Int) 0 (t : Int) 0 (c : Int) ⟨#[]⟩ ⟨#[]⟩ 0 ⟨#[]⟩) :: BlockR rb zN :: rs) (v2.setCell ⟨nb, 5, none⟩ (.int .i64 (c : Int)))) := ((G2'.out.perm (List.Perm.swap _ _ _)).put 5 (by simp [vF]) (.int .i64 (c : Int))).perm (List.Perm.swap _ _ _)
  obtain ⟨e0, _⟩ := P2.out.bcell (q := nb) (vs := (vF 9 (i : Int) 0 (t : Int) 0 (c : Int) ⟨#[]⟩ ⟨#[]⟩ 0 ⟨#[]⟩)) (by simp) 0 _ rfl
  clear G2'
  have HPZ : Hid (Has B w (BlockR rb zN :: RdR q S (5) :: BlockR nb (vF 9 (i : Int) 0 (t : Int) 0 (c : Int) ⟨#[]⟩ ⟨#[]⟩ 0 ⟨#[]⟩) :: rs) (v2.setCell ⟨nb, 5, none⟩ (.int .i64 (c : Int)))) := P2.out.perm (List.perm_middle (l₁ := [_, _]) (l₂ := rs))
  clear P2 CN
  obtain ⟨x1, _⟩ := HPZ.out.bcell (q := nb) (vs := (vF 9 (i : Int) 0 (t : Int) 0 (c : Int) ⟨#[]⟩ ⟨#[]⟩ 0 ⟨#[]⟩)) (by simp) 1 _ rfl
  obtain ⟨x2, _⟩ := HPZ.out.bcell (q := nb) (vs := (vF 9 (i : Int) 0 (t : Int) 0 (c : Int) ⟨#[]⟩ ⟨#[]⟩ 0 ⟨#[]⟩)) (by simp) 2 _ rfl
  obtain ⟨x3, _⟩ := HPZ.out.bcell (q := nb) (vs := (vF 9 (i : Int) 0 (t : Int) 0 (c : Int) ⟨#[]⟩ ⟨#[]⟩ 0 ⟨#[]⟩)) (by simp) 3 _ rfl
  obtain ⟨x4, _⟩ := HPZ.out.bcell (q := nb) (vs := (vF 9 (i : Int) 0 (t : Int) 0 (c : Int) ⟨#[]⟩ ⟨#[]⟩ 0 ⟨#[]⟩)) (by simp) 4 _ rfl
  obtain ⟨x5, _⟩ := HPZ.out.bcell (q := nb) (vs := (vF 9 (i : Int) 0 (t : Int) 0 (c : Int) ⟨#[]⟩ ⟨#[]⟩ 0 ⟨#[]⟩)) (by simp) 5 _ rfl
  obtain ⟨x6, _⟩ := HPZ.out.bcell (q := nb) (vs := (vF 9 (i : Int) 0 (t : Int) 0 (c : Int) ⟨#[]⟩ ⟨#[]⟩ 0 ⟨#[]⟩)) (by simp) 6 _ rfl
  obtain ⟨x7, _⟩ := HPZ.out.bcell (q := nb) (vs := (vF 9 (i : Int) 0 (t : Int) 0 (c : Int) ⟨#[]⟩ ⟨#[]⟩ 0 ⟨#[]⟩)) (by simp) 7 _ rfl
  obtain ⟨x8, _⟩ := HPZ.out.bcell (q := nb) (vs := (vF 9 (i : Int) 0 (t : Int) 0 (c : Int) ⟨#[]⟩ ⟨#[]⟩ 0 ⟨#[]⟩)) (by simp) 8 _ rfl
  obtain ⟨x9, _⟩ := HPZ.out.bcell (q := nb) (vs := (vF 9 (i : Int) 0 (t : Int) 0 (c : Int) ⟨#[]⟩ ⟨#[]⟩ 0 ⟨#[]⟩)) (by simp) 9 _ rfl
  obtain ⟨y0, g0⟩ := HPZ.out.bcell (q := rb) (vs := zN) (by simp) 0 _ rfl
  obtain ⟨y1, g1⟩ := HPZ.out.bcell (q := rb) (vs := zN) (by simp) 1 _ rfl
  obtain ⟨y2, g2⟩ := HPZ.out.bcell (q := rb) (vs := zN) (by simp) 2 _ rfl
  obtain ⟨y3, g3⟩ := HPZ.out.bcell (q := rb) (vs := zN) (by simp) 3 _ rfl
  obtain ⟨y4, g4⟩ := HPZ.out.bcell (q := rb) (vs := zN) (by simp) 4 _ rfl
  obtain ⟨y5, g5⟩ := HPZ.out.bcell (q := rb) (vs := zN) (by simp) 5 _ rfl
  obtain ⟨y6, g6⟩ := HPZ.out.bcell (q := rb) (vs := zN) (by simp) 6 _ rfl
  obtain ⟨y7, g7⟩ := HPZ.out.bcell (q := rb) (vs := zN) (by simp) 7 _ rfl
  obtain ⟨y8, g8⟩ := HPZ.out.bcell (q := rb) (vs := zN) (by simp) 8 _ rfl
  obtain ⟨y9, g9⟩ := HPZ.out.bcell (q := rb) (vs := zN) (by simp) 9 _ rfl
  have HQ : Hid (Has B w (BlockR rb (vF 9 (i : Int) 0 (t : Int) 0 (c : Int) ⟨#[]⟩ ⟨#[]⟩ 0 ⟨#[]⟩) :: RdR q S (5) :: BlockR nb (vF 9 (i : Int) 0 (t : Int) 0 (c : Int) ⟨#[]⟩ ⟨#[]⟩ 0 ⟨#[]⟩) :: rs) (setAll rb 0 (vF 9 (i : Int) 0 (t : Int) 0 (c : Int) ⟨#[]⟩ ⟨#[]⟩ 0 ⟨#[]⟩) (v2.setCell ⟨nb, 5, none⟩ (.int .i64 (c : Int))))) := Has.puts (vF 9 (i : Int) 0 (t : Int) 0 (c : Int) ⟨#[]⟩ ⟨#[]⟩ 0 ⟨#[]⟩) [] zN HPZ.out rfl
  clear HPZ
  go_wp2_with fail
  have HC : Hid (∀ j u, (vF 9 (i : Int) 0 (t : Int) 0 (c : Int) ⟨#[]⟩ ⟨#[]⟩ 0 ⟨#[]⟩)[j]? = some u → (setAll rb 0 (vF 9 (i : Int) 0 (t : Int) 0 (c : Int) ⟨#[]⟩ ⟨#[]⟩ 0 ⟨#[]⟩) (v2.setCell ⟨nb, 5, none⟩ (.int .i64 (c : Int)))).cell? ⟨rb, j, none⟩ = some u) := fun j u hu => (HQ.out.bcell (q := rb) (vs := (vF 9 (i : Int) 0 (t : Int) 0 (c : Int) ⟨#[]⟩ ⟨#[]⟩ 0 ⟨#[]⟩)) (by simp) j u hu).1
  refine bodyPost_ret (results_row rfl _ _ rb (vF 9 (i : Int) 0 (t : Int) 0 (c : Int) ⟨#[]⟩ ⟨#[]⟩ 0 ⟨#[]⟩) _ rfl HC.out Try.underlying56 rfl (by kernel_rfl)) rfl ⟨rfl, ?_⟩
  exact (HQ.out.drop.perm (List.Perm.swap _ _ _)).drop
end
end Go.Proofs.Ytbgankldnjeohaa.Pl
