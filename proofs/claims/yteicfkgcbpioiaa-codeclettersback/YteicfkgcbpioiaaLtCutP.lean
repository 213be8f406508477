/- A letter's form cut short by its last byte: whoever reads it gives up. -/
import Derived.Test.YteicfkgcbpioiaaLtTopP
set_option linter.unusedVariables false
set_option linter.unusedSimpArgs false
set_option maxRecDepth 100000
namespace Go.Proofs.Yteicfkgcbpioiaa.Pl
open Go.RowKit Go.Proofs.Yteicfkgcbpioiaa

section
variable {B : Nat} {w wr : World} {rs : List Res}
theorem pass_no {q : Nat} {x e : Int} (he : e ≠ 0) (wr : World) : Calls Try.prog 42 #[.pointer (some ⟨q, 0, none⟩), .int .i64 x, .int .i64 e] wr fun en w' => en = gave ∧ w' = wr := by
  have he' : (e == 0) = false := beq_eq_false_iff_ne.2 he
  go_enter Try.func42, Try.ntmps42
  go_wp2_with fail
  refine (giveUp_any _).mono ?_
  rintro en w2 ⟨rfl, hw⟩
  rw [hw]
  go_wp2
  exact bodyPost_dies rfl ⟨rfl, rfl⟩
set_option maxHeartbeats 1000000 in
theorem numR_no {q a n c e : Nat} {S : ByteArray} (hS : S.size ≤ 4611686018427387904) (ha : a ≤ S.size) (h : Has B w (RdR q S a :: rs) wr) (ht : PackMath.tn (S.data.toList.drop a) = (n, c, e)) (he : e ≠ 0) :
    Calls Try.prog 38 #[.pointer (some ⟨q, 0, none⟩)] wr fun en w' => en = gave ∧ Hid (Has B w (RdR q S a :: rs) w') := by
  have HD : Hid (∀ m, Has B w (RdR q S a :: rs) (wr.drewN m)) := fun m => h.below (below_drewN (Below.refl _ _) m)
  have HT : Hid (∀ w, Calls Try.prog 41 #[.string S, .int .i64 (a : Int)] w fun en w' => en = .returned (.tuple #[.int .i64 (n : Int), .int .i64 0, .int .i64 (e : Int)]) ∧ w' = w) := fun w => by
    have x := Pk.takeNum_any S a hS ha w
    rw [Pk.tnV_of ht, if_neg he] at x
    exact x
  have CP : Hid (∀ wq, Calls Try.prog 42 #[.pointer (some ⟨q, 0, none⟩), .int .i64 0, .int .i64 (e : Int)] wq fun en w' => en = gave ∧ w' = wq) := fun wq => pass_no (by omega) wq
  obtain ⟨c0, f0⟩ := h.bcell (q := q) (vs := [.string S, .int .i64 (a : Int)]) List.mem_cons_self 0 _ rfl
  obtain ⟨c1, f1⟩ := h.bcell (q := q) (vs := [.string S, .int .i64 (a : Int)]) List.mem_cons_self 1 _ rfl
  clear h ht hS ha he
  go_enter Try.func38, Try.ntmps38
  go_wp2_with fail
  go_quiet ((go_at_call 41; exact Calls.quiet_of_same (HT.out _)))
  go_wp2_with fail
  refine (CP.out _).mono ?_
  rintro en w2 ⟨rfl, hw2⟩
  rw [hw2]
  go_wp2_with fail
  exact bodyPost_dies rfl ⟨rfl, HD.out _⟩
set_option maxHeartbeats 2000000 in
theorem keysR_no {q a c e : Nat} {S : ByteArray} {xs : List (List UInt8)} (hS : S.size ≤ 4611686018427387904) (ha : a ≤ S.size) (h : Has B w (RdR q S a :: rs) wr) (ht : PackMath.tl (S.data.toList.drop a) = (xs, c, e)) (he : e ≠ 0) :
    Calls Try.prog 39 #[.pointer (some ⟨q, 0, none⟩)] wr fun en w' => en = gave ∧ Hid (Has B w (RdR q S a :: rs) w') := by
  have HT : Hid (∀ wq, Hid (Has B w (RdR q S a :: rs) wq) → Calls Try.prog 43 #[.string S, .int .i64 (a : Int)] wq fun en w' => ∃ ao cap, en = .returned (.tuple #[.slice ao xs.length cap, .int .i64 0, .int .i64 (e : Int)]) ∧
      w'.cell? ⟨q, 0, none⟩ = some (.string S) ∧ w'.cell? ⟨q, 1, none⟩ = some (.int .i64 (a : Int)) ∧ Hid (Has B w (RdR q S a :: rs) w')) := fun wq hq => by
    refine (Pk.takeList_any S a hS ha wq).mono ?_
    rintro en w' ⟨v, xs', c', e', h1, h2, h3, h4, h5⟩
    rw [ht] at h1
    obtain ⟨rfl, rfl, rfl⟩ : xs = xs' ∧ c = c' ∧ e = e' := by simpa using h1
    obtain ⟨ao, cap, rfl, _⟩ := own_form h4
    have y : Has B w (RdR q S a :: rs) w' := hq.out.below h5
    rw [if_neg he] at h2
    exact ⟨ao, cap, h2, (y.bcell (q := q) (vs := [.string S, .int .i64 (a : Int)]) List.mem_cons_self 0 _ rfl).1, (y.bcell (q := q) (vs := [.string S, .int .i64 (a : Int)]) List.mem_cons_self 1 _ rfl).1, y⟩
  have CP : Hid (∀ wq, Calls Try.prog 42 #[.pointer (some ⟨q, 0, none⟩), .int .i64 0, .int .i64 (e : Int)] wq fun en w' => en = gave ∧ w' = wq) := fun wq => pass_no (by omega) wq
  have HD : Hid (∀ m, Hid (Has B w (RdR q S a :: rs) (wr.drewN m))) := fun m => h.below (below_drewN (Below.refl _ _) m)
  have H1 : Hid (Has B w (RdR q S a :: rs) wr.drew) := h.below (by go_grown)
  have H0 : Hid (Has B w (RdR q S a :: rs) wr) := h
  obtain ⟨c0, f0⟩ := h.bcell (q := q) (vs := [.string S, .int .i64 (a : Int)]) List.mem_cons_self 0 _ rfl
  obtain ⟨c1, f1⟩ := h.bcell (q := q) (vs := [.string S, .int .i64 (a : Int)]) List.mem_cons_self 1 _ rfl
  clear h ht hS ha he
  go_enter Try.func39, Try.ntmps39
  go_wp2_with fail
  go_region_held3 (fun w' => w'.cell? ⟨q, 0, none⟩ = some (.string S) ∧ w'.cell? ⟨q, 1, none⟩ = some (.int .i64 (a : Int))) (go_keep) (first | (go_at_call 43; refine (HT.out _ (by first | exact H1 | exact H0 | exact HD.out _)).mono ?_; rintro en w2 ⟨ao, cap, rfl, m0, m1, H2⟩))
  all_goals go_wp2_with fail
  all_goals refine (CP.out _).mono ?_
  all_goals rintro en w3 ⟨rfl, hw3⟩
  all_goals rw [hw3]
  all_goals go_wp2_with fail
  all_goals exact bodyPost_dies rfl ⟨rfl, by first | exact H2 | exact H2.out.below (by go_grown)⟩
set_option maxHeartbeats 2000000 in
theorem ltC3 {q p c e n : Nat} {S : ByteArray} (hS : S.size ≤ 4611686018427387904) (hS3 : 3 ≤ S.size) (h : Has B w (RdR q S 1 :: rs) wr) (tk : PackMath.tn (S.data.toList.drop 1) = (3, 1, 0)) (t0 : PackMath.tn (S.data.toList.drop 2) = (p, 1, 0)) (tq : PackMath.tn (S.data.toList.drop 3) = (n, c, e)) (he : e ≠ 0) :
    Calls Try.prog 33 #[.pointer (some ⟨q, 0, none⟩)] wr fun en w' => en = gave ∧ Hid (Has B w rs w') := by
  have CN : Hid (∀ (a n : Nat) (rs : List Res) (wq : World), a ≤ S.size → PackMath.tn (S.data.toList.drop a) = (n, 1, 0) → Has B w (RdR q S a :: rs) wq → Calls Try.prog 38 #[.pointer (some ⟨q, 0, none⟩)] wq fun e w' => e = .returned (.int .i64 (n : Int)) ∧ Hid (Has B w (RdR q S (a + 1) :: rs) w')) := fun a n rs wq ha ht hq => numR_ok hS ha hq ht
  have CX : Hid (∀ (rs : List Res) (wq : World), Has B w (RdR q S 3 :: rs) wq → Calls Try.prog 38 #[.pointer (some ⟨q, 0, none⟩)] wq fun en w' => en = gave ∧ Hid (Has B w (RdR q S 3 :: rs) w')) := fun rs wq hq => numR_no hS hS3 hq tq he
  have H0 : Hid (Has B w (RdR q S 1 :: BlockR (wr.heap.size + 1) (vL 0 0 0 0 0 nilS) :: BlockR wr.heap.size (vL 0 0 0 0 0 nilS) :: rs) ((wr.alloc (.cells #[.int .i64 0, .int .i64 0, .int .i64 0, .int .i64 0, .int .i64 0, .slice none 0 0] 52)).alloc (.cells #[.int .i64 0, .int .i64 0, .int .i64 0, .int .i64 0, .int .i64 0, .slice none 0 0] 52))) := by
    have x := ((h.box (vL 0 0 0 0 0 nilS) 52).box (vL 0 0 0 0 0 nilS) 52)
    rw [World.size_alloc] at x
    exact x.perm ((List.perm_middle (l₁ := [_, _]) (l₂ := rs)))
  have E := CN.out 1 3 _ _ (by omega) tk H0.out
  obtain ⟨rb, hrb⟩ : ∃ rb, wr.heap.size = rb := ⟨_, rfl⟩
  clear h H0
  rw [hrb] at E
  go_enter Try.func33, Try.ntmps33
  go_wp2_with fail
  refine E.mono ?_
  rintro e v0 ⟨rfl, G0⟩
  obtain ⟨nb, hnb⟩ : ∃ nb, rb + 1 = nb := ⟨_, rfl⟩
  rw [hnb] at G0
  have P0 : Hid (Has B w (RdR q S 2 :: BlockR nb (vL 3 0 0 0 0 nilS) :: BlockR rb (vL 0 0 0 0 0 nilS) :: rs) (v0.setCell ⟨nb, 0, none⟩ (.int .i64 3))) := ((G0.out.perm (List.Perm.swap _ _ _)).put 0 (by simp [vL]) (.int .i64 3)).perm (List.Perm.swap _ _ _)
  obtain ⟨e1, f1⟩ := G0.out.bcell (q := nb) (vs := (vL 0 0 0 0 0 nilS)) (by simp) 0 _ rfl
  obtain ⟨e0, _⟩ := P0.out.bcell (q := nb) (vs := (vL 3 0 0 0 0 nilS)) (by simp) 0 _ rfl
  clear E G0 hrb
  have E := CN.out 2 p _ _ (by omega) t0 P0.out
  go_wp2_with fail
  refine E.mono ?_
  rintro e v1 ⟨rfl, G1⟩
  have P1 : Hid (Has B w (RdR q S 3 :: BlockR nb (vL 3 (p : Int) 0 0 0 nilS) :: BlockR rb (vL 0 0 0 0 0 nilS) :: rs) (v1.setCell ⟨nb, 1, none⟩ (.int .i64 (p : Int)))) := ((G1.out.perm (List.Perm.swap _ _ _)).put 1 (by simp [vL]) (.int .i64 (p : Int))).perm (List.Perm.swap _ _ _)
  clear e0 e1 f1
  obtain ⟨e1, f1⟩ := G1.out.bcell (q := nb) (vs := (vL 3 0 0 0 0 nilS)) (by simp) 1 _ rfl
  obtain ⟨e0, _⟩ := P1.out.bcell (q := nb) (vs := (vL 3 (p : Int) 0 0 0 nilS)) (by simp) 0 _ rfl
  clear E G1 P0
  have E := CX.out _ _ P1.out
  clear CX CN tq
  go_wp2_with fail
  refine E.mono ?_
  rintro en w4 ⟨rfl, H4⟩
  have HZ : Hid (Has B w rs w4) := H4.out.drop.drop.drop
  clear E H4 P1
  go_wp2_with fail
  exact bodyPost_dies rfl ⟨rfl, HZ⟩
set_option maxHeartbeats 2000000 in
theorem ltC9 {q p c e n : Nat} {S : ByteArray} (hS : S.size ≤ 4611686018427387904) (hS3 : 3 ≤ S.size) (h : Has B w (RdR q S 1 :: rs) wr) (tk : PackMath.tn (S.data.toList.drop 1) = (9, 1, 0)) (t0 : PackMath.tn (S.data.toList.drop 2) = (p, 1, 0)) (tq : PackMath.tn (S.data.toList.drop 3) = (n, c, e)) (he : e ≠ 0) :
    Calls Try.prog 33 #[.pointer (some ⟨q, 0, none⟩)] wr fun en w' => en = gave ∧ Hid (Has B w rs w') := by
  have CN : Hid (∀ (a n : Nat) (rs : List Res) (wq : World), a ≤ S.size → PackMath.tn (S.data.toList.drop a) = (n, 1, 0) → Has B w (RdR q S a :: rs) wq → Calls Try.prog 38 #[.pointer (some ⟨q, 0, none⟩)] wq fun e w' => e = .returned (.int .i64 (n : Int)) ∧ Hid (Has B w (RdR q S (a + 1) :: rs) w')) := fun a n rs wq ha ht hq => numR_ok hS ha hq ht
  have CX : Hid (∀ (rs : List Res) (wq : World), Has B w (RdR q S 3 :: rs) wq → Calls Try.prog 38 #[.pointer (some ⟨q, 0, none⟩)] wq fun en w' => en = gave ∧ Hid (Has B w (RdR q S 3 :: rs) w')) := fun rs wq hq => numR_no hS hS3 hq tq he
  have H0 : Hid (Has B w (RdR q S 1 :: BlockR (wr.heap.size + 1) (vL 0 0 0 0 0 nilS) :: BlockR wr.heap.size (vL 0 0 0 0 0 nilS) :: rs) ((wr.alloc (.cells #[.int .i64 0, .int .i64 0, .int .i64 0, .int .i64 0, .int .i64 0, .slice none 0 0] 52)).alloc (.cells #[.int .i64 0, .int .i64 0, .int .i64 0, .int .i64 0, .int .i64 0, .slice none 0 0] 52))) := by
    have x := ((h.box (vL 0 0 0 0 0 nilS) 52).box (vL 0 0 0 0 0 nilS) 52)
    rw [World.size_alloc] at x
    exact x.perm ((List.perm_middle (l₁ := [_, _]) (l₂ := rs)))
  have E := CN.out 1 9 _ _ (by omega) tk H0.out
  obtain ⟨rb, hrb⟩ : ∃ rb, wr.heap.size = rb := ⟨_, rfl⟩
  clear h H0
  rw [hrb] at E
  go_enter Try.func33, Try.ntmps33
  go_wp2_with fail
  refine E.mono ?_
  rintro e v0 ⟨rfl, G0⟩
  obtain ⟨nb, hnb⟩ : ∃ nb, rb + 1 = nb := ⟨_, rfl⟩
  rw [hnb] at G0
  have P0 : Hid (Has B w (RdR q S 2 :: BlockR nb (vL 9 0 0 0 0 nilS) :: BlockR rb (vL 0 0 0 0 0 nilS) :: rs) (v0.setCell ⟨nb, 0, none⟩ (.int .i64 9))) := ((G0.out.perm (List.Perm.swap _ _ _)).put 0 (by simp [vL]) (.int .i64 9)).perm (List.Perm.swap _ _ _)
  obtain ⟨e1, f1⟩ := G0.out.bcell (q := nb) (vs := (vL 0 0 0 0 0 nilS)) (by simp) 0 _ rfl
  obtain ⟨e0, _⟩ := P0.out.bcell (q := nb) (vs := (vL 9 0 0 0 0 nilS)) (by simp) 0 _ rfl
  clear E G0 hrb
  have E := CN.out 2 p _ _ (by omega) t0 P0.out
  go_wp2_with fail
  refine E.mono ?_
  rintro e v1 ⟨rfl, G1⟩
  have P1 : Hid (Has B w (RdR q S 3 :: BlockR nb (vL 9 (p : Int) 0 0 0 nilS) :: BlockR rb (vL 0 0 0 0 0 nilS) :: rs) (v1.setCell ⟨nb, 1, none⟩ (.int .i64 (p : Int)))) := ((G1.out.perm (List.Perm.swap _ _ _)).put 1 (by simp [vL]) (.int .i64 (p : Int))).perm (List.Perm.swap _ _ _)
  clear e0 e1 f1
  obtain ⟨e1, f1⟩ := G1.out.bcell (q := nb) (vs := (vL 9 0 0 0 0 nilS)) (by simp) 1 _ rfl
  obtain ⟨e0, _⟩ := P1.out.bcell (q := nb) (vs := (vL 9 (p : Int) 0 0 0 nilS)) (by simp) 0 _ rfl
  clear E G1 P0
  have E := CX.out _ _ P1.out
  clear CX CN tq
  go_wp2_with fail
  refine E.mono ?_
  rintro en w4 ⟨rfl, H4⟩
  have HZ : Hid (Has B w rs w4) := H4.out.drop.drop.drop
  clear E H4 P1
  go_wp2_with fail
  exact bodyPost_dies rfl ⟨rfl, HZ⟩
set_option maxHeartbeats 2000000 in
theorem ltCK {q k p i c e n : Nat} {S : ByteArray} (hS : S.size ≤ 4611686018427387904) (hS3 : 4 ≤ S.size) (h : Has B w (RdR q S 1 :: rs) wr) (tk : PackMath.tn (S.data.toList.drop 1) = (k, 1, 0)) (t0 : PackMath.tn (S.data.toList.drop 2) = (p, 1, 0)) (t1 : PackMath.tn (S.data.toList.drop 3) = (i, 1, 0)) (tq : PackMath.tn (S.data.toList.drop 4) = (n, c, e)) (he : e ≠ 0) (k1 : k ≠ 1) (k3 : k ≠ 3) (k9 : k ≠ 9) :
    Calls Try.prog 33 #[.pointer (some ⟨q, 0, none⟩)] wr fun en w' => en = gave ∧ Hid (Has B w rs w') := by
  have CN : Hid (∀ (a n : Nat) (rs : List Res) (wq : World), a ≤ S.size → PackMath.tn (S.data.toList.drop a) = (n, 1, 0) → Has B w (RdR q S a :: rs) wq → Calls Try.prog 38 #[.pointer (some ⟨q, 0, none⟩)] wq fun e w' => e = .returned (.int .i64 (n : Int)) ∧ Hid (Has B w (RdR q S (a + 1) :: rs) w')) := fun a n rs wq ha ht hq => numR_ok hS ha hq ht
  have k1' : ((k : Int) == 1) = false := beq_eq_false_iff_ne.2 (by omega)
  have k3' : ((k : Int) == 3) = false := beq_eq_false_iff_ne.2 (by omega)
  have k9' : ((k : Int) == 9) = false := beq_eq_false_iff_ne.2 (by omega)
  have k3n : ((k : Int) != 3) = true := by simp [bne, k3']
  have k9n : ((k : Int) != 9) = true := by simp [bne, k9']
  have k3m : ¬ (k : Int) = 3 := by omega
  have k9m : ¬ (k : Int) = 9 := by omega
  have CX : Hid (∀ (rs : List Res) (wq : World), Has B w (RdR q S 4 :: rs) wq → Calls Try.prog 38 #[.pointer (some ⟨q, 0, none⟩)] wq fun en w' => en = gave ∧ Hid (Has B w (RdR q S 4 :: rs) w')) := fun rs wq hq => numR_no hS hS3 hq tq he
  have H0 : Hid (Has B w (RdR q S 1 :: BlockR (wr.heap.size + 1) (vL 0 0 0 0 0 nilS) :: BlockR wr.heap.size (vL 0 0 0 0 0 nilS) :: rs) ((wr.alloc (.cells #[.int .i64 0, .int .i64 0, .int .i64 0, .int .i64 0, .int .i64 0, .slice none 0 0] 52)).alloc (.cells #[.int .i64 0, .int .i64 0, .int .i64 0, .int .i64 0, .int .i64 0, .slice none 0 0] 52))) := by
    have x := ((h.box (vL 0 0 0 0 0 nilS) 52).box (vL 0 0 0 0 0 nilS) 52)
    rw [World.size_alloc] at x
    exact x.perm ((List.perm_middle (l₁ := [_, _]) (l₂ := rs)))
  have E := CN.out 1 k _ _ (by omega) tk H0.out
  obtain ⟨rb, hrb⟩ : ∃ rb, wr.heap.size = rb := ⟨_, rfl⟩
  clear h H0
  rw [hrb] at E
  go_enter Try.func33, Try.ntmps33
  go_wp2_with fail
  refine E.mono ?_
  rintro e v0 ⟨rfl, G0⟩
  obtain ⟨nb, hnb⟩ : ∃ nb, rb + 1 = nb := ⟨_, rfl⟩
  rw [hnb] at G0
  have P0 : Hid (Has B w (RdR q S 2 :: BlockR nb (vL (k : Int) 0 0 0 0 nilS) :: BlockR rb (vL 0 0 0 0 0 nilS) :: rs) (v0.setCell ⟨nb, 0, none⟩ (.int .i64 (k : Int)))) := ((G0.out.perm (List.Perm.swap _ _ _)).put 0 (by simp [vL]) (.int .i64 (k : Int))).perm (List.Perm.swap _ _ _)
  obtain ⟨e1, f1⟩ := G0.out.bcell (q := nb) (vs := (vL 0 0 0 0 0 nilS)) (by simp) 0 _ rfl
  obtain ⟨e0, _⟩ := P0.out.bcell (q := nb) (vs := (vL (k : Int) 0 0 0 0 nilS)) (by simp) 0 _ rfl
  clear E G0 hrb
  have E := CN.out 2 p _ _ (by omega) t0 P0.out
  go_wp2_with fail
  refine E.mono ?_
  rintro e v1 ⟨rfl, G1⟩
  have P1 : Hid (Has B w (RdR q S 3 :: BlockR nb (vL (k : Int) (p : Int) 0 0 0 nilS) :: BlockR rb (vL 0 0 0 0 0 nilS) :: rs) (v1.setCell ⟨nb, 1, none⟩ (.int .i64 (p : Int)))) := ((G1.out.perm (List.Perm.swap _ _ _)).put 1 (by simp [vL]) (.int .i64 (p : Int))).perm (List.Perm.swap _ _ _)
  clear e0 e1 f1
  obtain ⟨e1, f1⟩ := G1.out.bcell (q := nb) (vs := (vL (k : Int) 0 0 0 0 nilS)) (by simp) 1 _ rfl
  obtain ⟨e0, _⟩ := P1.out.bcell (q := nb) (vs := (vL (k : Int) (p : Int) 0 0 0 nilS)) (by simp) 0 _ rfl
  clear E G1 P0
  have E := CN.out 3 i _ _ (by omega) t1 P1.out
  go_wp2_with fail
  refine E.mono ?_
  rintro e v2 ⟨rfl, G2⟩
  have P2 : Hid (Has B w (RdR q S 4 :: BlockR nb (vL (k : Int) (p : Int) (i : Int) 0 0 nilS) :: BlockR rb (vL 0 0 0 0 0 nilS) :: rs) (v2.setCell ⟨nb, 2, none⟩ (.int .i64 (i : Int)))) := ((G2.out.perm (List.Perm.swap _ _ _)).put 2 (by simp [vL]) (.int .i64 (i : Int))).perm (List.Perm.swap _ _ _)
  clear e0 e1 f1
  obtain ⟨e1, f1⟩ := G2.out.bcell (q := nb) (vs := (vL (k : Int) (p : Int) 0 0 0 nilS)) (by simp) 2 _ rfl
  obtain ⟨e0, _⟩ := P2.out.bcell (q := nb) (vs := (vL (k : Int) (p : Int) (i : Int) 0 0 nilS)) (by simp) 0 _ rfl
  clear E G2 P1
  have E := CX.out _ _ P2.out
  clear CX CN tq
  go_wp2_with fail
  refine E.mono ?_
  rintro en w4 ⟨rfl, H4⟩
  have HZ : Hid (Has B w rs w4) := H4.out.drop.drop.drop
  clear E H4 P2
  go_wp2_with fail
  exact bodyPost_dies rfl ⟨rfl, HZ⟩
set_option maxHeartbeats 2000000 in
theorem ltC1 {q p i s o c e : Nat} {xs : List (List UInt8)} {S : ByteArray} (hS : S.size ≤ 4611686018427387904) (hS3 : 6 ≤ S.size) (h : Has B w (RdR q S 1 :: rs) wr) (tk : PackMath.tn (S.data.toList.drop 1) = (1, 1, 0)) (t0 : PackMath.tn (S.data.toList.drop 2) = (p, 1, 0)) (t1 : PackMath.tn (S.data.toList.drop 3) = (i, 1, 0)) (t2 : PackMath.tn (S.data.toList.drop 4) = (s, 1, 0)) (t3 : PackMath.tn (S.data.toList.drop 5) = (o, 1, 0)) (tq : PackMath.tl (S.data.toList.drop 6) = (xs, c, e)) (he : e ≠ 0) :
    Calls Try.prog 33 #[.pointer (some ⟨q, 0, none⟩)] wr fun en w' => en = gave ∧ Hid (Has B w rs w') := by
  have CN : Hid (∀ (a n : Nat) (rs : List Res) (wq : World), a ≤ S.size → PackMath.tn (S.data.toList.drop a) = (n, 1, 0) → Has B w (RdR q S a :: rs) wq → Calls Try.prog 38 #[.pointer (some ⟨q, 0, none⟩)] wq fun e w' => e = .returned (.int .i64 (n : Int)) ∧ Hid (Has B w (RdR q S (a + 1) :: rs) w')) := fun a n rs wq ha ht hq => numR_ok hS ha hq ht
  have CX : Hid (∀ (rs : List Res) (wq : World), Has B w (RdR q S 6 :: rs) wq → Calls Try.prog 39 #[.pointer (some ⟨q, 0, none⟩)] wq fun en w' => en = gave ∧ Hid (Has B w (RdR q S 6 :: rs) w')) := fun rs wq hq => keysR_no hS hS3 hq tq he
  have H0 : Hid (Has B w (RdR q S 1 :: BlockR (wr.heap.size + 1) (vL 0 0 0 0 0 nilS) :: BlockR wr.heap.size (vL 0 0 0 0 0 nilS) :: rs) ((wr.alloc (.cells #[.int .i64 0, .int .i64 0, .int .i64 0, .int .i64 0, .int .i64 0, .slice none 0 0] 52)).alloc (.cells #[.int .i64 0, .int .i64 0, .int .i64 0, .int .i64 0, .int .i64 0, .slice none 0 0] 52))) := by
    have x := ((h.box (vL 0 0 0 0 0 nilS) 52).box (vL 0 0 0 0 0 nilS) 52)
    rw [World.size_alloc] at x
    exact x.perm ((List.perm_middle (l₁ := [_, _]) (l₂ := rs)))
  have E := CN.out 1 1 _ _ (by omega) tk H0.out
  obtain ⟨rb, hrb⟩ : ∃ rb, wr.heap.size = rb := ⟨_, rfl⟩
  clear h H0
  rw [hrb] at E
  go_enter Try.func33, Try.ntmps33
  go_wp2_with fail
  refine E.mono ?_
  rintro e v0 ⟨rfl, G0⟩
  obtain ⟨nb, hnb⟩ : ∃ nb, rb + 1 = nb := ⟨_, rfl⟩
  rw [hnb] at G0
  have P0 : Hid (Has B w (RdR q S 2 :: BlockR nb (vL 1 0 0 0 0 nilS) :: BlockR rb (vL 0 0 0 0 0 nilS) :: rs) (v0.setCell ⟨nb, 0, none⟩ (.int .i64 1))) := ((G0.out.perm (List.Perm.swap _ _ _)).put 0 (by simp [vL]) (.int .i64 1)).perm (List.Perm.swap _ _ _)
  obtain ⟨e1, f1⟩ := G0.out.bcell (q := nb) (vs := (vL 0 0 0 0 0 nilS)) (by simp) 0 _ rfl
  obtain ⟨e0, _⟩ := P0.out.bcell (q := nb) (vs := (vL 1 0 0 0 0 nilS)) (by simp) 0 _ rfl
  clear E G0 hrb
  have E := CN.out 2 p _ _ (by omega) t0 P0.out
  go_wp2_with fail
  refine E.mono ?_
  rintro e v1 ⟨rfl, G1⟩
  have P1 : Hid (Has B w (RdR q S 3 :: BlockR nb (vL 1 (p : Int) 0 0 0 nilS) :: BlockR rb (vL 0 0 0 0 0 nilS) :: rs) (v1.setCell ⟨nb, 1, none⟩ (.int .i64 (p : Int)))) := ((G1.out.perm (List.Perm.swap _ _ _)).put 1 (by simp [vL]) (.int .i64 (p : Int))).perm (List.Perm.swap _ _ _)
  clear e0 e1 f1
  obtain ⟨e1, f1⟩ := G1.out.bcell (q := nb) (vs := (vL 1 0 0 0 0 nilS)) (by simp) 1 _ rfl
  obtain ⟨e0, _⟩ := P1.out.bcell (q := nb) (vs := (vL 1 (p : Int) 0 0 0 nilS)) (by simp) 0 _ rfl
  clear E G1 P0
  have E := CN.out 3 i _ _ (by omega) t1 P1.out
  go_wp2_with fail
  refine E.mono ?_
  rintro e v2 ⟨rfl, G2⟩
  have P2 : Hid (Has B w (RdR q S 4 :: BlockR nb (vL 1 (p : Int) (i : Int) 0 0 nilS) :: BlockR rb (vL 0 0 0 0 0 nilS) :: rs) (v2.setCell ⟨nb, 2, none⟩ (.int .i64 (i : Int)))) := ((G2.out.perm (List.Perm.swap _ _ _)).put 2 (by simp [vL]) (.int .i64 (i : Int))).perm (List.Perm.swap _ _ _)
  clear e0 e1 f1
  obtain ⟨e1, f1⟩ := G2.out.bcell (q := nb) (vs := (vL 1 (p : Int) 0 0 0 nilS)) (by simp) 2 _ rfl
  obtain ⟨e0, _⟩ := P2.out.bcell (q := nb) (vs := (vL 1 (p : Int) (i : Int) 0 0 nilS)) (by simp) 0 _ rfl
  clear E G2 P1
  have E := CN.out 4 s _ _ (by omega) t2 P2.out
  go_wp2_with fail
  refine E.mono ?_
  rintro e v3 ⟨rfl, G3⟩
  have P3 : Hid (Has B w (RdR q S 5 :: BlockR nb (vL 1 (p : Int) (i : Int) (s : Int) 0 nilS) :: BlockR rb (vL 0 0 0 0 0 nilS) :: rs) (v3.setCell ⟨nb, 3, none⟩ (.int .i64 (s : Int)))) := ((G3.out.perm (List.Perm.swap _ _ _)).put 3 (by simp [vL]) (.int .i64 (s : Int))).perm (List.Perm.swap _ _ _)
  clear e0 e1 f1
  obtain ⟨e1, f1⟩ := G3.out.bcell (q := nb) (vs := (vL 1 (p : Int) (i : Int) 0 0 nilS)) (by simp) 3 _ rfl
  obtain ⟨e0, _⟩ := P3.out.bcell (q := nb) (vs := (vL 1 (p : Int) (i : Int) (s : Int) 0 nilS)) (by simp) 0 _ rfl
  clear E G3 P2
  have E := CN.out 5 o _ _ (by omega) t3 P3.out
  go_wp2_with fail
  refine E.mono ?_
  rintro e v4 ⟨rfl, G4⟩
  have P4 : Hid (Has B w (RdR q S 6 :: BlockR nb (vL 1 (p : Int) (i : Int) (s : Int) (o : Int) nilS) :: BlockR rb (vL 0 0 0 0 0 nilS) :: rs) (v4.setCell ⟨nb, 4, none⟩ (.int .i64 (o : Int)))) := ((G4.out.perm (List.Perm.swap _ _ _)).put 4 (by simp [vL]) (.int .i64 (o : Int))).perm (List.Perm.swap _ _ _)
  clear e0 e1 f1
  obtain ⟨e1, f1⟩ := G4.out.bcell (q := nb) (vs := (vL 1 (p : Int) (i : Int) (s : Int) 0 nilS)) (by simp) 4 _ rfl
  obtain ⟨e0, _⟩ := P4.out.bcell (q := nb) (vs := (vL 1 (p : Int) (i : Int) (s : Int) (o : Int) nilS)) (by simp) 0 _ rfl
  clear E G4 P3
  have E := CX.out _ _ P4.out
  clear CX CN tq
  go_wp2_with fail
  refine E.mono ?_
  rintro en w4 ⟨rfl, H4⟩
  have HZ : Hid (Has B w rs w4) := H4.out.drop.drop.drop
  clear E H4 P4
  go_wp2_with fail
  exact bodyPost_dies rfl ⟨rfl, HZ⟩
end
end Go.Proofs.Yteicfkgcbpioiaa.Pl
