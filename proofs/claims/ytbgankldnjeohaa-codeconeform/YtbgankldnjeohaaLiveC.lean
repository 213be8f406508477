/- Reading an event of a freed one; what stands behind a mark, off two fixed texts. -/
import Derived.Test.YtbgankldnjeohaaLiveB
set_option linter.unusedVariables false
set_option maxRecDepth 100000
namespace Go.Proofs.Ytbgankldnjeohaa.Pl
open Go.RowKit Go.Proofs.Ytbgankldnjeohaa

def vE (k i s : Int) : List Value := [.int .i64 k, .int .i64 i, .int .i64 s, .slice none 0 0]
def noteS : ByteArray := ⟨#[78, 6, 5, 1, 2]⟩
def eventS : ByteArray := ⟨#[69, 6, 5]⟩
section
variable {B : Nat} {w wr : World} {rs : List Res}
set_option maxHeartbeats 2000000 in
theorem eventR_freed {q i : Nat} {S : ByteArray} (hS : S.size = 3) (h : Has B w (RdR q S 1 :: rs) wr) (t1 : PackMath.tn (S.data.toList.drop 1) = (6, 1, 0)) (t2 : PackMath.tn (S.data.toList.drop 2) = (i, 1, 0)) :
    Calls Try.prog 33 #[.pointer (some ⟨q, 0, none⟩)] wr fun e w' => e = .returned (.agg (vE 6 i 0).toArray) ∧ Has B w (RdR q S 3 :: rs) w' := by
  have CN : Hid (∀ (a n : Nat) (rs : List Res) (wq : World), a ≤ S.size → PackMath.tn (S.data.toList.drop a) = (n, 1, 0) → Has B w (RdR q S a :: rs) wq → Calls Try.prog 37 #[.pointer (some ⟨q, 0, none⟩)] wq fun e w' => e = .returned (.int .i64 (n : Int)) ∧ Hid (Has B w (RdR q S (a + 1) :: rs) w')) := fun a n rs wq ha ht hq => numR_ok (by omega) ha hq ht
  have H0 : Hid (Has B w (RdR q S 1 :: BlockR (wr.heap.size + 1) (vE 0 0 0) :: BlockR wr.heap.size (vE 0 0 0) :: rs) ((wr.alloc (.cells #[.int .i64 0, .int .i64 0, .int .i64 0, .slice none 0 0] 55)).alloc (.cells #[.int .i64 0, .int .i64 0, .int .i64 0, .slice none 0 0] 55))) := by
    have x := ((h.box (vE 0 0 0) 55).box (vE 0 0 0) 55)
    rw [World.size_alloc] at x
    exact x.perm ((List.perm_middle (l₁ := [_, _]) (l₂ := rs)))
  have D1 := CN.out 1 6 _ _ (by omega) t1 H0.out
  obtain ⟨rb, hrb⟩ : ∃ rb, wr.heap.size = rb := ⟨_, rfl⟩
  clear h H0
  rw [hrb] at D1
  go_enter Try.func33, Try.ntmps33
  go_wp2_with fail
  refine D1.mono ?_
  rintro e w1 ⟨rfl, H1⟩
  obtain ⟨nb, hnb⟩ : ∃ nb, rb + 1 = nb := ⟨_, rfl⟩
  rw [hnb] at H1
  have HP1 : Hid (Has B w (RdR q S 2 :: BlockR nb (vE 6 0 0) :: BlockR rb (vE 0 0 0) :: rs) (w1.setCell ⟨nb, 0, none⟩ (.int .i64 6))) := ((H1.out.perm (List.Perm.swap _ _ _)).put 0 (by simp [vE]) (.int .i64 6)).perm (List.Perm.swap _ _ _)
  obtain ⟨e0, f0⟩ := H1.out.bcell (q := nb) (vs := vE 0 0 0) (by simp) 0 _ rfl
  have D2 := CN.out 2 i _ _ (by omega) t2 HP1.out
  clear D1 H1 hrb
  go_wp2_with fail
  refine D2.mono ?_
  rintro e w2 ⟨rfl, H2⟩
  have HP2 : Hid (Has B w (BlockR rb (vE 0 0 0) :: BlockR nb (vE 6 i 0) :: RdR q S 3 :: rs) (w2.setCell ⟨nb, 1, none⟩ (.int .i64 (i : Int)))) := ((H2.out.perm (List.Perm.swap _ _ _)).put 1 (by simp [vE]) (.int .i64 (i : Int))).perm (List.perm_middle (l₁ := [_, _]) (l₂ := rs))
  clear e0 f0
  obtain ⟨z1, f1⟩ := H2.out.bcell (q := nb) (vs := vE 6 0 0) (by simp) 1 _ rfl
  clear D2 HP1 CN H2
  obtain ⟨x0, _⟩ := HP2.out.bcell (q := nb) (vs := vE 6 i 0) (by simp) 0 _ rfl
  obtain ⟨x1, _⟩ := HP2.out.bcell (q := nb) (vs := vE 6 i 0) (by simp) 1 _ rfl
  obtain ⟨x2, _⟩ := HP2.out.bcell (q := nb) (vs := vE 6 i 0) (by simp) 2 _ rfl
  obtain ⟨x3, _⟩ := HP2.out.bcell (q := nb) (vs := vE 6 i 0) (by simp) 3 _ rfl
  obtain ⟨y0, g0⟩ := HP2.out.bcell (q := rb) (vs := vE 0 0 0) (by simp) 0 _ rfl
  obtain ⟨y1, g1⟩ := HP2.out.bcell (q := rb) (vs := vE 0 0 0) (by simp) 1 _ rfl
  obtain ⟨y2, g2⟩ := HP2.out.bcell (q := rb) (vs := vE 0 0 0) (by simp) 2 _ rfl
  obtain ⟨y3, g3⟩ := HP2.out.bcell (q := rb) (vs := vE 0 0 0) (by simp) 3 _ rfl
  have HQ : Hid (Has B w (BlockR rb (vE 6 i 0) :: BlockR nb (vE 6 i 0) :: RdR q S 3 :: rs) (setAll rb 0 (vE 6 i 0) (w2.setCell ⟨nb, 1, none⟩ (.int .i64 (i : Int))))) := Has.puts (vE 6 i 0) [] (vE 0 0 0) HP2.out rfl
  clear HP2
  go_wp2_with fail
  have HC : Hid (∀ j v, (vE 6 (i : Int) 0)[j]? = some v → (setAll rb 0 (vE 6 i 0) (w2.setCell ⟨nb, 1, none⟩ (.int .i64 (i : Int)))).cell? ⟨rb, j, none⟩ = some v) := fun j v hv => (HQ.out.bcell (q := rb) (vs := vE 6 i 0) (by simp) j v hv).1
  refine bodyPost_ret (results_row rfl _ _ rb (vE 6 i 0) _ rfl HC.out Try.underlying55 rfl (by kernel_rfl)) rfl ⟨rfl, ?_⟩
  exact HQ.out.drop.drop
theorem tnN1 : PackMath.tn (noteS.data.toList.drop 1) = (6, 1, 0) := by decide +kernel
theorem tnN2 : PackMath.tn (noteS.data.toList.drop 2) = (5, 1, 0) := by decide +kernel
theorem tnN3 : PackMath.tn (noteS.data.toList.drop 3) = (1, 1, 0) := by decide +kernel
theorem tnN4 : PackMath.tn (noteS.data.toList.drop 4) = (2, 1, 0) := by decide +kernel
theorem tnE1 : PackMath.tn (eventS.data.toList.drop 1) = (6, 1, 0) := by decide +kernel
theorem tnE2 : PackMath.tn (eventS.data.toList.drop 2) = (5, 1, 0) := by decide +kernel
set_option maxHeartbeats 2000000 in
theorem valueR_note {q : Nat} (h : Has B w (RdR q noteS 0 :: rs) wr) :
    Calls Try.prog 25 #[.pointer (some ⟨q, 0, none⟩)] wr fun e w' => e = .returned (.iface 56 (.agg (vN 6 5 1 2).toArray)) ∧ Has B w (RdR q noteS 5 :: rs) w' := by
  have H1 : Hid (Has B w (RdR q noteS 1 :: rs) (wr.setCell ⟨q, 1, none⟩ (.int .i64 1))) := h.put 1 (by simp) (.int .i64 1)
  have D1 : Hid (Calls Try.prog 34 #[.pointer (some ⟨q, 0, none⟩)] (wr.setCell ⟨q, 1, none⟩ (.int .i64 1)) fun e w' => e = .returned (.agg (vN 6 5 1 2).toArray) ∧ Hid (Has B w (RdR q noteS 5 :: rs) w')) := noteR_mark rfl H1.out tnN1 tnN2 tnN3 tnN4
  obtain ⟨c0, _⟩ := h.bcell (q := q) (vs := [.string noteS, .int .i64 0]) List.mem_cons_self 0 _ rfl
  obtain ⟨c1, f1⟩ := h.bcell (q := q) (vs := [.string noteS, .int .i64 0]) List.mem_cons_self 1 _ rfl
  have c0' : wr.cell? ⟨q, 0, none⟩ = some (.string ⟨#[78, 6, 5, 1, 2]⟩) := c0
  have k1 : (((ByteArray.mk #[78, 6, 5, 1, 2]).extract 0 1).toList == [76]) = false := by decide +kernel
  have k2 : (((ByteArray.mk #[78, 6, 5, 1, 2]).extract 0 1).toList == [69]) = false := by decide +kernel
  have k3 : (((ByteArray.mk #[78, 6, 5, 1, 2]).extract 0 1).toList == [78]) = true := by decide +kernel
  clear h H1 c0
  go_enter Try.func25, Try.ntmps25
  go_wp2_with fail
  refine D1.out.mono ?_
  rintro e w2 ⟨rfl, H2⟩
  clear D1
  go_wp2_with fail
  go_ret
  exact ⟨rfl, H2.out⟩
set_option maxHeartbeats 2000000 in
theorem valueR_event {q : Nat} (h : Has B w (RdR q eventS 0 :: rs) wr) :
    Calls Try.prog 25 #[.pointer (some ⟨q, 0, none⟩)] wr fun e w' => e = .returned (.iface 55 (.agg (vE 6 5 0).toArray)) ∧ Has B w (RdR q eventS 3 :: rs) w' := by
  have H1 : Hid (Has B w (RdR q eventS 1 :: rs) (wr.setCell ⟨q, 1, none⟩ (.int .i64 1))) := h.put 1 (by simp) (.int .i64 1)
  have D1 : Hid (Calls Try.prog 33 #[.pointer (some ⟨q, 0, none⟩)] (wr.setCell ⟨q, 1, none⟩ (.int .i64 1)) fun e w' => e = .returned (.agg (vE 6 5 0).toArray) ∧ Hid (Has B w (RdR q eventS 3 :: rs) w')) := eventR_freed rfl H1.out tnE1 tnE2
  obtain ⟨c0, _⟩ := h.bcell (q := q) (vs := [.string eventS, .int .i64 0]) List.mem_cons_self 0 _ rfl
  obtain ⟨c1, f1⟩ := h.bcell (q := q) (vs := [.string eventS, .int .i64 0]) List.mem_cons_self 1 _ rfl
  have c0' : wr.cell? ⟨q, 0, none⟩ = some (.string ⟨#[69, 6, 5]⟩) := c0
  have k1 : (((ByteArray.mk #[69, 6, 5]).extract 0 1).toList == [76]) = false := by decide +kernel
  have k2 : (((ByteArray.mk #[69, 6, 5]).extract 0 1).toList == [69]) = true := by decide +kernel
  clear h H1 c0
  go_enter Try.func25, Try.ntmps25
  go_wp2_with fail
  refine D1.out.mono ?_
  rintro e w2 ⟨rfl, H2⟩
  clear D1
  go_wp2_with fail
  go_ret
  exact ⟨rfl, H2.out⟩
end
end Go.Proofs.Ytbgankldnjeohaa.Pl
