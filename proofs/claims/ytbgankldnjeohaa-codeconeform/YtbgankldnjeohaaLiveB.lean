/- Reading a note of a step's mark, and an event of a freed one. -/
import Derived.Test.YtbgankldnjeohaaLiveA
import Derived.Deep.MidRow
set_option linter.unusedVariables false
set_option maxRecDepth 100000
namespace Go.Proofs.Ytbgankldnjeohaa.Pl
open Go.RowKit Go.Proofs.Ytbgankldnjeohaa

/-- A result that lies in a row of cells. -/
theorem results_row {P : Program} {fn : Func} {p : Tmp} {ty : TypeId} (h : fn.results = #[.cell p ty]) (tmps : Array Value) (w : World) (g : Nat) (vs : List Value) (d : TypeDesc)
    (hp : tmps.getD p undef = .pointer (some ⟨g, 0, none⟩)) (h0 : ∀ j v, vs[j]? = some v → w.cell? ⟨g, j, none⟩ = some v)
    (hu : P.underlying ty = some d) (hd : d.isRow = true) (hi : (P.info? ty).map (·.size) = some vs.length) : (results fn tmps).run P w = .ok (.agg vs.toArray) w := by
  have hp' : tmps[p]?.getD undef = .pointer (some ⟨g, 0, none⟩) := by simpa using hp
  have hr : w.rangeAt g 0 vs := by
    intro j v hj
    rw [Nat.zero_add]
    exact h0 j v hj
  simp [results, h, hp', asAddr, run_loadVar_mid w g 0 ty vs d hr hu hd hi]
/-- All cells of a block written anew, one by one. -/
def setAll (q : Nat) : Nat → List Value → World → World
  | _, [], w => w
  | j, u :: us, w => setAll q (j + 1) us (w.setCell ⟨q, j, none⟩ u)
theorem Has.puts {B : Nat} {w : World} {rs : List Res} {q : Nat} : ∀ (us pre post : List Value) {wr : World}, Has B w (BlockR q (pre ++ post) :: rs) wr → us.length = post.length → Has B w (BlockR q (pre ++ us) :: rs) (setAll q pre.length us wr)
  | [], pre, [], wr, h, _ => h
  | [], pre, _ :: _, wr, h, e => by cases e
  | u :: us, pre, [], wr, h, e => by cases e
  | u :: us, pre, x :: post, wr, h, e => by
    have h1 := h.put pre.length (by simp) u
    have h2 : (pre ++ x :: post).set pre.length u = (pre ++ [u]) ++ post := by simp
    rw [h2] at h1
    have := Has.puts us (pre ++ [u]) post h1 (by simpa using e)
    simpa [setAll] using this
def zN : List Value := [.int .i64 0, .int .i64 0, .int .i64 0, .int .i64 0, .int .i64 0, .int .i64 0, .string ⟨#[]⟩, .string ⟨#[]⟩, .int .i64 0, .string ⟨#[]⟩]
def vN (k i s t : Int) : List Value := [.int .i64 k, .int .i64 i, .int .i64 s, .int .i64 t, .int .i64 0, .int .i64 0, .string ⟨#[]⟩, .string ⟨#[]⟩, .int .i64 0, .string ⟨#[]⟩]
section
variable {B : Nat} {w wr : World} {rs : List Res}
set_option maxHeartbeats 2000000 in
theorem noteR_mark {q i s t : Nat} {S : ByteArray} (hS : S.size = 5) (h : Has B w (RdR q S 1 :: rs) wr) (t1 : PackMath.tn (S.data.toList.drop 1) = (6, 1, 0)) (t2 : PackMath.tn (S.data.toList.drop 2) = (i, 1, 0)) (t3 : PackMath.tn (S.data.toList.drop 3) = (s, 1, 0)) (t4 : PackMath.tn (S.data.toList.drop 4) = (t, 1, 0)) :
    Calls Try.prog 34 #[.pointer (some ⟨q, 0, none⟩)] wr fun e w' => e = .returned (.agg (vN 6 i s t).toArray) ∧ Has B w (RdR q S 5 :: rs) w' := by
  have CN : Hid (∀ (a n : Nat) (rs : List Res) (wq : World), a ≤ S.size → PackMath.tn (S.data.toList.drop a) = (n, 1, 0) → Has B w (RdR q S a :: rs) wq → Calls Try.prog 37 #[.pointer (some ⟨q, 0, none⟩)] wq fun e w' => e = .returned (.int .i64 (n : Int)) ∧ Hid (Has B w (RdR q S (a + 1) :: rs) w')) := fun a n rs wq ha ht hq => numR_ok (by omega) ha hq ht
  have H0 : Hid (Has B w (RdR q S 1 :: BlockR wr.heap.size zN :: rs) (wr.alloc (.cells #[.int .i64 0, .int .i64 0, .int .i64 0, .int .i64 0, .int .i64 0, .int .i64 0, .string ⟨#[]⟩, .string ⟨#[]⟩, .int .i64 0, .string ⟨#[]⟩] 56))) := (h.box zN 56).perm (List.Perm.swap _ _ _)
  have D1 := CN.out 1 6 _ _ (by omega) t1 H0.out
  obtain ⟨rb, hrb⟩ : ∃ rb, wr.heap.size = rb := ⟨_, rfl⟩
  clear h H0
  rw [hrb] at D1
  go_enter Try.func34, Try.ntmps34
  go_wp2_with fail
  refine D1.mono ?_
  rintro e w1 ⟨rfl, H1⟩
  clear hrb
  have H1b : Hid (Has B w (RdR q S 2 :: BlockR w1.heap.size (vN 6 0 0 0) :: BlockR rb zN :: rs) (w1.alloc (.cells #[.int .i64 6, .int .i64 0, .int .i64 0, .int .i64 0, .int .i64 0, .int .i64 0, .string ⟨#[]⟩, .string ⟨#[]⟩, .int .i64 0, .string ⟨#[]⟩] 56))) := (H1.out.box (vN 6 0 0 0) 56).perm (List.Perm.swap _ _ _)
  have D2 := CN.out 2 i _ _ (by omega) t2 H1b.out
  clear D1 H1
  go_wp2_with fail
  refine D2.mono ?_
  rintro e w2 ⟨rfl, H2⟩
  generalize w1.heap.size = nb at *
  clear D2 H1b
  obtain ⟨e1, f1⟩ := H2.out.bcell (q := nb) (vs := vN 6 0 0 0) (by simp) 1 _ rfl
  obtain ⟨e0, _⟩ := H2.out.bcell (q := nb) (vs := vN 6 0 0 0) (by simp) 0 _ rfl
  have HP2 : Hid (Has B w (RdR q S 3 :: BlockR nb (vN 6 i 0 0) :: BlockR rb zN :: rs) (w2.setCell ⟨nb, 1, none⟩ (.int .i64 (i : Int)))) := ((H2.out.perm (List.Perm.swap _ _ _)).put 1 (by simp [vN]) (.int .i64 (i : Int))).perm (List.Perm.swap _ _ _)
  have D3 := CN.out 3 s _ _ (by omega) t3 HP2.out
  clear H2
  go_wp2_with fail
  refine D3.mono ?_
  rintro e w3 ⟨rfl, H3⟩
  clear D3 HP2 e0 e1 f1
  obtain ⟨e1, f1⟩ := H3.out.bcell (q := nb) (vs := vN 6 i 0 0) (by simp) 2 _ rfl
  have HP3 : Hid (Has B w (RdR q S 4 :: BlockR nb (vN 6 i s 0) :: BlockR rb zN :: rs) (w3.setCell ⟨nb, 2, none⟩ (.int .i64 (s : Int)))) := ((H3.out.perm (List.Perm.swap _ _ _)).put 2 (by simp [vN]) (.int .i64 (s : Int))).perm (List.Perm.swap _ _ _)
  have D4 := CN.out 4 t _ _ (by omega) t4 HP3.out
  clear H3
  go_wp2_with fail
  refine D4.mono ?_
  rintro e w4 ⟨rfl, H4⟩
  clear D4 HP3 e1 f1 CN
  obtain ⟨e3, f3⟩ := H4.out.bcell (q := nb) (vs := vN 6 i s 0) (by simp) 3 _ rfl
  have HP4 : Hid (Has B w (BlockR rb zN :: BlockR nb (vN 6 i s t) :: RdR q S 5 :: rs) (w4.setCell ⟨nb, 3, none⟩ (.int .i64 (t : Int)))) := ((H4.out.perm (List.Perm.swap _ _ _)).put 3 (by simp [vN]) (.int .i64 (t : Int))).perm (List.perm_middle (l₁ := [_, _]) (l₂ := rs))
  clear H4
  obtain ⟨x0, _⟩ := HP4.out.bcell (q := nb) (vs := vN 6 i s t) (by simp) 0 _ rfl
  obtain ⟨x1, _⟩ := HP4.out.bcell (q := nb) (vs := vN 6 i s t) (by simp) 1 _ rfl
  obtain ⟨x2, _⟩ := HP4.out.bcell (q := nb) (vs := vN 6 i s t) (by simp) 2 _ rfl
  obtain ⟨x3, _⟩ := HP4.out.bcell (q := nb) (vs := vN 6 i s t) (by simp) 3 _ rfl
  obtain ⟨x4, _⟩ := HP4.out.bcell (q := nb) (vs := vN 6 i s t) (by simp) 4 _ rfl
  obtain ⟨x5, _⟩ := HP4.out.bcell (q := nb) (vs := vN 6 i s t) (by simp) 5 _ rfl
  obtain ⟨x6, _⟩ := HP4.out.bcell (q := nb) (vs := vN 6 i s t) (by simp) 6 _ rfl
  obtain ⟨x7, _⟩ := HP4.out.bcell (q := nb) (vs := vN 6 i s t) (by simp) 7 _ rfl
  obtain ⟨x8, _⟩ := HP4.out.bcell (q := nb) (vs := vN 6 i s t) (by simp) 8 _ rfl
  obtain ⟨x9, _⟩ := HP4.out.bcell (q := nb) (vs := vN 6 i s t) (by simp) 9 _ rfl
  obtain ⟨y0, g0⟩ := HP4.out.bcell (q := rb) (vs := zN) (by simp) 0 _ rfl
  obtain ⟨y1, g1⟩ := HP4.out.bcell (q := rb) (vs := zN) (by simp) 1 _ rfl
  obtain ⟨y2, g2⟩ := HP4.out.bcell (q := rb) (vs := zN) (by simp) 2 _ rfl
  obtain ⟨y3, g3⟩ := HP4.out.bcell (q := rb) (vs := zN) (by simp) 3 _ rfl
  obtain ⟨y4, g4⟩ := HP4.out.bcell (q := rb) (vs := zN) (by simp) 4 _ rfl
  obtain ⟨y5, g5⟩ := HP4.out.bcell (q := rb) (vs := zN) (by simp) 5 _ rfl
  obtain ⟨y6, g6⟩ := HP4.out.bcell (q := rb) (vs := zN) (by simp) 6 _ rfl
  obtain ⟨y7, g7⟩ := HP4.out.bcell (q := rb) (vs := zN) (by simp) 7 _ rfl
  obtain ⟨y8, g8⟩ := HP4.out.bcell (q := rb) (vs := zN) (by simp) 8 _ rfl
  obtain ⟨y9, g9⟩ := HP4.out.bcell (q := rb) (vs := zN) (by simp) 9 _ rfl
  have HQ : Hid (Has B w (BlockR rb (vN 6 i s t) :: BlockR nb (vN 6 i s t) :: RdR q S 5 :: rs) (setAll rb 0 (vN 6 i s t) (w4.setCell ⟨nb, 3, none⟩ (.int .i64 (t : Int))))) := Has.puts (vN 6 i s t) [] zN HP4.out rfl
  clear HP4
  go_wp2_with fail
  have HC : Hid (∀ j v, (vN 6 (i : Int) s t)[j]? = some v → (setAll rb 0 (vN 6 i s t) (w4.setCell ⟨nb, 3, none⟩ (.int .i64 (t : Int)))).cell? ⟨rb, j, none⟩ = some v) := fun j v hv => (HQ.out.bcell (q := rb) (vs := vN 6 i s t) (by simp) j v hv).1
  refine bodyPost_ret (results_row rfl _ _ rb (vN 6 i s t) _ rfl HC.out Try.underlying56 rfl (by kernel_rfl)) rfl ⟨rfl, ?_⟩
  exact HQ.out.drop.drop
end
end Go.Proofs.Ytbgankldnjeohaa.Pl
