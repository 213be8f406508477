/- Reading a list of texts, and a text. -/
import Derived.Test.YtbgankldnjeohaaLiveA
import Derived.Test.YtbgankldnjeohaaPkTakeListW
import Derived.Test.YtbgankldnjeohaaBothW
import Derived.Deep.RegionHeld3
set_option linter.unusedVariables false
set_option maxRecDepth 100000
namespace Go.Proofs.Ytbgankldnjeohaa.Pl
open Go.RowKit Go.Proofs.Ytbgankldnjeohaa

/-- A row of texts of one's own. -/
def TR (v : Value) (xs : List (List UInt8)) : Res where
  inv w F := w.ownsRow 0 9 1 v xs.length (xs.map strV) ∧ F = fun k => v.ownBlock = some k
  lt := by rintro w F ⟨h, rfl⟩ k hk; exact (h.lt k hk).2
  chg := by rintro w w' F S ⟨h, rfl⟩ hc hS; exact ⟨own_chg h hc (fun g hg => hS g hg), rfl⟩
section
variable {B : Nat} {w wr : World} {rs : List Res}
theorem Has.srowT {v : Value} {xs : List (List UInt8)} (h : Has B w rs wr) (hm : TR v xs ∈ rs) : SRow wr v xs := by
  obtain ⟨F, ⟨ho, _⟩, _⟩ := h.get hm
  exact srow_own ho
set_option maxHeartbeats 2000000 in
theorem keysR_ok {q a c : Nat} {S : ByteArray} {xs : List (List UInt8)} (hS : S.size ≤ 4611686018427387904) (ha : a ≤ S.size) (h : Has B w (RdR q S a :: rs) wr) (ht : PackMath.tl (S.data.toList.drop a) = (xs, c, 0)) :
    Calls Try.prog 38 #[.pointer (some ⟨q, 0, none⟩)] wr fun e w' => ∃ v, e = .returned v ∧ (∃ ao cap, v = .slice ao xs.length cap) ∧ Hid (Has B w (RdR q S (a + c) :: TR v xs :: rs) w') := by
  have HT : Hid (∀ wq, Hid (Has B w (RdR q S a :: rs) wq) → Calls Try.prog 44 #[.string S, .int .i64 (a : Int)] wq fun e w' => ∃ ao cap, e = .returned (.tuple #[.slice ao xs.length cap, .int .i64 ((a + c : Nat) : Int), .int .i64 0]) ∧
      w'.cell? ⟨q, 0, none⟩ = some (.string S) ∧ w'.cell? ⟨q, 1, none⟩ = some (.int .i64 (a : Int)) ∧ Hid (Has B w (RdR q S a :: TR (.slice ao xs.length cap) xs :: rs) w')) := fun wq hq => by
    refine (Pk.takeList_any S a hS ha wq).mono ?_
    rintro e w' ⟨v, xs', c', e', h1, h2, h3, h4, h5⟩
    rw [ht] at h1
    obtain ⟨rfl, rfl, rfl⟩ : xs = xs' ∧ c = c' ∧ 0 = e' := by simpa using h1
    obtain ⟨ao, cap, rfl, _⟩ := own_form h4
    have x : Has B w ([TR (.slice ao xs.length cap) xs] ++ (RdR q S a :: rs)) w' := Has.add (new := [TR (.slice ao xs.length cap) xs]) hq.out h5 (Hold.one ⟨own_base h4 (Nat.zero_le _), rfl⟩) (fun k hk => (h4.lt k hk).1)
    have y := x.perm (List.Perm.swap _ _ _)
    exact ⟨ao, cap, h2, (y.bcell (q := q) (vs := [.string S, .int .i64 (a : Int)]) List.mem_cons_self 0 _ rfl).1, (y.bcell (q := q) (vs := [.string S, .int .i64 (a : Int)]) List.mem_cons_self 1 _ rfl).1, y⟩
  have CP : Hid (∀ (v : Value) wq, Hid (Has B w (RdR q S a :: TR v xs :: rs) wq) → Calls Try.prog 43 #[.pointer (some ⟨q, 0, none⟩), .int .i64 ((a + c : Nat) : Int), .int .i64 0] wq fun e w' => e = .returned (.tuple #[]) ∧ Hid (Has B w (RdR q S (a + c) :: TR v xs :: rs) w')) := fun v wq hq => pass_ok hq.out
  have HD : Hid (∀ m, Hid (Has B w (RdR q S a :: rs) (wr.drewN m))) := fun m => h.below (below_drewN (Below.refl _ _) m)
  have H1 : Hid (Has B w (RdR q S a :: rs) wr.drew) := h.below (by go_grown)
  have H0 : Hid (Has B w (RdR q S a :: rs) wr) := h
  obtain ⟨c0, f0⟩ := h.bcell (q := q) (vs := [.string S, .int .i64 (a : Int)]) List.mem_cons_self 0 _ rfl
  obtain ⟨c1, f1⟩ := h.bcell (q := q) (vs := [.string S, .int .i64 (a : Int)]) List.mem_cons_self 1 _ rfl
  generalize a + c = b at *
  clear h ht hS ha
  go_enter Try.func38, Try.ntmps38
  go_wp2_with fail
  go_region_held3 (fun w' => w'.cell? ⟨q, 0, none⟩ = some (.string S) ∧ w'.cell? ⟨q, 1, none⟩ = some (.int .i64 (a : Int))) (go_keep) (first | (go_at_call 44; refine (HT.out _ (by first | exact H1 | exact H0 | exact HD.out _)).mono ?_; rintro e w2 ⟨ao, cap, rfl, m0, m1, H2⟩))
  all_goals go_wp2_with fail
  all_goals refine (CP.out _ _ (by first | exact H2 | exact H2.out.below (by go_grown))).mono ?_
  all_goals rintro e w3 ⟨rfl, H3⟩
  all_goals go_wp2_with fail
  all_goals go_ret
  all_goals exact ⟨_, rfl, ⟨_, _, rfl⟩, H3⟩
set_option maxHeartbeats 1000000 in
theorem wordR_ok {q a c : Nat} {S : ByteArray} {l : List UInt8} (hS : S.size ≤ 4611686018427387904) (ha : a ≤ S.size) (h : Has B w (RdR q S a :: rs) wr) (ht : PackMath.tt (S.data.toList.drop a) = (l, c, 0)) :
    Calls Try.prog 39 #[.pointer (some ⟨q, 0, none⟩)] wr fun e w' => e = .returned (strV l) ∧ Has B w (RdR q S (a + c) :: rs) w' := by
  have HD : Hid (∀ m, Has B w (RdR q S a :: rs) (wr.drewN m)) := fun m => h.below (below_drewN (Below.refl _ _) m)
  have HT : Hid (∀ w, Calls Try.prog 45 #[.string S, .int .i64 (a : Int)] w fun e w' => e = .returned (.tuple #[.string ⟨l.toArray⟩, .int .i64 ((a + c : Nat) : Int), .int .i64 0]) ∧ w' = w) := fun w => by
    have x := Pk.takeText_any S a hS ha w
    rw [Pk.ttV_of ht] at x
    exact x
  have CP : Hid (∀ wq, Has B w (RdR q S a :: rs) wq → Calls Try.prog 43 #[.pointer (some ⟨q, 0, none⟩), .int .i64 ((a + c : Nat) : Int), .int .i64 0] wq fun e w' => e = .returned (.tuple #[]) ∧ Has B w (RdR q S (a + c) :: rs) w') := fun wq hq => pass_ok hq
  obtain ⟨c0, f0⟩ := h.bcell (q := q) (vs := [.string S, .int .i64 (a : Int)]) List.mem_cons_self 0 _ rfl
  obtain ⟨c1, f1⟩ := h.bcell (q := q) (vs := [.string S, .int .i64 (a : Int)]) List.mem_cons_self 1 _ rfl
  generalize a + c = b at *
  clear h ht hS ha
  unfold strV
  go_enter Try.func39, Try.ntmps39
  go_wp2_with fail
  go_quiet ((go_at_call 45; exact Calls.quiet_of_same (HT.out _)))
  go_wp2_with fail
  refine (CP.out _ (HD.out _)).mono ?_
  rintro e w2 ⟨rfl, h2⟩
  have H2 : Hid _ := h2
  clear CP HD HT h2
  go_wp2_with fail
  go_ret
  exact ⟨rfl, H2.out⟩
end
end Go.Proofs.Ytbgankldnjeohaa.Pl
