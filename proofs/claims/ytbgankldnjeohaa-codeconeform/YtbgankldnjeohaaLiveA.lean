/- Reading: a number, a note of a step, an event of a freed one, off a fixed text. -/
import Derived.Test.YtbgankldnjeohaaPkTakeW
import Derived.Test.YtbgankldnjeohaaPlRes
import Derived.Defers
set_option linter.unusedVariables false
set_option maxRecDepth 100000
namespace Go.Proofs.Ytbgankldnjeohaa.Pl
open Go.RowKit Go.Proofs.Ytbgankldnjeohaa

section
variable {B : Nat} {w wr : World} {rs : List Res}
theorem Has.bcell {q : Nat} {vs : List Value} (h : Has B w rs wr) (hm : BlockR q vs ∈ rs) (j : Nat) (u : Value) (hu : vs[j]? = some u) : wr.cell? ⟨q, j, none⟩ = some u ∧ wr.frozen? ⟨q, j, none⟩ = false := by
  obtain ⟨F, ⟨h1, _⟩, _⟩ := h.get hm
  exact h1 j u hu
/-- A cell of a block written anew. -/
theorem Has.put {q : Nat} {vs : List Value} (h : Has B w (BlockR q vs :: rs) wr) (j : Nat) (hj : j < vs.length) (u : Value) : Has B w (BlockR q (vs.set j u) :: rs) (wr.setCell ⟨q, j, none⟩ u) := by
  refine h.turn (new := [BlockR q (vs.set j u)]) ?_
  rintro F ⟨h1, h2, rfl⟩
  refine ⟨_, Hold.one ⟨fun i x hx => ?_, by simpa using h2, rfl⟩, chg_set wr ⟨q, j, none⟩ u, fun k hk => Or.inl hk⟩
  have hil : i < vs.length := by have := (List.getElem?_eq_some_iff.1 hx).1; simpa using this
  refine ⟨?_, by rw [World.frozen?_setCell]; exact (h1 i _ (List.getElem?_eq_getElem hil)).2⟩
  by_cases e : i = j
  · subst e
    rw [World.cell?_setCell_same _ _ _ (h1 i _ (List.getElem?_eq_getElem hil)).1]
    rw [List.getElem?_set_self hil] at hx
    exact hx
  · rw [World.cell?_setCell_other _ _ _ _ (fun h => e (by injection h with _ h2; exact h2.symm))]
    rw [List.getElem?_set_ne (fun h => e h.symm)] at hx
    exact (h1 i x hx).1
theorem Has.box (h : Has B w rs wr) (vs : List Value) (t : TypeId) : Has B w (BlockR wr.heap.size vs :: rs) (wr.alloc (.cells vs.toArray t)) :=
  h.add (new := [BlockR wr.heap.size vs]) ((Below.refl _ _).alloc (Nat.le_refl _) _) (Hold.one (block_new _ _ _)) (fun k hk => by rw [hk]; exact Nat.le_refl _)
/-- A reader's text, and where it is. -/
abbrev RdR (q : Nat) (S : ByteArray) (a : Nat) : Res := BlockR q [.string S, .int .i64 (a : Int)]
theorem pass_ok {q a b : Nat} {S : ByteArray} (h : Has B w (RdR q S a :: rs) wr) :
    Calls Try.prog 43 #[.pointer (some ⟨q, 0, none⟩), .int .i64 (b : Int), .int .i64 0] wr fun e w' => e = .returned (.tuple #[]) ∧ Has B w (RdR q S b :: rs) w' := by
  have HN : Hid (Has B w (RdR q S b :: rs) (wr.setCell ⟨q, 1, none⟩ (.int .i64 (b : Int)))) := h.put 1 (by simp) (.int .i64 (b : Int))
  obtain ⟨c1, f1⟩ := h.bcell (q := q) (vs := [.string S, .int .i64 (a : Int)]) List.mem_cons_self 1 _ rfl
  clear h
  go_enter Try.func43, Try.ntmps43
  go_wp2_with fail
  refine bodyPost_end (results_none rfl _ _ _) rfl ?_
  exact ⟨rfl, HN.out⟩
set_option maxHeartbeats 1000000 in
theorem numR_ok {q a n c : Nat} {S : ByteArray} (hS : S.size ≤ 4611686018427387904) (ha : a ≤ S.size) (h : Has B w (RdR q S a :: rs) wr) (ht : PackMath.tn (S.data.toList.drop a) = (n, c, 0)) :
    Calls Try.prog 37 #[.pointer (some ⟨q, 0, none⟩)] wr fun e w' => e = .returned (.int .i64 (n : Int)) ∧ Has B w (RdR q S (a + c) :: rs) w' := by
  have HD : Hid (∀ m, Has B w (RdR q S a :: rs) (wr.drewN m)) := fun m => h.below (below_drewN (Below.refl _ _) m)
  have HT : Hid (∀ w, Calls Try.prog 42 #[.string S, .int .i64 (a : Int)] w fun e w' => e = .returned (.tuple #[.int .i64 (n : Int), .int .i64 ((a + c : Nat) : Int), .int .i64 0]) ∧ w' = w) := fun w => by
    have x := Pk.takeNum_any S a hS ha w
    rw [Pk.tnV_of ht] at x
    exact x
  have CP : Hid (∀ wq, Has B w (RdR q S a :: rs) wq → Calls Try.prog 43 #[.pointer (some ⟨q, 0, none⟩), .int .i64 ((a + c : Nat) : Int), .int .i64 0] wq fun e w' => e = .returned (.tuple #[]) ∧ Has B w (RdR q S (a + c) :: rs) w') := fun wq hq => pass_ok hq
  obtain ⟨c0, f0⟩ := h.bcell (q := q) (vs := [.string S, .int .i64 (a : Int)]) List.mem_cons_self 0 _ rfl
  obtain ⟨c1, f1⟩ := h.bcell (q := q) (vs := [.string S, .int .i64 (a : Int)]) List.mem_cons_self 1 _ rfl
  generalize a + c = b at *
  clear h ht hS ha
  go_enter Try.func37, Try.ntmps37
  go_wp2_with fail
  go_quiet ((go_at_call 42; exact Calls.quiet_of_same (HT.out _)))
  go_wp2_with fail
  refine (CP.out _ (HD.out _)).mono ?_
  rintro e w2 ⟨rfl, h2⟩
  have H2 : Hid _ := h2
  clear CP HD HT h2
  go_wp2_with fail
  go_ret
  exact ⟨rfl, H2.out⟩
end
end Go.Proofs.Ytbgankldnjeohaa.Pl
