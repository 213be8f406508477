/- The walks of join and Text, in package pack. -/
import Derived.Test.YtbgankldnjeohaaPkLiveW
import Derived.Test.YtbgankldnjeohaaShelf
set_option linter.unusedVariables false
set_option maxRecDepth 100000
namespace Go.Proofs.Ytbgankldnjeohaa.Pk
open Go.RowKit

theorem joinTail_nil (r : List (List UInt8)) : Lib.joinTail [] r = r.flatten := by
  unfold Lib.joinTail; simp
theorem join_flat (xs : List (List UInt8)) : Lib.join xs [] = xs.flatten := by
  cases xs with
  | nil => rfl
  | cons x r => rw [Lib.join_cons, joinTail_nil]; rfl

theorem join_any (bk o c : Nat) (xs : List ByteArray) (w : World) (hcells : ∀ (j : Nat) x, xs[j]? = some x → w.cell? ⟨bk, o + j, none⟩ = some (.string x)) (hbk : bk < w.heap.size) (hN : xs.length ≤ 140737488355328) (hcap : xs.length ≤ c)
    (hlen : (xs.map (·.data.toList)).flatten.length ≤ 140737488355328) :
    Calls Try.prog 75 #[.slice (some ⟨bk, o, none⟩) xs.length c] w fun e w' => e = .returned (strV (xs.map (·.data.toList)).flatten) ∧ Below w.heap.size w w' := by
  have c1 := Try.strings_Join bk o c xs ⟨#[]⟩ w hcells hbk hN hcap (by rw [show (ByteArray.mk #[]).data.toList = [] from rfl, join_flat]; exact hlen)
  rw [show (ByteArray.mk #[]).data.toList = [] from rfl, join_flat] at c1
  generalize hg : (xs.map (·.data.toList)).flatten = l at *
  have C1 : Hid (Calls Try.prog 79 #[.slice (some ⟨bk, o, none⟩) xs.length c, .string ⟨#[]⟩] w fun e w' => e = .returned (.string ⟨l.toArray⟩) ∧ Below w.heap.size w w') := c1
  clear c1 hcells hg hlen
  go_enter Try.func75, Try.ntmps75
  go_wp2_with fail
  refine C1.out.mono ?_
  rintro e w1 ⟨rfl, hb⟩
  go_wp2
  go_ret
  exact ⟨rfl, hb⟩

/-- What Text answers. -/
def txV (s : List UInt8) : Value := if 2000 < s.length then .tuple #[.string ⟨#[]⟩, .int .i64 2] else .tuple #[strV (PackMath.txt s), .int .i64 0]

set_option maxHeartbeats 1000000 in
theorem text_any (s : ByteArray) (hs : s.size ≤ 140737488355328) (w : World) :
    Calls Try.prog 94 #[.string s] w fun e w' => e = .returned (txV s.data.toList) ∧ Below w.heap.size w w' := by
  unfold txV
  rw [size_data]
  by_cases h : 2000 < s.size
  · rw [if_pos h]
    have q : (2000 : Int) < (s.size : Int) := by omega
    clear h
    go_enter Try.func94, Try.ntmps94
    go_wp2
    go_ret2
    exact ⟨rfl, Below.refl _ _⟩
  · rw [if_neg h]
    have q : ¬ (2000 : Int) < (s.size : Int) := by omega
    have hn := PackMath.num_len8 s.size (by omega)
    have hj : Hid (∀ w1 : World, Calls Try.prog 75 #[.slice (some ⟨w1.heap.size, 0, none⟩) 2 2] (w1.alloc (.cells #[.string ⟨(PackMath.num s.size).toArray⟩, .string s] 9)) fun e w' => e = .returned (strV (PackMath.txt s.data.toList)) ∧ Below w1.heap.size w1 w') := by
      intro w1
      have := join_any w1.heap.size 0 2 [⟨(PackMath.num s.size).toArray⟩, s] (w1.alloc (.cells #[.string ⟨(PackMath.num s.size).toArray⟩, .string s] 9)) (fun j x hx => by
        match j, hx with
        | 0, hx => simp at hx; subst hx; simp
        | 1, hx => simp at hx; subst hx; simp) (by simp) (by simp) (by simp) (by simp; omega)
      refine this.mono fun e w' ⟨h1, h2⟩ => ⟨?_, ?_⟩
      · rw [h1]; simp [PackMath.txt]
      · have h3 : Below w1.heap.size w1 (w1.alloc (.cells #[.string ⟨(PackMath.num s.size).toArray⟩, .string s] 9)) := (Below.refl _ _).alloc (Nat.le_refl _) _
        exact h3.trans (h2.mono h3.size)
    have C1 : Hid (∀ w, Calls Try.prog 74 #[.int .i64 (s.size : Int)] w fun e w' => e = .returned (.string ⟨(PackMath.num s.size).toArray⟩) ∧ Below w.heap.size w w') := fun w => numBytes_any s.size (by omega) w
    clear h hn
    go_enter Try.func94, Try.ntmps94
    go_wp2_with fail
    refine (C1.out _).mono ?_
    rintro e w1 ⟨rfl, hb1⟩
    go_wp2_with fail
    refine (hj.out _).mono ?_
    rintro e w2 ⟨rfl, hb2⟩
    go_wp2
    go_ret2
    exact ⟨rfl, hb1.trans (hb2.mono hb1.size)⟩
end Go.Proofs.Ytbgankldnjeohaa.Pk