/- The walk of the laws' own 'files': all that a disk has. -/
import Derived.Test.YtnemnkmogbnjcaaPlaysW
set_option linter.unusedVariables false
namespace Go.Proofs.Ytnemnkmogbnjcaa
open Go.RowKit
open DiskMath

theorem infoF : (Try.prog.info? 49).map (fun i => (i.zero, i.size, i.bytes)) = some (some (.agg #[.string ⟨#[]⟩, .int .i64 0]), 2, 24) := by kernel_rfl
/-- What the first k files make in memory. -/
def fcells (d : DS) : Nat → List Value
  | 0 => []
  | k + 1 => fcells d k ++ [.string ⟨(d.F k).toArray⟩, .int .i64 (d.S k : Int)]
theorem fcells_length (d : DS) : ∀ k, (fcells d k).length = k * 2
  | 0 => rfl
  | k + 1 => by rw [fcells, List.length_append, fcells_length d k]; simp; omega
theorem fcells_at (d : DS) : ∀ (k i : Nat), i < k → (fcells d k)[i * 2]? = some (.string ⟨(d.F i).toArray⟩) ∧ (fcells d k)[i * 2 + 1]? = some (.int .i64 (d.S i : Int))
  | 0, i, h => by omega
  | k + 1, i, h => by
    have hl := fcells_length d k
    rw [fcells]
    by_cases e : i = k
    · subst e
      rw [List.getElem?_append_right (by omega), List.getElem?_append_right (by omega), hl]
      simp
    · have := fcells_at d k i (by omega)
      rw [List.getElem?_append_left (by omega), List.getElem?_append_left (by omega)]
      exact this
theorem two_newF (w : World) (u v : Value) (t : TypeId) : ∀ (j : Nat) (x : Value), [u, v][j]? = some x → (w.alloc (.cells #[u, v] t)).cell? ((⟨w.heap.size, 0, none⟩ : Addr).add j) = some x := by
  intro j x hj
  match j, hj with
  | 0, hj => simp at hj; subst hj; simp [Addr.add]
  | 1, hj => simp at hj; subst hj; simp [Addr.add]
theorem two_cellF (s : ByteArray) (n : Int) : ∀ u ∈ [Value.string s, Value.int .i64 n], u.oneCell' = true := by intro u hu; simp at hu; rcases hu with rfl | rfl <;> rfl
theorem own_below2 {w w' : World} {B e n : Nat} {v : Value} {xs : List Value} (h : w.ownsRow B e 2 v n xs) (hb : Below w.heap.size w w') : w'.ownsRow B e 2 v n xs := by
  refine h.kept (row := none) ⟨hb.os, hb.tape, hb.output, hb.size, fun k hk _ => hb.block k hk⟩ ?_
  cases h : v.ownBlock with
  | none => exact .inl rfl
  | some k => exact .inr (by simp)
theorem below_append2 {B : Nat} {w w2 w' : World} {o : Obj} {e : TypeId} {sz n : Nat} {v : Value} {xs : List Value} (hBw : B ≤ w.heap.size) (hb2 : Below B w w2)
    (hown2 : w2.ownsRow B e sz v n xs) (hg : (w2.alloc o).grownBy w' v.ownBlock) : Below B w w' :=
  (hb2.alloc (Nat.le_trans hBw hb2.size) o).grown hg (by simp; have := hb2.size; omega) (fun k h => (hown2.lt k h).1)

set_option maxRecDepth 100000 in
set_option maxHeartbeats 4000000 in
theorem files_any (w : World) (b : Nat) (V : Nat → Value) (d : DS) (hP : PDisk w b V d) (hk : Ok d) :
    Calls Try.prog 18 #[.pointer (some ⟨b, 0, none⟩)] w fun e w' => ∃ v, e = .returned (.tuple #[v, .bool true]) ∧ w'.ownsRow w.heap.size 49 2 v 4 (fcells d 4) ∧ Below w.heap.size w w' := by
  obtain ⟨i0, hi, hz0, hz1, hz2⟩ := info_parts infoF
  have CR : Hid (∀ w1 (i : Nat), i < 4 → Below w.heap.size w w1 → Calls Try.prog 21 #[.pointer (some ⟨b, 0, none⟩), .int .i64 (i : Int)] w1 fun e w' => e = .returned (.tuple #[.string ⟨(d.F i).toArray⟩, .int .i64 0]) ∧ Below w1.heap.size w1 w') := fun w1 i hi hb => read_any w1 b V d i hi (pdisk_below hP hb) hk
  have CZ : Hid (∀ w1 (i : Nat), i < 4 → Below w.heap.size w w1 → Calls Try.prog 26 #[.pointer (some ⟨b, 0, none⟩), .int .i64 (i : Int)] w1 fun e w' => e = .returned (.tuple #[.int .i64 ((ByteArray.mk (d.F i).toArray).size : Int), .int .i64 (d.S i : Int), .int .i64 0]) ∧ Below w1.heap.size w1 w') := fun w1 i hi hb => by
    rw [strV_size]
    refine (size_any w1 b V d i hi (pdisk_below hP hb)).mono ?_
    rintro e w' ⟨k1, q, k2⟩
    exact ⟨k1, by rw [k2]; exact below_drewN (Below.refl _ _) q⟩
  have HZ : Hid (∀ i, i < 4 → d.S i ≤ (ByteArray.mk (d.F i).toArray).size ∧ (ByteArray.mk (d.F i).toArray).size ≤ 1048576) := fun i hi => by
    rw [strV_size]
    have h1 := file_le d i hi
    have h2 := hk.room
    have h3 := hk.most
    exact ⟨hk.safe i hi, by omega⟩
  have HFC : Hid (∀ k, fcells d (k + 1) = fcells d k ++ [.string ⟨(d.F k).toArray⟩, .int .i64 (d.S k : Int)]) := fun k => rfl
  clear hP hk
  go_enter Try.func18, Try.ntmps18
  go_wp2_with fail
  go_loopw [4, 5] (fun v i wr => ∃ k : Nat, k ≤ 4 ∧ i = .int .i64 (k : Int) ∧ wr.ownsRow w.heap.size 49 2 v k (fcells d k) ∧ Below w.heap.size w wr) (fun _ i _ => 4 - (intOf i).toNat)
  case atStart => exact ⟨0, Nat.zero_le _, rfl, World.ownsRow_nil _ _ _ _, Below.refl _ _⟩
  case round =>
    obtain ⟨k, hk4, rfl, hown, hbw⟩ := hrel
    by_cases hlt : k < 4
    · have r1 := fun w1 => CR.out w1 k hlt
      have z1 := fun w1 => CZ.out w1 k hlt
      have hzz := HZ.out k hlt
      have hfc := HFC.out k
      have HO : Hid (wr.ownsRow w.heap.size 49 2 u4 k (fcells d k)) := hown
      generalize ByteArray.mk (d.F k).toArray = y at *
      generalize d.S k = S0 at *
      have R1 : Hid (∀ w1, Below w.heap.size w w1 → Calls Try.prog 21 #[.pointer (some ⟨b, 0, none⟩), .int .i64 (k : Int)] w1 fun e w' => e = .returned (.tuple #[.string y, .int .i64 0]) ∧ Below w1.heap.size w1 w') := r1
      have Z1 : Hid (∀ w1, Below w.heap.size w w1 → Calls Try.prog 26 #[.pointer (some ⟨b, 0, none⟩), .int .i64 (k : Int)] w1 fun e w' => e = .returned (.tuple #[.int .i64 (y.size : Int), .int .i64 (S0 : Int), .int .i64 0]) ∧ Below w1.heap.size w1 w') := z1
      have HFK : Hid (fcells d (k + 1) = fcells d k ++ [.string y, .int .i64 (S0 : Int)]) := hfc
      obtain ⟨hs1, hs2⟩ := hzz
      have q1 : ¬ ((y.size : Int) < (S0 : Int)) := by omega
      clear r1 z1 hfc hown CR CZ HZ HFC
      go_wp2_with fail
      refine (R1.out _ hbw).mono ?_
      rintro e w1 ⟨rfl, hb1⟩
      have hown1 := own_below2 HO.out hb1
      have g1 := hbw.trans (hb1.mono hbw.size)
      have HO1 : Hid (w1.ownsRow w.heap.size 49 2 u4 k (fcells d k)) := hown1
      clear hb1 hbw hown1 HO
      go_wp2_with fail
      refine (Z1.out _ g1).mono ?_
      rintro e w2 ⟨rfl, hb2⟩
      have hown2 := own_below2 HO1.out hb2
      have g2 := g1.trans (hb2.mono g1.size)
      clear hb2 g1 HO1 R1 Z1
      go_wp2_with (at_builtin; refine wpList_append_own _ rfl _ _ 44 rfl w.heap.size 49 i0 (.agg #[.string ⟨#[]⟩, .int .i64 0]) 2 24 Try.underlying44 hi hz0 hz1 hz2 rfl (by decide) _ _ _ rfl (hown2.alloc _) ⟨_, 0, none⟩ 1 1 [.string y, .int .i64 (S0 : Int)] rfl rfl (two_newF _ _ _ _) (two_cellF _ _) (by unfold maxLen; omega) (by omega) (by simp; have := g2.size; omega) ?_)
      intro v3 w3 hown3 hg3 hnn
      have hb3 := below_append2 (Nat.le_refl _) g2 hown2 hg3
      have HO3 : Hid (w3.ownsRow w.heap.size 49 2 v3 (k + 1) (fcells d (k + 1))) := by rw [HFK.out]; exact hown3
      clear hown3 hg3 hnn hown2 g2
      go_wp2
      exact ⟨⟨k + 1, by omega, by go_num, HO3.out, hb3⟩, by simp [intOf]; omega⟩
    · obtain rfl : k = 4 := by omega
      have HO : Hid (wr.ownsRow w.heap.size 49 2 u4 4 (fcells d 4)) := hown
      clear hown CR CZ HZ HFC
      go_wp2
      go_ret2
      exact ⟨_, rfl, HO.out, hbw⟩
end Go.Proofs.Ytnemnkmogbnjcaa
