/- Reading the form of an event, whatever stands behind it: event, value. -/
import Derived.Test.YtbgankldnjeohaaEvRead
import Derived.Test.YtbgankldnjeohaaEvCall
set_option linter.unusedVariables false
set_option linter.unusedSimpArgs false
set_option maxRecDepth 100000
namespace Go.Proofs.Ytbgankldnjeohaa.Pl
open Go.RowKit Go.Proofs.Ytbgankldnjeohaa

theorem tn_one {n : Nat} (h : n < 128) (l : List UInt8) : PackMath.tn (UInt8.ofNat n :: l) = (n, 1, 0) := by
  have x := PackMath.tn_num n (by omega) l
  rw [PackMath.num_lt n h] at x
  exact x
theorem nums_two {a b : Nat} (ha : a < 128) (hb : b < 128) : numsL [a, b] = [UInt8.ofNat a, UInt8.ofNat b] := by
  unfold numsL
  simp [PackMath.num_lt a ha, PackMath.num_lt b hb]
theorem nums_three {a b c : Nat} (ha : a < 128) (hb : b < 128) (hc : c < 128) : numsL [a, b, c] = [UInt8.ofNat a, UInt8.ofNat b, UInt8.ofNat c] := by
  unfold numsL
  simp [PackMath.num_lt a ha, PackMath.num_lt b hb, PackMath.num_lt c hc]
section
variable {B : Nat} {w wr : World} {rs : List Res}
theorem Has.nilT (h : Has B w rs wr) : Has B w (TR nilS [] :: rs) wr :=
  h.add (new := [TR nilS []]) (Below.refl _ _) (Hold.one ⟨World.ownsRow_nil _ _ _ _, rfl⟩) (fun k hk => by cases hk)
theorem eventR_any {q k i s : Nat} {S : ByteArray} {xs : List (List UInt8)} {r : List UInt8} (hS : S.size ≤ 4611686018427387904) (hk : 1 ≤ k ∧ k ≤ 6) (hi : i ≤ 60) (hs : s ≤ 7) (hx : xs.length ≤ 4000) (hxs : ∀ x ∈ xs, x.length ≤ 2000) (hn : k ≠ 1 → xs = []) (h6 : k = 6 → s = 0)
    (he : S.data.toList = evL k i s xs ++ r) (h : Has B w (RdR q S 1 :: rs) wr) :
    Calls Try.prog 33 #[.pointer (some ⟨q, 0, none⟩)] wr fun e w' => ∃ ao cap, e = .returned (.agg (vV k i s (.slice ao xs.length cap)).toArray) ∧ Hid (Has B w (RdR q S (evL k i s xs).length :: TR (.slice ao xs.length cap) xs :: rs) w') := by
  have hl : S.data.toList.length = S.size := Array.length_toList
  unfold evL at he ⊢
  by_cases k1 : k = 1
  · subst k1
    rw [if_pos rfl, nums_three (by omega) (by omega) (by omega)] at he ⊢
    have e1 : S.data.toList = 69 :: UInt8.ofNat 1 :: UInt8.ofNat i :: UInt8.ofNat s :: (PackMath.lst xs ++ r) := by rw [he]; simp
    have h4 : 4 ≤ S.size := by rw [← hl, e1]; simp
    refine (evR1 (c := (PackMath.lst xs).length) (xs := xs) hS h4 h (by rw [e1]; exact tn_one (by omega) _) (by rw [e1]; exact tn_one (by omega) _) (by rw [e1]; exact tn_one (by omega) _) (by rw [e1]; exact PackMath.tl_lst xs r hx hxs)).mono ?_
    rintro e w' ⟨ao, cap, rfl, H⟩
    refine ⟨ao, cap, rfl, ?_⟩
    have e2 : (69 :: ([UInt8.ofNat 1, UInt8.ofNat i, UInt8.ofNat s] ++ PackMath.lst xs)).length = 4 + (PackMath.lst xs).length := by simp; omega
    rw [e2]
    exact H
  · obtain rfl := hn k1
    by_cases k6 : k = 6
    · subst k6
      obtain rfl := h6 rfl
      rw [if_neg (by decide), if_pos rfl, nums_two (by omega) (by omega)] at he ⊢
      have e1 : S.data.toList = 69 :: UInt8.ofNat 6 :: UInt8.ofNat i :: r := by rw [he]; simp
      have h4 : 3 ≤ S.size := by rw [← hl, e1]; simp
      refine (evR6 hS h4 h (by rw [e1]; exact tn_one (by omega) _) (by rw [e1]; exact tn_one (by omega) _)).mono ?_
      rintro e w' ⟨rfl, H⟩
      exact ⟨none, 0, rfl, (H.nilT).perm (List.Perm.swap _ _ _)⟩
    · rw [if_neg k1, if_neg k6, nums_three (by omega) (by omega) (by omega)] at he ⊢
      have e1 : S.data.toList = 69 :: UInt8.ofNat k :: UInt8.ofNat i :: UInt8.ofNat s :: r := by rw [he]; simp
      have h4 : 4 ≤ S.size := by rw [← hl, e1]; simp
      refine (evRK hS h4 h (by rw [e1]; exact tn_one (by omega) _) (by rw [e1]; exact tn_one (by omega) _) (by rw [e1]; exact tn_one (by omega) _) k1 k6).mono ?_
      rintro e w' ⟨rfl, H⟩
      exact ⟨none, 0, rfl, (H.nilT).perm (List.Perm.swap _ _ _)⟩
theorem head_is {S : ByteArray} {b : UInt8} {l : List UInt8} (h : S.data.toList = b :: l) (c : UInt8) : ((S.extract 0 1).toList == [c]) = (b == c) := by
  have e : (S.extract 0 1).toList = [b] := by
    rw [Lib.toList_data]
    simp [ByteArray.data_extract, Array.toList_extract, List.extract, h]
  rw [e]
  simp
set_option maxHeartbeats 2000000 in
theorem valueE_any {q k i s : Nat} {S : ByteArray} {xs : List (List UInt8)} {r : List UInt8} (hS : S.size ≤ 4611686018427387904) (hk : 1 ≤ k ∧ k ≤ 6) (hi : i ≤ 60) (hs : s ≤ 7) (hx : xs.length ≤ 4000) (hxs : ∀ x ∈ xs, x.length ≤ 2000) (hn : k ≠ 1 → xs = []) (h6 : k = 6 → s = 0)
    (he : S.data.toList = evL k i s xs ++ r) (h : Has B w (RdR q S 0 :: rs) wr) :
    Calls Try.prog 25 #[.pointer (some ⟨q, 0, none⟩)] wr fun e w' => ∃ ao cap, e = .returned (.iface 55 (.agg (vV k i s (.slice ao xs.length cap)).toArray)) ∧ Hid (Has B w (RdR q S (evL k i s xs).length :: TR (.slice ao xs.length cap) xs :: rs) w') := by
  have hl : S.data.toList.length = S.size := Array.length_toList
  have hz : S.size ≠ 0 := by rw [← hl, he]; unfold evL; simp
  have hz1 : (1 : Int) ≤ (S.size : Int) := by omega
  have hem := emp_no S hz
  have hc : S.data.toList = 69 :: ((if k = 1 then numsL [1, i, s] ++ PackMath.lst xs else if k = 6 then numsL [6, i] else numsL [k, i, s]) ++ r) := he
  have k1 := head_is hc 76
  have k2 := head_is hc 69
  rw [show ((69 : UInt8) == 76) = false from by decide] at k1
  rw [show ((69 : UInt8) == 69) = true from by decide] at k2
  have H1 : Hid (Has B w (RdR q S 1 :: rs) (wr.setCell ⟨q, 1, none⟩ (.int .i64 1))) := h.put 1 (by simp) (.int .i64 1)
  have D1 : Hid (Calls Try.prog 33 #[.pointer (some ⟨q, 0, none⟩)] (wr.setCell ⟨q, 1, none⟩ (.int .i64 1)) fun e w' => ∃ ao cap, e = .returned (.agg (vV k i s (.slice ao xs.length cap)).toArray) ∧ Hid (Has B w (RdR q S (evL k i s xs).length :: TR (.slice ao xs.length cap) xs :: rs) w')) := eventR_any hS hk hi hs hx hxs hn h6 he H1.out
  obtain ⟨c0, _⟩ := h.bcell (q := q) (vs := [.string S, .int .i64 0]) List.mem_cons_self 0 _ rfl
  obtain ⟨c1, f1⟩ := h.bcell (q := q) (vs := [.string S, .int .i64 0]) List.mem_cons_self 1 _ rfl
  clear h H1 he hc hn h6 hxs hl
  go_enter Try.func25, Try.ntmps25
  go_wp2_with fail
  refine D1.out.mono ?_
  rintro e w2 ⟨ao, cap, rfl, H2⟩
  clear D1
  go_wp2_with fail
  go_ret
  exact ⟨_, _, rfl, H2⟩
end
end Go.Proofs.Ytbgankldnjeohaa.Pl
