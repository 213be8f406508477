/- Reading the form of a letter, whatever stands behind it: letter, value. -/
import Derived.Test.YteicfkgcbpioiaaLtReadP
set_option linter.unusedVariables false
set_option linter.unusedSimpArgs false
set_option maxRecDepth 100000
namespace Go.Proofs.Yteicfkgcbpioiaa.Pl
open Go.RowKit Go.Proofs.Yteicfkgcbpioiaa

theorem nums_4 {a b c d : Nat} (ha : a < 128) (hb : b < 128) (hc : c < 128) (hd : d < 128) : numsL [a, b, c, d] = [UInt8.ofNat a, UInt8.ofNat b, UInt8.ofNat c, UInt8.ofNat d] := by
  unfold numsL
  simp [PackMath.num_lt a ha, PackMath.num_lt b hb, PackMath.num_lt c hc, PackMath.num_lt d hd]
theorem nums_5 {a b c d e : Nat} (ha : a < 128) (hb : b < 128) (hc : c < 128) (hd : d < 128) (he : e < 128) : numsL [a, b, c, d, e] = [UInt8.ofNat a, UInt8.ofNat b, UInt8.ofNat c, UInt8.ofNat d, UInt8.ofNat e] := by
  unfold numsL
  simp [PackMath.num_lt a ha, PackMath.num_lt b hb, PackMath.num_lt c hc, PackMath.num_lt d hd, PackMath.num_lt e he]
section
variable {B : Nat} {w wr : World} {rs : List Res}
theorem letterR_any {q k p i s o : Nat} {S : ByteArray} {xs : List (List UInt8)} {r : List UInt8} (hS : S.size ≤ 4611686018427387904) (hk : 1 ≤ k ∧ k ≤ 9) (hp : p ≤ 3) (hi : i ≤ 60) (hs : s ≤ 7) (ho : o ≤ 3) (hx : xs.length ≤ 4000) (hxs : ∀ x ∈ xs, x.length ≤ 2000) (hn : k ≠ 1 → xs = [] ∧ o = 0) (h6 : k = 3 ∨ k = 9 → s = 0)
    (he : S.data.toList = ltL k p i s o xs ++ r) (h : Has B w (RdR q S 1 :: rs) wr) :
    Calls Try.prog 33 #[.pointer (some ⟨q, 0, none⟩)] wr fun e w' => ∃ ao cap, e = .returned (.agg (vL k p i s o (.slice ao xs.length cap)).toArray) ∧ Hid (Has B w (RdR q S (ltL k p i s o xs).length :: TR (.slice ao xs.length cap) xs :: rs) w') := by
  have hl : S.data.toList.length = S.size := Array.length_toList
  unfold ltL at he ⊢
  by_cases k1 : k = 1
  · subst k1
    rw [if_pos rfl, nums_5 (by omega) (by omega) (by omega) (by omega) (by omega)] at he ⊢
    have e1 : S.data.toList = 76 :: UInt8.ofNat 1 :: UInt8.ofNat p :: UInt8.ofNat i :: UInt8.ofNat s :: UInt8.ofNat o :: (PackMath.lst xs ++ r) := by rw [he]; simp
    have h4 : 6 ≤ S.size := by rw [← hl, e1]; simp
    refine (ltR1 (c := (PackMath.lst xs).length) (xs := xs) hS h4 h (by rw [e1]; exact tn_one (by omega) _) (by rw [e1]; exact tn_one (by omega) _) (by rw [e1]; exact tn_one (by omega) _) (by rw [e1]; exact tn_one (by omega) _) (by rw [e1]; exact tn_one (by omega) _) (by rw [e1]; exact PackMath.tl_lst xs r hx hxs)).mono ?_
    rintro e w' ⟨ao, cap, rfl, H⟩
    refine ⟨ao, cap, rfl, ?_⟩
    have e2 : (76 :: ([UInt8.ofNat 1, UInt8.ofNat p, UInt8.ofNat i, UInt8.ofNat s, UInt8.ofNat o] ++ PackMath.lst xs)).length = 6 + (PackMath.lst xs).length := by simp; omega
    rw [e2]
    exact H
  · obtain ⟨rfl, rfl⟩ := hn k1
    by_cases k3 : k = 3
    · subst k3
      obtain rfl := h6 (Or.inl rfl)
      rw [if_neg (by decide), if_pos rfl, nums_three (by omega) (by omega) (by omega)] at he ⊢
      have e1 : S.data.toList = 76 :: UInt8.ofNat 3 :: UInt8.ofNat p :: UInt8.ofNat i :: r := by rw [he]; simp
      have h4 : 4 ≤ S.size := by rw [← hl, e1]; simp
      refine (ltR3 hS h4 h (by rw [e1]; exact tn_one (by omega) _) (by rw [e1]; exact tn_one (by omega) _) (by rw [e1]; exact tn_one (by omega) _)).mono ?_
      rintro e w' ⟨rfl, H⟩
      exact ⟨none, 0, rfl, (H.nilT).perm (List.Perm.swap _ _ _)⟩
    · by_cases k9 : k = 9
      · subst k9
        obtain rfl := h6 (Or.inr rfl)
        rw [if_neg (by decide), if_neg (by decide), if_pos rfl, nums_three (by omega) (by omega) (by omega)] at he ⊢
        have e1 : S.data.toList = 76 :: UInt8.ofNat 9 :: UInt8.ofNat p :: UInt8.ofNat i :: r := by rw [he]; simp
        have h4 : 4 ≤ S.size := by rw [← hl, e1]; simp
        refine (ltR9 hS h4 h (by rw [e1]; exact tn_one (by omega) _) (by rw [e1]; exact tn_one (by omega) _) (by rw [e1]; exact tn_one (by omega) _)).mono ?_
        rintro e w' ⟨rfl, H⟩
        exact ⟨none, 0, rfl, (H.nilT).perm (List.Perm.swap _ _ _)⟩
      · rw [if_neg k1, if_neg k3, if_neg k9, nums_4 (by omega) (by omega) (by omega) (by omega)] at he ⊢
        have e1 : S.data.toList = 76 :: UInt8.ofNat k :: UInt8.ofNat p :: UInt8.ofNat i :: UInt8.ofNat s :: r := by rw [he]; simp
        have h4 : 5 ≤ S.size := by rw [← hl, e1]; simp
        refine (ltRK hS h4 h (by rw [e1]; exact tn_one (by omega) _) (by rw [e1]; exact tn_one (by omega) _) (by rw [e1]; exact tn_one (by omega) _) (by rw [e1]; exact tn_one (by omega) _) k1 k3 k9).mono ?_
        rintro e w' ⟨rfl, H⟩
        exact ⟨none, 0, rfl, (H.nilT).perm (List.Perm.swap _ _ _)⟩
set_option maxHeartbeats 2000000 in
theorem valueL_any {q k p i s o : Nat} {S : ByteArray} {xs : List (List UInt8)} {r : List UInt8} (hS : S.size ≤ 4611686018427387904) (hk : 1 ≤ k ∧ k ≤ 9) (hp : p ≤ 3) (hi : i ≤ 60) (hs : s ≤ 7) (ho : o ≤ 3) (hx : xs.length ≤ 4000) (hxs : ∀ x ∈ xs, x.length ≤ 2000) (hn : k ≠ 1 → xs = [] ∧ o = 0) (h6 : k = 3 ∨ k = 9 → s = 0)
    (he : S.data.toList = ltL k p i s o xs ++ r) (h : Has B w (RdR q S 0 :: rs) wr) :
    Calls Try.prog 29 #[.pointer (some ⟨q, 0, none⟩)] wr fun e w' => ∃ ao cap, e = .returned (.iface 52 (.agg (vL k p i s o (.slice ao xs.length cap)).toArray)) ∧ Hid (Has B w (RdR q S (ltL k p i s o xs).length :: TR (.slice ao xs.length cap) xs :: rs) w') := by
  have hl : S.data.toList.length = S.size := Array.length_toList
  have hz : S.size ≠ 0 := by rw [← hl, he]; unfold ltL; simp
  have hz1 : (1 : Int) ≤ (S.size : Int) := by omega
  have hem := emp_no S hz
  obtain ⟨m, hc⟩ : ∃ m, S.data.toList = 76 :: m := ⟨_, he⟩
  have k1 := head_is hc 76
  rw [show ((76 : UInt8) == 76) = true from by decide] at k1
  have H1 : Hid (Has B w (RdR q S 1 :: rs) (wr.setCell ⟨q, 1, none⟩ (.int .i64 1))) := h.put 1 (by simp) (.int .i64 1)
  have D1 : Hid (Calls Try.prog 33 #[.pointer (some ⟨q, 0, none⟩)] (wr.setCell ⟨q, 1, none⟩ (.int .i64 1)) fun e w' => ∃ ao cap, e = .returned (.agg (vL k p i s o (.slice ao xs.length cap)).toArray) ∧ Hid (Has B w (RdR q S (ltL k p i s o xs).length :: TR (.slice ao xs.length cap) xs :: rs) w')) := letterR_any hS hk hp hi hs ho hx hxs hn h6 he H1.out
  obtain ⟨c0, _⟩ := h.bcell (q := q) (vs := [.string S, .int .i64 0]) List.mem_cons_self 0 _ rfl
  obtain ⟨c1, f1⟩ := h.bcell (q := q) (vs := [.string S, .int .i64 0]) List.mem_cons_self 1 _ rfl
  clear h H1 he hc hn h6 hxs hl
  go_enter Try.func29, Try.ntmps29
  go_wp2_with fail
  refine D1.out.mono ?_
  rintro e w2 ⟨ao, cap, rfl, H2⟩
  clear D1
  go_wp2_with fail
  go_ret
  exact ⟨_, _, rfl, H2⟩
end
end Go.Proofs.Yteicfkgcbpioiaa.Pl
