/- read of a letter's form cut short, of one with more behind it. -/
import Derived.Test.YteicfkgcbpioiaaLtCutP
set_option linter.unusedVariables false
set_option linter.unusedSimpArgs false
set_option maxRecDepth 100000
namespace Go.Proofs.Yteicfkgcbpioiaa.Pl
open Go.RowKit Go.Proofs.Yteicfkgcbpioiaa

theorem tn_nil : PackMath.tn [] = (0, 0, 31) := by decide +kernel
theorem lst_pos (xs : List (List UInt8)) : 1 ≤ (PackMath.lst xs).length := by
  have := PackMath.num_pos xs.length
  unfold PackMath.lst
  rw [List.length_append]
  omega
theorem tl_cut (xs : List (List UInt8)) (h : xs.length ≤ 4000) (hs : ∀ s ∈ xs, s.length ≤ 2000) : PackMath.tl ((PackMath.lst xs).take ((PackMath.lst xs).length - 1)) = ([], 0, 31) := by
  have x := PackMath.tl_lst xs [] h hs
  rw [List.append_nil] at x
  have hp := lst_pos xs
  obtain ⟨_, _, _, _, _, _, hc⟩ := PackMath.tl_ok x
  exact hc _ (by omega)
section
variable {B : Nat} {w wr : World} {rs : List Res}
theorem letterR_cut {q k p i s o : Nat} {S : ByteArray} {xs : List (List UInt8)} (hS : S.size ≤ 4611686018427387904) (hk : 1 ≤ k ∧ k ≤ 9) (hp : p ≤ 3) (hi : i ≤ 60) (hs : s ≤ 7) (ho : o ≤ 3) (hx : xs.length ≤ 4000) (hxs : ∀ x ∈ xs, x.length ≤ 2000) (hn : k ≠ 1 → xs = [] ∧ o = 0)
    (he : S.data.toList = (ltL k p i s o xs).take ((ltL k p i s o xs).length - 1)) (h : Has B w (RdR q S 1 :: rs) wr) :
    Calls Try.prog 33 #[.pointer (some ⟨q, 0, none⟩)] wr fun en w' => en = gave ∧ Hid (Has B w rs w') := by
  have hl : S.data.toList.length = S.size := Array.length_toList
  unfold ltL at he
  by_cases k1 : k = 1
  · subst k1
    rw [if_pos rfl, nums_5 (by omega) (by omega) (by omega) (by omega) (by omega)] at he
    have hL := lst_pos xs
    have e1 : S.data.toList = 76 :: UInt8.ofNat 1 :: UInt8.ofNat p :: UInt8.ofNat i :: UInt8.ofNat s :: UInt8.ofNat o :: ((PackMath.lst xs).take ((PackMath.lst xs).length - 1)) := by
      rw [he]
      have e2 : (76 :: ([UInt8.ofNat 1, UInt8.ofNat p, UInt8.ofNat i, UInt8.ofNat s, UInt8.ofNat o] ++ PackMath.lst xs)).length - 1 = ((PackMath.lst xs).length - 1) + 6 := by simp; omega
      rw [e2]
      rfl
    have h4 : 6 ≤ S.size := by rw [← hl, e1]; simp
    exact ltC1 (c := 0) (e := 31) (xs := []) hS h4 h (by rw [e1]; exact tn_one (by omega) _) (by rw [e1]; exact tn_one (by omega) _) (by rw [e1]; exact tn_one (by omega) _) (by rw [e1]; exact tn_one (by omega) _) (by rw [e1]; exact tn_one (by omega) _) (by rw [e1]; exact tl_cut xs hx hxs) (by decide)
  · obtain ⟨rfl, rfl⟩ := hn k1
    by_cases k3 : k = 3
    · subst k3
      rw [if_neg (by decide), if_pos rfl, nums_three (by omega) (by omega) (by omega)] at he
      have e1 : S.data.toList = [76, UInt8.ofNat 3, UInt8.ofNat p] := he
      have h4 : 3 ≤ S.size := by rw [← hl, e1]; simp
      exact ltC3 (c := 0) (e := 31) (n := 0) hS h4 h (by rw [e1]; exact tn_one (by omega) _) (by rw [e1]; exact tn_one (by omega) _) (by rw [e1]; exact tn_nil) (by decide)
    · by_cases k9 : k = 9
      · subst k9
        rw [if_neg (by decide), if_neg (by decide), if_pos rfl, nums_three (by omega) (by omega) (by omega)] at he
        have e1 : S.data.toList = [76, UInt8.ofNat 9, UInt8.ofNat p] := he
        have h4 : 3 ≤ S.size := by rw [← hl, e1]; simp
        exact ltC9 (c := 0) (e := 31) (n := 0) hS h4 h (by rw [e1]; exact tn_one (by omega) _) (by rw [e1]; exact tn_one (by omega) _) (by rw [e1]; exact tn_nil) (by decide)
      · rw [if_neg k1, if_neg k3, if_neg k9, nums_4 (by omega) (by omega) (by omega) (by omega)] at he
        have e1 : S.data.toList = [76, UInt8.ofNat k, UInt8.ofNat p, UInt8.ofNat i] := he
        have h4 : 4 ≤ S.size := by rw [← hl, e1]; simp
        exact ltCK (c := 0) (e := 31) (n := 0) hS h4 h (by rw [e1]; exact tn_one (by omega) _) (by rw [e1]; exact tn_one (by omega) _) (by rw [e1]; exact tn_one (by omega) _) (by rw [e1]; exact tn_nil) (by decide) k1 k3 k9
theorem ltL_two {k p i s o : Nat} {xs : List (List UInt8)} : ∃ a m, ltL k p i s o xs = 76 :: a :: m := by
  have hz : ∀ (x : Nat) (l : List Nat), ∃ a m, numsL (x :: l) = a :: m := fun x l => by
    have := PackMath.num_pos x
    cases e : PackMath.num x with
    | nil => rw [e] at this; simp at this
    | cons a m => exact ⟨a, m ++ numsL l, by unfold numsL; simp [e]⟩
  unfold ltL
  split
  · obtain ⟨a, m, e⟩ := hz 1 [p, i, s, o]
    rw [e]
    exact ⟨a, _, rfl⟩
  · split
    · obtain ⟨a, m, e⟩ := hz 3 [p, i]
      rw [e]
      exact ⟨a, _, rfl⟩
    · split
      · obtain ⟨a, m, e⟩ := hz 9 [p, i]
        rw [e]
        exact ⟨a, _, rfl⟩
      · obtain ⟨a, m, e⟩ := hz k [p, i, s]
        rw [e]
        exact ⟨a, _, rfl⟩
set_option maxHeartbeats 2000000 in
theorem valueL_cut {q : Nat} {S : ByteArray} {m : List UInt8} (hc : S.data.toList = 76 :: m) (C : ∀ wr, Hid (Has B w (RdR q S 1 :: rs) wr) → Calls Try.prog 33 #[.pointer (some ⟨q, 0, none⟩)] wr fun en w' => en = gave ∧ Hid (Has B w rs w')) (h : Has B w (RdR q S 0 :: rs) wr) :
    Calls Try.prog 29 #[.pointer (some ⟨q, 0, none⟩)] wr fun en w' => en = gave ∧ Hid (Has B w rs w') := by
  have hl : S.data.toList.length = S.size := Array.length_toList
  have hz : S.size ≠ 0 := by rw [← hl, hc]; simp
  have hz1 : (1 : Int) ≤ (S.size : Int) := by omega
  have hem := emp_no S hz
  have k1 := head_is hc 76
  rw [show ((76 : UInt8) == 76) = true from by decide] at k1
  have H1 : Hid (Has B w (RdR q S 1 :: rs) (wr.setCell ⟨q, 1, none⟩ (.int .i64 1))) := h.put 1 (by simp) (.int .i64 1)
  have D1 := C _ H1
  obtain ⟨c0, _⟩ := h.bcell (q := q) (vs := [.string S, .int .i64 0]) List.mem_cons_self 0 _ rfl
  obtain ⟨c1, f1⟩ := h.bcell (q := q) (vs := [.string S, .int .i64 0]) List.mem_cons_self 1 _ rfl
  clear h H1 hc hl C
  go_enter Try.func29, Try.ntmps29
  go_wp2_with fail
  refine D1.mono ?_
  rintro en w2 ⟨rfl, H2⟩
  clear D1
  go_wp2_with fail
  exact bodyPost_dies rfl ⟨rfl, H2⟩
set_option maxHeartbeats 2000000 in
theorem read_cut {S : ByteArray} (C : ∀ (rs : List Res) (q : Nat) (wr : World), Hid (Has B w (RdR q S 0 :: rs) wr) → Calls Try.prog 29 #[.pointer (some ⟨q, 0, none⟩)] wr fun en w' => en = gave ∧ Hid (Has B w rs w')) (h : Has B w rs wr) :
    Calls Try.prog 21 #[.string S] wr fun e w' => e = .returned .nilIface ∧ Hid (Has B w rs w') := by
  have hmf : ∀ (fn : Fn) (first cap : Array Value) (w : World), (Instr.makeFunc fn first cap).run Try.prog w = .ok (.func fn first cap) w := fun _ _ _ _ => rfl
  have H1 : Hid (Has B w (RdR (wr.heap.size + 1) S 0 :: BlockR wr.heap.size [.nilIface] :: rs) ((wr.alloc (.cells #[.nilIface] 55)).alloc (.cells #[.string S, .int .i64 0] 68))) := by
    have x := (h.box [.nilIface] 55).box [.string S, .int .i64 0] 68
    rw [World.size_alloc] at x
    exact x
  have D1 := C _ _ _ H1
  clear h H1 C
  go_enter_defers Try.func21, Try.ntmps21
  go_wp2_with fail
  refine D1.mono ?_
  rintro e w3 ⟨rfl, H2⟩
  clear D1
  obtain ⟨y0, g0⟩ := H2.out.bcell (q := wr.heap.size) (vs := [.nilIface]) (by simp) 0 _ rfl
  have y2 : (w3.setCell ⟨wr.heap.size, 0, none⟩ .nilIface).cell? ⟨wr.heap.size, 0, none⟩ = some .nilIface := World.cell?_setCell_same _ _ _ y0
  have HZ : Hid (Has B w rs (w3.setCell ⟨wr.heap.size, 0, none⟩ .nilIface)) := (H2.out.put 0 (by simp) .nilIface).drop
  clear H2
  go_wp2_with fail
  refine leaves_cons (f := 28) (args := #[.pointer (some ⟨wr.heap.size, 0, none⟩)]) (by simp) (by simp [go_sem]) ?_
  refine (catch_finds ⟨wr.heap.size, 0, none⟩ _ _ y0 g0).mono ?_
  rintro e u' w'' ⟨rfl, rfl, rfl⟩
  simp [Leaves, settle, results, Try.results21, go_sem, y2]
  exact HZ
theorem readL_cut (t : Tb) {k p i s o : Nat} {S : ByteArray} {xs : List (List UInt8)} (hS : S.size ≤ 4611686018427387904) (hm : ltMay t k p i s o xs = true) (he : S.data.toList = (ltL k p i s o xs).take ((ltL k p i s o xs).length - 1)) (h : Has B w rs wr) :
    Calls Try.prog 21 #[.string S] wr fun e w' => e = .returned .nilIface ∧ Hid (Has B w rs w') := by
  obtain ⟨f1, f2, f2b, f3, f3b, f4, f5, f6, f7⟩ := ltMay_facts hm
  obtain ⟨a, m, e2⟩ := ltL_two (k := k) (p := p) (i := i) (s := s) (o := o) (xs := xs)
  have hc : S.data.toList = 76 :: (a :: m).take m.length := by rw [he, e2]; simp
  refine read_cut (fun rs q wr hq => valueL_cut hc (fun wr hq => ?_) hq.out) h
  exact letterR_cut hS (by omega) (by omega) (by omega) (by omega) (by omega) (by omega : xs.length ≤ 4000) (fun x hx => by have := f5 x hx; omega) (fun hk => by have := f6 (by omega); exact ⟨this.1, by omega⟩) he hq.out
end
end Go.Proofs.Yteicfkgcbpioiaa.Pl
