/- read of a letter's form, and of one with something behind it. -/
import Derived.Test.YteicfkgcbpioiaaLtValP
import Derived.Test.YteicfkgcbpioiaaZzE
set_option linter.unusedVariables false
set_option linter.unusedSimpArgs false
set_option maxRecDepth 100000
namespace Go.Proofs.Yteicfkgcbpioiaa.Pl
open Go.RowKit Go.Proofs.Yteicfkgcbpioiaa

section
variable {B : Nat} {w wr : World} {rs : List Res}
set_option maxHeartbeats 2000000 in
theorem readL_ok (t : Tb) {k p i s o : Nat} {S : ByteArray} {xs : List (List UInt8)} (hS : S.size ≤ 4611686018427387904) (hT : Hid (TabX t w)) (hlow : Hid (1 < B ∧ 2 < B)) (hm : ltMay t k p i s o xs = true) (he : S.data.toList = ltL k p i s o xs) (h : Has B w rs wr) :
    Calls Try.prog 21 #[.string S] wr fun e w' => ∃ ao cap, e = .returned (.iface 52 (.agg #[.int .i64 (k : Int), .int .i64 (p : Int), .int .i64 (i : Int), .int .i64 (s : Int), .int .i64 (o : Int), .slice ao xs.length cap])) ∧ Hid (Has B w (TR (.slice ao xs.length cap) xs :: rs) w') := by
  obtain ⟨f1, f2, f2b, f3, f3b, f4, f5, f6, f7⟩ := ltMay_facts hm
  have hl : S.data.toList.length = S.size := Array.length_toList
  obtain ⟨L, hL⟩ : ∃ L, (ltL k p i s o xs).length = L := ⟨_, rfl⟩
  have hLS : S.size = L := by rw [← hl, he, hL]
  have hmf : ∀ (fn : Fn) (first cap : Array Value) (w : World), (Instr.makeFunc fn first cap).run Try.prog w = .ok (.func fn first cap) w := fun _ _ _ _ => rfl
  have hmm := m_letter_may
  have H1 : Hid (Has B w (RdR (wr.heap.size + 1) S 0 :: BlockR wr.heap.size [.nilIface] :: rs) ((wr.alloc (.cells #[.nilIface] 55)).alloc (.cells #[.string S, .int .i64 0] 68))) := by
    have x := (h.box [.nilIface] 55).box [.string S, .int .i64 0] 68
    rw [World.size_alloc] at x
    exact x
  have D1 : Hid (Calls Try.prog 29 #[.pointer (some ⟨wr.heap.size + 1, 0, none⟩)] ((wr.alloc (.cells #[.nilIface] 55)).alloc (.cells #[.string S, .int .i64 0] 68)) fun e w' => ∃ ao cap, e = .returned (.iface 52 (.agg (vL k p i s o (.slice ao xs.length cap)).toArray)) ∧ Hid (Has B w (RdR (wr.heap.size + 1) S L :: TR (.slice ao xs.length cap) xs :: BlockR wr.heap.size [.nilIface] :: rs) w')) := by
    have x := valueL_any (k := k) (p := p) (i := i) (s := s) (o := o) (xs := xs) (r := []) hS (by omega) (by omega) (by omega) (by omega) (by omega) (by omega : xs.length ≤ 4000) (fun x hx => by have := f5 x hx; omega) (fun hk => by have := f6 (by omega); exact ⟨this.1, by omega⟩) (fun hk => by have := f7 (by omega); omega) (by rw [List.append_nil]; exact he) H1.out
    rw [hL] at x
    exact x
  have CM : Hid (∀ ao cap wq, Below B w wq → B ≤ wq.heap.size → SRow wq (.slice ao xs.length cap) xs → Calls Try.prog 85 #[.agg #[.int .i64 (k : Int), .int .i64 (p : Int), .int .i64 (i : Int), .int .i64 (s : Int), .int .i64 (o : Int), .slice ao xs.length cap]] wq fun e w' => e = .returned (.bool true) ∧ Below wq.heap.size wq w') := fun ao cap wq hb hz hS2 => by
    have x := ltMay_any t (k : Int) p i s o (.slice ao xs.length cap) xs (by omega) (fun x hx => by have := f5 x hx; omega) wq (hT.out.below hb hlow.out) ⟨Nat.lt_of_lt_of_le hlow.out.1 hz, Nat.lt_of_lt_of_le hlow.out.2 hz⟩ hS2
    rw [hm] at x
    exact x
  clear h H1 he hm hT f1 f2 f2b f3 f3b f4 f5 f6 f7 hl hL
  go_enter_defers Try.func21, Try.ntmps21
  go_wp2_with fail
  refine D1.out.mono ?_
  rintro e w2 ⟨ao, cap, rfl, H2⟩
  clear D1
  have hvn : (vL k p i s o (.slice ao xs.length cap)).toArray = #[.int .i64 (k : Int), .int .i64 (p : Int), .int .i64 (i : Int), .int .i64 (s : Int), .int .i64 (o : Int), .slice ao xs.length cap] := rfl
  rw [hvn]
  clear hvn
  have H2p := H2.out.perm (List.perm_middle (l₁ := [_, _]) (a := BlockR wr.heap.size [.nilIface]))
  obtain ⟨c0, f0⟩ := H2p.bcell (q := wr.heap.size) (vs := [.nilIface]) (by simp) 0 _ rfl
  have HP : Hid (Has B w (BlockR wr.heap.size [(.iface 52 (.agg #[.int .i64 (k : Int), .int .i64 (p : Int), .int .i64 (i : Int), .int .i64 (s : Int), .int .i64 (o : Int), .slice ao xs.length cap]))] :: RdR (wr.heap.size + 1) S L :: TR (.slice ao xs.length cap) xs :: rs) (w2.setCell ⟨wr.heap.size, 0, none⟩ (.iface 52 (.agg #[.int .i64 (k : Int), .int .i64 (p : Int), .int .i64 (i : Int), .int .i64 (s : Int), .int .i64 (o : Int), .slice ao xs.length cap])))) := H2p.put 0 (by simp) _
  obtain ⟨x0, _⟩ := HP.out.bcell (q := wr.heap.size) (vs := [(.iface 52 (.agg #[.int .i64 (k : Int), .int .i64 (p : Int), .int .i64 (i : Int), .int .i64 (s : Int), .int .i64 (o : Int), .slice ao xs.length cap]))]) (by simp) 0 _ rfl
  clear H2 H2p
  go_wp2_with fail
  refine (CM.out _ _ _ HP.out.bel HP.out.size (HP.out.srowT (by simp))).mono ?_
  rintro e w3 ⟨rfl, hb⟩
  have HQ : Hid (Has B w (BlockR wr.heap.size [(.iface 52 (.agg #[.int .i64 (k : Int), .int .i64 (p : Int), .int .i64 (i : Int), .int .i64 (s : Int), .int .i64 (o : Int), .slice ao xs.length cap]))] :: RdR (wr.heap.size + 1) S L :: TR (.slice ao xs.length cap) xs :: rs) w3) := HP.out.below hb
  clear HP hb x0 c0 f0 CM
  obtain ⟨y0, g0⟩ := HQ.out.bcell (q := wr.heap.size) (vs := [(.iface 52 (.agg #[.int .i64 (k : Int), .int .i64 (p : Int), .int .i64 (i : Int), .int .i64 (s : Int), .int .i64 (o : Int), .slice ao xs.length cap]))]) (by simp) 0 _ rfl
  obtain ⟨y1, _⟩ := HQ.out.bcell (q := wr.heap.size + 1) (vs := [.string S, .int .i64 (L : Int)]) (List.mem_cons_of_mem _ List.mem_cons_self) 1 (.int .i64 (L : Int)) rfl
  have y2 : (w3.setCell ⟨wr.heap.size, 0, none⟩ (.iface 52 (.agg #[.int .i64 (k : Int), .int .i64 (p : Int), .int .i64 (i : Int), .int .i64 (s : Int), .int .i64 (o : Int), .slice ao xs.length cap]))).cell? ⟨wr.heap.size, 0, none⟩ = some (.iface 52 (.agg #[.int .i64 (k : Int), .int .i64 (p : Int), .int .i64 (i : Int), .int .i64 (s : Int), .int .i64 (o : Int), .slice ao xs.length cap])) := World.cell?_setCell_same _ _ _ y0
  have HZ : Hid (Has B w (TR (.slice ao xs.length cap) xs :: rs) (w3.setCell ⟨wr.heap.size, 0, none⟩ (.iface 52 (.agg #[.int .i64 (k : Int), .int .i64 (p : Int), .int .i64 (i : Int), .int .i64 (s : Int), .int .i64 (o : Int), .slice ao xs.length cap])))) := (HQ.out.put 0 (by simp) (.iface 52 (.agg #[.int .i64 (k : Int), .int .i64 (p : Int), .int .i64 (i : Int), .int .i64 (s : Int), .int .i64 (o : Int), .slice ao xs.length cap]))).drop.drop
  clear HQ
  subst hLS
  go_wp2_with fail
  refine leaves_cons (f := 28) (args := #[.pointer (some ⟨wr.heap.size, 0, none⟩)]) (by simp) (by simp [go_sem]) ?_
  refine (catch_idle ⟨wr.heap.size, 0, none⟩ _).mono ?_
  rintro e u' w'' ⟨rfl, rfl, rfl⟩
  simp [Leaves, settle, results, Try.results21, go_sem, y2]
  exact ⟨_, _, ⟨rfl, rfl⟩, HZ⟩
set_option maxHeartbeats 2000000 in
theorem readL_more (t : Tb) {k p i s o : Nat} {S : ByteArray} {xs : List (List UInt8)} {r : List UInt8} (hS : S.size ≤ 4611686018427387904) (hT : Hid (TabX t w)) (hlow : Hid (1 < B ∧ 2 < B)) (hm : ltMay t k p i s o xs = true) (hr : r ≠ []) (he : S.data.toList = ltL k p i s o xs ++ r) (h : Has B w rs wr) :
    Calls Try.prog 21 #[.string S] wr fun e w' => e = .returned .nilIface ∧ Hid (Has B w rs w') := by
  obtain ⟨f1, f2, f2b, f3, f3b, f4, f5, f6, f7⟩ := ltMay_facts hm
  have hl : S.data.toList.length = S.size := Array.length_toList
  obtain ⟨L, hL⟩ : ∃ L, (ltL k p i s o xs).length = L := ⟨_, rfl⟩
  have hLS : ((L : Int) == (S.size : Int)) = false := beq_eq_false_iff_ne.2 (by
    have h1 : S.size = L + r.length := by
      have h0 := congrArg List.length he
      rw [List.length_append, hL, hl] at h0
      exact h0
    have h2 : 0 < r.length := by cases r with | nil => exact absurd rfl hr | cons _ _ => simp
    omega)
  have hmf : ∀ (fn : Fn) (first cap : Array Value) (w : World), (Instr.makeFunc fn first cap).run Try.prog w = .ok (.func fn first cap) w := fun _ _ _ _ => rfl
  have hmm := m_letter_may
  have H1 : Hid (Has B w (RdR (wr.heap.size + 1) S 0 :: BlockR wr.heap.size [.nilIface] :: rs) ((wr.alloc (.cells #[.nilIface] 55)).alloc (.cells #[.string S, .int .i64 0] 68))) := by
    have x := (h.box [.nilIface] 55).box [.string S, .int .i64 0] 68
    rw [World.size_alloc] at x
    exact x
  have D1 : Hid (Calls Try.prog 29 #[.pointer (some ⟨wr.heap.size + 1, 0, none⟩)] ((wr.alloc (.cells #[.nilIface] 55)).alloc (.cells #[.string S, .int .i64 0] 68)) fun e w' => ∃ ao cap, e = .returned (.iface 52 (.agg (vL k p i s o (.slice ao xs.length cap)).toArray)) ∧ Hid (Has B w (RdR (wr.heap.size + 1) S L :: TR (.slice ao xs.length cap) xs :: BlockR wr.heap.size [.nilIface] :: rs) w')) := by
    have x := valueL_any (k := k) (p := p) (i := i) (s := s) (o := o) (xs := xs) (r := r) hS (by omega) (by omega) (by omega) (by omega) (by omega) (by omega : xs.length ≤ 4000) (fun x hx => by have := f5 x hx; omega) (fun hk => by have := f6 (by omega); exact ⟨this.1, by omega⟩) (fun hk => by have := f7 (by omega); omega) (by exact he) H1.out
    rw [hL] at x
    exact x
  have CM : Hid (∀ ao cap wq, Below B w wq → B ≤ wq.heap.size → SRow wq (.slice ao xs.length cap) xs → Calls Try.prog 85 #[.agg #[.int .i64 (k : Int), .int .i64 (p : Int), .int .i64 (i : Int), .int .i64 (s : Int), .int .i64 (o : Int), .slice ao xs.length cap]] wq fun e w' => e = .returned (.bool true) ∧ Below wq.heap.size wq w') := fun ao cap wq hb hz hS2 => by
    have x := ltMay_any t (k : Int) p i s o (.slice ao xs.length cap) xs (by omega) (fun x hx => by have := f5 x hx; omega) wq (hT.out.below hb hlow.out) ⟨Nat.lt_of_lt_of_le hlow.out.1 hz, Nat.lt_of_lt_of_le hlow.out.2 hz⟩ hS2
    rw [hm] at x
    exact x
  clear h H1 he hm hT f1 f2 f2b f3 f3b f4 f5 f6 f7 hl hL
  go_enter_defers Try.func21, Try.ntmps21
  go_wp2_with fail
  refine D1.out.mono ?_
  rintro e w2 ⟨ao, cap, rfl, H2⟩
  clear D1
  have hvn : (vL k p i s o (.slice ao xs.length cap)).toArray = #[.int .i64 (k : Int), .int .i64 (p : Int), .int .i64 (i : Int), .int .i64 (s : Int), .int .i64 (o : Int), .slice ao xs.length cap] := rfl
  rw [hvn]
  clear hvn
  have H2p := H2.out.perm (List.perm_middle (l₁ := [_, _]) (a := BlockR wr.heap.size [.nilIface]))
  obtain ⟨c0, f0⟩ := H2p.bcell (q := wr.heap.size) (vs := [.nilIface]) (by simp) 0 _ rfl
  have HP : Hid (Has B w (BlockR wr.heap.size [(.iface 52 (.agg #[.int .i64 (k : Int), .int .i64 (p : Int), .int .i64 (i : Int), .int .i64 (s : Int), .int .i64 (o : Int), .slice ao xs.length cap]))] :: RdR (wr.heap.size + 1) S L :: TR (.slice ao xs.length cap) xs :: rs) (w2.setCell ⟨wr.heap.size, 0, none⟩ (.iface 52 (.agg #[.int .i64 (k : Int), .int .i64 (p : Int), .int .i64 (i : Int), .int .i64 (s : Int), .int .i64 (o : Int), .slice ao xs.length cap])))) := H2p.put 0 (by simp) _
  obtain ⟨x0, _⟩ := HP.out.bcell (q := wr.heap.size) (vs := [(.iface 52 (.agg #[.int .i64 (k : Int), .int .i64 (p : Int), .int .i64 (i : Int), .int .i64 (s : Int), .int .i64 (o : Int), .slice ao xs.length cap]))]) (by simp) 0 _ rfl
  clear H2 H2p
  go_wp2_with fail
  refine (CM.out _ _ _ HP.out.bel HP.out.size (HP.out.srowT (by simp))).mono ?_
  rintro e w3 ⟨rfl, hb⟩
  have HQ : Hid (Has B w (BlockR wr.heap.size [(.iface 52 (.agg #[.int .i64 (k : Int), .int .i64 (p : Int), .int .i64 (i : Int), .int .i64 (s : Int), .int .i64 (o : Int), .slice ao xs.length cap]))] :: RdR (wr.heap.size + 1) S L :: TR (.slice ao xs.length cap) xs :: rs) w3) := HP.out.below hb
  clear HP hb x0 c0 f0 CM
  obtain ⟨y0, g0⟩ := HQ.out.bcell (q := wr.heap.size) (vs := [(.iface 52 (.agg #[.int .i64 (k : Int), .int .i64 (p : Int), .int .i64 (i : Int), .int .i64 (s : Int), .int .i64 (o : Int), .slice ao xs.length cap]))]) (by simp) 0 _ rfl
  obtain ⟨y1, _⟩ := HQ.out.bcell (q := wr.heap.size + 1) (vs := [.string S, .int .i64 (L : Int)]) (List.mem_cons_of_mem _ List.mem_cons_self) 1 (.int .i64 (L : Int)) rfl
  have y2 : (w3.setCell ⟨wr.heap.size, 0, none⟩ .nilIface).cell? ⟨wr.heap.size, 0, none⟩ = some .nilIface := World.cell?_setCell_same _ _ _ y0
  have HZ : Hid (Has B w rs (w3.setCell ⟨wr.heap.size, 0, none⟩ .nilIface)) := (HQ.out.put 0 (by simp) .nilIface).drop.drop.drop
  clear HQ
  go_wp2_with fail
  refine (giveUp_any _).mono ?_
  rintro e w4 ⟨rfl, hw4⟩
  rw [hw4]
  clear hw4
  go_wp2_with fail
  refine leaves_cons (f := 28) (args := #[.pointer (some ⟨wr.heap.size, 0, none⟩)]) (by simp) (by simp [go_sem]) ?_
  refine (catch_finds ⟨wr.heap.size, 0, none⟩ _ _ y0 g0).mono ?_
  rintro e u' w'' ⟨rfl, rfl, rfl⟩
  simp [Leaves, settle, results, Try.results21, go_sem, y2]
  exact HZ
end
end Go.Proofs.Yteicfkgcbpioiaa.Pl
