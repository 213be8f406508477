/- The walks of first, Next and Due. -/
import Derived.Test.YteadnjagandkfaaFirstW
set_option linter.unusedVariables false
set_option maxRecDepth 100000
namespace Go.Proofs.Yteadnjagandkfaa
open Go.RowKit
open WheelMath

/-- What stands in its own new cell: a timer that a call handed back. -/
theorem first_nil (w : World) (b : Nat) (v : Value) (h : PW w b v []) :
    Calls Try.prog 46 #[.pointer (some ⟨b, 0, none⟩)] w fun e w' => e = .returned (.tuple #[.agg #[.int .i64 0, .int .i64 0], .bool false]) ∧ Below w.heap.size w w' := by
  obtain ⟨ao, cap, hv, _⟩ := own_form h.row
  have h1 := h.cell
  rw [hv] at h1
  have hb := h.lt
  have hb0 : Below w.heap.size w (w.alloc (.cells #[.int .i64 0, .int .i64 0] 70)) := (Below.refl _ _).alloc (Nat.le_refl _) _
  clear h hv
  go_enter Try.func46, Try.ntmps46
  go_wp2_with fail
  refine (least_nil _ _ _).mono ?_
  rintro e w1 ⟨rfl, hb1⟩
  have n0 : w1.cell? ⟨w.heap.size, 0, none⟩ = some (.int .i64 0) := (hb1.cell (p := ⟨w.heap.size, 0, none⟩) (by simp)).trans (by simp)
  have n1 : w1.cell? ⟨w.heap.size, 1, none⟩ = some (.int .i64 0) := (hb1.cell (p := ⟨w.heap.size, 1, none⟩) (by simp)).trans (by simp)
  have m0 : w1.frozen? ⟨w.heap.size, 0, none⟩ = false := (hb1.frozen (p := ⟨w.heap.size, 0, none⟩) (by simp)).trans (by simp)
  have m1 : w1.frozen? ⟨w.heap.size, 1, none⟩ = false := (hb1.frozen (p := ⟨w.heap.size, 1, none⟩) (by simp)).trans (by simp)
  have HB : Hid (Below w.heap.size w w1) := hb0.trans (hb1.mono hb0.size)
  clear hb0 hb1
  go_wp2
  exact bodyPost_ret (v := .tuple #[.agg #[.int .i64 0, .int .i64 0], .bool false]) (by simp [results, Try.results46, go_sem, n0, n1]) rfl ⟨rfl, (HB.out.setCell (p := ⟨w.heap.size, 0, none⟩) (Nat.le_refl _) _).setCell (p := ⟨w.heap.size, 1, none⟩) (Nat.le_refl _) _⟩
theorem first_cons (w : World) (b : Nat) (v : Value) (l : List T) (hl : l.length ≤ 200) (h : PW w b v l) (a : T) (r : List T) (hp : l.Perm (a :: r)) (hs : Sorted (a :: r)) :
    Calls Try.prog 46 #[.pointer (some ⟨b, 0, none⟩)] w fun e w' => e = .returned (.tuple #[.agg #[.int .i64 a.1, .int .i64 a.2], .bool true]) ∧ Below w.heap.size w w' := by
  obtain ⟨ao, cap, hv, _⟩ := own_form h.row
  have h1 := h.cell
  rw [hv] at h1
  have hb := h.lt
  have hb0 : Below w.heap.size w (w.alloc (.cells #[.int .i64 0, .int .i64 0] 70)) := (Below.refl _ _).alloc (Nat.le_refl _) _
  have C : Hid (Calls Try.prog 51 #[.slice ao l.length cap, .func (.func 52) #[] #[]] (w.alloc (.cells #[.int .i64 0, .int .i64 0] 70)) fun e w' => e = .returned (.tuple #[.agg #[.int .i64 a.1, .int .i64 a.2], .bool true]) ∧ Below (w.alloc (.cells #[.int .i64 0, .int .i64 0] 70)).heap.size (w.alloc (.cells #[.int .i64 0, .int .i64 0] 70)) w') := by
    rw [← hv]
    exact least_cons _ v l hl 0 _ (pw_below h hb0).row a r hp hs
  clear h hv hp hs
  go_enter Try.func46, Try.ntmps46
  go_wp2_with fail
  refine C.out.mono ?_
  rintro e w1 ⟨rfl, hb1⟩
  have n0 : w1.cell? ⟨w.heap.size, 0, none⟩ = some (.int .i64 0) := (hb1.cell (p := ⟨w.heap.size, 0, none⟩) (by simp)).trans (by simp)
  have n1 : w1.cell? ⟨w.heap.size, 1, none⟩ = some (.int .i64 0) := (hb1.cell (p := ⟨w.heap.size, 1, none⟩) (by simp)).trans (by simp)
  have m0 : w1.frozen? ⟨w.heap.size, 0, none⟩ = false := (hb1.frozen (p := ⟨w.heap.size, 0, none⟩) (by simp)).trans (by simp)
  have m1 : w1.frozen? ⟨w.heap.size, 1, none⟩ = false := (hb1.frozen (p := ⟨w.heap.size, 1, none⟩) (by simp)).trans (by simp)
  have HB : Hid (Below w.heap.size w w1) := hb0.trans (hb1.mono hb0.size)
  clear hb0 hb1 C
  go_wp2
  exact bodyPost_ret (v := .tuple #[.agg #[.int .i64 a.1, .int .i64 a.2], .bool true]) (by simp [results, Try.results46, go_sem, n0, n1]) rfl ⟨rfl, (HB.out.setCell (p := ⟨w.heap.size, 0, none⟩) (Nat.le_refl _) _).setCell (p := ⟨w.heap.size, 1, none⟩) (Nat.le_refl _) _⟩
/-- What Next tells. -/
def nextI : List T → Int
  | [] => 0
  | a :: _ => a.2
def nextB : List T → Bool
  | [] => false
  | _ :: _ => true
/-- The variables of Due: the wheel's pointer at block B, the number at B + 1, the ids at B + 2. -/
structure DAt (B b : Nat) (now : Int) (v : Value) (acc : List Int) (wr : World) : Prop where
  cw : wr.cell? ⟨B, 0, none⟩ = some (.pointer (some ⟨b, 0, none⟩))
  cn : wr.cell? ⟨B + 1, 0, none⟩ = some (.int .i64 now)
  ci : wr.cell? ⟨B + 2, 0, none⟩ = some v
  fi : wr.frozen? ⟨B + 2, 0, none⟩ = false
  own : wr.ownsRow 0 3 1 v acc.length (acc.map fun n => .int .i64 n)
theorem DAt.chg {S : Nat → Prop} {B b : Nat} {now : Int} {v : Value} {acc : List Int} {wr w' : World} (h : DAt B b now v acc wr) (hc : Chg S wr w') (h0 : ¬ S B) (h1 : ¬ S (B + 1)) (h2 : ¬ S (B + 2)) (h3 : ∀ g, v.ownBlock = some g → ¬ S g) : DAt B b now v acc w' := by
  have k0 := hc.block B (block_lt_of_cell h.cw) h0
  have k1 := hc.block (B + 1) (block_lt_of_cell h.cn) h1
  have k2 := hc.block (B + 2) (block_lt_of_cell h.ci) h2
  exact ⟨(World.cell?_of_block (w := wr) (a := ⟨B, 0, none⟩) k0).trans h.cw, (World.cell?_of_block (w := wr) (a := ⟨B + 1, 0, none⟩) k1).trans h.cn, (World.cell?_of_block (w := wr) (a := ⟨B + 2, 0, none⟩) k2).trans h.ci,
    (World.frozen?_of_block (w := wr) (a := ⟨B + 2, 0, none⟩) k2).trans h.fi, own_chg h.own hc h3⟩
theorem DAt.below {B b : Nat} {now : Int} {v : Value} {acc : List Int} {wr w' : World} (h : DAt B b now v acc wr) (hb : Below wr.heap.size wr w') : DAt B b now v acc w' :=
  h.chg (S := fun _ => False) (chg_below hb) id id id (fun _ _ => id)

theorem take_none (B b : Nat) (now : Int) (vi : Value) (acc : List Int) (w : World) (v : Value) (l r : List T) (hD : DAt B b now vi acc w) (h : PW w b v l) (hp : l.Perm r) (hg : WheelMath.Good r) (hn : r = [] ∨ ∃ a r', r = a :: r' ∧ now < a.2) :
    Calls Try.prog 45 #[.pointer (some ⟨B, 0, none⟩), .pointer (some ⟨B + 1, 0, none⟩), .pointer (some ⟨B + 2, 0, none⟩)] w fun e w' => e = .returned (.bool false) ∧ Below w.heap.size w w' := by
  have c0 := hD.cw
  have HD : Hid (DAt B b now vi acc w) := hD
  rcases hn with rfl | ⟨a, r', rfl, hna⟩
  · obtain rfl := hp.eq_nil
    have C : Hid (Calls Try.prog 46 #[.pointer (some ⟨b, 0, none⟩)] w fun e w' => e = .returned (.tuple #[.agg #[.int .i64 0, .int .i64 0], .bool false]) ∧ Below w.heap.size w w') := first_nil w b v h
    clear h hD
    go_enter Try.func45, Try.ntmps45
    go_wp2_with fail
    refine C.out.mono ?_
    rintro e w1 ⟨rfl, hb1⟩
    go_wp2
    go_ret
    exact ⟨rfl, hb1.alloc hb1.size _⟩
  · have C : Hid (Calls Try.prog 46 #[.pointer (some ⟨b, 0, none⟩)] w fun e w' => e = .returned (.tuple #[.agg #[.int .i64 a.1, .int .i64 a.2], .bool true]) ∧ Below w.heap.size w w') := first_cons w b v l (by rw [hp.length_eq]; exact hg.len) h a r' hp hg.sorted
    have d1 : decide (now < a.2) = true := by simpa using hna
    clear h hD hp hg
    go_enter Try.func45, Try.ntmps45
    go_wp2_with fail
    refine C.out.mono ?_
    rintro e w1 ⟨rfl, hb1⟩
    have c1 := (HD.out.below hb1).cn
    have k1 := block_lt_of_cell c1
    simp only at k1
    go_wp2
    go_ret
    exact ⟨rfl, hb1.alloc hb1.size _⟩
/-- Within Due, behind some rounds: what was told, what is left, and that nothing but the wheel changed. -/
structure DI (w : World) (b : Nat) (v0 : Value) (now : Int) (acc : List Int) (r : List T) (wr : World) : Prop where
  ex : ∃ v l vi, DAt w.heap.size b now vi acc wr ∧ PW wr b v l ∧ l.Perm r ∧ (∀ k, fpw b v k → fpw b v0 k ∨ w.heap.size + 3 ≤ k) ∧ (∀ g, vi.ownBlock = some g → w.heap.size + 3 ≤ g ∧ ¬ fpw b v g)
  chg : Chg (fpw b v0) w wr
  lt : ∀ k, fpw b v0 k → k < w.heap.size
theorem DI.below {w : World} {b : Nat} {v0 : Value} {now : Int} {acc : List Int} {r : List T} {wr w' : World} (h : DI w b v0 now acc r wr) (hb : Below wr.heap.size wr w') : DI w b v0 now acc r w' := by
  obtain ⟨⟨v, l, vi, h1, h2, h3, h4, h5⟩, h6, h7⟩ := h
  exact ⟨⟨v, l, vi, h1.below hb, pw_below h2 hb, h3, h4, h5⟩, h6.trans (chg_below (S := fun _ => False) hb) (fun _ _ h => h.elim), h7⟩
theorem DI.push {w : World} {b : Nat} {v0 : Value} {now : Int} {acc : List Int} {r : List T} {wr w3 : World} {vi : Value} {x : Int} {g' cap' : Nat} (h : DI w b v0 now acc r wr) (hvi : wr.cell? ⟨w.heap.size + 2, 0, none⟩ = some vi)
    (hown : w3.ownsRow 0 3 1 (.slice (some ⟨g', 0, none⟩) (acc.length + 1) cap') (acc.length + 1) ((acc.map fun n => .int .i64 n) ++ [.int .i64 x])) (hwh : vi.ownBlock = some g' ∨ wr.heap.size ≤ g') (hch : Chg (fun k => vi.ownBlock = some k) wr w3) :
    (w3.cell? ⟨w.heap.size + 2, 0, none⟩ = some vi ∧ w3.frozen? ⟨w.heap.size + 2, 0, none⟩ = false) ∧ DI w b v0 now (acc ++ [x]) r (w3.setCell ⟨w.heap.size + 2, 0, none⟩ (.slice (some ⟨g', 0, none⟩) (acc.length + 1) cap')) := by
  obtain ⟨⟨v, l, vi', h1, h2, h3, h4, h5⟩, h6, h7⟩ := h
  obtain rfl : vi = vi' := by have := h1.ci; rw [hvi] at this; exact Option.some.inj this
  have k2 := block_lt_of_cell h1.ci
  simp only at k2
  have hgB : w.heap.size + 3 ≤ g' := by
    rcases hwh with e | e
    · exact (h5 _ e).1
    · omega
  have hgf : ¬ fpw b v g' := fun hf => by
    rcases hwh with e | e
    · exact (h5 _ e).2 hf
    · have := fpw_lt h2 _ hf; omega
  have hbB : ∀ k, fpw b v k → k ≠ w.heap.size + 2 := fun k hk e => by
    rcases h4 k hk with e2 | e2
    · have := h7 k e2; omega
    · omega
  have n0 : ∀ j, j < w.heap.size + 3 → ¬ vi.ownBlock = some j := fun j hj e => by have := (h5 j e).1; omega
  have b0 := hch.block w.heap.size (by omega) (n0 _ (by omega))
  have b1 := hch.block (w.heap.size + 1) (by omega) (n0 _ (by omega))
  have b2 := hch.block (w.heap.size + 2) (by omega) (n0 _ (by omega))
  have c2 : w3.cell? ⟨w.heap.size + 2, 0, none⟩ = some vi := (World.cell?_of_block (w := wr) (a := ⟨w.heap.size + 2, 0, none⟩) b2).trans hvi
  have f2 : w3.frozen? ⟨w.heap.size + 2, 0, none⟩ = false := (World.frozen?_of_block (w := wr) (a := ⟨w.heap.size + 2, 0, none⟩) b2).trans h1.fi
  refine ⟨⟨c2, f2⟩, ⟨v, l, .slice (some ⟨g', 0, none⟩) (acc.length + 1) cap', ⟨?_, ?_, World.cell?_setCell_same _ _ _ c2, by rw [World.frozen?_setCell]; exact f2, ?_⟩, ?_, h3, h4, fun g hg => ?_⟩, ?_, h7⟩
  · rw [World.cell?_setCell_other _ _ _ _ (by simp)]
    exact (World.cell?_of_block (w := wr) (a := ⟨w.heap.size, 0, none⟩) b0).trans h1.cw
  · rw [World.cell?_setCell_other _ _ _ _ (by simp)]
    exact (World.cell?_of_block (w := wr) (a := ⟨w.heap.size + 1, 0, none⟩) b1).trans h1.cn
  · have o3 := own_chg hown (chg_set w3 ⟨w.heap.size + 2, 0, none⟩ (.slice (some ⟨g', 0, none⟩) (acc.length + 1) cap')) (fun g hg => by
      have : g' = g := by simpa [Value.ownBlock] using hg
      simp only
      omega)
    rw [List.length_append, List.map_append]
    exact o3
  · exact pw_chg (pw_chg h2 hch (fun k hk e => (h5 k e).2 hk)) (chg_set w3 ⟨w.heap.size + 2, 0, none⟩ _) (fun k hk => hbB k hk)
  · obtain rfl : g' = g := by simpa [Value.ownBlock] using hg
    exact ⟨hgB, hgf⟩
  · refine (h6.trans hch (fun j hj e => ?_)).trans (chg_set w3 ⟨w.heap.size + 2, 0, none⟩ _) (fun j hj e => ?_)
    · have := (h5 j e).1; omega
    · simp only at e; omega
theorem place_head {l r : List T} {a : T} (hp : l.Perm (a :: r)) : ∃ k, place l a.1 = some k := by
  cases h : place l a.1 with
  | some k => exact ⟨k, rfl⟩
  | none => exact absurd ⟨a, hp.mem_iff.2 (by simp), rfl⟩ (place_none h)
theorem DI.stop {w : World} {b : Nat} {v0 : Value} {now : Int} {acc : List Int} {a : T} {r : List T} {wr : World} (h : DI w b v0 now acc (a :: r) wr) (hg : WheelMath.Good (a :: r)) :
    Calls Try.prog 39 #[.pointer (some ⟨b, 0, none⟩), .int .i64 a.1] wr fun e w' => e = .returned (.bool true) ∧ DI w b v0 now acc r w' := by
  obtain ⟨⟨v, l, vi, h1, h2, h3, h4, h5⟩, h6, h7⟩ := h
  obtain ⟨k, hk⟩ := place_head h3
  refine (stop_hit wr b v l (a :: r) (by rw [h3.length_eq]; exact hg.len) h2 h3 hg.ids a.1 k hk).mono ?_
  rintro e w' ⟨he, v', l', k1, k2, k3, k4⟩
  rw [rem_head hg] at k2
  have nb : ∀ j, j < w.heap.size + 3 → w.heap.size ≤ j → ¬ fpw b v j := fun j hj hj2 hf => by
    rcases h4 j hf with e | e
    · have := h7 j e; omega
    · omega
  have k0 := block_lt_of_cell h1.ci
  simp only at k0
  refine ⟨he, ⟨v', l', vi, h1.chg k3 (nb _ (by omega) (by omega)) (nb _ (by omega) (by omega)) (nb _ (by omega) (by omega)) (fun g hgv => (h5 g hgv).2), k1, k2, fun j hj => ?_, fun g hgv => ⟨(h5 g hgv).1, fun hf => ?_⟩⟩, h6.trans k3 (fun j hj hf => ?_), h7⟩
  · rcases k4 j hj with e | e
    · exact h4 j e
    · right; omega
  · rcases k4 g hf with e | e
    · exact (h5 g hgv).2 e
    · have := (h1.own.lt g hgv).2; omega
  · rcases h4 j hf with e | e
    · exact e
    · omega
theorem DI.first {w : World} {b : Nat} {v0 : Value} {now : Int} {acc : List Int} {a : T} {r : List T} {wr : World} (h : DI w b v0 now acc (a :: r) wr) (hg : WheelMath.Good (a :: r)) :
    Calls Try.prog 46 #[.pointer (some ⟨b, 0, none⟩)] wr fun e w' => e = .returned (.tuple #[.agg #[.int .i64 a.1, .int .i64 a.2], .bool true]) ∧ Below wr.heap.size wr w' := by
  obtain ⟨⟨v, l, vi, h1, h2, h3, h4, h5⟩, h6, h7⟩ := h
  exact first_cons wr b v l (by rw [h3.length_eq]; exact hg.len) h2 a r h3 hg.sorted

theorem one_new2 (w : World) (o : Obj) (u : Value) (t : TypeId) : ∀ (j : Nat) (x : Value), [u][j]? = some x → ((w.alloc o).alloc (.cells #[u] t)).cell? ((⟨w.heap.size + 1, 0, none⟩ : Addr).add j) = some x := by
  have := one_new (w.alloc o) u t
  simpa using this
set_option maxHeartbeats 2000000 in
theorem take_some (w : World) (b : Nat) (v0 : Value) (now : Int) (acc : List Int) (hacc : acc.length ≤ 200) (a : T) (r : List T) (wr : World) (h : DI w b v0 now acc (a :: r) wr) (hg : WheelMath.Good (a :: r)) (hn : a.2 ≤ now) :
    Calls Try.prog 45 #[.pointer (some ⟨w.heap.size, 0, none⟩), .pointer (some ⟨w.heap.size + 1, 0, none⟩), .pointer (some ⟨w.heap.size + 2, 0, none⟩)] wr fun e w' => e = .returned (.bool true) ∧ DI w b v0 now (acc ++ [a.1]) r w' := by
  obtain ⟨i0, hi, hz0, hz1, hz2⟩ := info_parts infoI
  have C : Hid (Calls Try.prog 46 #[.pointer (some ⟨b, 0, none⟩)] wr fun e w' => e = .returned (.tuple #[.agg #[.int .i64 a.1, .int .i64 a.2], .bool true]) ∧ Below wr.heap.size wr w') := h.first hg
  have H : Hid (DI w b v0 now acc (a :: r) wr) := h
  have HG : Hid (WheelMath.Good (a :: r)) := hg
  have c0 : wr.cell? ⟨w.heap.size, 0, none⟩ = some (.pointer (some ⟨b, 0, none⟩)) := by
    obtain ⟨⟨v, l, vi, k1, _⟩, _, _⟩ := h
    exact k1.cw
  have d1 : decide (now < a.2) = false := by simp; omega
  clear h hg
  go_enter Try.func45, Try.ntmps45
  go_wp2_with fail
  refine C.out.mono ?_
  rintro e w1 ⟨rfl, hb1⟩
  have H1 := H.out.below hb1
  have H2 : Hid (DI w b v0 now acc (a :: r) ((w1.alloc (.cells #[.int .i64 a.1, .int .i64 a.2] 70)).alloc (.cells #[.int .i64 a.1] 3))) := (H1.below ((Below.refl _ _).alloc (Nat.le_refl _) _)).below ((Below.refl _ _).alloc (Nat.le_refl _) _)
  obtain ⟨⟨v, l, vi, k1, k2, k3, k4, k5⟩, _, _⟩ := H1
  obtain ⟨ao, cap, rfl, _⟩ := own_form k1.own
  have cn := k1.cn
  have ci := k1.ci
  have cw := k1.cw
  have fi := k1.fi
  have hown := k1.own
  have hk2 := block_lt_of_cell ci
  have hk1 := block_lt_of_cell cn
  have hk0 := block_lt_of_cell cw
  simp only at hk2 hk1 hk0
  clear k1 k2 k3 k4 k5 C H hb1 c0
  go_wp2_with (at_builtin; refine wpList_append_more _ rfl _ _ 22 rfl 0 3 i0 (.int .i64 0) 1 8 Try.underlying22 hi hz0 hz1 hz2 rfl (by decide) _ acc.length (acc.map fun n => .int .i64 n) rfl ((hown.alloc _).alloc _) ⟨_, 0, none⟩ 1 1 [.int .i64 a.1] rfl rfl (one_new2 _ _ _ _) (one_int _) (by decide) (by unfold maxLen; omega) (by omega) ?_)
  intro g' cap' w3 hown3 hwh hch
  obtain ⟨⟨c3, f3⟩, hD⟩ := H2.out.push (vi := .slice ao acc.length cap) (by rw [World.cell?_alloc_past _ _ _ (by simp; omega), World.cell?_alloc_past _ _ _ (by show w.heap.size + 2 < _; omega)]; exact ci) hown3 (hwh.imp id (fun e => by simpa using e)) hch
  have S : Hid (Calls Try.prog 39 #[.pointer (some ⟨b, 0, none⟩), .int .i64 a.1] (w3.setCell ⟨w.heap.size + 2, 0, none⟩ (.slice (some ⟨g', 0, none⟩) (acc.length + 1) cap')) fun e w' => e = .returned (.bool true) ∧ DI w b v0 now (acc ++ [a.1]) r w') := hD.stop HG.out
  have cw4 : (w3.setCell ⟨w.heap.size + 2, 0, none⟩ (.slice (some ⟨g', 0, none⟩) (acc.length + 1) cap')).cell? ⟨w.heap.size, 0, none⟩ = some (.pointer (some ⟨b, 0, none⟩)) := by
    obtain ⟨⟨v, l, vi, k1, _⟩, _, _⟩ := hD
    exact k1.cw
  have ct : w3.cell? ⟨w1.heap.size, 0, none⟩ = some (.int .i64 a.1) := by
    have e := hch.block w1.heap.size (by simp; omega) (fun e => by have := (hown.lt _ e).2; omega)
    rw [World.cell?_of_block (a := ⟨w1.heap.size, 0, none⟩) e]
    simp
  clear hD hown3 hwh hch H2 ci cn cw
  go_wp2_with fail
  refine S.out.mono ?_
  rintro e w5 ⟨rfl, hD5⟩
  have HD5 : Hid (DI w b v0 now (acc ++ [a.1]) r w5) := hD5
  clear hD5 S
  go_wp2
  go_ret
  exact ⟨rfl, HD5.out⟩

/-- What Due leaves: a row of ids of its own, the wheel with what is left. -/
def DueOk (w : World) (b : Nat) (v : Value) (r : List T) (now : Int) (e : Ending) (w' : World) : Prop :=
  ∃ vi, e = .returned vi ∧ w'.ownsRow w.heap.size 3 1 vi (told r now).length ((told r now).map fun n => .int .i64 n) ∧ WOk w b v (left r now) w' ∧ ∀ v' , w'.cell? ⟨b, 0, none⟩ = some v' → ∀ g, vi.ownBlock = some g → ¬ fpw b v' g
theorem DI.done {w : World} {b : Nat} {v0 : Value} {now : Int} {acc : List Int} {r : List T} {wr : World} (h : DI w b v0 now acc r wr) {vi : Value} (hvi : wr.cell? ⟨w.heap.size + 2, 0, none⟩ = some vi) :
    wr.ownsRow w.heap.size 3 1 vi acc.length (acc.map fun n => .int .i64 n) ∧ WOk w b v0 r wr ∧ ∀ v', wr.cell? ⟨b, 0, none⟩ = some v' → ∀ g, vi.ownBlock = some g → ¬ fpw b v' g := by
  obtain ⟨⟨v, l, vi', h1, h2, h3, h4, h5⟩, h6, h7⟩ := h
  obtain rfl : vi = vi' := by have := h1.ci; rw [hvi] at this; exact Option.some.inj this
  refine ⟨⟨h1.own.1, ?_⟩, ⟨v, l, h2, h3, h6, fun k hk => (h4 k hk).imp id (fun e => by omega)⟩, fun v' hv' g hg => ?_⟩
  · rcases h1.own.2 with h0 | ⟨g, cap, cur, hv, hb, rest⟩
    · exact Or.inl h0
    · exact Or.inr ⟨g, cap, cur, hv, by have := (h5 g (by rw [hv]; rfl)).1; omega, rest⟩
  · obtain rfl : v' = v := by rw [h2.cell] at hv'; exact (Option.some.inj hv').symm
    exact (h5 g hg).2
theorem DI.begins (w : World) (b : Nat) (v : Value) (l r : List T) (h : PW w b v l) (hp : l.Perm r) (now : Int) : DI w b v now [] r (((w.alloc (.cells #[.pointer (some ⟨b, 0, none⟩)] 53)).alloc (.cells #[.int .i64 now] 3)).alloc (.cells #[.slice none 0 0] 22)) := by
  have hb : Below w.heap.size w (((w.alloc (.cells #[.pointer (some ⟨b, 0, none⟩)] 53)).alloc (.cells #[.int .i64 now] 3)).alloc (.cells #[.slice none 0 0] 22)) := (((Below.refl _ w).alloc (Nat.le_refl _) _).alloc (by simp) _).alloc (by simp; omega) _
  refine ⟨⟨v, l, .slice none 0 0, ⟨?_, ?_, ?_, ?_, World.ownsRow_nil _ _ _ _⟩, pw_below h hb, hp, fun k hk => Or.inl hk, fun g hg => by cases hg⟩, chg_below hb, fpw_lt h⟩
  · rw [World.cell?_alloc_past _ _ _ (by simp; omega), World.cell?_alloc_past _ _ _ (by simp), World.cell?_alloc_at _ _ _ _ rfl]; rfl
  · rw [World.cell?_alloc_past _ _ _ (by simp), World.cell?_alloc_at _ _ _ _ (by simp)]; rfl
  · rw [World.cell?_alloc_at _ _ _ _ (by simp)]; rfl
  · rw [World.frozen?_alloc_at _ _ _ _ (by simp)]
/-- How many timers there are, by the wheel's own cell. -/
def lenOf (wr : World) (b : Nat) : Nat := match wr.cell? ⟨b, 0, none⟩ with
  | some (.slice _ n _) => n
  | _ => 0
theorem DI.len {w : World} {b : Nat} {v0 : Value} {now : Int} {acc : List Int} {r : List T} {wr : World} (h : DI w b v0 now acc r wr) : lenOf wr b = r.length := by
  obtain ⟨⟨v, l, vi, h1, h2, h3, h4, h5⟩, h6, h7⟩ := h
  unfold lenOf
  rw [h2.cell]
  obtain ⟨ao, cap, rfl, _⟩ := own_form h2.row
  exact h3.length_eq

set_option maxHeartbeats 2000000 in
theorem due_any (w : World) (b : Nat) (v : Value) (l r : List T) (h : PW w b v l) (hp : l.Perm r) (hg : WheelMath.Good r) (now : Int) :
    Calls Try.prog 41 #[.pointer (some ⟨b, 0, none⟩), .int .i64 now] w fun e w' => DueOk w b v r now e w' := by
  have H0 := DI.begins w b v l r h hp now
  obtain ⟨w0, hw0⟩ : ∃ w0, w0 = ((w.alloc (.cells #[.pointer (some ⟨b, 0, none⟩)] 53)).alloc (.cells #[.int .i64 now] 3)).alloc (.cells #[.slice none 0 0] 22) := ⟨_, rfl⟩
  rw [← hw0] at H0
  have H0' : Hid (DI w b v now [] r w0) := H0
  have HW : Hid (w0 = ((w.alloc (.cells #[.pointer (some ⟨b, 0, none⟩)] 53)).alloc (.cells #[.int .i64 now] 3)).alloc (.cells #[.slice none 0 0] 22)) := hw0
  have HG : Hid (WheelMath.Good r) := hg
  have hlen := hg.len
  clear hw0 H0 h hp hg
  go_enter Try.func41, Try.ntmps41
  go_wp2_with fail
  rw [← HW.out]
  clear HW
  go_loopw [9] (fun _ wr => ∃ (acc : List Int) (q : List T), Hid (DI w b v now acc q wr) ∧ Hid (WheelMath.Good q) ∧ acc.length + q.length ≤ 200 ∧ Hid (told r now = acc ++ told q now) ∧ Hid (left r now = left q now)) (fun _ wr => lenOf wr b)
  case atStart => exact ⟨[], r, H0', HG, by simpa using hlen, rfl, rfl⟩
  case round =>
    obtain ⟨acc, q, HD, HQ, hac, HT, HL⟩ := hrel
    clear H0'
    by_cases hn : q = [] ∨ ∃ a q', q = a :: q' ∧ now < a.2
    · have HC : Hid (Calls Try.prog 45 #[.pointer (some ⟨w.heap.size, 0, none⟩), .pointer (some ⟨w.heap.size + 1, 0, none⟩), .pointer (some ⟨w.heap.size + 1 + 1, 0, none⟩)] wr fun e w' => e = .returned (.bool false) ∧ Below wr.heap.size wr w') := by
        obtain ⟨⟨v1, l1, vi, k1, k2, k3, k4, k5⟩, _, _⟩ := HD.out
        exact take_none w.heap.size b now vi acc wr v1 l1 q k1 k2 k3 HQ.out hn
      have HE : Hid (told r now = acc ∧ left r now = q) := by
        show _ ∧ _
        rw [HT.out, HL.out]
        rcases hn with rfl | ⟨a, q', rfl, ha⟩
        · exact ⟨by rw [told_nil, List.append_nil], rfl⟩
        · exact ⟨by rw [told_cons, if_neg (by omega), List.append_nil], by rw [left_cons, if_neg (by omega)]⟩
      clear hn HT HL
      go_wp2_with fail
      refine HC.out.mono ?_
      rintro e w1 ⟨rfl, hb1⟩
      have h1 := HD.out.below hb1
      obtain ⟨vi, hvi⟩ : ∃ vi, w1.cell? ⟨w.heap.size + 1 + 1, 0, none⟩ = some vi := by
        obtain ⟨⟨v1, l1, vi, k1, _⟩, _, _⟩ := h1
        exact ⟨vi, k1.ci⟩
      have hd := h1.done hvi
      have HD1 : Hid (w1.ownsRow w.heap.size 3 1 vi acc.length (acc.map fun n => .int .i64 n) ∧ WOk w b v q w1 ∧ ∀ v', w1.cell? ⟨b, 0, none⟩ = some v' → ∀ g, vi.ownBlock = some g → ¬ fpw b v' g) := hd
      obtain ⟨ao, cap, rfl, _⟩ := own_form hd.1
      clear hb1 h1 hd HC HD
      go_wp2
      go_ret
      exact ⟨_, rfl, by rw [HE.out.1]; exact HD1.out.1, by rw [HE.out.2]; exact HD1.out.2.1, HD1.out.2.2⟩
    · cases q with
      | nil => exact absurd (Or.inl rfl) hn
      | cons a q' =>
        have ha : a.2 ≤ now := by
          by_cases e : now < a.2
          · exact absurd (Or.inr ⟨a, q', rfl, e⟩) hn
          · omega
        have hac' : acc.length + (q'.length + 1) ≤ 200 := by simpa using hac
        have HC : Hid (Calls Try.prog 45 #[.pointer (some ⟨w.heap.size, 0, none⟩), .pointer (some ⟨w.heap.size + 1, 0, none⟩), .pointer (some ⟨w.heap.size + 1 + 1, 0, none⟩)] wr fun e w' => e = .returned (.bool true) ∧ DI w b v now (acc ++ [a.1]) q' w') :=
          take_some w b v now acc (by omega) a q' wr HD.out HQ.out ha
        have HT' : Hid (told r now = (acc ++ [a.1]) ++ told q' now) := by
          show _ = _
          rw [HT.out, told_cons, if_pos ha, List.append_assoc]; rfl
        have HL' : Hid (left r now = left q' now) := by
          show _ = _
          rw [HL.out, left_cons, if_pos ha]
        have HQ' : Hid (WheelMath.Good q') := good_tail HQ.out
        have HM : Hid (lenOf wr b = q'.length + 1) := HD.out.len
        clear hn HT HL HQ HD hac
        go_wp2_with fail
        refine HC.out.mono ?_
        rintro e w1 ⟨rfl, hd1⟩
        have HD1 : Hid (DI w b v now (acc ++ [a.1]) q' w1) := hd1
        have HM1 : Hid (lenOf w1 b = q'.length) := hd1.len
        clear hd1 HC
        go_wp2
        exact ⟨⟨acc ++ [a.1], q', HD1, HQ', by simp; omega, HT', HL'⟩, by rw [HM1.out, HM.out]; omega⟩
end Go.Proofs.Yteadnjagandkfaa
