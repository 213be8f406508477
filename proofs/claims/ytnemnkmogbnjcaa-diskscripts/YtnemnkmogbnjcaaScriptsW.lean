/- The walk of the law DiskScripts. -/
import Derived.Test.YtnemnkmogbnjcaaPairsW
set_option linter.unusedVariables false
namespace Go.Proofs.Ytnemnkmogbnjcaa
open Go.RowKit
open DiskMath

theorem infoP : (Try.prog.info? 31).map (fun i => (i.zero, i.size, i.bytes)) = some (some (.agg #[.pointer none, .pointer none]), 2, 16) := by kernel_rfl
theorem fp_nil (bx k : Nat) (h : fp bx (fun _ => .slice none 0 0) k) : k = bx := by
  rcases h with h | ⟨i, _, h⟩
  · exact h
  · cases h
theorem pairs_start {B : Nat} {w3 : World} {bx br : Nat} {dd : DS} (hp : PDisk w3 bx (fun _ => .slice none 0 0) dd) (hr : RDisk w3 br dd) (hok : Ok dd) (h1 : B ≤ bx) (h2 : B ≤ br) (hne : bx ≠ br) :
    Pairs B (w3.alloc (.cells #[.pointer (some ⟨bx, 0, none⟩), .pointer (some ⟨br, 0, none⟩)] 31)) 1 (.slice (some ⟨w3.heap.size, 0, none⟩) 1 1) (fun _ => bx) (fun _ => br) (fun _ _ => .slice none 0 0) (fun _ => dd) := by
  have hb : Below w3.heap.size w3 (w3.alloc (.cells #[.pointer (some ⟨bx, 0, none⟩), .pointer (some ⟨br, 0, none⟩)] 31)) := (Below.refl _ _).alloc (Nat.le_refl _) _
  have l1 := hp.lt
  have l2 := hr.lt
  refine ⟨⟨rfl, Or.inr ⟨w3.heap.size, 1, _, rfl, by omega, heap_alloc_new w3 _, Nat.le_refl _, by unfold maxLen; omega, rfl, rfl⟩⟩, fun i hi => pdisk_below hp hb, fun i hi => rdisk_below hr hb, fun i hi => hok, fun i hi k hk => ?_, fun i j hi hj hij => by omega, fun i hi hk => ?_, fun g hg i hi hk => ?_⟩
  · rcases hk with hk | hk
    · have := fp_nil bx k hk; omega
    · omega
  · exact hne (fp_nil bx br hk).symm
  · have e : w3.heap.size = g := by simpa [Value.ownBlock] using hg
    rcases hk with hk | hk
    · have := fp_nil bx g hk; omega
    · omega
theorem two_newP (w : World) (u v : Value) (t : TypeId) : ∀ (j : Nat) (x : Value), [u, v][j]? = some x → (w.alloc (.cells #[u, v] t)).cell? ((⟨w.heap.size, 0, none⟩ : Addr).add j) = some x := by
  intro j x hj
  match j, hj with
  | 0, hj => simp at hj; subst hj; rw [add_zero_plain2]; simp
  | 1, hj => simp at hj; subst hj; rw [add_zero_plain2]; simp
theorem two_cellP (a b : Option Addr) : ∀ u ∈ [Value.pointer a, Value.pointer b], u.oneCell' = true := by intro u hu; simp at hu; rcases hu with rfl | rfl <;> rfl

theorem pairs_size {B : Nat} {wr : World} {n : Nat} {lv : Value} {X : Nat → Nat} {R : Nat → Nat} {VV : Nat → Nat → Value} {D : Nat → DS} (h : Pairs B wr n lv X R VV D) (h0 : 1 ≤ n) : B ≤ wr.heap.size := by
  have h1 := (h.prog 0 h0).lt
  have h2 := h.low 0 h0 (X 0) (Or.inl (Or.inl rfl))
  omega
theorem does_pairs {B : Nat} {wr : World} {n : Nat} {lv : Value} {X : Nat → Nat} {R : Nat → Nat} {VV : Nat → Nat → Value} {D : Nat → DS} (h : Pairs B wr n lv X R VV D) (j : Nat) (hj : j < n) (x r' : Nat) (hx : X j = x) (hr : R j = r') (Do C File N : Int) (S : ByteArray) (hN : -9223372036854775808 ≤ N ∧ N ≤ 9223372036854775807) (hS : S.size ≤ 140737488351232) :
    Calls Try.prog 16 #[.agg #[.pointer (some ⟨x, 0, none⟩), .pointer (some ⟨r', 0, none⟩)], .agg #[.int .i64 Do, .int .i64 C, .int .i64 File, .int .i64 N, .string S]] wr fun e w' => e = .returned (.bool true) ∧ ∃ VV' D', Hid (Pairs B w' n lv X R VV' D') ∧ Hid (Below B wr w') := by
  subst hx; subst hr
  refine (does_true wr (X j) (R j) (VV j) (D j) (h.prog j hj) (h.ref j hj) (h.two j hj) (h.ok j hj) ⟨Do, C, File, N, S⟩ hN hS).mono ?_
  rintro e w' ⟨h1, h2⟩
  obtain ⟨V', h3, h4⟩ := pairs_does h j hj _ (ok_act _ _ (h.ok j hj)) h2
  exact ⟨h1, _, _, h3, h4⟩
theorem same_pairs {B : Nat} {wr : World} {n : Nat} {lv : Value} {X : Nat → Nat} {R : Nat → Nat} {VV : Nat → Nat → Value} {D : Nat → DS} (h : Pairs B wr n lv X R VV D) (j : Nat) (hj : j < n) :
    Calls Try.prog 12 #[.agg #[.pointer (some ⟨X j, 0, none⟩), .pointer (some ⟨R j, 0, none⟩)]] wr fun e w' => e = .returned (.bool true) ∧ Hid (Pairs B w' n lv X R VV D) ∧ Hid (Below wr.heap.size wr w') := by
  refine (same_true wr (X j) (R j) (VV j) (D j) (h.prog j hj) (h.ref j hj) (h.ok j hj)).mono ?_
  rintro e w' ⟨h1, h2⟩
  exact ⟨h1, pairs_below h h2, h2⟩
theorem pcell {B : Nat} {wr : World} {n : Nat} {X : Nat → Nat} {R : Nat → Nat} {VV : Nat → Nat → Value} {D : Nat → DS} {g cap : Nat} (h : Pairs B wr n (.slice (some ⟨g, 0, none⟩) n cap) X R VV D) (i : Nat) (hi : i < n) : wr.cell? ⟨g, i * 2, none⟩ = some (.pointer (some ⟨X i, 0, none⟩)) ∧ wr.cell? ⟨g, i * 2 + 1, none⟩ = some (.pointer (some ⟨R i, 0, none⟩)) := by
  have hf := pcells_at X R n i hi
  constructor
  · have := h.row.cells (g := g) rfl (i * 2) _ hf.1
    rwa [add_zero_plain2] at this
  · have := h.row.cells (g := g) rfl (i * 2 + 1) _ hf.2
    rwa [add_zero_plain2] at this

set_option maxRecDepth 100000 in
set_option maxHeartbeats 1500000 in
theorem diskScripts_walk (r : Int) (hr : -9223372036854775808 ≤ r ∧ r ≤ 9223372036854775807) (v : Value) (l : List DiskMath.Op) (hl : l.length ≤ 140737488355328) (hok : ∀ o ∈ l, OpOk o) (w : World) (hO : ORow w v l) :
    Calls Try.prog 4 #[.int .i64 r, v] w fun e w' => e = .returned (.bool true) ∧ Below w.heap.size w w' := by
  have hp := pick_lt r 200 (by decide)
  obtain ⟨i0, hinf, hz0, hz1, hz2⟩ := info_parts infoP
  have C1 : Hid (∀ w, Calls Try.prog 13 #[.int .i64 r, .int .i64 200] w fun e w' => e = .returned (.int .i64 (pick r 200 : Int)) ∧ w' = w) := fun w => pick_any r 200 (by decide) (by decide) hr w
  generalize pick r 200 = q at *
  have CN : Hid (∀ w, Calls Try.prog 9 #[.int .i64 (3 + (q : Int))] w fun e w' => e = .returned (.tuple #[.pointer (some ⟨w.heap.size, 0, none⟩), .int .i64 0]) ∧ PDisk w' w.heap.size (fun _ => .slice none 0 0) (new (3 + q)) ∧ Below w.heap.size w w') := fun w => new_any (3 + q) (by omega) (by omega) w
  have CM : Hid (∀ w, Calls Try.prog 10 #[.int .i64 (3 + (q : Int))] w fun e w' => e = .returned (.tuple #[.pointer (some ⟨w.heap.size, 0, none⟩), .int .i64 0]) ∧ RDisk w' w.heap.size (new (3 + q)) ∧ w.heap.size < w'.heap.size ∧ Below w.heap.size w w') := fun w => refNew_any (3 + q) (by omega) (by omega) w
  have CB : Hid (∀ w, Calls Try.prog 11 #[.int .i64 (3 + (q : Int))] w fun e w' => ∃ b, e = .returned (.pointer (some ⟨b, 0, none⟩)) ∧ Below w.heap.size w w') := fun w => (begun_any (3 + q) (by omega) (by omega) w).mono fun e w' ⟨b, k1, _, _, _, k2⟩ => ⟨b, k1, k2⟩
  have HOKN : Hid (Ok (new (3 + q))) := ok_new _ (by omega) (by omega)
  obtain ⟨ao, cap, rfl, hrow⟩ := hO
  have HR : Hid (∀ j, (h : j < l.length) → ∃ g o, ao = some ⟨g, o, none⟩ ∧ g < w.heap.size ∧
    w.cell? ⟨g, o + j * 5, none⟩ = some (.int .i64 l[j].Do) ∧ w.cell? ⟨g, o + j * 5 + 1, none⟩ = some (.int .i64 l[j].C) ∧ w.cell? ⟨g, o + j * 5 + 2, none⟩ = some (.int .i64 l[j].File) ∧
    w.cell? ⟨g, o + j * 5 + 3, none⟩ = some (.int .i64 l[j].N) ∧ w.cell? ⟨g, o + j * 5 + 4, none⟩ = some (.string l[j].S)) := hrow
  have HOK : Hid (∀ o ∈ l, OpOk o) := hok
  clear hrow hok
  go_enter Try.func4, Try.ntmps4
  go_wp2_with fail
  refine (C1.out _).mono ?_
  rintro e w0' ⟨rfl, hw⟩
  rw [hw]; clear hw w0' C1
  go_wp2_with fail
  refine (CN.out _).mono ?_
  rintro e w1 ⟨rfl, hP1, hb1⟩
  have HP1 : Hid (PDisk w1 w.heap.size (fun _ => .slice none 0 0) (new (3 + q))) := hP1
  have HB1 : Hid (Below w.heap.size w w1) := hb1
  clear hP1 hb1 CN
  go_wp2_with fail
  refine (CM.out _).mono ?_
  rintro e w2 ⟨rfl, hR2, hs2, hb2⟩
  have HR2 : Hid (RDisk w2 w1.heap.size (new (3 + q))) := hR2
  have HB2 : Hid (Below w1.heap.size w1 w2) := hb2
  clear hR2 hb2 hs2 CM
  go_wp2_with fail
  refine (CB.out _).mono ?_
  rintro e w3 ⟨b3, rfl, hb3⟩
  have HPS : Hid (Pairs w.heap.size (w3.alloc (.cells #[.pointer (some ⟨w.heap.size, 0, none⟩), .pointer (some ⟨w1.heap.size, 0, none⟩)] 31)) 1 (.slice (some ⟨w3.heap.size, 0, none⟩) 1 1) (fun _ => w.heap.size) (fun _ => w1.heap.size) (fun _ _ => .slice none 0 0) (fun _ => new (3 + q))) := by
    have l1 := HP1.out.lt
    exact pairs_start (pdisk_below (pdisk_below HP1.out HB2.out) hb3) (rdisk_below HR2.out hb3) HOKN.out (Nat.le_refl _) (by omega) (by omega)
  have HBB : Hid (Below w.heap.size w (w3.alloc (.cells #[.pointer (some ⟨w.heap.size, 0, none⟩), .pointer (some ⟨w1.heap.size, 0, none⟩)] 31))) := by
    have l1 := HB1.out.size
    have l2 := HB2.out.size
    have h3 := (HB1.out.trans (HB2.out.mono l1)).trans (hb3.mono (by omega))
    exact h3.alloc h3.size _
  clear hb3 HP1 HB1 HR2 HB2 HOKN CB
  go_wp2_with fail
  go_loopw [9, 10] (fun lv i wr => ∃ (k n : Nat) (X R : Nat → Nat) (VV : Nat → Nat → Value) (D : Nat → DS), k ≤ l.length ∧ i = .int .i64 (k : Int) ∧ 1 ≤ n ∧ n ≤ 8 ∧ Hid (Pairs w.heap.size wr n lv X R VV D) ∧ Hid (Below w.heap.size w wr)) (fun _ i _ => l.length - (intOf i).toNat)
  case atStart => exact ⟨0, 1, _, _, _, _, Nat.zero_le _, rfl, Nat.le_refl _, by decide, HPS, HBB⟩
  case round =>
    obtain ⟨k, n, X, R, VV, D, hk, rfl, hn1, hn8, HPR, HBW⟩ := hrel
    clear HPS HBB
    by_cases hlt : k < l.length
    · obtain ⟨g, o, rfl, hgl, c0, c1, c2, c3, c4⟩ := HR.out k hlt
      have hwb := HBW.out
      have cc : ∀ x, wr.cell? ⟨g, x, none⟩ = w.cell? ⟨g, x, none⟩ := fun x => hwb.cell (p := ⟨g, x, none⟩) hgl
      rw [← cc] at c0 c1 c2 c3 c4
      have hgr : g < wr.heap.size := Nat.lt_of_lt_of_le hgl hwb.size
      have hop := HOK.out _ (List.getElem_mem hlt)
      generalize l[k] = op at *
      obtain ⟨Do, C, File, N, S⟩ := op
      obtain ⟨⟨o1, o2⟩, hC, ⟨o3, o4⟩, hN, hS⟩ := hop
      simp only at c0 c1 c2 c3 c4 o1 o2 o3 o4 hC hN hS
      have i1 : (k : Int) < (l.length : Int) := by omega
      obtain ⟨gl, lcap, hlv, hBg, hglt, hncap, hcl⟩ := prow HPR.out hn1
      subst hlv
      have hj := pick_lt C n hn1
      have CP : Hid (∀ w, Calls Try.prog 13 #[.int .i64 C, .int .i64 (n : Int)] w fun e w' => e = .returned (.int .i64 (pick C n : Int)) ∧ w' = w) := fun w => pick_any C n hn1 (by omega) hC w
      generalize pick C n = j at *
      obtain ⟨d0, d1⟩ := hcl j hj
      have HNN : Hid (-9223372036854775808 ≤ N ∧ N ≤ 9223372036854775807) := hN
      have HSS : Hid (S.size ≤ 140737488351232) := hS
      obtain ⟨wb, hwb2⟩ : ∃ wb, wb = (wr.alloc (.cells #[.int .i64 Do, .int .i64 C, .int .i64 File, .int .i64 N, .string S] 38)).alloc (.cells #[.pointer (some ⟨X j, 0, none⟩), .pointer (some ⟨R j, 0, none⟩)] 31) := ⟨_, rfl⟩
      have hbe : Below wr.heap.size wr wb := by rw [hwb2]; exact ((Below.refl _ _).alloc (Nat.le_refl _) _).alloc (by simp) _
      have hbs : wb.heap.size = wr.heap.size + 2 := by rw [hwb2]; simp
      have HOC : Hid (wb.cell? ⟨wr.heap.size, 0, none⟩ = some (.int .i64 Do) ∧ wb.cell? ⟨wr.heap.size, 1, none⟩ = some (.int .i64 C) ∧ wb.cell? ⟨wr.heap.size, 2, none⟩ = some (.int .i64 File) ∧ wb.cell? ⟨wr.heap.size, 3, none⟩ = some (.int .i64 N) ∧ wb.cell? ⟨wr.heap.size, 4, none⟩ = some (.string S) ∧ wb.cell? ⟨wr.heap.size + 1, 0, none⟩ = some (.pointer (some ⟨X j, 0, none⟩)) ∧ wb.cell? ⟨wr.heap.size + 1, 1, none⟩ = some (.pointer (some ⟨R j, 0, none⟩))) := by
        rw [hwb2]
        exact ⟨by simp, by simp, by simp, by simp, by simp, by simp, by simp⟩
      have HW2 : Hid (wb = (wr.alloc (.cells #[.int .i64 Do, .int .i64 C, .int .i64 File, .int .i64 N, .string S] 38)).alloc (.cells #[.pointer (some ⟨X j, 0, none⟩), .pointer (some ⟨R j, 0, none⟩)] 31)) := hwb2
      have HBS : Hid (wb.heap.size = wr.heap.size + 2) := hbs
      have HPB : Hid (Pairs w.heap.size wb n (.slice (some ⟨gl, 0, none⟩) n lcap) X R VV D) := pairs_below HPR.out hbe
      have HBB : Hid (Below w.heap.size w wb) := HBW.out.trans (hbe.mono HBW.out.size)
      have HGL : Hid (gl < wr.heap.size) := hglt
      have HWR : Hid (w.heap.size ≤ wr.heap.size) := HBW.out.size
      clear hwb2 hbe hbs HPR HBW
      have jj : (j : Int) < (n : Int) := by omega
      have HJ : Hid (j < n) := hj
      clear hwb cc hC hN hS hcl hBg HR HOK
      go_wp2_with fail
      refine (CP.out _).mono ?_
      rintro e wz ⟨rfl, hw⟩
      rw [hw]; clear hw wz CP
      by_cases z7 : Do = 7
      · by_cases h8 : n < 8
        · subst z7
          have h8a : (n : Int) < 8 := by omega
          go_wp2_with fail
          rw [← HW2.out]
          clear HW2
          refine (copy_any wb (X j) (VV j) (D j) (HPB.out.prog j HJ.out) (HPB.out.ok j HJ.out)).mono ?_
          rintro e w1 ⟨rfl, hb1, V1, hP1, hf1⟩
          have y0 : w1.cell? ⟨wr.heap.size + 1, 1, none⟩ = some (.pointer (some ⟨R j, 0, none⟩)) := (hb1.cell (p := ⟨wr.heap.size + 1, 1, none⟩) (by show wr.heap.size + 1 < _; have := HBS.out; omega)).trans HOC.out.2.2.2.2.2.2
          have HB1 : Hid (Below wb.heap.size wb w1) := hb1
          have HP1 : Hid (PDisk w1 wb.heap.size V1 (D j)) := hP1
          have HF1 : Hid (∀ k, fp wb.heap.size V1 k → wb.heap.size ≤ k) := hf1
          have CR : Hid (Calls Try.prog 15 #[.pointer (some ⟨R j, 0, none⟩)] w1 fun e w' => e = .returned (.pointer (some ⟨w1.heap.size, 0, none⟩)) ∧ RDisk w' w1.heap.size (D j) ∧ Below w1.heap.size w1 w') := refCopy_any w1 (R j) (D j) (rdisk_below (HPB.out.ref j HJ.out) hb1)
          clear hb1 hP1 hf1 c0 c1 c2 c3 c4 d0 d1
          go_wp2_with fail
          refine CR.out.mono ?_
          rintro e w2 ⟨rfl, hR2, hb2⟩
          have HR2 : Hid (RDisk w2 w1.heap.size (D j)) := hR2
          have HB2 : Hid (Below w1.heap.size w1 w2) := hb2
          have HROW : Hid (∀ o, (w2.alloc o).ownsRow w.heap.size 31 2 (.slice (some ⟨gl, 0, none⟩) n lcap) n (pcells X R n)) := fun o => (pairs_below (pairs_below (pairs_below HPB.out HB1.out) HB2.out) ((Below.refl _ _).alloc (Nat.le_refl _) o)).row
          have hws : w.heap.size ≤ w2.heap.size := by
            have h1 := HBB.out.size
            have h2 := HB1.out.size
            have h3 := HB2.out.size
            omega
          clear hR2 hb2 CR y0
          go_wp2_with (at_builtin; refine wpList_append_own_at _ rfl _ _ 36 rfl w.heap.size 31 i0 (.agg #[.pointer none, .pointer none]) 2 16 Try.underlying36 hinf hz0 hz1 hz2 rfl (by decide) _ _ _ rfl (HROW.out _) ⟨_, 0, none⟩ 1 1 [.pointer (some ⟨wb.heap.size, 0, none⟩), .pointer (some ⟨w1.heap.size, 0, none⟩)] rfl rfl (two_newP _ _ _ _) (two_cellP _ _) (by unfold maxLen; omega) (by omega) (by simp; omega) ?_)
          intro v3 w3 hown3 hg3 hnn3 hwh3
          have hba : Below w2.heap.size w2 (w2.alloc (.cells #[.pointer (some ⟨wb.heap.size, 0, none⟩), .pointer (some ⟨w1.heap.size, 0, none⟩)] 31)) := (Below.refl _ _).alloc (Nat.le_refl _) _
          have hball : Below wb.heap.size wb (w2.alloc (.cells #[.pointer (some ⟨wb.heap.size, 0, none⟩), .pointer (some ⟨w1.heap.size, 0, none⟩)] 31)) := by
            have h2 := HB1.out.size
            have h3 := HB2.out.size
            exact (HB1.out.trans (HB2.out.mono h2)).trans (hba.mono (by omega))
          have hp3 := pairs_add (pairs_below HPB.out hball) wb.heap.size (fun i hi k hk => ownB_lt HPB.out i hi k hk) (fun g hg => (HPB.out.row.lt g hg).2) (pairs_size HPB.out hn1) (pdisk_below (pdisk_below HP1.out HB2.out) hba) (rdisk_below HR2.out hba) (HPB.out.ok j HJ.out)
            (fun k hk => by
              rcases hk with hk | hk
              · exact HF1.out k hk
              · have := HB1.out.size; omega) (fun hk => by have := fp_lt HP1.out _ hk; omega) hg3 hown3 (by rw [show (w2.alloc (.cells #[.pointer (some ⟨wb.heap.size, 0, none⟩), .pointer (some ⟨w1.heap.size, 0, none⟩)] 31)).heap.size = w2.heap.size + 1 by simp]; exact hwh3)
          have hbl : w.heap.size ≤ gl := (HPB.out.row.lt gl rfl).1
          have hcell : ∀ a, wr.heap.size ≤ a → a < wb.heap.size → w3.heap[a]? = wb.heap[a]? := fun a h1 h2 => by
            have h3 := HGL.out
            have h4 := hball.size
            rw [hg3.block a (by omega) (by intro e; have e2 : a = gl := (by simpa [Value.ownBlock] using e); omega)]
            exact hball.block a h2
          have HB3 : Hid (Below w.heap.size w w3) := by
            have h1 := HBB.out.trans (hball.mono HBB.out.size)
            have h5 := h1.size
            exact ⟨hg3.os.trans h1.os, hg3.tape.trans h1.tape, hg3.output.trans h1.output, Nat.le_trans h1.size hg3.size, fun k hk => (hg3.block k (by omega) (by intro e; have e2 : k = gl := (by simpa [Value.ownBlock] using e); omega)).trans (h1.block k hk)⟩
          have hq0 := hcell wr.heap.size (Nat.le_refl _) (by have := HBS.out; omega)
          have hq1 := hcell (wr.heap.size + 1) (by omega) (by have := HBS.out; omega)
          obtain ⟨m0, m1, m2, m3, m4, m5, m6⟩ := HOC.out
          have t0 := (World.cell?_of_block (w := wb) (a := ⟨wr.heap.size, 0, none⟩) hq0).trans m0
          have t1 := (World.cell?_of_block (w := wb) (a := ⟨wr.heap.size, 1, none⟩) hq0).trans m1
          have t2 := (World.cell?_of_block (w := wb) (a := ⟨wr.heap.size, 2, none⟩) hq0).trans m2
          have t3 := (World.cell?_of_block (w := wb) (a := ⟨wr.heap.size, 3, none⟩) hq0).trans m3
          have t4 := (World.cell?_of_block (w := wb) (a := ⟨wr.heap.size, 4, none⟩) hq0).trans m4
          have t5 := (World.cell?_of_block (w := wb) (a := ⟨wr.heap.size + 1, 0, none⟩) hq1).trans m5
          have t6 := (World.cell?_of_block (w := wb) (a := ⟨wr.heap.size + 1, 1, none⟩) hq1).trans m6
          have HX3 : Hid (upd X n wb.heap.size j = X j) := upd_other _ _ _ _ (by have := HJ.out; omega)
          have HR3 : Hid (upd R n w1.heap.size j = R j) := upd_other _ _ _ _ (by have := HJ.out; omega)
          generalize upd X n wb.heap.size = X3 at *
          generalize upd R n w1.heap.size = R3 at *
          generalize upd VV n V1 = VV3 at *
          generalize upd D n (D j) = D3 at *
          obtain ⟨g3, cap3, hv3, _, _, _, _⟩ := prow hp3 (by omega)
          subst hv3
          have HP3 : Hid (Pairs w.heap.size w3 (n + 1) (.slice (some ⟨g3, 0, none⟩) (n + 1) cap3) X3 R3 VV3 D3) := hp3
          clear hp3 hown3 hg3 hnn3 hwh3 hba hball hcell hq0 hq1 m0 m1 m2 m3 m4 m5 m6 HB1 HP1 HF1 HR2 HB2 HROW HPB HBB HOC HBS hbl hws HGL HWR
          go_wp2_with fail
          refine (does_pairs HP3.out j (by have := HJ.out; omega) (X j) (R j) HX3.out HR3.out 7 C File N S HNN.out HSS.out).mono ?_
          rintro e w5 ⟨rfl, VV2, D2, HP5, hb5⟩
          have HB5 : Hid (Below w.heap.size w w5) := HB3.out.trans hb5.out
          clear hb5 HP3 HB3 HNN HSS HJ t0 t1 t2 t3 t4 t5 t6
          go_wp2_with fail
          go_loopw [14] (fun i ws => ∃ m : Nat, m ≤ n + 1 ∧ i = .int .i64 (m : Int) ∧ Hid (Pairs w.heap.size ws (n + 1) (.slice (some ⟨g3, 0, none⟩) (n + 1) cap3) X3 R3 VV2 D2) ∧ Hid (Below w.heap.size w ws)) (fun i _ => n + 1 - (intOf i).toNat)
          case atStart => exact ⟨0, Nat.zero_le _, rfl, HP5, HB5⟩
          case round =>
            obtain ⟨m, hm, rfl, HPI, HBI⟩ := hrel
            clear HP5 HB5
            by_cases hm2 : m < n + 1
            · obtain ⟨p0, p1⟩ := pcell HPI.out m hm2
              have mm : (m : Int) < ((n + 1 : Nat) : Int) := by omega
              have mm2 : (m : Int) < (n : Int) + 1 := by omega
              have CS : Hid (Calls Try.prog 12 #[.agg #[.pointer (some ⟨X3 m, 0, none⟩), .pointer (some ⟨R3 m, 0, none⟩)]] wr fun e w' => e = .returned (.bool true) ∧ Hid (Pairs w.heap.size w' (n + 1) (.slice (some ⟨g3, 0, none⟩) (n + 1) cap3) X3 R3 VV2 D2) ∧ Hid (Below wr.heap.size wr w')) := same_pairs HPI.out m hm2
              clear HPI
              go_wp2_with fail
              refine CS.out.mono ?_
              rintro e w6 ⟨rfl, HP6, hb6⟩
              have HB6 : Hid (Below w.heap.size w w6) := HBI.out.trans (hb6.out.mono HBI.out.size)
              clear hb6 HBI CS p0 p1
              go_wp2
              exact ⟨⟨m + 1, by omega, by go_num, HP6, HB6⟩, by simp [intOf]; omega⟩
            · have e1 : ¬ ((m : Int) < (n : Int) + 1) := by omega
              have e2 : decide ((m : Int) < (n : Int) + 1) = false := by simp; omega
              go_wp2
              exact ⟨⟨k + 1, n + 1, _, _, _, _, by omega, by go_num, by omega, by omega, HPI, HBI⟩, by simp [intOf]; omega⟩
        · subst z7
          have h8a : ¬ ((n : Int) < 8) := by omega
          have h8b : decide ((n : Int) < 8) = false := by simp; omega
          go_wp2_with fail
          rw [← HW2.out]
          clear HW2 HOC HBS HGL HWR
          refine (does_pairs HPB.out j HJ.out (X j) (R j) rfl rfl 7 C File N S HNN.out HSS.out).mono ?_
          rintro e w5 ⟨rfl, VV2, D2, HP5, hb5⟩
          have HB5 : Hid (Below w.heap.size w w5) := HBB.out.trans hb5.out
          clear hb5 HPB HBB HNN HSS HJ
          go_wp2_with fail
          go_loopw [14] (fun i ws => ∃ m : Nat, m ≤ n ∧ i = .int .i64 (m : Int) ∧ Hid (Pairs w.heap.size ws n (.slice (some ⟨gl, 0, none⟩) n lcap) X R VV2 D2) ∧ Hid (Below w.heap.size w ws)) (fun i _ => n - (intOf i).toNat)
          case atStart => exact ⟨0, Nat.zero_le _, rfl, HP5, HB5⟩
          case round =>
            obtain ⟨m, hm, rfl, HPI, HBI⟩ := hrel
            clear HP5 HB5
            by_cases hm2 : m < n
            · obtain ⟨p0, p1⟩ := pcell HPI.out m hm2
              have mm : (m : Int) < ((n : Nat) : Int) := by omega
              have mm2 : (m : Int) < (n : Int) := by omega
              have CS : Hid (Calls Try.prog 12 #[.agg #[.pointer (some ⟨X m, 0, none⟩), .pointer (some ⟨R m, 0, none⟩)]] wr fun e w' => e = .returned (.bool true) ∧ Hid (Pairs w.heap.size w' n (.slice (some ⟨gl, 0, none⟩) n lcap) X R VV2 D2) ∧ Hid (Below wr.heap.size wr w')) := same_pairs HPI.out m hm2
              clear HPI
              go_wp2_with fail
              refine CS.out.mono ?_
              rintro e w6 ⟨rfl, HP6, hb6⟩
              have HB6 : Hid (Below w.heap.size w w6) := HBI.out.trans (hb6.out.mono HBI.out.size)
              clear hb6 HBI CS p0 p1
              go_wp2
              exact ⟨⟨m + 1, by omega, by go_num, HP6, HB6⟩, by simp [intOf]; omega⟩
            · have e1 : ¬ ((m : Int) < (n : Int)) := by omega
              have e2 : decide ((m : Int) < (n : Int)) = false := by simp; omega
              go_wp2
              exact ⟨⟨k + 1, n, _, _, _, _, by omega, by go_num, by omega, by omega, HPI, HBI⟩, by simp [intOf]; omega⟩
      · have z7a : (Do == 7) = false := by simp [z7]
        have z7b : decide (Do = 7) = false := by simp [z7]
        go_wp2_with fail
        rw [← HW2.out]
        clear HW2 HOC HBS HGL HWR
        refine (does_pairs HPB.out j HJ.out (X j) (R j) rfl rfl Do C File N S HNN.out HSS.out).mono ?_
        rintro e w5 ⟨rfl, VV2, D2, HP5, hb5⟩
        have HB5 : Hid (Below w.heap.size w w5) := HBB.out.trans hb5.out
        clear hb5 HPB HBB HNN HSS HJ
        go_wp2_with fail
        go_loopw [14] (fun i ws => ∃ m : Nat, m ≤ n ∧ i = .int .i64 (m : Int) ∧ Hid (Pairs w.heap.size ws n (.slice (some ⟨gl, 0, none⟩) n lcap) X R VV2 D2) ∧ Hid (Below w.heap.size w ws)) (fun i _ => n - (intOf i).toNat)
        case atStart => exact ⟨0, Nat.zero_le _, rfl, HP5, HB5⟩
        case round =>
          obtain ⟨m, hm, rfl, HPI, HBI⟩ := hrel
          clear HP5 HB5
          by_cases hm2 : m < n
          · obtain ⟨p0, p1⟩ := pcell HPI.out m hm2
            have mm : (m : Int) < ((n : Nat) : Int) := by omega
            have mm2 : (m : Int) < (n : Int) := by omega
            have CS : Hid (Calls Try.prog 12 #[.agg #[.pointer (some ⟨X m, 0, none⟩), .pointer (some ⟨R m, 0, none⟩)]] wr fun e w' => e = .returned (.bool true) ∧ Hid (Pairs w.heap.size w' n (.slice (some ⟨gl, 0, none⟩) n lcap) X R VV2 D2) ∧ Hid (Below wr.heap.size wr w')) := same_pairs HPI.out m hm2
            clear HPI
            go_wp2_with fail
            refine CS.out.mono ?_
            rintro e w6 ⟨rfl, HP6, hb6⟩
            have HB6 : Hid (Below w.heap.size w w6) := HBI.out.trans (hb6.out.mono HBI.out.size)
            clear hb6 HBI CS p0 p1
            go_wp2
            exact ⟨⟨m + 1, by omega, by go_num, HP6, HB6⟩, by simp [intOf]; omega⟩
          · have e1 : ¬ ((m : Int) < (n : Int)) := by omega
            have e2 : decide ((m : Int) < (n : Int)) = false := by simp; omega
            go_wp2
            exact ⟨⟨k + 1, n, _, _, _, _, by omega, by go_num, by omega, by omega, HPI, HBI⟩, by simp [intOf]; omega⟩
    · obtain rfl : k = l.length := by omega
      clear HPR
      go_wp2
      go_ret
      exact ⟨rfl, HBW.out⟩
end Go.Proofs.Ytnemnkmogbnjcaa

