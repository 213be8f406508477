/- The walk of the laws' own 'made': a new pair of disks and journals. -/
import Derived.Test.YtahkecdlibkokaaDoorHelpW
import Derived.Laws.ResultCell
set_option linter.unusedVariables false
set_option maxRecDepth 100000
namespace Go.Proofs.YtahkecdlibkokaaDoor
open Go.RowKit
open JournalMath DiskMath
open FrameMath (scan wrap)
open Fr (Tab tab_below tab_drewN)
open Dk (PDisk RDisk ROk DIn Chg fp fp_lt rdisk_below rdisk_chg chg_below pdisk_below pdisk_chg)

/-- The program's disk and journal and the document's, all of them from block B on; ahead of it all is as it was in w. -/
def Quad (B : Nat) (w : World) (bd bj bx by_ : Nat) (s : JS) (w1 : World) : Prop :=
  ∃ V, PDisk w1 bd V s.d ∧ JCells w1 bj bd s.f s.g s.n ∧ RDisk w1 bx s.d ∧ JCells w1 by_ bx s.f s.g s.n ∧ (∀ k, fp bd V k ∨ k = bj ∨ k = bx ∨ k = by_ → B ≤ k) ∧ ¬ fp bd V bj ∧ ¬ fp bd V bx ∧ ¬ fp bd V by_ ∧ bj ≠ bx ∧ bj ≠ by_ ∧ bx ≠ by_ ∧ Below B w w1
theorem Quad.below {B : Nat} {w w1 w2 : World} {bd bj bx by_ : Nat} {s : JS} (h : Quad B w bd bj bx by_ s w1) (hb : Below w1.heap.size w1 w2) (hB : B ≤ w1.heap.size) : Quad B w bd bj bx by_ s w2 := by
  obtain ⟨V, h1, h2, h3, h4, h5, h6, h7, h8, h9, h10, h11, h12⟩ := h
  exact ⟨V, pdisk_below h1 hb, h2.block (hb.block _ h2.lt) hb.size, rdisk_below h3 hb, h4.block (hb.block _ h4.lt) hb.size, h5, h6, h7, h8, h9, h10, h11, h12.trans (hb.mono hB)⟩
/-- What is written elsewhere, from block B on, leaves all four alone. -/
theorem Quad.chg {B : Nat} {w w1 w2 : World} {bd bj bx by_ : Nat} {s : JS} {S : Nat → Prop} (h : Quad B w bd bj bx by_ s w1) (hc : Chg S w1 w2) (hB : B ≤ w1.heap.size) (hS : ∀ k, S k → B ≤ k) (h0 : ∀ V, PDisk w1 bd V s.d → ∀ k, fp bd V k → ¬ S k) (h1 : ¬ S bj) (h2 : ¬ S bx) (h3 : ¬ S by_) : Quad B w bd bj bx by_ s w2 := by
  obtain ⟨V, g1, g2, g3, g4, g5, g6, g7, g8, g9, g10, g11, g12⟩ := h
  refine ⟨V, pdisk_chg g1 hc (h0 V g1), g2.block (hc.block _ g2.lt h1) hc.size, rdisk_chg g3 hc h2, g4.block (hc.block _ g4.lt h3) hc.size, g5, g6, g7, g8, g9, g10, g11, g12.trans ⟨hc.os, hc.tape, hc.output, hc.size, fun k hk => hc.block k (by omega) (fun hs => by have := hS k hs; omega)⟩⟩
/-- The program's journal alone. -/
theorem Quad.jin {B : Nat} {w w1 : World} {bd bj bx by_ : Nat} {s : JS} (h : Quad B w bd bj bx by_ s w1) : JIn (fun k => k < B) w bj bd s w1 := by
  obtain ⟨V, g1, g2, g3, g4, g5, g6, g7, g8, g9, g10, g11, g12⟩ := h
  refine ⟨V, g1, g2, fun k hk _ hlt => ?_, g6, ⟨g12.os, g12.tape, g12.output, g12.size, fun k _ hn => g12.block k (Classical.not_not.1 hn)⟩⟩
  rcases hk with hk | hk
  · have := g5 k (Or.inl hk); omega
  · have := g5 k (Or.inr (Or.inl hk)); omega
/-- The results of a call that hands out a struct of four cells in memory, and a value. -/
theorem results_cell4_tmp {P : Program} {fn : Func} {p u : Tmp} {ty : TypeId} (h : fn.results = #[.cell p ty, .tmp u]) (tmps : Array Value) (w : World) (g : Nat) (c0 c1 c2 c3 : Value) (d : TypeDesc)
    (hp : tmps.getD p undef = .pointer (some ⟨g, 0, none⟩)) (h0 : w.cell? ⟨g, 0, none⟩ = some c0) (h1 : w.cell? ⟨g, 1, none⟩ = some c1) (h2 : w.cell? ⟨g, 2, none⟩ = some c2) (h3 : w.cell? ⟨g, 3, none⟩ = some c3)
    (hu : P.underlying ty = some d) (hd : d.isRow = true) (hi : (P.info? ty).map (·.size) = some 4) : (results fn tmps).run P w = .ok (.tuple #[.agg #[c0, c1, c2, c3], tmps.getD u undef]) w := by
  have hr : w.rangeAt g 0 [c0, c1, c2, c3] := by
    intro j v hj
    rw [Nat.zero_add]
    match j, hj with
    | 0, hj => cases hj; exact h0
    | 1, hj => cases hj; exact h1
    | 2, hj => cases hj; exact h2
    | 3, hj => cases hj; exact h3
  rw [results_cell_tmp h, hp]
  simp [asAddr, run_loadVar_mid w g 0 ty [c0, c1, c2, c3] d hr hu hd hi]

/-- The journal that New makes on an empty disk. -/
def begun0 (r : Nat) : JS := ⟨begins (new r) 1 0 [], 0, 1, 0⟩
theorem new_room (r : Nat) (h : 20 ≤ r) : jBegin ⟨new r, 1, 0, 0⟩ [] = (begun0 r, 0) := by
  have h1 := head_length 1 [] (by decide)
  have h2 : (wrap (head 1 [])).length = (head 1 []).length + 8 := FrameMath.wrap_length _
  rw [jBegin_new, if_neg]
  · rfl
  · have : used (new r) = 0 := rfl
    have h3 : (new r).R = r := rfl
    have h4 := h1.1
    simp at h4
    omega
set_option maxHeartbeats 1000000 in
theorem made_any (r : Nat) (hr1 : 20 ≤ r) (hr2 : r ≤ 1048576) (w : World) (hT : Tab w) :
    Calls Tryd.prog 9 #[.int .i64 (r : Int)] w fun e w' => ∃ bd bj bx by_, e = .returned (.tuple #[.agg #[.pointer (some ⟨bd, 0, none⟩), .pointer (some ⟨bj, 0, none⟩), .pointer (some ⟨bx, 0, none⟩), .pointer (some ⟨by_, 0, none⟩)], .bool true]) ∧ Quad w.heap.size w bd bj bx by_ (begun0 r) w' ∧ w.heap.size ≤ w'.heap.size := by
  have hok : Ok (new r) := ok_new r (by omega) hr2
  have C1 : Hid (∀ w, Calls Tryd.prog 28 #[.int .i64 (r : Int)] w fun e w' => e = .returned (.tuple #[.pointer (some ⟨w.heap.size, 0, none⟩), .int .i64 0]) ∧ PDisk w' w.heap.size (fun _ => .slice none 0 0) (new r) ∧ Below w.heap.size w w') := fun w => Dk.new_any r (by omega) hr2 w
  have C2 : Hid (∀ w, Calls Tryd.prog 29 #[.int .i64 (r : Int)] w fun e w' => e = .returned (.tuple #[.pointer (some ⟨w.heap.size, 0, none⟩), .int .i64 0]) ∧ RDisk w' w.heap.size (new r) ∧ w.heap.size < w'.heap.size ∧ Below w.heap.size w w') := fun w => Dk.refNew_any r (by omega) hr2 w
  have C3 : Hid (∀ (T : Nat → Prop) (w w1 : World) b, DIn T w b (new r) w1 → T 0 → Tab w → Calls Tryd.prog 16 #[.pointer (some ⟨b, 0, none⟩)] w1 fun e w' => ∃ bj, e = .returned (.tuple #[.pointer (some ⟨bj, 0, none⟩), .int .i64 0]) ∧ JIn T w bj b (begun0 r) w') := by
    intro T w w1 b hD hG hT
    refine (new_fresh hD hok rfl rfl hG hT).mono ?_
    rintro e w' h
    rw [new_room r hr1] at h
    rcases h with ⟨_, bj, h1, h2⟩ | ⟨h, _⟩
    · exact ⟨bj, h1, h2⟩
    · exact absurd h (by show ¬ (0 : Int) = 41; decide)
  have C4 : Hid (∀ (w : World) b, RDisk w b (new r) → Calls Tryd.prog 17 #[.pointer (some ⟨b, 0, none⟩)] w fun e w' => ∃ by_, w.heap.size ≤ by_ ∧ e = .returned (.tuple #[.pointer (some ⟨by_, 0, none⟩), .int .i64 0]) ∧ RDisk w' b (begun0 r).d ∧ JCells w' by_ b (begun0 r).f (begun0 r).g (begun0 r).n ∧ Chg (fun k => k = b) w w') := by
    intro w b hR
    refine (refNew_fresh hR hok rfl rfl).mono ?_
    rintro e w' h
    rw [new_room r hr1] at h
    rcases h with ⟨_, h⟩ | ⟨h, _⟩
    · exact h
    · exact absurd h (by show ¬ (0 : Int) = 41; decide)
  obtain ⟨wa, hwa⟩ : ∃ wa, wa = w.alloc (.cells #[.pointer none, .pointer none, .pointer none, .pointer none] 28) := ⟨_, rfl⟩
  have HWA : Hid (wa = w.alloc (.cells #[.pointer none, .pointer none, .pointer none, .pointer none] 28)) := hwa
  have hba : Below w.heap.size w wa := by rw [hwa]; exact (Below.refl _ _).alloc (Nat.le_refl _) _
  have hsa : wa.heap.size = w.heap.size + 1 := by rw [hwa]; simp
  have HT : Hid (Tab w) := hT
  have HSA : Hid (wa.heap.size = w.heap.size + 1) := hsa
  generalize begun0 r = s0 at *
  clear hwa hT hok hsa
  go_enter Tryd.func9, Tryd.ntmps9
  go_wp2_with fail
  rw [← HWA.out]
  refine (C1.out _).mono ?_
  rintro e w1 ⟨rfl, hP1, hb1⟩
  go_wp2_with fail
  refine (C2.out _).mono ?_
  rintro e w2 ⟨rfl, hR2, hlt2, hb2⟩
  have hsa := HSA.out
  have hP2 := pdisk_below hP1 hb2
  have hb02 : Below w.heap.size w w2 := (hba.trans (hb1.mono hba.size)).trans (hb2.mono (by have := hb1.size; omega))
  have hT2 := tab_below HT.out hb02
  have hfp : ∀ k, fp wa.heap.size (fun _ => Value.slice none 0 0) k → k = wa.heap.size := by
    rintro k (h | ⟨i, _, h⟩)
    · exact h
    · cases h
  have hD2 : DIn (fun k => k < w2.heap.size ∧ ¬ fp wa.heap.size (fun _ => Value.slice none 0 0) k) w2 wa.heap.size (new r) w2 := ⟨_, hP2, fun k hk _ ht => ht.2 hk, Chg.refl _ _⟩
  have hG2 : 0 < w2.heap.size ∧ ¬ fp wa.heap.size (fun _ => Value.slice none 0 0) 0 := ⟨tab_lt hT2, fun hf => by have := hfp _ hf; have := tab_lt HT.out; omega⟩
  have C3' : Hid (Calls Tryd.prog 16 #[.pointer (some ⟨wa.heap.size, 0, none⟩)] w2 fun e w' => ∃ bj, e = .returned (.tuple #[.pointer (some ⟨bj, 0, none⟩), .int .i64 0]) ∧ JIn (fun k => k < w2.heap.size ∧ ¬ fp wa.heap.size (fun _ => Value.slice none 0 0) k) w2 bj wa.heap.size s0 w') := C3.out _ _ _ _ hD2 hG2 hT2
  have HR2 : Hid (RDisk w2 w1.heap.size (new r)) := hR2
  have HB02 : Hid (Below w.heap.size w w2) := hb02
  have HFP : Hid (∀ k, fp wa.heap.size (fun _ => Value.slice none 0 0) k → k = wa.heap.size) := hfp
  have hs1 := hb1.size
  have hlt1 : wa.heap.size < w1.heap.size := hP1.lt
  have hrb : ∀ (w' : World), Below wa.heap.size wa w' → (∀ j, w'.frozen? ⟨w.heap.size, j, none⟩ = false) ∧ w'.cell? ⟨w.heap.size, 0, none⟩ = some (.pointer none) ∧ w'.cell? ⟨w.heap.size, 1, none⟩ = some (.pointer none) ∧ w'.cell? ⟨w.heap.size, 2, none⟩ = some (.pointer none) ∧ w'.cell? ⟨w.heap.size, 3, none⟩ = some (.pointer none) := by
    intro w' hb
    have c := fun j => hb.cell (p := ⟨w.heap.size, j, none⟩) (by simp; omega)
    have f := fun j => hb.frozen (p := ⟨w.heap.size, j, none⟩) (by simp; omega)
    refine ⟨fun j => (f j).trans ?_, (c 0).trans ?_, (c 1).trans ?_, (c 2).trans ?_, (c 3).trans ?_⟩
    · rw [HWA.out, World.frozen?, heap_alloc_new w _]; simp
    all_goals (rw [HWA.out]; simp)
  have HA2 : Hid (Below wa.heap.size wa w2) := hb1.trans (hb2.mono hs1)
  have HRB : Hid (∀ (w' : World), Below wa.heap.size wa w' → (∀ j, w'.frozen? ⟨w.heap.size, j, none⟩ = false) ∧ w'.cell? ⟨w.heap.size, 0, none⟩ = some (.pointer none) ∧ w'.cell? ⟨w.heap.size, 1, none⟩ = some (.pointer none) ∧ w'.cell? ⟨w.heap.size, 2, none⟩ = some (.pointer none) ∧ w'.cell? ⟨w.heap.size, 3, none⟩ = some (.pointer none)) := hrb
  clear hP1 hP2 hb1 hb2 hb02 hT2 hD2 hG2 hR2 hfp hba hrb HWA hsa
  go_wp2_with fail
  refine C3'.out.mono ?_
  rintro e w3 ⟨bj, rfl, hJ3⟩
  have HJ3 : Hid (JIn (fun k => k < w2.heap.size ∧ ¬ fp wa.heap.size (fun _ => Value.slice none 0 0) k) w2 bj wa.heap.size s0 w3) := hJ3
  have hnx : ¬ fp wa.heap.size (fun _ => Value.slice none 0 0) w1.heap.size := fun hf => by have := HFP.out _ hf; omega
  have HR3 : Hid (RDisk w3 w1.heap.size (new r)) := rdisk_chg HR2.out hJ3.chg (fun hn => hn ⟨hlt2, hnx⟩)
  clear hJ3 C3' hnx
  go_wp2_with fail
  refine (C4.out _ _ HR3.out).mono ?_
  rintro e w4 ⟨by_, hby, rfl, hR4, hJ4, hC4⟩
  obtain ⟨V, g1, g2, g3, g4, g5⟩ := HJ3.out
  have hsa := HSA.out
  have hw34 : w3.heap.size ≤ w4.heap.size := hC4.size
  have hw23 : w2.heap.size ≤ w3.heap.size := g5.size
  have hbxT : w1.heap.size < w2.heap.size ∧ ¬ fp wa.heap.size (fun _ => Value.slice none 0 0) w1.heap.size := ⟨hlt2, fun hf => by have := HFP.out _ hf; omega⟩
  have hnb : ∀ k, fp wa.heap.size V k → k = wa.heap.size ∨ w2.heap.size ≤ k := fun k hk => by
    by_cases h : k < w2.heap.size
    · left
      exact Classical.byContradiction fun hn => g3 k (Or.inl hk) h ⟨h, fun hf => hn (HFP.out _ hf)⟩
    · right; omega
  have hjb : bj = wa.heap.size ∨ w2.heap.size ≤ bj := by
    by_cases h : bj < w2.heap.size
    · left
      exact Classical.byContradiction fun hn => g3 bj (Or.inr rfl) h ⟨h, fun hf => hn (HFP.out _ hf)⟩
    · right; omega
  have hbd : fp wa.heap.size V wa.heap.size := Or.inl rfl
  have hjb2 : w2.heap.size ≤ bj := by
    rcases hjb with h | h
    · exact absurd (h ▸ hbd) g4
    · exact h
  have hfx : ¬ fp wa.heap.size V w1.heap.size := fun hf => by rcases hnb _ hf with h | h <;> omega
  have hjlt := g2.lt
  have hfy : ¬ fp wa.heap.size V by_ := fun hf => by have := fp_lt g1 _ hf; omega
  have hP4 := pdisk_chg g1 hC4 (fun k hk e => hfx (by have e2 : k = w1.heap.size := e; rw [← e2]; exact hk))
  have hJC4 := g2.block (hC4.block bj g2.lt (fun e => by have e2 : bj = w1.heap.size := e; omega)) hC4.size
  have hb23 : Below wa.heap.size w2 w3 := ⟨g5.os, g5.tape, g5.output, g5.size, fun k hk => g5.block k (by omega) (fun hn => hn ⟨by omega, fun hf => by have := HFP.out _ hf; omega⟩)⟩
  have hb34 : Below wa.heap.size w3 w4 := ⟨hC4.os, hC4.tape, hC4.output, hC4.size, fun k hk => hC4.block k (by omega) (fun e => by have e2 : k = w1.heap.size := e; omega)⟩
  have hba4 : Below wa.heap.size wa w4 := (HA2.out.trans hb23).trans hb34
  obtain ⟨hfr, r0, r1, r2, r3⟩ := HRB.out _ hba4
  have hb04 : Below w.heap.size w w4 := (HB02.out.trans (hb23.mono (by omega))).trans (hb34.mono (by omega))
  have HQ : Hid (Quad w.heap.size w wa.heap.size bj w1.heap.size by_ s0 w4) := ⟨V, hP4, hJC4, hR4, hJ4, fun k hk => by
    rcases hk with hk | hk | hk | hk
    · rcases hnb _ hk with h | h <;> omega
    · omega
    · omega
    · omega, g4, hfx, hfy, by omega, by omega, by omega, hb04⟩
  have HNE : Hid (∀ k, fp wa.heap.size V k ∨ k = bj ∨ k = w1.heap.size ∨ k = by_ → k ≠ w.heap.size) := fun k hk e => by
    rcases hk with hk | hk | hk | hk
    · rcases hnb _ hk with h | h <;> omega
    · omega
    · omega
    · omega
  have HSET : Hid (∀ a b c d : Value, Quad w.heap.size w wa.heap.size bj w1.heap.size by_ s0 ((((w4.setCell ⟨w.heap.size, 0, none⟩ a).setCell ⟨w.heap.size, 1, none⟩ b).setCell ⟨w.heap.size, 2, none⟩ c).setCell ⟨w.heap.size, 3, none⟩ d)) := by
    intro a b c d
    have hch : Chg (fun k => k = w.heap.size) w4 ((((w4.setCell ⟨w.heap.size, 0, none⟩ a).setCell ⟨w.heap.size, 1, none⟩ b).setCell ⟨w.heap.size, 2, none⟩ c).setCell ⟨w.heap.size, 3, none⟩ d) :=
      (((Dk.chg_set w4 ⟨w.heap.size, 0, none⟩ a).trans (Dk.chg_set _ ⟨w.heap.size, 1, none⟩ b) (fun _ _ h => h)).trans (Dk.chg_set _ ⟨w.heap.size, 2, none⟩ c) (fun _ _ h => h)).trans (Dk.chg_set _ ⟨w.heap.size, 3, none⟩ d) (fun _ _ h => h)
    refine ⟨V, pdisk_chg hP4 hch (fun k hk e => HNE.out k (Or.inl hk) e), hJC4.block (hch.block _ hJC4.lt (fun e => HNE.out _ (Or.inr (Or.inl rfl)) e)) hch.size, rdisk_chg hR4 hch (fun e => HNE.out _ (Or.inr (Or.inr (Or.inl rfl))) e), hJ4.block (hch.block _ hJ4.lt (fun e => HNE.out _ (Or.inr (Or.inr (Or.inr rfl))) e)) hch.size, fun k hk => ?_, g4, hfx, hfy, by omega, by omega, by omega, hb04.trans ⟨hch.os, hch.tape, hch.output, hch.size, fun k hk => hch.block k (by have := hb04.size; omega) (fun e => by have e2 : k = w.heap.size := e; omega)⟩⟩
    rcases hk with hk | hk | hk | hk
    · rcases hnb _ hk with h | h <;> omega
    · omega
    · omega
    · omega
  have HSZ : Hid (w.heap.size ≤ w4.heap.size) := hb04.size
  generalize wa.heap.size = bd at *
  generalize w1.heap.size = bx at *
  clear g1 g2 g3 g4 g5 hR4 hJ4 hC4 hsa hw34 hw23 hbxT hnb hjb hbd hjb2 hfx hjlt hfy hP4 hJC4 hb23 hb34 hba4 hb04 HQ HNE HRB HA2 HB02 HFP HR3 HJ3 HR2 HSA hby hlt2 hs1 hlt1
  go_wp2_with fail
  refine bodyPost_ret (results_cell4_tmp rfl _ _ w.heap.size _ _ _ _ _ rfl (set4 _ _ _ _ r0 r1 r2 r3).1 (set4 _ _ _ _ r0 r1 r2 r3).2.1 (set4 _ _ _ _ r0 r1 r2 r3).2.2.1 (set4 _ _ _ _ r0 r1 r2 r3).2.2.2 Tryd.underlying28 rfl (by kernel_rfl)) rfl ⟨bd, bj, bx, by_, rfl, HSET.out _ _ _ _, by simpa using HSZ.out⟩
end Go.Proofs.YtahkecdlibkokaaDoor
