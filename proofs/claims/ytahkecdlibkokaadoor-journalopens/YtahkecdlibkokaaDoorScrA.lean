/- The texts AMath, PlayM, SoleW, PlaysW, RefJCallW, RefCmpW, GoodM, RefFoundW, RefFindW, RefOpenW, DuoW, FillW, BothW, MidW, OpensW, one behind the other. -/
import Derived.Test.YtahkecdlibkokaaDoorJMath2
import Derived.Test.YtahkecdlibkokaaDoorSaysW
import Derived.Test.YtahkecdlibkokaaDoorBegunW
import Derived.BigRegion
import Derived.RegionTactic
import Derived.Test.YtahkecdlibkokaaDoorRefJW
import Derived.Deep.RegionHeld3
import Derived.Test.YtahkecdlibkokaaDoorFrRefAllW
import Derived.Test.YtahkecdlibkokaaDoorHelpW
import Derived.Test.YtahkecdlibkokaaDoorLookAllW
import Derived.Test.YtahkecdlibkokaaDoorPkRefTakeW
import Derived.ArgAppend
import Derived.BigQuiet
/- Open of what Open left: the mathematics. -/
set_option linter.unusedVariables false
namespace JournalMath
open DiskMath (DS upd Ok app syn cut crash)
open FrameMath (scan wrap wraps fits)

theorem while_again (t : List (List UInt8)) : (t.takeWhile short).takeWhile short = t.takeWhile short := by
  induction t with
  | nil => rfl
  | cons x t ih =>
    by_cases h : short x = true
    · rw [List.takeWhile_cons, if_pos h, List.takeWhile_cons, if_pos h, ih]
    · rw [List.takeWhile_cons, if_neg h]; rfl
theorem wraps_prefix (xs ys : List (List UInt8)) : (wraps (xs ++ ys)).take (FrameMath.used xs) = wraps xs := by
  rw [FrameMath.wraps_append]
  exact List.take_left' (FrameMath.wraps_length xs)
/-- What was found stands by itself. -/
theorem found_again (l : List UInt8) (h : (found l).gen ≠ 0) : found (l.take (found l).size) = found l := by
  unfold found at h ⊢
  have hst := FrameMath.scan_stands l
  have hws := FrameMath.wraps_scan l
  have hul := FrameMath.used_le l
  generalize hx : scan l = xs at *
  cases xs with
  | nil => exact absurd rfl h
  | cons hd t =>
    by_cases h0 : (readHead hd).1 = 0
    · rw [foundOf_no hd t h0] at h; exact absurd rfl h
    · rw [foundOf_yes hd t h0]
      simp only
      have hsplit : hd :: t = (hd :: t.takeWhile short) ++ t.dropWhile short := by rw [List.cons_append, List.takeWhile_append_dropWhile]
      have hu : FrameMath.used (hd :: t.takeWhile short) ≤ FrameMath.used (hd :: t) := by
        have := FrameMath.used_append (hd :: t.takeWhile short) (t.dropWhile short)
        rw [← hsplit] at this
        omega
      have e : l.take (FrameMath.used (hd :: t.takeWhile short)) = wraps (hd :: t.takeWhile short) := by
        have h1 : l.take (FrameMath.used (hd :: t.takeWhile short)) = (l.take (FrameMath.used (hd :: t))).take (FrameMath.used (hd :: t.takeWhile short)) := by
          rw [List.take_take, Nat.min_eq_left hu]
        rw [h1, ← hws]
        have h2 := wraps_prefix (hd :: t.takeWhile short) (t.dropWhile short)
        rw [← hsplit] at h2
        exact h2
      have hfit : fits (hd :: t.takeWhile short) := fun r hr => hst.1 r (by
        rw [hsplit]; exact List.mem_append_left _ hr)
      rw [e, FrameMath.scan_all _ hfit, foundOf_yes hd _ h0, while_again]
/-- A disk behind Open: the file that holds is what was found, all of it safe; the other one is empty. -/
theorem opened_files (d : DS) (f : Nat) (hf : f ≤ 1) (x : Found) (h : Ok d) (hx : x.size ≤ (d.F f).length) : (opened d f x).d.F f = (d.F f).take x.size ∧ (opened d f x).d.F (1 - f) = [] ∧ (opened d f x).d.S f = x.size ∧ (opened d f x).d.S (1 - f) = 0 := by
  have hne : f ≠ 1 - f := by omega
  have hne2 : 1 - f ≠ f := by omega
  have e1 : ((cut (cut d (1 - f) 0) f x.size).F f) = (d.F f).take x.size := by
    unfold cut
    simp only [DiskMath.upd_same, DiskMath.upd_other _ _ _ _ hne]
  refine ⟨e1, ?_, ?_, ?_⟩
  · show (cut (cut d (1 - f) 0) f x.size).F (1 - f) = []
    unfold cut
    simp only [DiskMath.upd_same, DiskMath.upd_other _ _ _ _ hne2, List.take_zero]
  · show upd _ f ((cut (cut d (1 - f) 0) f x.size).F f).length f = x.size
    rw [DiskMath.upd_same, e1, List.length_take]
    omega
  · show upd _ f _ (1 - f) = 0
    rw [DiskMath.upd_other _ _ _ _ hne2]
    unfold cut
    simp only [DiskMath.upd_same, DiskMath.upd_other _ _ _ _ hne2]
    omega
/-- A crash leaves alone what is safe. -/
theorem crash_safe (d : DS) (i keep : Nat) (hi : i < 4) (h : d.S i = (d.F i).length) : (crash d keep).F i = d.F i := by
  rw [(DiskMath.crash_file d keep i hi).1]
  have : DiskMath.stay d i (DiskMath.left d keep i) = 0 := by unfold DiskMath.stay; omega
  rw [this, Nat.add_zero, h, List.take_length]
end JournalMath

/- What a journal's disk is behind Adds, Syncs and Compacts: the mathematics. -/
set_option linter.unusedVariables false
set_option maxRecDepth 100000
namespace Go.Proofs.YtahkecdlibkokaaDoor
open JournalMath DiskMath
open FrameMath (scan wrap wraps)

/-- What was told so far: the snapshot, the records behind it, how many of them are safe. -/
structure Play (s : JS) (sn : List UInt8) (rs : List (List UInt8)) (sf : Nat) : Prop where
  says : Says s sn rs
  two : s.d.F 2 = []
  three : s.d.F 3 = []
  safe : FrameMath.used (head s.g sn :: rs.take sf) ≤ s.d.S s.f
  le : sf ≤ rs.length
theorem play_begun (r : Nat) : Play (begun0 r) [] [] 0 := by
  refine ⟨says_begun r, ?_, ?_, ?_, Nat.le_refl _⟩
  · show (begins (new r) 1 0 []).F 2 = []
    unfold begins cut syn app
    simp [upd, new]
  · show (begins (new r) 1 0 []).F 3 = []
    unfold begins cut syn app
    simp [upd, new]
  · show FrameMath.used [head 1 []] ≤ (begins (new r) 1 0 []).S 0
    unfold begins cut syn app
    simp [upd, new, FrameMath.used, FrameMath.wrap_length]
theorem play_add (s : JS) (sn r : List UInt8) (rs : List (List UInt8)) (sf : Nat) (h : Play s sn rs sf) (hk : JOk s) (h0 : (jAdd s r).2 = 0) : Play (jAdd s r).1 sn (rs ++ [r]) sf := by
  have hs := says_add s sn r rs h.says hk h0
  have hf := hk.file
  unfold jAdd at h0 hs ⊢
  by_cases h1 : 4000 < r.length
  · rw [if_pos h1] at h0; exact absurd h0 (by simp)
  · rw [if_neg h1] at h0 hs ⊢
    by_cases h2 : s.d.R < used s.d + (wrap r).length
    · rw [if_pos h2] at h0; exact absurd h0 (by simp)
    · rw [if_neg h2] at hs ⊢
      refine ⟨hs, ?_, ?_, ?_, by rw [List.length_append]; have := h.le; omega⟩
      · show (app s.d s.f (wrap r)).F 2 = []
        unfold app
        simp only [upd_other _ _ _ _ (show 2 ≠ s.f by omega)]
        exact h.two
      · show (app s.d s.f (wrap r)).F 3 = []
        unfold app
        simp only [upd_other _ _ _ _ (show 3 ≠ s.f by omega)]
        exact h.three
      · show FrameMath.used (head s.g sn :: (rs ++ [r]).take sf) ≤ s.d.S s.f
        rw [List.take_append_of_le_length h.le]
        exact h.safe
theorem play_syn (s : JS) (sn : List UInt8) (rs : List (List UInt8)) (sf : Nat) (h : Play s sn rs sf) : Play (jSyn s) sn rs rs.length := by
  refine ⟨says_syn s sn rs h.says, h.two, h.three, ?_, Nat.le_refl _⟩
  show FrameMath.used (head s.g sn :: rs.take rs.length) ≤ upd s.d.S s.f (s.d.F s.f).length s.f
  rw [List.take_length, upd_same, h.says.holds, FrameMath.wraps_length]
  exact Nat.le_refl _
theorem play_cmp (s : JS) (sn snap : List UInt8) (rs : List (List UInt8)) (sf : Nat) (h : Play s sn rs sf) (hk : JOk s) (h0 : (jCmp s snap).2 = 0) : Play (jCmp s snap).1 snap [] 0 := by
  have hs := says_cmp s sn snap rs h.says hk h0
  have hf := hk.file
  unfold jCmp at h0 hs ⊢
  by_cases h1 : 190000 < snap.length ∨ s.g = 1125899906842624
  · rw [if_pos h1] at h0; exact absurd h0 (by simp)
  · rw [if_neg h1] at h0 hs ⊢
    unfold jBegin at h0 hs ⊢
    by_cases h2 : s.d.R < used s.d + (wrap (head (s.g + 1) snap)).length
    · rw [if_pos h2] at h0; exact absurd h0 (by simp)
    · rw [if_neg h2] at hs ⊢
      have n2 : (2 : Nat) ≠ s.f := by omega
      have n3 : (3 : Nat) ≠ s.f := by omega
      have m2 : (2 : Nat) ≠ 1 - s.f := by omega
      have m3 : (3 : Nat) ≠ 1 - s.f := by omega
      refine ⟨hs, ?_, ?_, ?_, Nat.le_refl _⟩
      · show (begins s.d s.f s.g snap).F 2 = []
        unfold begins cut syn app
        simp only [upd_other _ _ _ _ n2, upd_other _ _ _ _ m2]
        exact h.two
      · show (begins s.d s.f s.g snap).F 3 = []
        unfold begins cut syn app
        simp only [upd_other _ _ _ _ n3, upd_other _ _ _ _ m3]
        exact h.three
      · show FrameMath.used [head (s.g + 1) snap] ≤ (begins s.d s.f s.g snap).S (1 - s.f)
        unfold begins cut syn app
        simp only [upd_other _ _ _ _ (show 1 - s.f ≠ s.f by omega), upd_same]
        rw [h.says.empty, List.nil_append, FrameMath.wrap_length]
        exact Nat.le_refl _
/-- Behind a crash: the file that holds is cut off behind what was safe; the other one is empty. -/
theorem play_crash (s : JS) (sn : List UInt8) (rs : List (List UInt8)) (sf : Nat) (h : Play s sn rs sf) (hk : JOk s) (keep : Nat) :
    ∃ k, sf ≤ k ∧ k ≤ rs.length ∧ found ((crash s.d keep).F s.f) = ⟨s.g, sn, rs.take k, FrameMath.used (head s.g sn :: rs.take k)⟩ ∧ found ((crash s.d keep).F (1 - s.f)) = ⟨0, [], [], 0⟩ ∧
      k = kept rs (((crash s.d keep).F s.f).length - ((head s.g sn).length + 8)) := by
  have hf := hk.file
  have ht := crash_tells s.d hk.ok keep s.f (by omega)
  have hcf : (crash s.d keep).F s.f = (wraps (head s.g sn :: rs)).take ((crash s.d keep).F s.f).length := by rw [← h.says.holds]; exact ht.2.1.symm
  have hsafe := h.safe
  have hu : FrameMath.used (head s.g sn :: rs.take sf) = (head s.g sn).length + 8 + FrameMath.used (rs.take sf) := rfl
  have hm : (head s.g sn).length + 8 ≤ ((crash s.d keep).F s.f).length := by have := ht.2.2.1; omega
  refine ⟨kept rs (((crash s.d keep).F s.f).length - ((head s.g sn).length + 8)), ?_, kept_le _ _, ?_, ?_, rfl⟩
  · refine kept_ge rs sf _ h.le ?_
    have := ht.2.2.1
    omega
  · have := found_cut s.g sn rs ((crash s.d keep).F s.f).length h.says.gen hk.gen h.says.snap h.says.recs hm
    rw [← hcf] at this
    exact this
  · have h2 := (crash_tells s.d hk.ok keep (1 - s.f) (by omega)).1
    rw [h.says.empty] at h2
    have : (crash s.d keep).F (1 - s.f) = [] := List.eq_nil_of_length_eq_zero (by simpa using h2)
    rw [this, found_nil]
theorem crash_more (d : DS) (hk : Ok d) (a b i : Nat) (hi : i < 4) (hab : a ≤ b) : ((crash d a).F i).length ≤ ((crash d b).F i).length := by
  have hl : ∀ k, left d a k ≤ left d b k := by
    intro k
    have h1 := kept_is d a k
    have h2 := kept_is d b k
    omega
  have h := hl i
  rw [(crash_file d a i hi).1, (crash_file d b i hi).1, List.length_take, List.length_take]
  unfold stay
  omega
end Go.Proofs.YtahkecdlibkokaaDoor

/- The program's journal beside blocks of the law's own. -/
set_option linter.unusedVariables false
set_option maxRecDepth 100000
namespace Go.Proofs.YtahkecdlibkokaaDoor
open Go.RowKit
open JournalMath DiskMath
open Fr (Tab tab_below tab_drewN)
open Dk (PDisk RDisk ROk DIn Chg fp fp_lt rdisk_below rdisk_chg chg_below pdisk_below pdisk_chg)

/-- A journal and its disk from block B on, none of whose blocks is among those of N. -/
def Sole (B : Nat) (w : World) (bj bd : Nat) (s : JS) (N : Nat → Prop) (wr : World) : Prop :=
  ∃ V, PDisk wr bd V s.d ∧ JCells wr bj bd s.f s.g s.n ∧ ¬ fp bd V bj ∧ (∀ k, fp bd V k ∨ k = bj → B ≤ k) ∧ (∀ k, N k → k < wr.heap.size ∧ ¬ (fp bd V k ∨ k = bj)) ∧ Below B w wr
theorem Sole.bel {B : Nat} {w wr : World} {bj bd : Nat} {s : JS} {N : Nat → Prop} (h : Sole B w bj bd s N wr) : Below B w wr := h.choose_spec.2.2.2.2.2
/-- A call on the journal. -/
theorem Sole.call {B : Nat} {w wr : World} {bj bd : Nat} {s s' : JS} {N : Nat → Prop} {f : FuncId} {args : Array Value} {r : Value} (h : Sole B w bj bd s N wr) (hB : B ≤ wr.heap.size) (hT : Tab w) (hBw : w.heap.size ≤ B)
    (hc : ∀ (T : Nat → Prop), JIn T wr bj bd s wr → T 0 → Tab wr → Calls Tryd.prog f args wr fun e w' => e = .returned r ∧ JIn T wr bj bd s' w') :
    Calls Tryd.prog f args wr fun e w' => e = .returned r ∧ Sole B w bj bd s' N w' ∧ (∀ k, N k → w'.heap[k]? = wr.heap[k]?) ∧ wr.heap.size ≤ w'.heap.size := by
  obtain ⟨V, h1, h2, h3, h4, h5, h6⟩ := h
  have hT1 : Tab wr := fun i hi => by
    have h0 := hT i hi
    have hlt := block_lt_of_cell h0
    rw [h6.cell (p := ⟨0, i, none⟩) (by simp only at hlt ⊢; omega)]
    exact h0
  have hG : 0 < wr.heap.size ∧ ¬ (fp bd V 0 ∨ 0 = bj) := ⟨tab_lt hT1, fun hf => by have := h4 _ hf; have := tab_lt hT; omega⟩
  refine (hc (fun k => k < wr.heap.size ∧ ¬ (fp bd V k ∨ k = bj)) ⟨V, h1, h2, fun k hk _ ht => ht.2 hk, h3, Chg.refl _ _⟩ hG hT1).mono ?_
  rintro e w' ⟨k1, V2, g1, g2, g3, g4, g5⟩
  have hV : ∀ k, fp bd V2 k ∨ k = bj → k < wr.heap.size → fp bd V k ∨ k = bj := fun k hk hlt => Classical.byContradiction fun hn => g3 k hk hlt ⟨hlt, hn⟩
  refine ⟨k1, ⟨V2, g1, g2, g4, fun k hk => ?_, fun k hk => ⟨by have := (h5 k hk).1; have := g5.size; omega, fun hf => (h5 k hk).2 (hV k hf (h5 k hk).1)⟩, h6.trans ⟨g5.os, g5.tape, g5.output, g5.size, fun k hk => g5.block k (by omega) (fun hn => hn ⟨by omega, fun hf => by have := h4 k hf; omega⟩)⟩⟩, fun k hk => g5.block k (h5 k hk).1 (fun hn => hn (h5 k hk)), g5.size⟩
  by_cases hlt : k < wr.heap.size
  · exact h4 k (hV k hk hlt)
  · omega
/-- What the law writes into its own blocks. -/
theorem Sole.own {B : Nat} {w wr w2 : World} {bj bd : Nat} {s : JS} {N N' : Nat → Prop} (h : Sole B w bj bd s N wr) (hB : B ≤ wr.heap.size) (hc : Chg N wr w2) (hNB : ∀ k, N k → B ≤ k) (hN : ∀ k, N' k → (N k ∨ wr.heap.size ≤ k) ∧ k < w2.heap.size) : Sole B w bj bd s N' w2 := by
  obtain ⟨V, h1, h2, h3, h4, h5, h6⟩ := h
  refine ⟨V, pdisk_chg h1 hc (fun k hk hn => (h5 k hn).2 (Or.inl hk)), h2.block (hc.block _ h2.lt (fun hn => (h5 _ hn).2 (Or.inr rfl))) hc.size, h3, h4, fun k hk => ⟨(hN k hk).2, fun hf => ?_⟩, h6.trans ⟨hc.os, hc.tape, hc.output, hc.size, fun k hk => hc.block k (by omega) (fun hn => by have := hNB k hn; omega)⟩⟩
  rcases (hN k hk).1 with h | h
  · exact (h5 k h).2 hf
  · rcases hf with hf | hf
    · have := fp_lt h1 k hf; omega
    · have := h2.lt; omega
theorem Quad.sole {B : Nat} {w w1 : World} {bd bj bx by_ : Nat} {s : JS} (h : Quad B w bd bj bx by_ s w1) : Sole B w bj bd s (fun _ => False) w1 := by
  obtain ⟨V, g1, g2, g3, g4, g5, g6, g7, g8, g9, g10, g11, g12⟩ := h
  exact ⟨V, g1, g2, g6, fun k hk => by
    rcases hk with hk | hk
    · exact g5 k (Or.inl hk)
    · exact g5 k (Or.inr (Or.inl hk)), fun k hk => hk.elim, g12⟩
/-- What was told, in memory: three cells at block B, and the row of its records. -/
structure ToldAt (B : Nat) (sn : ByteArray) (v : Value) (rs : List (List UInt8)) (sf : Nat) (wr : World) : Prop where
  cs : wr.cell? ⟨B, 0, none⟩ = some (.string sn)
  cr : wr.cell? ⟨B, 1, none⟩ = some v
  cn : wr.cell? ⟨B, 2, none⟩ = some (.int .i64 (sf : Int))
  free : ∀ j, wr.frozen? ⟨B, j, none⟩ = false
  own : wr.ownsRow (B + 1) 9 1 v rs.length (rs.map strV)
/-- The told ones stay where their blocks do. -/
theorem ToldAt.blocks {B sf : Nat} {sn : ByteArray} {v : Value} {rs : List (List UInt8)} {wr w' : World} (h : ToldAt B sn v rs sf wr) (h1 : w'.heap[B]? = wr.heap[B]?) (h2 : ∀ g, v.ownBlock = some g → w'.heap[g]? = wr.heap[g]?) : ToldAt B sn v rs sf w' := by
  refine ⟨(World.cell?_of_block (w := wr) (a := ⟨B, 0, none⟩) h1).trans h.cs, (World.cell?_of_block (w := wr) (a := ⟨B, 1, none⟩) h1).trans h.cr, (World.cell?_of_block (w := wr) (a := ⟨B, 2, none⟩) h1).trans h.cn, fun j => (World.frozen?_of_block (w := wr) (a := ⟨B, j, none⟩) h1).trans (h.free j), ?_⟩
  refine ⟨h.own.1, ?_⟩
  rcases h.own.2 with h0 | ⟨g, cap, cur, hv, hb, hgg, rest⟩
  · exact Or.inl h0
  · refine Or.inr ⟨g, cap, cur, hv, hb, ?_, rest⟩
    rw [h2 g (by rw [hv]; rfl)]
    exact hgg
theorem ToldAt.below {B sf : Nat} {sn : ByteArray} {v : Value} {rs : List (List UInt8)} {wr w' : World} (h : ToldAt B sn v rs sf wr) (hb : Below wr.heap.size wr w') : ToldAt B sn v rs sf w' :=
  h.blocks (hb.block _ (block_lt_of_cell h.cs)) (fun g hg => hb.block _ (h.own.lt g hg).2)
theorem ToldAt.row {B sf : Nat} {sn : ByteArray} {v : Value} {rs : List (List UInt8)} {wr : World} (h : ToldAt B sn v rs sf wr) (i : Nat) (u : Value) : (wr.setCell ⟨B, i, none⟩ u).ownsRow (B + 1) 9 1 v rs.length (rs.map strV) :=
  ownsRow_setCell_other h.own (a := ⟨B, i, none⟩) (fun e => by have : B + 1 ≤ B := (h.own.lt _ e).1; omega) u
/-- How many are safe, written anew. -/
theorem ToldAt.safe {B sf : Nat} {sn : ByteArray} {v : Value} {rs : List (List UInt8)} {wr : World} (h : ToldAt B sn v rs sf wr) (n : Nat) : ToldAt B sn v rs n (wr.setCell ⟨B, 2, none⟩ (.int .i64 (n : Int))) := by
  refine ⟨?_, ?_, World.cell?_setCell_same wr _ _ h.cn, fun j => ?_, h.row 2 _⟩
  · rw [World.cell?_setCell_other _ _ _ _ (by simp)]; exact h.cs
  · rw [World.cell?_setCell_other _ _ _ _ (by simp)]; exact h.cr
  · rw [World.frozen?_setCell]; exact h.free j
/-- All of it written anew, with no records. -/
theorem ToldAt.anew {B sf : Nat} {sn : ByteArray} {v : Value} {rs : List (List UInt8)} {wr : World} (h : ToldAt B sn v rs sf wr) (sn' : ByteArray) :
    ToldAt B sn' (.slice none 0 0) [] 0 (((wr.setCell ⟨B, 0, none⟩ (.string sn')).setCell ⟨B, 1, none⟩ (.slice none 0 0)).setCell ⟨B, 2, none⟩ (.int .i64 0)) := by
  have o : ∀ (w : World) (i j : Nat) (u : Value), i ≠ j → (w.setCell ⟨B, j, none⟩ u).cell? ⟨B, i, none⟩ = w.cell? ⟨B, i, none⟩ := fun w i j u h => World.cell?_setCell_other w _ _ _ (fun e => h (congrArg Addr.off e).symm)
  refine ⟨?_, ?_, ?_, fun j => ?_, World.ownsRow_nil _ _ _ _⟩
  · rw [o _ 0 2 _ (by decide), o _ 0 1 _ (by decide)]; exact World.cell?_setCell_same wr _ _ h.cs
  · rw [o _ 1 2 _ (by decide)]; exact World.cell?_setCell_same _ _ _ ((o _ 1 0 _ (by decide)).trans h.cr)
  · exact World.cell?_setCell_same _ _ _ ((o _ 2 1 _ (by decide)).trans ((o _ 2 0 _ (by decide)).trans h.cn))
  · rw [World.frozen?_setCell, World.frozen?_setCell, World.frozen?_setCell]; exact h.free j
/-- A record more. -/
theorem ToldAt.push {B sf : Nat} {sn : ByteArray} {v v' : Value} {rs : List (List UInt8)} {r : List UInt8} {wr w1 : World} {o : Obj} (h : ToldAt B sn v rs sf wr)
    (hown' : w1.ownsRow (B + 1) 9 1 v' (rs.length + 1) (rs.map strV ++ [strV r])) (hg : (wr.alloc o).grownBy w1 v.ownBlock) :
    w1.cell? ⟨B, 1, none⟩ = some v ∧ w1.frozen? ⟨B, 1, none⟩ = false ∧ ToldAt B sn v' (rs ++ [r]) sf (w1.setCell ⟨B, 1, none⟩ v') ∧ Chg (fun k => k = B ∨ v.ownBlock = some k) wr (w1.setCell ⟨B, 1, none⟩ v') ∧ ∀ g, v'.ownBlock = some g → g < (w1.setCell ⟨B, 1, none⟩ v').heap.size := by
  have k := block_lt_of_cell h.cs
  simp only at k
  have hb : Below (B + 1) wr w1 := ((Below.refl _ wr).alloc (by omega) o).grown hg (by simp; omega) (fun j hj => (h.own.lt j hj).1)
  have c := fun j => hb.cell (p := ⟨B, j, none⟩) (by simp)
  have f1 : w1.frozen? ⟨B, 1, none⟩ = false := (hb.frozen (p := ⟨B, 1, none⟩) (by simp)).trans (h.free 1)
  refine ⟨(c 1).trans h.cr, f1, ⟨?_, World.cell?_setCell_same w1 _ _ ((c 1).trans h.cr), ?_, fun j => ?_, ?_⟩, ?_, fun g hg' => by simpa using (hown'.lt g hg').2⟩
  · rw [World.cell?_setCell_other _ _ _ _ (by simp), c]; exact h.cs
  · rw [World.cell?_setCell_other _ _ _ _ (by simp), c]; exact h.cn
  · rw [World.frozen?_setCell]; exact (hb.frozen (p := ⟨B, j, none⟩) (by simp)).trans (h.free j)
  · exact own_cast (by simp) (by simp) (ownsRow_setCell_other hown' (a := ⟨B, 1, none⟩) (fun e => by have : B + 1 ≤ B := (hown'.lt _ e).1; omega) v')
  · have hc1 : Chg (fun k => v.ownBlock = some k) wr w1 := by
      refine ⟨hg.os, hg.tape, hg.output, by have := hg.size; simp at this; omega, fun j hj hn => ?_⟩
      rw [hg.block j (by simp; omega) (fun e => hn e.symm)]
      exact heap_alloc_old wr o hj
    exact (hc1.mono (fun k _ hk => Or.inr hk)).trans (Dk.chg_set w1 ⟨B, 1, none⟩ v') (fun k _ hk => Or.inl hk)
end Go.Proofs.YtahkecdlibkokaaDoor

/- The walk of the laws' own 'plays': a journal behind Adds, Syncs and Compacts. -/
set_option linter.unusedVariables false
set_option maxRecDepth 100000
namespace Go.Proofs.YtahkecdlibkokaaDoor
open Go.RowKit
open JournalMath DiskMath
open Fr (Tab tab_below tab_drewN)
open Dk (PDisk RDisk ROk DIn Chg fp fp_lt rdisk_below rdisk_chg chg_below pdisk_below pdisk_chg)

/-- A call of a script. -/
structure JOp where
  Do : Int
  N : Int
  S : ByteArray
def ORow (w : World) (v : Value) (l : List JOp) : Prop := ∃ ao cap, v = .slice ao l.length cap ∧ ∀ j, (h : j < l.length) → ∃ g o, ao = some ⟨g, o, none⟩ ∧ g < w.heap.size ∧
  w.cell? ⟨g, o + j * 3, none⟩ = some (.int .i64 l[j].Do) ∧ w.cell? ⟨g, o + j * 3 + 1, none⟩ = some (.int .i64 l[j].N) ∧ w.cell? ⟨g, o + j * 3 + 2, none⟩ = some (.string l[j].S)
def OpOk (o : JOp) : Prop := (-9223372036854775808 ≤ o.Do ∧ o.Do ≤ 9223372036854775807) ∧ (-9223372036854775808 ≤ o.N ∧ o.N ≤ 9223372036854775807) ∧ o.S.size ≤ 140737488351232
theorem orow_below {w w' : World} {v : Value} {l : List JOp} (h : ORow w v l) (hb : Below w.heap.size w w') : ORow w' v l := by
  obtain ⟨ao, cap, rfl, hrow⟩ := h
  refine ⟨ao, cap, rfl, fun j hj => ?_⟩
  obtain ⟨g, o, h1, h2, h3, h4, h5⟩ := hrow j hj
  exact ⟨g, o, h1, by have := hb.size; omega, (hb.cell (p := ⟨g, o + j * 3, none⟩) h2).trans h3, (hb.cell (p := ⟨g, o + j * 3 + 1, none⟩) h2).trans h4, (hb.cell (p := ⟨g, o + j * 3 + 2, none⟩) h2).trans h5⟩
theorem orow_at {w : World} {ao : Option Addr} {n cap : Nat} {l : List JOp} (h : ORow w (.slice ao n cap) l) (j : Nat) (hj : j < l.length) : ∃ g o, ao = some ⟨g, o, none⟩ ∧ g < w.heap.size ∧
    w.cell? ⟨g, o + j * 3, none⟩ = some (.int .i64 l[j].Do) ∧ w.cell? ⟨g, o + j * 3 + 1, none⟩ = some (.int .i64 l[j].N) ∧ w.cell? ⟨g, o + j * 3 + 2, none⟩ = some (.string l[j].S) := by
  obtain ⟨ao', cap', hv, hrow⟩ := h
  obtain ⟨rfl, _, _⟩ : ao = ao' ∧ n = l.length ∧ cap = cap' := by simpa using hv
  exact hrow j hj
theorem Sole.base {B : Nat} {w0 w wr : World} {bj bd : Nat} {s : JS} {N : Nat → Prop} (h : Sole B w bj bd s N wr) (hb : Below w0.heap.size w0 w) (hB : w0.heap.size ≤ B) : Sole w0.heap.size w0 bj bd s N wr := by
  obtain ⟨V, h1, h2, h3, h4, h5, h6⟩ := h
  exact ⟨V, h1, h2, h3, fun k hk => Nat.le_trans hB (h4 k hk), h5, hb.trans (h6.mono hB)⟩
theorem Sole.base2 {B : Nat} {w0 w wr : World} {bj bd : Nat} {s : JS} {N : Nat → Prop} (h : Sole B w bj bd s N wr) (hb : Below w0.heap.size w0 w) (hB : w0.heap.size ≤ B) (hBr : B ≤ wr.heap.size) : Sole w0.heap.size w0 bj bd s (fun k => N k ∨ (w0.heap.size ≤ k ∧ k < B)) wr := by
  obtain ⟨V, h1, h2, h3, h4, h5, h6⟩ := h
  refine ⟨V, h1, h2, h3, fun k hk => Nat.le_trans hB (h4 k hk), fun k hk => ?_, hb.trans (h6.mono hB)⟩
  rcases hk with hk | hk
  · exact h5 k hk
  · exact ⟨by omega, fun hf => by have := h4 k hf; omega⟩
/-- A row of texts is no block of a journal or a disk. -/
theorem Sole.texts {B : Nat} {w wr w2 : World} {bj bd X n : Nat} {s : JS} {N N' : Nat → Prop} {v : Value} {xs : List Value} {sv : ByteArray} (h : Sole B w bj bd s N wr) (hB : B ≤ wr.heap.size) (hc : Chg N wr w2) (hNB : ∀ k, N k → B ≤ k) (hN : ∀ k, N' k → ((N k ∨ wr.heap.size ≤ k) ∧ k < w2.heap.size) ∨ v.ownBlock = some k)
    (hv : w2.ownsRow X 9 1 v n xs) (hx : xs[0]? = some (.string sv)) : Sole B w bj bd s N' w2 := by
  have h0 := h.own (N' := fun k => N' k ∧ ¬ v.ownBlock = some k) hB hc hNB (fun k hk => by
    rcases hN k hk.1 with h | h
    · exact h
    · exact absurd h hk.2)
  obtain ⟨V, h1, h2, h3, h4, h5, h6⟩ := h0
  refine ⟨V, h1, h2, h3, h4, fun k hk => ?_, h6⟩
  by_cases hvk : v.ownBlock = some k
  · have hn0 : 0 < n := by
      have h9 := (List.getElem?_eq_some_iff.1 hx).1
      have h8 : xs.length = n := hv.1.trans (Nat.mul_one n)
      omega
    obtain ⟨ao, cap, hva, _, hrow⟩ := own_row hv
    obtain ⟨g0, hao, _, _, hcell⟩ := hrow 0 hn0
    rw [hao] at hva
    rcases hv.2 with ⟨rfl, _⟩ | ⟨g, cap, cur, rfl, hb, hgg, _⟩
    · cases hvk
    · obtain rfl : g = k := by simpa [Value.ownBlock] using hvk
      obtain rfl : g = g0 := by have h9 := congrArg Value.ownBlock hva; simpa [Value.ownBlock] using h9
      have hc0 : w2.cell? ⟨g, 0, none⟩ = some (.string sv) := hcell.trans hx
      refine ⟨(Array.getElem?_eq_some_iff.1 hgg).1, fun hf => ?_⟩
      rcases hf with (hf | ⟨i, hi, hf⟩) | hf
      · have hb0 := h1.bytes 0 (by decide)
        obtain ⟨a, c, hva, _, _⟩ := own_row (h1.rows 0 (by decide))
        rw [hva, Nat.zero_mul, ← hf, hc0] at hb0
        cases hb0
      · rcases (h1.rows i hi).2 with ⟨e, _⟩ | ⟨g', cap', cur', e, _, hgg', _⟩
        · rw [e] at hf; cases hf
        · rw [e] at hf
          obtain rfl : g' = g := by simpa [Value.ownBlock] using hf
          rw [hgg] at hgg'
          have := Option.some.inj hgg'
          have h7 := (Obj.cells.inj this).2.1
          exact absurd h7 (by decide)
      · have := h2.disk
        rw [← hf, hc0] at this
        cases this
  · exact h5 k ⟨hk, hvk⟩
theorem set3 {w : World} {g : Nat} {x0 x1 x2 : Value} (a b c : Value) (h0 : w.cell? ⟨g, 0, none⟩ = some x0) (h1 : w.cell? ⟨g, 1, none⟩ = some x1) (h2 : w.cell? ⟨g, 2, none⟩ = some x2) :
    (((w.setCell ⟨g, 0, none⟩ a).setCell ⟨g, 1, none⟩ b).setCell ⟨g, 2, none⟩ c).cell? ⟨g, 0, none⟩ = some a ∧ (((w.setCell ⟨g, 0, none⟩ a).setCell ⟨g, 1, none⟩ b).setCell ⟨g, 2, none⟩ c).cell? ⟨g, 1, none⟩ = some b ∧ (((w.setCell ⟨g, 0, none⟩ a).setCell ⟨g, 1, none⟩ b).setCell ⟨g, 2, none⟩ c).cell? ⟨g, 2, none⟩ = some c := by
  have o : ∀ (w : World) (i j : Nat) (u : Value), i ≠ j → (w.setCell ⟨g, j, none⟩ u).cell? ⟨g, i, none⟩ = w.cell? ⟨g, i, none⟩ := fun w i j u h => World.cell?_setCell_other w _ _ _ (fun e => h (congrArg Addr.off e).symm)
  refine ⟨?_, ?_, ?_⟩
  · rw [o _ 0 2 _ (by decide), o _ 0 1 _ (by decide)]; exact World.cell?_setCell_same w _ _ h0
  · rw [o _ 1 2 _ (by decide)]; exact World.cell?_setCell_same _ _ _ ((o _ 1 0 _ (by decide)).trans h1)
  · exact World.cell?_setCell_same _ _ _ ((o _ 2 1 _ (by decide)).trans ((o _ 2 0 _ (by decide)).trans h2))
theorem results_plays {P : Program} {fn : Func} {p t u x : Tmp} {ty : TypeId} (h : fn.results = #[.tmp t, .tmp u, .cell p ty, .tmp x]) (tmps : Array Value) (w : World) (g : Nat) (c0 c1 c2 : Value) (d : TypeDesc)
    (hp : tmps.getD p undef = .pointer (some ⟨g, 0, none⟩)) (h0 : w.cell? ⟨g, 0, none⟩ = some c0) (h1 : w.cell? ⟨g, 1, none⟩ = some c1) (h2 : w.cell? ⟨g, 2, none⟩ = some c2)
    (hu : P.underlying ty = some d) (hd : d.isRow = true) (hi : (P.info? ty).map (·.size) = some 3) : (results fn tmps).run P w = .ok (.tuple #[tmps.getD t undef, tmps.getD u undef, .agg #[c0, c1, c2], tmps.getD x undef]) w := by
  have hp' : tmps[p]?.getD undef = .pointer (some ⟨g, 0, none⟩) := by simpa using hp
  have hr : w.rangeAt g 0 [c0, c1, c2] := by
    intro j v hj
    rw [Nat.zero_add]
    match j, hj with
    | 0, hj => cases hj; exact h0
    | 1, hj => cases hj; exact h1
    | 2, hj => cases hj; exact h2
  simp [results, h, hp', asAddr, run_loadVar_mid w g 0 ty [c0, c1, c2] d hr hu hd hi]
/-- How plays ends. -/
def PlaysOk (w : World) (e : Ending) (w' : World) : Prop := ∃ (bd bj : Nat) (s : JS) (sn : List UInt8) (rs : List (List UInt8)) (sf : Nat) (v : Value), e = .returned (.tuple #[.pointer (some ⟨bd, 0, none⟩), .pointer (some ⟨bj, 0, none⟩), .agg #[.string ⟨sn.toArray⟩, v, .int .i64 (sf : Int)], .bool true]) ∧ Play s sn rs sf ∧ JOk s ∧
  Sole w.heap.size w bj bd s (fun k => v.ownBlock = some k) w' ∧ w'.ownsRow w.heap.size 9 1 v rs.length (rs.map strV) ∧ w.heap.size ≤ w'.heap.size

set_option maxHeartbeats 2000000 in
theorem plays_any (room : Int) (hroom : -9223372036854775808 ≤ room ∧ room ≤ 9223372036854775807) (l : List JOp) (hl : ∀ o ∈ l, OpOk o) (hll : l.length ≤ 140737488355328) (v : Value) (w : World) (hv : ORow w v l) (hT : Tab w) :
    Calls Tryd.prog 24 #[.int .i64 room, v] w fun e w' => PlaysOk w e w' := by
  obtain ⟨i0, hi, hz0, hz1, hz2⟩ := info_parts infoS
  obtain ⟨q, hq⟩ : ∃ q, q = pick room 6000 := ⟨_, rfl⟩
  have hql : q < 6000 := by rw [hq]; exact pick_lt room 6000 (by decide)
  have C0 : Hid (∀ w, Calls Tryd.prog 10 #[.int .i64 room, .int .i64 6000] w fun e w' => e = .returned (.int .i64 (q : Int)) ∧ w' = w) := fun w => by rw [hq]; exact pick_any room 6000 (by decide) (by decide) hroom w
  obtain ⟨wa, hwa⟩ : ∃ wa, wa = w.alloc (.cells #[.string ⟨#[]⟩, .slice none 0 0, .int .i64 0] 59) := ⟨_, rfl⟩
  have HWA : Hid (wa = w.alloc (.cells #[.string ⟨#[]⟩, .slice none 0 0, .int .i64 0] 59)) := hwa
  have hba : Below w.heap.size w wa := by rw [hwa]; exact (Below.refl _ _).alloc (Nat.le_refl _) _
  have HBA : Hid (Below w.heap.size w wa) := hba
  have HSA : Hid (wa.heap.size = w.heap.size + 1) := by show _ = _; rw [hwa]; simp
  have HTA : Hid (Tab wa) := tab_below hT hba
  have C1 : Hid (Calls Tryd.prog 9 #[.int .i64 (20 + (q : Int))] wa fun e w' => ∃ bd bj bx by_, e = .returned (.tuple #[.agg #[.pointer (some ⟨bd, 0, none⟩), .pointer (some ⟨bj, 0, none⟩), .pointer (some ⟨bx, 0, none⟩), .pointer (some ⟨by_, 0, none⟩)], .bool true]) ∧ Quad wa.heap.size wa bd bj bx by_ (begun0 (20 + q)) w' ∧ wa.heap.size ≤ w'.heap.size) := by
    have := made_any (20 + q) (by omega) (by omega) wa HTA.out
    rw [Int.natCast_add] at this
    exact this
  have HP0 : Hid (Play (begun0 (20 + q)) [] [] 0) := play_begun _
  have HK0 : Hid (JOk (begun0 (20 + q))) := jok_begun _ (by omega) (by omega)
  generalize begun0 (20 + q) = s0 at *
  have HV : Hid (ORow w v l) := hv
  have HL : Hid (∀ o ∈ l, OpOk o) := hl
  obtain ⟨ao, cap, rfl, _⟩ := hv
  clear hq hl hwa hba hT
  go_enter Tryd.func24, Tryd.ntmps24
  go_wp2_with fail
  rw [← HWA.out]
  refine (C0.out _).mono ?_
  rintro e w0 ⟨rfl, hw0⟩
  rw [hw0]
  clear hw0 C0 w0
  go_wp2_with fail
  refine C1.out.mono ?_
  rintro e w1 ⟨bd, bj, bx, by_, rfl, hQ, hsz1⟩
  obtain ⟨w2, hw2⟩ : ∃ w2, (w1.alloc (.cells #[.pointer (some ⟨bd, 0, none⟩), .pointer (some ⟨bj, 0, none⟩), .pointer (some ⟨bx, 0, none⟩), .pointer (some ⟨by_, 0, none⟩)] 28)).alloc (.cells #[.string ⟨#[]⟩, .slice none 0 0, .int .i64 0] 59) = w2 := ⟨_, rfl⟩
  have HW2 : Hid ((w1.alloc (.cells #[.pointer (some ⟨bd, 0, none⟩), .pointer (some ⟨bj, 0, none⟩), .pointer (some ⟨bx, 0, none⟩), .pointer (some ⟨by_, 0, none⟩)] 28)).alloc (.cells #[.string ⟨#[]⟩, .slice none 0 0, .int .i64 0] 59) = w2) := hw2
  have hs2 : w2.heap.size = w1.heap.size + 2 := by rw [← hw2]; simp
  have hb12 : Below w1.heap.size w1 w2 := by rw [← hw2]; exact ((Below.refl _ _).alloc (Nat.le_refl _) _).alloc (by simp) _
  have p0 : w2.cell? ⟨w1.heap.size, 0, none⟩ = some (.pointer (some ⟨bd, 0, none⟩)) := by rw [← hw2]; simp
  have p1 : w2.cell? ⟨w1.heap.size, 1, none⟩ = some (.pointer (some ⟨bj, 0, none⟩)) := by rw [← hw2]; simp
  have hT2 : ToldAt (w1.heap.size + 1) ⟨#[]⟩ (.slice none 0 0) [] 0 w2 := by
    rw [← hw2]
    refine ⟨by simp, by simp, by simp, fun j => ?_, World.ownsRow_nil _ _ _ _⟩
    have := heap_alloc_new (w1.alloc (.cells #[.pointer (some ⟨bd, 0, none⟩), .pointer (some ⟨bj, 0, none⟩), .pointer (some ⟨bx, 0, none⟩), .pointer (some ⟨by_, 0, none⟩)] 28)) (.cells #[.string ⟨#[]⟩, .slice none 0 0, .int .i64 0] 59)
    rw [World.frozen?, show (w1.alloc (.cells #[.pointer (some ⟨bd, 0, none⟩), .pointer (some ⟨bj, 0, none⟩), .pointer (some ⟨bx, 0, none⟩), .pointer (some ⟨by_, 0, none⟩)] 28)).heap.size = w1.heap.size + 1 by simp] at *
    rw [this]
    simp
  have hS2 : Sole wa.heap.size wa bj bd s0 (fun k => k = w1.heap.size ∨ k = w1.heap.size + 1 ∨ (Value.slice none 0 0).ownBlock = some k) w2 :=
    hQ.sole.own hsz1 (chg_below hb12) (fun k hk => hk.elim) (fun k hk => by
      rcases hk with hk | hk | hk
      · exact ⟨Or.inr (by omega), by omega⟩
      · exact ⟨Or.inr (by omega), by omega⟩
      · cases hk)
  have HS2 : Hid (Sole wa.heap.size wa bj bd s0 (fun k => k = w1.heap.size ∨ k = w1.heap.size + 1 ∨ (Value.slice none 0 0).ownBlock = some k) w2) := hS2
  have HT2 : Hid (ToldAt (w1.heap.size + 1) ⟨#[]⟩ (.slice none 0 0) [] 0 w2) := hT2
  have C2 : Hid (Calls Tryd.prog 11 #[] w2 fun e w' => e = .returned (.bool true) ∧ Below w2.heap.size w2 w') := begun_any w2 (tab_below HTA.out hS2.bel)
  have HP2 : Hid (w2.cell? ⟨w1.heap.size, 0, none⟩ = some (.pointer (some ⟨bd, 0, none⟩)) ∧ w2.cell? ⟨w1.heap.size, 1, none⟩ = some (.pointer (some ⟨bj, 0, none⟩))) := ⟨p0, p1⟩
  have HSZ : Hid (wa.heap.size ≤ w1.heap.size ∧ w2.heap.size = w1.heap.size + 2) := ⟨hsz1, hs2⟩
  clear hQ hw2 hs2 hb12 p0 p1 hT2 hS2 C1 hsz1
  go_wp2_with fail
  rw [HW2.out]
  refine C2.out.mono ?_
  rintro e w3 ⟨rfl, hb3⟩
  have hz := HSZ.out
  have HS3 : Hid (Sole wa.heap.size wa bj bd s0 (fun k => k = w1.heap.size ∨ k = w1.heap.size + 1 ∨ (Value.slice none 0 0).ownBlock = some k) w3) := HS2.out.own (by omega) (chg_below hb3) (fun k hk => by
      rcases hk with hk | hk | hk
      · omega
      · omega
      · cases hk) (fun k hk => ⟨Or.inl hk, by
      have := hb3.size
      rcases hk with hk | hk | hk
      · omega
      · omega
      · cases hk⟩)
  have HT3 : Hid (ToldAt (w1.heap.size + 1) ⟨#[]⟩ (.slice none 0 0) [] 0 w3) := HT2.out.below hb3
  have HP3 : Hid (w3.cell? ⟨w1.heap.size, 0, none⟩ = some (.pointer (some ⟨bd, 0, none⟩)) ∧ w3.cell? ⟨w1.heap.size, 1, none⟩ = some (.pointer (some ⟨bj, 0, none⟩))) := ⟨(hb3.cell (p := ⟨w1.heap.size, 0, none⟩) (by simp; omega)).trans HP2.out.1, (hb3.cell (p := ⟨w1.heap.size, 1, none⟩) (by simp; omega)).trans HP2.out.2⟩
  have HZ3 : Hid (wa.heap.size ≤ w3.heap.size) := by have := hb3.size; show _ ≤ _; omega
  have HZ1 : Hid (wa.heap.size ≤ w1.heap.size) := hz.1
  generalize w1.heap.size = pb at *
  clear hb3 HS2 HT2 HP2 C2 hz HSZ HW2
  go_wp2_with fail
  go_loopw [11] (fun i wr => ∃ (k : Nat) (s : JS) (sn : List UInt8) (rs : List (List UInt8)) (sf : Nat) (v : Value), k ≤ l.length ∧ i = .int .i64 (k : Int) ∧ Hid (Play s sn rs sf) ∧ Hid (JOk s) ∧
      Hid (Sole wa.heap.size wa bj bd s (fun k => k = pb ∨ k = pb + 1 ∨ v.ownBlock = some k) wr) ∧ Hid (ToldAt (pb + 1) ⟨sn.toArray⟩ v rs sf wr) ∧
      Hid (wr.cell? ⟨pb, 0, none⟩ = some (.pointer (some ⟨bd, 0, none⟩)) ∧ wr.cell? ⟨pb, 1, none⟩ = some (.pointer (some ⟨bj, 0, none⟩))) ∧ Hid (wa.heap.size ≤ wr.heap.size)) (fun i _ => l.length - (intOf i).toNat)
  case atStart => exact ⟨0, s0, [], [], 0, _, Nat.zero_le _, rfl, HP0, HK0, HS3, HT3, HP3, HZ3⟩
  case round =>
    obtain ⟨k, s, sn, rs, sf, v, hkl, rfl, HP, HK, HS, HTo, HPB, HZ⟩ := hrel
    clear HP0 HK0 HS3 HT3 HP3 HZ3
    by_cases hlt : k < l.length
    · obtain ⟨g, o, rfl, hg, m0, m1, m2⟩ := orow_at (orow_below HV.out (HBA.out.trans (HS.out.bel.mono HBA.out.size))) k hlt
      obtain ⟨hD1, hN1, hS1⟩ := HL.out l[k] (List.getElem_mem hlt)
      have i1 : (k : Int) < (l.length : Int) := by omega
      have HLT : Hid (k < l.length) := hlt
      generalize l[k].Do = D at *
      generalize l[k].N = NN at *
      generalize l[k].S = S at *
      have hsz := HZ.out
      have hz1 := HZ1.out
      have hNB : ∀ k, (k = pb ∨ k = pb + 1 ∨ v.ownBlock = some k) → wa.heap.size ≤ k := fun k hk => by
        rcases hk with hk | hk | hk
        · omega
        · omega
        · have := (HTo.out.own.lt k hk).1; omega
      obtain ⟨w4, hw4⟩ : ∃ w4, (wr.alloc (.cells #[.int .i64 D, .int .i64 NN, .string S] 36)) = w4 := ⟨_, rfl⟩
      have HW4 : Hid ((wr.alloc (.cells #[.int .i64 D, .int .i64 NN, .string S] 36)) = w4) := hw4
      have hb4 : Below wr.heap.size wr w4 := by rw [← hw4]; exact (Below.refl _ _).alloc (Nat.le_refl _) _
      have hs4 : w4.heap.size = wr.heap.size + 1 := by rw [← hw4]; simp
      have hpl : pb < wr.heap.size := by have := block_lt_of_cell HPB.out.1; exact this
      have x0 : (wr.alloc (.cells #[.int .i64 D, .int .i64 NN, .string S] 36)).cell? ⟨pb, 0, none⟩ = some (.pointer (some ⟨bd, 0, none⟩)) := by rw [hw4]; exact (hb4.cell (p := ⟨pb, 0, none⟩) hpl).trans HPB.out.1
      have x1 : (wr.alloc (.cells #[.int .i64 D, .int .i64 NN, .string S] 36)).cell? ⟨pb, 1, none⟩ = some (.pointer (some ⟨bj, 0, none⟩)) := by rw [hw4]; exact (hb4.cell (p := ⟨pb, 1, none⟩) hpl).trans HPB.out.2
      have y2 : w4.cell? ⟨wr.heap.size, 2, none⟩ = some (.string S) := by rw [← hw4]; simp
      have HTo4 : Hid (ToldAt (pb + 1) ⟨sn.toArray⟩ v rs sf w4) := HTo.out.below hb4
      have HS4 : Hid (Sole wa.heap.size wa bj bd s (fun k => (k = pb ∨ k = pb + 1 ∨ v.ownBlock = some k) ∨ k = wr.heap.size) w4) := HS.out.own hsz (chg_below hb4) hNB (fun k hk => by
        rcases hk with hk | hk
        · exact ⟨Or.inl hk, by have := (HS.out.choose_spec.2.2.2.2.1 k hk).1; omega⟩
        · exact ⟨Or.inr (by omega), by omega⟩)
      have HZ4 : Hid (wa.heap.size ≤ w4.heap.size) := by show _ ≤ _; omega
      have HPB4 : Hid (w4.cell? ⟨pb, 0, none⟩ = some (.pointer (some ⟨bd, 0, none⟩)) ∧ w4.cell? ⟨pb, 1, none⟩ = some (.pointer (some ⟨bj, 0, none⟩))) := by rw [hw4] at x0 x1; exact ⟨x0, x1⟩
      have HOB : Hid (w4.cell? ⟨wr.heap.size, 2, none⟩ = some (.string S)) := y2
      have HNB : Hid (∀ k, (fun k => (k = pb ∨ k = pb + 1 ∨ v.ownBlock = some k) ∨ k = wr.heap.size) k → wa.heap.size ≤ k) := fun k hk => by
        rcases hk with hk | hk
        · exact hNB k hk
        · omega
      have HBLK : Hid (∀ w5 : World, (∀ k, (fun k => (k = pb ∨ k = pb + 1 ∨ v.ownBlock = some k) ∨ k = wr.heap.size) k → w5.heap[k]? = w4.heap[k]?) → (w5.cell? ⟨pb, 0, none⟩ = some (.pointer (some ⟨bd, 0, none⟩)) ∧ w5.cell? ⟨pb, 1, none⟩ = some (.pointer (some ⟨bj, 0, none⟩))) ∧ ToldAt (pb + 1) ⟨sn.toArray⟩ v rs sf w5 ∧ w5.cell? ⟨wr.heap.size, 2, none⟩ = some (.string S)) := fun w5 h => by
        have hp := h pb (Or.inl (Or.inl rfl))
        have ho := h wr.heap.size (Or.inr rfl)
        exact ⟨⟨(World.cell?_of_block (w := w4) (a := ⟨pb, 0, none⟩) hp).trans HPB4.out.1, (World.cell?_of_block (w := w4) (a := ⟨pb, 1, none⟩) hp).trans HPB4.out.2⟩, HTo4.out.blocks (h (pb + 1) (Or.inl (Or.inr (Or.inl rfl)))) (fun g hg => h g (Or.inl (Or.inr (Or.inr hg)))), (World.cell?_of_block (w := w4) (a := ⟨wr.heap.size, 2, none⟩) ho).trans HOB.out⟩
      have HSHR : Hid (∀ s' w5, Sole wa.heap.size wa bj bd s' (fun k => (k = pb ∨ k = pb + 1 ∨ v.ownBlock = some k) ∨ k = wr.heap.size) w5 → wa.heap.size ≤ w5.heap.size → Sole wa.heap.size wa bj bd s' (fun k => k = pb ∨ k = pb + 1 ∨ v.ownBlock = some k) w5) := fun s' w5 h hB => h.own hB (Chg.refl _ _) HNB.out (fun k hk => ⟨Or.inl (Or.inl hk), (h.choose_spec.2.2.2.2.1 k (Or.inl hk)).1⟩)
      have hrs : rs.length ≤ 1048576 := by
        have h1 := HK.out.count
        have h2 := file_le s.d s.f (by have := HK.out.file; omega)
        have h3 := HK.out.ok.room
        have h4 := HK.out.ok.most
        have h5 := HP.out.says.count
        omega
      clear hw4 hb4 hs4 hpl hsz hz1 hNB hg HTo HS HPB y2
      by_cases hD0 : D = 0
      · subst hD0
        have C5 := HS4.out.call (f := 30) (args := #[.pointer (some ⟨bj, 0, none⟩), .string S]) (r := .int .i64 (jAdd s S.data.toList).2) (s' := (jAdd s S.data.toList).1) HZ4.out HTA.out (Nat.le_refl _) (fun T hJ hG hT => add_any S (by omega) hJ HK.out hG hT)
        have A5 : Hid (Calls Tryd.prog 30 #[.pointer (some ⟨bj, 0, none⟩), .string S] w4 fun e w' => e = .returned (.int .i64 (jAdd s S.data.toList).2) ∧ Sole wa.heap.size wa bj bd (jAdd s S.data.toList).1 (fun k => (k = pb ∨ k = pb + 1 ∨ v.ownBlock = some k) ∨ k = wr.heap.size) w' ∧ (∀ k, (fun k => (k = pb ∨ k = pb + 1 ∨ v.ownBlock = some k) ∨ k = wr.heap.size) k → w'.heap[k]? = w4.heap[k]?) ∧ w4.heap.size ≤ w'.heap.size) := C5
        have hK5 := jok_add s S.data.toList HK.out
        by_cases he : (jAdd s S.data.toList).2 = 0
        · have hP5 := play_add s sn S.data.toList rs sf HP.out HK.out he
          rw [he] at A5
          have HK5 : Hid (JOk (jAdd s S.data.toList).1) := hK5
          have HP5 : Hid (Play (jAdd s S.data.toList).1 sn (rs ++ [S.data.toList]) sf) := hP5
          generalize (jAdd s S.data.toList).1 = s5 at *
          clear C5 hK5 hP5 he
          go_wp2_with fail
          rw [HW4.out]
          refine A5.out.mono ?_
          rintro e w5 ⟨rfl, hS5, hB5, hZ5⟩
          obtain ⟨hp5, hT5, ho5⟩ := HBLK.out _ hB5
          have t1 := hT5.cr
          have hown := hT5.own
          have hsz5 : wr.heap.size < w5.heap.size := block_lt_of_cell ho5
          have HS5 : Hid (Sole wa.heap.size wa bj bd s5 (fun k => (k = pb ∨ k = pb + 1 ∨ v.ownBlock = some k) ∨ k = wr.heap.size) w5) := hS5
          have HT5 : Hid (ToldAt (pb + 1) ⟨sn.toArray⟩ v rs sf w5) := hT5
          have HP5b : Hid (w5.cell? ⟨pb, 0, none⟩ = some (.pointer (some ⟨bd, 0, none⟩)) ∧ w5.cell? ⟨pb, 1, none⟩ = some (.pointer (some ⟨bj, 0, none⟩))) := hp5
          have HZ5 : Hid (wa.heap.size ≤ w5.heap.size) := Nat.le_trans HZ4.out hZ5
          have HSV : Hid (Value.string S = strV S.data.toList) := by show _ = _; unfold strV; rw [data_mk]
          obtain ⟨av, cv, hvv, _, _⟩ := own_row hown
          subst hvv
          have hpb5 : pb + 1 < w5.heap.size := block_lt_of_cell hT5.cs
          clear hS5 hT5 hp5 hB5 hZ5 m0 m1 m2 x0 x1
          go_wp2_with (at_builtin; refine wpList_append_own _ rfl _ _ 47 rfl (pb + 1 + 1) 9 i0 (.string ⟨#[]⟩) 1 16 Tryd.underlying47 hi hz0 hz1 hz2 rfl (by decide) _ _ _ rfl (hown.alloc _) ⟨_, 0, none⟩ 1 1 [.string S] rfl rfl (one_new _ _ _) (one_cell _) (by unfold maxLen; omega) (by omega) (by simp; omega) ?_)
          intro v' w6 hown' hgrow hnn
          have hown'' : w6.ownsRow (pb + 1 + 1) 9 1 v' (rs.length + 1) (rs.map strV ++ [strV S.data.toList]) := by
            rw [← HSV.out]
            exact hown'
          obtain ⟨av', cv', hv', _, _⟩ := own_row hown''
          subst hv'
          obtain ⟨d1, d2, hT6, hC6, hlt6⟩ := HT5.out.push hown'' hgrow
          have HT6 : Hid (ToldAt (pb + 1) ⟨sn.toArray⟩ (.slice av' (rs.length + 1) cv') (rs ++ [S.data.toList]) sf (w6.setCell ⟨pb + 1, 1, none⟩ (.slice av' (rs.length + 1) cv'))) := hT6
          have hpv : ¬ (pb = pb + 1 ∨ (Value.slice av rs.length cv).ownBlock = some pb) := by
            rintro (h | h)
            · omega
            · have := (HT5.out.own.lt pb h).1; omega
          have hblk6 : (w6.setCell ⟨pb + 1, 1, none⟩ (.slice av' (rs.length + 1) cv')).heap[pb]? = w5.heap[pb]? := hC6.block pb (by omega) hpv
          have HP6 : Hid ((w6.setCell ⟨pb + 1, 1, none⟩ (.slice av' (rs.length + 1) cv')).cell? ⟨pb, 0, none⟩ = some (.pointer (some ⟨bd, 0, none⟩)) ∧ (w6.setCell ⟨pb + 1, 1, none⟩ (.slice av' (rs.length + 1) cv')).cell? ⟨pb, 1, none⟩ = some (.pointer (some ⟨bj, 0, none⟩))) := ⟨(World.cell?_of_block (w := w5) (a := ⟨pb, 0, none⟩) hblk6).trans HP5b.out.1, (World.cell?_of_block (w := w5) (a := ⟨pb, 1, none⟩) hblk6).trans HP5b.out.2⟩
          have hsz6 := hC6.size
          have HZ6 : Hid (wa.heap.size ≤ (w6.setCell ⟨pb + 1, 1, none⟩ (.slice av' (rs.length + 1) cv')).heap.size) := Nat.le_trans HZ5.out hsz6
          have HS6 : Hid (Sole wa.heap.size wa bj bd s5 (fun k => k = pb ∨ k = pb + 1 ∨ (Value.slice av' (rs.length + 1) cv').ownBlock = some k) (w6.setCell ⟨pb + 1, 1, none⟩ (.slice av' (rs.length + 1) cv'))) := by
            obtain ⟨sv, hsv⟩ : ∃ sv, ((rs ++ [S.data.toList]).map strV)[0]? = some (.string sv) := by
              cases rs with
              | nil => exact ⟨_, rfl⟩
              | cons r rs => exact ⟨_, rfl⟩
            refine HS5.out.texts HZ5.out (hC6.mono (fun k _ hk => ?_)) HNB.out (fun k hk => ?_) HT6.out.own hsv
            · rcases hk with hk | hk
              · exact Or.inl (Or.inr (Or.inl hk))
              · exact Or.inl (Or.inr (Or.inr hk))
            · rcases hk with hk | hk | hk
              · exact Or.inl ⟨Or.inl (Or.inl (Or.inl hk)), by omega⟩
              · exact Or.inl ⟨Or.inl (Or.inl (Or.inr (Or.inl hk))), by omega⟩
              · exact Or.inr hk
          clear hown' hown'' hgrow hnn hT6 hC6 hlt6 hpv hblk6 HS5 HT5 HP5b hown t1 ho5
          go_wp2
          exact ⟨⟨k + 1, s5, sn, rs ++ [S.data.toList], sf, _, by have := HLT.out; omega, by go_num, HP5, HK5, HS6, HT6, HP6, HZ6⟩, by have := HLT.out; simp [intOf]; omega⟩
        · have hsame := add_same s S.data.toList he
          rw [hsame] at A5
          have j0 : ((jAdd s S.data.toList).2 == 0) = false := by rw [beq_eq_false_iff_ne]; exact he
          generalize (jAdd s S.data.toList).2 = er at *
          clear C5 hK5 he hsame
          go_wp2_with fail
          rw [HW4.out]
          refine A5.out.mono ?_
          rintro e w5 ⟨rfl, hS5, hB5, hZ5⟩
          obtain ⟨hp5, hT5, _⟩ := HBLK.out _ hB5
          have HZ5 : Hid (wa.heap.size ≤ w5.heap.size) := Nat.le_trans HZ4.out hZ5
          have HS5 : Hid (Sole wa.heap.size wa bj bd s (fun k => k = pb ∨ k = pb + 1 ∨ v.ownBlock = some k) w5) := HSHR.out _ _ hS5 HZ5.out
          have HT5 : Hid (ToldAt (pb + 1) ⟨sn.toArray⟩ v rs sf w5) := hT5
          have HP5 : Hid (w5.cell? ⟨pb, 0, none⟩ = some (.pointer (some ⟨bd, 0, none⟩)) ∧ w5.cell? ⟨pb, 1, none⟩ = some (.pointer (some ⟨bj, 0, none⟩))) := hp5
          clear hS5 hT5 hp5 hB5 hZ5
          go_wp2
          exact ⟨⟨k + 1, s, sn, rs, sf, v, by have := HLT.out; omega, by go_num, HP, HK, HS5, HT5, HP5, HZ5⟩, by have := HLT.out; simp [intOf]; omega⟩
      · by_cases hD1' : D = 1
        · subst hD1'
          have C5 := HS4.out.call (f := 31) (args := #[.pointer (some ⟨bj, 0, none⟩)]) (r := .int .i64 0) (s' := jSyn s) HZ4.out HTA.out (Nat.le_refl _) (fun T hJ hG hT => jsync_any hJ HK.out hG hT)
          have A5 : Hid (Calls Tryd.prog 31 #[.pointer (some ⟨bj, 0, none⟩)] w4 fun e w' => e = .returned (.int .i64 0) ∧ Sole wa.heap.size wa bj bd (jSyn s) (fun k => (k = pb ∨ k = pb + 1 ∨ v.ownBlock = some k) ∨ k = wr.heap.size) w' ∧ (∀ k, (fun k => (k = pb ∨ k = pb + 1 ∨ v.ownBlock = some k) ∨ k = wr.heap.size) k → w'.heap[k]? = w4.heap[k]?) ∧ w4.heap.size ≤ w'.heap.size) := C5
          have HK5 : Hid (JOk (jSyn s)) := jok_syn s HK.out
          have HP5 : Hid (Play (jSyn s) sn rs rs.length) := play_syn s sn rs sf HP.out
          generalize jSyn s = s5 at *
          clear C5 hD0
          go_wp2_with fail
          rw [HW4.out]
          refine A5.out.mono ?_
          rintro e w5 ⟨rfl, hS5, hB5, hZ5⟩
          obtain ⟨hp5, hT5, _⟩ := HBLK.out _ hB5
          have t1 := hT5.cr
          have t2 := hT5.cn
          have u2 := hT5.free 2
          obtain ⟨av, cv, hvv, _, _⟩ := own_row hT5.own
          subst hvv
          have HZ5 : Hid (wa.heap.size ≤ (w5.setCell ⟨pb + 1, 2, none⟩ (.int .i64 (rs.length : Int))).heap.size) := by show _ ≤ _; simp; exact Nat.le_trans HZ4.out hZ5
          have HT6 : Hid (ToldAt (pb + 1) ⟨sn.toArray⟩ (.slice av rs.length cv) rs rs.length (w5.setCell ⟨pb + 1, 2, none⟩ (.int .i64 (rs.length : Int)))) := hT5.safe rs.length
          have HP6 : Hid ((w5.setCell ⟨pb + 1, 2, none⟩ (.int .i64 (rs.length : Int))).cell? ⟨pb, 0, none⟩ = some (.pointer (some ⟨bd, 0, none⟩)) ∧ (w5.setCell ⟨pb + 1, 2, none⟩ (.int .i64 (rs.length : Int))).cell? ⟨pb, 1, none⟩ = some (.pointer (some ⟨bj, 0, none⟩))) := by
            refine ⟨?_, ?_⟩
            · rw [World.cell?_setCell_other _ _ _ _ (by simp)]; exact hp5.1
            · rw [World.cell?_setCell_other _ _ _ _ (by simp)]; exact hp5.2
          have HS6 : Hid (Sole wa.heap.size wa bj bd s5 (fun k => k = pb ∨ k = pb + 1 ∨ (Value.slice av rs.length cv).ownBlock = some k) (w5.setCell ⟨pb + 1, 2, none⟩ (.int .i64 (rs.length : Int)))) := hS5.own (Nat.le_trans HZ4.out hZ5) ((Dk.chg_set w5 ⟨pb + 1, 2, none⟩ (.int .i64 (rs.length : Int))).mono (fun k _ hk => Or.inl (Or.inr (Or.inl hk)))) HNB.out (fun k hk => ⟨Or.inl (Or.inl hk), by simpa using (hS5.choose_spec.2.2.2.2.1 k (Or.inl hk)).1⟩)
          clear hS5 hT5 hp5 hB5 hZ5 m0 m1 m2 x0 x1
          go_wp2
          exact ⟨⟨k + 1, s5, sn, rs, rs.length, _, by have := HLT.out; omega, by go_num, HP5, HK5, HS6, HT6, HP6, HZ5⟩, by have := HLT.out; simp [intOf]; omega⟩
        · by_cases hD2 : D = 2
          · subst hD2
            have C5 := HS4.out.call (f := 26) (args := #[.pointer (some ⟨bj, 0, none⟩), .string S]) (r := .int .i64 (jCmp s S.data.toList).2) (s' := (jCmp s S.data.toList).1) HZ4.out HTA.out (Nat.le_refl _) (fun T hJ hG hT => compact_any S (by omega) hJ HK.out hG hT)
            have A5 : Hid (Calls Tryd.prog 26 #[.pointer (some ⟨bj, 0, none⟩), .string S] w4 fun e w' => e = .returned (.int .i64 (jCmp s S.data.toList).2) ∧ Sole wa.heap.size wa bj bd (jCmp s S.data.toList).1 (fun k => (k = pb ∨ k = pb + 1 ∨ v.ownBlock = some k) ∨ k = wr.heap.size) w' ∧ (∀ k, (fun k => (k = pb ∨ k = pb + 1 ∨ v.ownBlock = some k) ∨ k = wr.heap.size) k → w'.heap[k]? = w4.heap[k]?) ∧ w4.heap.size ≤ w'.heap.size) := C5
            have hK5 := jok_cmp s S.data.toList HK.out
            by_cases he : (jCmp s S.data.toList).2 = 0
            · have hP5 := play_cmp s sn S.data.toList rs sf HP.out HK.out he
              rw [he] at A5
              have HK5 : Hid (JOk (jCmp s S.data.toList).1) := hK5
              have HP5 : Hid (Play (jCmp s S.data.toList).1 S.data.toList [] 0) := hP5
              generalize (jCmp s S.data.toList).1 = s5 at *
              clear C5 hK5 hP5 he hD0 hD1'
              go_wp2_with fail
              rw [HW4.out]
              refine A5.out.mono ?_
              rintro e w5 ⟨rfl, hS5, hB5, hZ5⟩
              obtain ⟨hp5, hT5, ho5⟩ := HBLK.out _ hB5
              have t0 := hT5.cs
              have t1 := hT5.cr
              have t2 := hT5.cn
              have u0 := hT5.free 0
              have u1 := hT5.free 1
              have u2 := hT5.free 2
              have hch : Chg (fun k => k = pb + 1) w5 (((w5.setCell ⟨pb + 1, 0, none⟩ (.string S)).setCell ⟨pb + 1, 1, none⟩ (.slice none 0 0)).setCell ⟨pb + 1, 2, none⟩ (.int .i64 0)) :=
                ((Dk.chg_set w5 ⟨pb + 1, 0, none⟩ (.string S)).trans (Dk.chg_set _ ⟨pb + 1, 1, none⟩ (.slice none 0 0)) (fun _ _ h => h)).trans (Dk.chg_set _ ⟨pb + 1, 2, none⟩ (.int .i64 0)) (fun _ _ h => h)
              have hpl5 : pb < w5.heap.size := block_lt_of_cell hp5.1
              have hblk : (((w5.setCell ⟨pb + 1, 0, none⟩ (.string S)).setCell ⟨pb + 1, 1, none⟩ (.slice none 0 0)).setCell ⟨pb + 1, 2, none⟩ (.int .i64 0)).heap[pb]? = w5.heap[pb]? := hch.block pb hpl5 (by omega)
              have HZ5 : Hid (wa.heap.size ≤ (((w5.setCell ⟨pb + 1, 0, none⟩ (.string S)).setCell ⟨pb + 1, 1, none⟩ (.slice none 0 0)).setCell ⟨pb + 1, 2, none⟩ (.int .i64 0)).heap.size) := Nat.le_trans (Nat.le_trans HZ4.out hZ5) hch.size
              have HT6 : Hid (ToldAt (pb + 1) ⟨S.data.toList.toArray⟩ (.slice none 0 0) [] 0 (((w5.setCell ⟨pb + 1, 0, none⟩ (.string S)).setCell ⟨pb + 1, 1, none⟩ (.slice none 0 0)).setCell ⟨pb + 1, 2, none⟩ (.int .i64 0))) := by
                show ToldAt _ _ _ _ _ _
                rw [data_mk]
                exact hT5.anew S
              have HP6 : Hid ((((w5.setCell ⟨pb + 1, 0, none⟩ (.string S)).setCell ⟨pb + 1, 1, none⟩ (.slice none 0 0)).setCell ⟨pb + 1, 2, none⟩ (.int .i64 0)).cell? ⟨pb, 0, none⟩ = some (.pointer (some ⟨bd, 0, none⟩)) ∧ (((w5.setCell ⟨pb + 1, 0, none⟩ (.string S)).setCell ⟨pb + 1, 1, none⟩ (.slice none 0 0)).setCell ⟨pb + 1, 2, none⟩ (.int .i64 0)).cell? ⟨pb, 1, none⟩ = some (.pointer (some ⟨bj, 0, none⟩))) := ⟨(World.cell?_of_block (w := w5) (a := ⟨pb, 0, none⟩) hblk).trans hp5.1, (World.cell?_of_block (w := w5) (a := ⟨pb, 1, none⟩) hblk).trans hp5.2⟩
              have HS6 : Hid (Sole wa.heap.size wa bj bd s5 (fun k => k = pb ∨ k = pb + 1 ∨ (Value.slice none 0 0).ownBlock = some k) (((w5.setCell ⟨pb + 1, 0, none⟩ (.string S)).setCell ⟨pb + 1, 1, none⟩ (.slice none 0 0)).setCell ⟨pb + 1, 2, none⟩ (.int .i64 0))) := hS5.own (Nat.le_trans HZ4.out hZ5) (hch.mono (fun k _ hk => Or.inl (Or.inr (Or.inl hk)))) HNB.out (fun k hk => by
                rcases hk with hk | hk | hk
                · exact ⟨Or.inl (Or.inl (Or.inl hk)), by have := hch.size; omega⟩
                · exact ⟨Or.inl (Or.inl (Or.inr (Or.inl hk))), by have := hch.size; have h9 := block_lt_of_cell t0; simp only at h9; omega⟩
                · cases hk)
              obtain ⟨av, cv, hvv, _, _⟩ := own_row hT5.own
              subst hvv
              clear hS5 hT5 hp5 hB5 hZ5 m0 m1 m2 x0 x1 hch hblk
              go_wp2
              exact ⟨⟨k + 1, s5, S.data.toList, [], 0, _, by have := HLT.out; omega, by go_num, HP5, HK5, HS6, HT6, HP6, HZ5⟩, by have := HLT.out; simp [intOf]; omega⟩
            · have hsame := cmp_same s S.data.toList he
              rw [hsame] at A5
              have j0 : ((jCmp s S.data.toList).2 == 0) = false := by rw [beq_eq_false_iff_ne]; exact he
              generalize (jCmp s S.data.toList).2 = er at *
              clear C5 hK5 he hsame hD0 hD1'
              go_wp2_with fail
              rw [HW4.out]
              refine A5.out.mono ?_
              rintro e w5 ⟨rfl, hS5, hB5, hZ5⟩
              obtain ⟨hp5, hT5, _⟩ := HBLK.out _ hB5
              have HZ5 : Hid (wa.heap.size ≤ w5.heap.size) := Nat.le_trans HZ4.out hZ5
              have HS5 : Hid (Sole wa.heap.size wa bj bd s (fun k => k = pb ∨ k = pb + 1 ∨ v.ownBlock = some k) w5) := HSHR.out _ _ hS5 HZ5.out
              have HT5 : Hid (ToldAt (pb + 1) ⟨sn.toArray⟩ v rs sf w5) := hT5
              have HP5 : Hid (w5.cell? ⟨pb, 0, none⟩ = some (.pointer (some ⟨bd, 0, none⟩)) ∧ w5.cell? ⟨pb, 1, none⟩ = some (.pointer (some ⟨bj, 0, none⟩))) := hp5
              clear hS5 hT5 hp5 hB5 hZ5
              go_wp2
              exact ⟨⟨k + 1, s, sn, rs, sf, v, by have := HLT.out; omega, by go_num, HP, HK, HS5, HT5, HP5, HZ5⟩, by have := HLT.out; simp [intOf]; omega⟩
          · have j0 : (D == 0) = false := by rw [beq_eq_false_iff_ne]; exact hD0
            have j1 : (D == 1) = false := by rw [beq_eq_false_iff_ne]; exact hD1'
            have j2 : (D == 2) = false := by rw [beq_eq_false_iff_ne]; exact hD2
            go_wp2
            rw [HW4.out]
            exact ⟨⟨k + 1, s, sn, rs, sf, v, by have := HLT.out; omega, by go_num, HP, HK, HSHR.out _ _ HS4.out HZ4.out, HTo4, HPB4, HZ4⟩, by have := HLT.out; simp [intOf]; omega⟩
    · have hbw : Below w.heap.size w wr := HBA.out.trans (HS.out.bel.mono HBA.out.size)
      have hsa := HSA.out
      have hsb := HS.out.bel
      have c0 : wr.cell? ⟨w.heap.size, 0, none⟩ = some (.string ⟨#[]⟩) := (hsb.cell (p := ⟨w.heap.size, 0, none⟩) (by simp; omega)).trans (by rw [HWA.out]; simp)
      have c1 : wr.cell? ⟨w.heap.size, 1, none⟩ = some (.slice none 0 0) := (hsb.cell (p := ⟨w.heap.size, 1, none⟩) (by simp; omega)).trans (by rw [HWA.out]; simp)
      have c2 : wr.cell? ⟨w.heap.size, 2, none⟩ = some (.int .i64 0) := (hsb.cell (p := ⟨w.heap.size, 2, none⟩) (by simp; omega)).trans (by rw [HWA.out]; simp)
      have cf : ∀ j, wr.frozen? ⟨w.heap.size, j, none⟩ = false := fun j => (hsb.frozen (p := ⟨w.heap.size, j, none⟩) (by simp; omega)).trans (by rw [HWA.out, World.frozen?, heap_alloc_new w _]; simp)
      have f0 := cf 0
      have f1 := cf 1
      have f2 := cf 2
      have p0 := HPB.out.1
      have p1 := HPB.out.2
      have t0 := HTo.out.cs
      have t1 := HTo.out.cr
      have t2 := HTo.out.cn
      obtain ⟨av, cv, hvv, _, _⟩ := own_row HTo.out.own
      subst hvv
      have hz1 := HZ1.out
      have ne1 : pb ≠ w.heap.size := by omega
      have ne2 : pb + 1 ≠ w.heap.size := by omega
      have ne3 : w.heap.size ≠ pb := by omega
      have ne4 : w.heap.size ≠ pb + 1 := by omega
      have HC : Hid (wr.cell? ⟨w.heap.size, 0, none⟩ = some (.string ⟨#[]⟩) ∧ wr.cell? ⟨w.heap.size, 1, none⟩ = some (.slice none 0 0) ∧ wr.cell? ⟨w.heap.size, 2, none⟩ = some (.int .i64 0)) := ⟨c0, c1, c2⟩
      clear hsa hsb cf hz1 hbw
      have HFIN : Hid (∀ a b c : Value, Sole w.heap.size w bj bd s (fun k => (Value.slice av rs.length cv).ownBlock = some k) ((((wr.setCell ⟨w.heap.size, 0, none⟩ a).setCell ⟨w.heap.size, 1, none⟩ b).setCell ⟨w.heap.size, 2, none⟩ c).drew) ∧ ((((wr.setCell ⟨w.heap.size, 0, none⟩ a).setCell ⟨w.heap.size, 1, none⟩ b).setCell ⟨w.heap.size, 2, none⟩ c).drew).ownsRow w.heap.size 9 1 (.slice av rs.length cv) rs.length (rs.map strV) ∧ w.heap.size ≤ ((((wr.setCell ⟨w.heap.size, 0, none⟩ a).setCell ⟨w.heap.size, 1, none⟩ b).setCell ⟨w.heap.size, 2, none⟩ c).drew).heap.size) := by
        intro a b c
        have hsa := HSA.out
        have hz := HZ.out
        have hz1 := HZ1.out
        have hS := HS.out.base2 HBA.out (by omega) hz
        have hch : Chg (fun k => k = w.heap.size) wr (((wr.setCell ⟨w.heap.size, 0, none⟩ a).setCell ⟨w.heap.size, 1, none⟩ b).setCell ⟨w.heap.size, 2, none⟩ c).drew :=
          (((Dk.chg_set wr ⟨w.heap.size, 0, none⟩ a).trans (Dk.chg_set _ ⟨w.heap.size, 1, none⟩ b) (fun _ _ h => h)).trans (Dk.chg_set _ ⟨w.heap.size, 2, none⟩ c) (fun _ _ h => h)).trans (Dk.chg_drew (fun _ => False) _) (fun _ _ h => h.elim)
        have hsz := hch.size
        refine ⟨hS.own (by omega) (hch.mono (fun k _ e => Or.inr (by omega))) (fun k hk => ?_) (fun k hk => ⟨Or.inl (Or.inl (Or.inr (Or.inr hk))), by have := (HTo.out.own.lt k hk).2; omega⟩), ?_, by omega⟩
        · rcases hk with (hk | hk | hk) | hk
          · omega
          · omega
          · have := (HTo.out.own.lt k hk).1; omega
          · omega
        · exact own_base (own_chg HTo.out.own hch (fun g hg e => by have := (HTo.out.own.lt g hg).1; have e2 : g = w.heap.size := e; omega)) (by omega)
      go_wp2_with fail
      go_region
      go_wp2_with fail
      refine bodyPost_ret (results_plays rfl _ _ w.heap.size (.string ⟨sn.toArray⟩) (.slice av rs.length cv) (.int .i64 (sf : Int)) _ rfl (set3 _ _ _ HC.out.1 HC.out.2.1 HC.out.2.2).1 (set3 _ _ _ HC.out.1 HC.out.2.1 HC.out.2.2).2.1 (set3 _ _ _ HC.out.1 HC.out.2.1 HC.out.2.2).2.2 Tryd.underlying59 rfl (by kernel_rfl)) rfl ?_
      exact ⟨bd, bj, s, sn, rs, sf, .slice av rs.length cv, rfl, HP.out, HK.out, (HFIN.out _ _ _).1, (HFIN.out _ _ _).2.1, (HFIN.out _ _ _).2.2⟩
end Go.Proofs.YtahkecdlibkokaaDoor

/- The walks of the document's journal: Add, Sync, Stat, Compact. -/
set_option linter.unusedVariables false
set_option maxRecDepth 100000
namespace Go.Proofs.YtahkecdlibkokaaDoor
open Go.RowKit
open JournalMath DiskMath
open FrameMath (scan wrap)
open Dk (PDisk RDisk ROk DIn Chg fp fp_lt rdisk_below rdisk_chg chg_below pdisk_below pdisk_chg)

/-- The document's journal over its disk. -/
def RJ (w : World) (bx by_ : Nat) (s : JS) : Prop := RDisk w bx s.d ∧ JCells w by_ bx s.f s.g s.n ∧ bx ≠ by_
theorem RJ.below {w w' : World} {bx by_ : Nat} {s : JS} (h : RJ w bx by_ s) (hb : Below w.heap.size w w') : RJ w' bx by_ s := ⟨rdisk_below h.1 hb, h.2.1.block (hb.block _ h.2.1.lt) hb.size, h.2.2⟩
theorem RJOk.rj {w w' : World} {bx by_ : Nat} {s : JS} (h : RJOk w bx by_ s w') (hne : bx ≠ by_) : RJ w' bx by_ s := ⟨h.1, h.2.1, hne⟩
theorem RJOk.self {w : World} {bx by_ : Nat} {s : JS} (h : RJ w bx by_ s) : RJOk w bx by_ s w := ⟨h.1, h.2.1, Chg.refl _ _⟩
theorem RJOk.below {w w1 w2 : World} {bx by_ : Nat} {s : JS} (h : RJOk w bx by_ s w1) (hb : Below w1.heap.size w1 w2) : RJOk w bx by_ s w2 := ⟨rdisk_below h.1 hb, h.2.1.block (hb.block _ h.2.1.lt) hb.size, h.2.2.trans (chg_below (S := fun _ => False) hb) (fun _ _ h => h.elim)⟩
theorem RJOk.disk {w w1 w2 : World} {bx by_ : Nat} {s : JS} {d' : DS} (h : RJOk w bx by_ s w1) (hne : bx ≠ by_) (hr : ROk w1 bx d' w2) : RJOk w bx by_ ⟨d', s.f, s.g, s.n⟩ w2 :=
  ⟨hr.1, h.2.1.block (hr.2.block _ h.2.1.lt (fun e => hne (by have e2 : by_ = bx := e; exact e2.symm))) hr.2.size, h.2.2.trans hr.2 (fun k _ e => Or.inl e)⟩
theorem RJOk.set {w w1 : World} {bx by_ : Nat} {s s' : JS} (h : RJOk w bx by_ s w1) (hne : bx ≠ by_) (i : Nat) (u : Value) (hd : s'.d = s.d) (hc : JCells w1 by_ bx s.f s.g s.n → JCells (w1.setCell ⟨by_, i, none⟩ u) by_ bx s'.f s'.g s'.n) : RJOk w bx by_ s' (w1.setCell ⟨by_, i, none⟩ u) :=
  ⟨by rw [hd]; exact rdisk_chg h.1 (Dk.chg_set w1 ⟨by_, i, none⟩ u) (fun e => hne e), hc h.2.1, h.2.2.trans (Dk.chg_set w1 ⟨by_, i, none⟩ u) (fun k _ e => Or.inr e)⟩

set_option maxHeartbeats 1000000 in
theorem refAdd_any {w : World} {bx by_ : Nat} {s : JS} (r : ByteArray) (hr : r.size ≤ 140737488355328) (hJ : RJ w bx by_ s) (hk : JOk s) :
    Calls Tryd.prog 36 #[.pointer (some ⟨by_, 0, none⟩), .string r] w fun e w' => e = .returned (.int .i64 (jAdd s r.data.toList).2) ∧ RJOk w bx by_ (jAdd s r.data.toList).1 w' := by
  have hne := hJ.2.2
  have HJ : Hid (RJOk w bx by_ s w) := RJOk.self hJ
  unfold jAdd
  by_cases h1 : 4000 < r.data.toList.length
  · rw [if_pos h1]
    rw [size_data] at h1
    have i1 : (4000 : Int) < (r.size : Int) := by omega
    clear hJ
    go_enter Tryd.func36, Tryd.ntmps36
    go_wp2
    go_ret
    exact ⟨rfl, HJ.out⟩
  · rw [if_neg h1]
    rw [size_data] at h1
    have i1 : ¬ (4000 : Int) < (r.size : Int) := by omega
    have hf4 : s.f < 4 := by have := hk.file; omega
    have hwl : (wrap r.data.toList).length = r.size + 8 := by rw [FrameMath.wrap_length, size_data]
    have C1 : Hid (∀ w, Calls Tryd.prog 55 #[.string r] w fun e w' => e = .returned (.tuple #[.string ⟨(wrap r.data.toList).toArray⟩, .int .i64 0]) ∧ Below w.heap.size w w') := fun w => Fr.refWrap_any r (by omega) w
    have C2 : Hid (∀ w1, RJOk w bx by_ s w1 → Calls Tryd.prog 42 #[.pointer (some ⟨bx, 0, none⟩), .int .i64 (s.f : Int), .string ⟨(wrap r.data.toList).toArray⟩] w1 fun e w' => e = .returned (.int .i64 (if s.d.R < used s.d + (wrap r.data.toList).length then (s.d, (41 : Int)) else (app s.d s.f (wrap r.data.toList), 0)).2) ∧ w'.cell? ⟨by_, 0, none⟩ = some (.pointer (some ⟨bx, 0, none⟩)) ∧ w'.cell? ⟨by_, 1, none⟩ = some (.int .i64 (s.f : Int)) ∧ Hid (RJOk w bx by_ ⟨(if s.d.R < used s.d + (wrap r.data.toList).length then (s.d, (41 : Int)) else (app s.d s.f (wrap r.data.toList), 0)).1, s.f, s.g, s.n⟩ w')) := fun w1 h => by
      have := Dk.refAppend_all (s.f : Int) ⟨(wrap r.data.toList).toArray⟩ (by rw [strV_size, hwl]; omega) h.1 hk.ok
      rw [mk_data, aApp_file _ _ hf4] at this
      exact this.mono fun e w' ⟨k1, k2⟩ => ⟨k1, (h.disk hne k2).2.1.disk, (h.disk hne k2).2.1.file, h.disk hne k2⟩
    have hn : s.n ≤ 1048576 := by have h1 := hk.count; have h2 := file_le s.d s.f hf4; have h3 := hk.ok.room; have h4 := hk.ok.most; omega
    generalize ByteArray.mk (wrap r.data.toList).toArray = fb at *
    by_cases h2 : s.d.R < used s.d + (wrap r.data.toList).length
    · rw [if_pos h2] at C2 ⊢
      clear hJ
      go_enter Tryd.func36, Tryd.ntmps36
      go_wp2_with fail
      refine (C1.out _).mono ?_
      rintro e w1 ⟨rfl, hb1⟩
      have hJ1 := HJ.out.below hb1
      have c0 := hJ1.2.1.disk
      have c1 := hJ1.2.1.file
      have HJd : Hid (RJOk w bx by_ s w1.drew) := hJ1.below (below_drewN (Below.refl _ _) 1)
      clear hJ1 hb1
      go_wp2_with fail
      go_region_held3 (fun w' => w'.cell? ⟨by_, 0, none⟩ = some (.pointer (some ⟨bx, 0, none⟩)) ∧ w'.cell? ⟨by_, 1, none⟩ = some (.int .i64 (s.f : Int))) (go_keep) (first | (go_at_call 42; refine (C2.out _ HJd.out).mono ?_; rintro e w2 ⟨rfl, m0, m1, HJ2⟩))
      go_wp2_with fail
      go_ret
      exact ⟨rfl, HJ2.out⟩
    · rw [if_neg h2] at C2 ⊢
      generalize app s.d s.f (wrap r.data.toList) = d' at *
      clear hJ
      go_enter Tryd.func36, Tryd.ntmps36
      go_wp2_with fail
      refine (C1.out _).mono ?_
      rintro e w1 ⟨rfl, hb1⟩
      have hJ1 := HJ.out.below hb1
      have c0 := hJ1.2.1.disk
      have c1 := hJ1.2.1.file
      have HJd : Hid (RJOk w bx by_ s w1.drew) := hJ1.below (below_drewN (Below.refl _ _) 1)
      clear hJ1 hb1
      go_wp2_with fail
      go_region_held3 (fun w' => w'.cell? ⟨by_, 0, none⟩ = some (.pointer (some ⟨bx, 0, none⟩)) ∧ w'.cell? ⟨by_, 1, none⟩ = some (.int .i64 (s.f : Int))) (go_keep) (first | (go_at_call 42; refine (C2.out _ HJd.out).mono ?_; rintro e w2 ⟨rfl, m0, m1, HJ2⟩))
      have hJ2 := HJ2.out
      have k1 := hJ2.2.1.count
      have k2 := hJ2.2.1.free 3
      have HJ3 : Hid (RJOk w bx by_ ⟨d', s.f, s.g, s.n + 1⟩ (w2.setCell ⟨by_, 3, none⟩ (.int .i64 ((s.n : Int) + 1)))) := by
        have := hJ2.set (s' := ⟨d', s.f, s.g, s.n + 1⟩) hne 3 (.int .i64 ((s.n + 1 : Nat) : Int)) rfl (fun h => h.setCount _)
        rw [Int.natCast_add] at this
        exact this
      simp only at k1
      clear hJ2 HJ2
      go_wp2
      go_ret
      exact ⟨rfl, HJ3.out⟩

theorem refJSync_any {w : World} {bx by_ : Nat} {s : JS} (hJ : RJ w bx by_ s) (hk : JOk s) :
    Calls Tryd.prog 37 #[.pointer (some ⟨by_, 0, none⟩)] w fun e w' => e = .returned (.int .i64 0) ∧ RJOk w bx by_ (jSyn s) w' := by
  have hne := hJ.2.2
  have c0 := hJ.2.1.disk
  have c1 := hJ.2.1.file
  have hf4 : s.f < 4 := by have := hk.file; omega
  have hJd : RJOk w bx by_ s w.drew := (RJOk.self hJ).below (below_drewN (Below.refl _ _) 1)
  have C2 : Hid (Calls Tryd.prog 43 #[.pointer (some ⟨bx, 0, none⟩), .int .i64 (s.f : Int)] w.drew fun e w' => e = .returned (.int .i64 0) ∧ w'.cell? ⟨by_, 0, none⟩ = some (.pointer (some ⟨bx, 0, none⟩)) ∧ w'.cell? ⟨by_, 1, none⟩ = some (.int .i64 (s.f : Int)) ∧ Hid (RJOk w bx by_ (jSyn s) w')) := by
    have := Dk.refSync_all (s.f : Int) hJd.1
    rw [aSyn_file _ _ hf4] at this
    exact this.mono fun e w' ⟨k1, k2⟩ => ⟨k1, (hJd.disk hne k2).2.1.disk, (hJd.disk hne k2).2.1.file, hJd.disk hne k2⟩
  clear hJ hJd
  go_enter Tryd.func37, Tryd.ntmps37
  go_wp2_with fail
  go_region_held3 (fun w' => w'.cell? ⟨by_, 0, none⟩ = some (.pointer (some ⟨bx, 0, none⟩)) ∧ w'.cell? ⟨by_, 1, none⟩ = some (.int .i64 (s.f : Int))) (go_keep) (first | (go_at_call 43; refine C2.out.mono ?_; rintro e w2 ⟨rfl, m0, m1, HJ2⟩))
  go_wp2_with fail
  go_ret
  exact ⟨rfl, HJ2.out⟩

theorem refStat_any {w : World} {bx by_ : Nat} {s : JS} (hJ : RJ w bx by_ s) (hk : JOk s) :
    Calls Tryd.prog 32 #[.pointer (some ⟨by_, 0, none⟩)] w fun e w' => e = .returned (.tuple #[.int .i64 (s.g : Int), .int .i64 (s.n : Int), .int .i64 ((s.d.F s.f).length : Int)]) ∧ ∃ q, w' = w.drewN q := by
  have c0 := hJ.2.1.disk
  have c1 := hJ.2.1.file
  have c2 := hJ.2.1.gen
  have c3 := hJ.2.1.count
  have hf4 : s.f < 4 := by have := hk.file; omega
  have c4 := hJ.1.bytes s.f hf4
  have hz := strV_size (s.d.F s.f)
  have hl : (s.d.F s.f).length ≤ 1048576 := by have h1 := file_le s.d s.f hf4; have h2 := hk.ok.room; have h3 := hk.ok.most; omega
  unfold strV at c4
  generalize ByteArray.mk (s.d.F s.f).toArray = fb at *
  generalize (s.d.F s.f).length = n at *
  have i4 : (s.f : Int) < 4 := by omega
  clear hJ
  go_enter Tryd.func32, Tryd.ntmps32
  go_wp2_with fail
  go_quiet (fail)
  go_wp2_with fail
  go_ret3
  exact ⟨rfl, _, rfl⟩
end Go.Proofs.YtahkecdlibkokaaDoor

/- The walk of the document's Compact. -/
set_option linter.unusedVariables false
set_option maxRecDepth 100000
namespace Go.Proofs.YtahkecdlibkokaaDoor
open Go.RowKit
open JournalMath DiskMath
open FrameMath (scan wrap)
open Dk (PDisk RDisk ROk DIn Chg fp fp_lt rdisk_below rdisk_chg chg_below pdisk_below pdisk_chg)

set_option maxHeartbeats 4000000 in
theorem refCompact_any {w : World} {bx by_ : Nat} {s : JS} (snap : ByteArray) (hs : snap.size ≤ 140737488355328) (hJ : RJ w bx by_ s) (hk : JOk s) :
    Calls Tryd.prog 38 #[.pointer (some ⟨by_, 0, none⟩), .string snap] w fun e w' => e = .returned (.int .i64 (jCmp s snap.data.toList).2) ∧ RJOk w bx by_ (jCmp s snap.data.toList).1 w' := by
  have hne := hJ.2.2
  have HJ : Hid (RJOk w bx by_ s w) := RJOk.self hJ
  have c0 := hJ.2.1.disk
  have c1 := hJ.2.1.file
  have c2 := hJ.2.1.gen
  have hg := hk.gen
  have hf := hk.file
  unfold jCmp
  rw [size_data]
  by_cases h1 : 190000 < snap.size
  · rw [if_pos (Or.inl h1)]
    have i1 : (190000 : Int) < (snap.size : Int) := by omega
    clear hJ
    go_enter Tryd.func38, Tryd.ntmps38
    go_wp2
    go_ret
    exact ⟨rfl, HJ.out⟩
  · have i1 : ¬ (190000 : Int) < (snap.size : Int) := by omega
    by_cases h2 : s.g = 1125899906842624
    · rw [if_pos (Or.inr h2)]
      have i2 : (1125899906842624 : Int) ≤ (s.g : Int) := by omega
      clear hJ
      go_enter Tryd.func38, Tryd.ntmps38
      go_wp2
      go_ret
      exact ⟨rfl, HJ.out⟩
    · rw [if_neg (by omega)]
      have i2 : ¬ (1125899906842624 : Int) ≤ (s.g : Int) := by omega
      have hhl := head_length (s.g + 1) snap.data.toList (by omega)
      rw [size_data] at hhl
      have hwl : (wrap (head (s.g + 1) snap.data.toList)).length = (head (s.g + 1) snap.data.toList).length + 8 := FrameMath.wrap_length _
      have hfe : ((1 - s.f : Nat) : Int) = 1 - (s.f : Int) := by omega
      have HFE : Hid (((1 - s.f : Nat) : Int) = 1 - (s.f : Int)) := hfe
      have C1 : Hid (∀ w1, RJOk w bx by_ s w1 → Calls Tryd.prog 46 #[.int .i64 ((s.g : Int) + 1), .string snap] w1 fun e w' => e = .returned (.string ⟨(wrap (head (s.g + 1) snap.data.toList)).toArray⟩) ∧ w'.cell? ⟨by_, 0, none⟩ = some (.pointer (some ⟨bx, 0, none⟩)) ∧ w'.cell? ⟨by_, 1, none⟩ = some (.int .i64 (s.f : Int)) ∧ w'.cell? ⟨by_, 2, none⟩ = some (.int .i64 (s.g : Int)) ∧ Hid (RJOk w bx by_ s w')) := fun w1 h => by
        have := refHead_any (s.g + 1) (by omega) snap (by omega) w1
        rw [Int.natCast_add] at this
        exact this.mono fun e w' ⟨k1, k2⟩ => ⟨k1, (h.below k2).2.1.disk, (h.below k2).2.1.file, (h.below k2).2.1.gen, h.below k2⟩
      have C2 : Hid (∀ w1, RJOk w bx by_ s w1 → Calls Tryd.prog 42 #[.pointer (some ⟨bx, 0, none⟩), .int .i64 (1 - (s.f : Int)), .string ⟨(wrap (head (s.g + 1) snap.data.toList)).toArray⟩] w1 fun e w' => e = .returned (.int .i64 (jBegin s snap.data.toList).2) ∧ w'.cell? ⟨by_, 0, none⟩ = some (.pointer (some ⟨bx, 0, none⟩)) ∧ w'.cell? ⟨by_, 1, none⟩ = some (.int .i64 (s.f : Int)) ∧ w'.cell? ⟨by_, 2, none⟩ = some (.int .i64 (s.g : Int)) ∧ Hid (RJOk w bx by_ ⟨(if s.d.R < used s.d + (wrap (head (s.g + 1) snap.data.toList)).length then (s.d, (41 : Int)) else (app s.d (1 - s.f) (wrap (head (s.g + 1) snap.data.toList)), 0)).1, s.f, s.g, s.n⟩ w')) := fun w1 h => by
        have := Dk.refAppend_all ((1 - s.f : Nat) : Int) ⟨(wrap (head (s.g + 1) snap.data.toList)).toArray⟩ (by rw [strV_size, hwl]; omega) h.1 hk.ok
        rw [mk_data, aApp_file _ _ (by omega), hfe] at this
        refine this.mono ?_
        rintro e w' ⟨k1, k2⟩
        refine ⟨?_, (h.disk hne k2).2.1.disk, (h.disk hne k2).2.1.file, (h.disk hne k2).2.1.gen, h.disk hne k2⟩
        rw [k1]
        unfold jBegin
        split <;> rfl
      have wg : IntKind.i64.wrap ((s.g : Int) + 1) = (s.g : Int) + 1 := by rw [← Int.natCast_one, ← Int.natCast_add]; exact Fr.wr (s.g + 1) (by omega)
      have wf : IntKind.i64.wrap (1 - (s.f : Int)) = 1 - (s.f : Int) := by rw [← hfe]; exact Fr.wr (1 - s.f) (by omega)
      rw [← wg] at C1
      rw [← wf] at C2
      have HJd : Hid (RJOk w bx by_ s w.drew) := (RJOk.self hJ).below (below_drewN (Below.refl _ _) 1)
      by_cases hfull : s.d.R < used s.d + (wrap (head (s.g + 1) snap.data.toList)).length
      · have e1 : jBegin s snap.data.toList = (s, 41) := by unfold jBegin; rw [if_pos hfull]
        rw [e1, if_pos hfull] at C2
        rw [e1]
        generalize ByteArray.mk (wrap (head (s.g + 1) snap.data.toList)).toArray = hb at *
        clear hJ e1 hhl hwl hfe HFE wg wf
        go_enter Tryd.func38, Tryd.ntmps38
        go_wp2_with fail
        go_region_held3 (fun w' => w'.cell? ⟨by_, 0, none⟩ = some (.pointer (some ⟨bx, 0, none⟩)) ∧ w'.cell? ⟨by_, 1, none⟩ = some (.int .i64 (s.f : Int)) ∧ w'.cell? ⟨by_, 2, none⟩ = some (.int .i64 (s.g : Int))) (go_keep) (first | (go_at_call 46; refine (C1.out _ HJd.out).mono ?_; rintro e w2 ⟨rfl, m0, m1, m2, HJ2⟩) | (go_at_call 42; refine (C2.out _ (by assumption)).mono ?_; rintro e w3 ⟨rfl, m3, m4, m5, HJ3⟩))
        all_goals go_wp2_with fail
        all_goals go_ret
        all_goals exact ⟨rfl, HJ3.out⟩
      · have e1 : jBegin s snap.data.toList = (⟨begins s.d s.f s.g snap.data.toList, 1 - s.f, s.g + 1, 0⟩, 0) := by unfold jBegin; rw [if_neg hfull]
        rw [e1, if_neg hfull] at C2
        rw [e1]
        unfold begins
        have hok1 : Ok (app s.d (1 - s.f) (wrap (head (s.g + 1) snap.data.toList))) := ok_app _ _ _ hk.ok (by omega) (by omega)
        generalize app s.d (1 - s.f) (wrap (head (s.g + 1) snap.data.toList)) = d1 at *
        have hok2 : Ok (syn d1 (1 - s.f)) := ok_syn _ _ hok1
        have C3 : Hid (∀ w1, RJOk w bx by_ ⟨d1, s.f, s.g, s.n⟩ w1 → Calls Tryd.prog 43 #[.pointer (some ⟨bx, 0, none⟩), .int .i64 (IntKind.i64.wrap (1 - (s.f : Int)))] w1 fun e w' => e = .returned (.int .i64 0) ∧ w'.cell? ⟨by_, 0, none⟩ = some (.pointer (some ⟨bx, 0, none⟩)) ∧ w'.cell? ⟨by_, 1, none⟩ = some (.int .i64 (s.f : Int)) ∧ Hid (RJOk w bx by_ ⟨syn d1 (1 - s.f), s.f, s.g, s.n⟩ w')) := fun w1 h => by
          have := Dk.refSync_all ((1 - s.f : Nat) : Int) h.1
          rw [aSyn_file _ _ (by omega), hfe] at this
          rw [wf]
          exact this.mono fun e w' ⟨k1, k2⟩ => ⟨k1, (h.disk hne k2).2.1.disk, (h.disk hne k2).2.1.file, h.disk hne k2⟩
        have C4 : Hid (∀ w1, RJOk w bx by_ ⟨syn d1 (1 - s.f), s.f, s.g, s.n⟩ w1 → Calls Tryd.prog 56 #[.pointer (some ⟨bx, 0, none⟩), .int .i64 (s.f : Int), .int .i64 0] w1 fun e w' => e = .returned (.int .i64 0) ∧ w'.cell? ⟨by_, 0, none⟩ = some (.pointer (some ⟨bx, 0, none⟩)) ∧ w'.cell? ⟨by_, 1, none⟩ = some (.int .i64 (s.f : Int)) ∧ Hid (RJOk w bx by_ ⟨cut (syn d1 (1 - s.f)) s.f 0, s.f, s.g, s.n⟩ w')) := fun w1 h => by
          have := Dk.refCut_all (s.f : Int) ((0 : Nat) : Int) h.1 hok2
          rw [aCut_file _ _ (by omega) 0 (Nat.zero_le _)] at this
          exact this.mono fun e w' ⟨k1, k2⟩ => ⟨k1, (h.disk hne k2).2.1.disk, (h.disk hne k2).2.1.file, h.disk hne k2⟩
        generalize cut (syn d1 (1 - s.f)) s.f 0 = d3 at *
        generalize syn d1 (1 - s.f) = d2 at *
        generalize ByteArray.mk (wrap (head (s.g + 1) snap.data.toList)).toArray = hb at *
        clear hJ e1 hhl hwl hfe wg wf
        go_enter Tryd.func38, Tryd.ntmps38
        go_wp2_with fail
        go_region_held3 (fun w' => w'.cell? ⟨by_, 0, none⟩ = some (.pointer (some ⟨bx, 0, none⟩)) ∧ w'.cell? ⟨by_, 1, none⟩ = some (.int .i64 (s.f : Int)) ∧ w'.cell? ⟨by_, 2, none⟩ = some (.int .i64 (s.g : Int))) (go_keep) (first | (go_at_call 46; refine (C1.out _ HJd.out).mono ?_; rintro e w2 ⟨rfl, m0, m1, m2, HJ2⟩) | (go_at_call 42; refine (C2.out _ (by assumption)).mono ?_; rintro e w3 ⟨rfl, m3, m4, m5, HJ3⟩))
        have HJ3d : Hid (RJOk w bx by_ ⟨d1, s.f, s.g, s.n⟩ w3.drew) := HJ3.out.below (below_drewN (Below.refl _ _) 1)
        clear HJ HJd HJ2 m0 m1 m2 c0 c1 c2
        go_wp2_with fail
        go_region_held3 (fun w' => w'.cell? ⟨by_, 0, none⟩ = some (.pointer (some ⟨bx, 0, none⟩)) ∧ w'.cell? ⟨by_, 1, none⟩ = some (.int .i64 (s.f : Int))) (go_keep) (first | (go_at_call 43; refine (C3.out _ HJ3d.out).mono ?_; rintro e w4 ⟨rfl, m6, m7, HJ4⟩))
        have HJ4d : Hid (RJOk w bx by_ ⟨d2, s.f, s.g, s.n⟩ w4.drew) := HJ4.out.below (below_drewN (Below.refl _ _) 1)
        clear HJ3 HJ3d m3 m4 m5
        go_wp2_with fail
        go_region_held3 (fun w' => w'.cell? ⟨by_, 0, none⟩ = some (.pointer (some ⟨bx, 0, none⟩)) ∧ w'.cell? ⟨by_, 1, none⟩ = some (.int .i64 (s.f : Int))) (go_keep) (first | (go_at_call 56; refine (C4.out _ HJ4d.out).mono ?_; rintro e w5 ⟨rfl, m8, m9, HJ5⟩))
        have hJ5 := HJ5.out
        have k1 := hJ5.2.1.file
        have k2 := hJ5.2.1.gen
        have k3 := hJ5.2.1.count
        have f1 := hJ5.2.1.free 1
        have f2 := hJ5.2.1.free 2
        have f3 := hJ5.2.1.free 3
        simp only at k1 k2 k3
        have HJ8 : Hid (RJOk w bx by_ ⟨d3, 1 - s.f, s.g + 1, 0⟩ (((w5.setCell ⟨by_, 1, none⟩ (.int .i64 (1 - (s.f : Int)))).setCell ⟨by_, 2, none⟩ (.int .i64 ((s.g : Int) + 1))).setCell ⟨by_, 3, none⟩ (.int .i64 0))) := by
          have h1 := hJ5.set (s' := ⟨d3, 1 - s.f, s.g, s.n⟩) hne 1 (.int .i64 ((1 - s.f : Nat) : Int)) rfl (fun h => h.setFile _)
          have h2 := h1.set (s' := ⟨d3, 1 - s.f, s.g + 1, s.n⟩) hne 2 (.int .i64 ((s.g + 1 : Nat) : Int)) rfl (fun h => h.setGen _)
          have h3 := h2.set (s' := ⟨d3, 1 - s.f, s.g + 1, 0⟩) hne 3 (.int .i64 ((0 : Nat) : Int)) rfl (fun h => h.setCount _)
          rw [HFE.out, Int.natCast_add] at h3
          exact h3
        clear hJ5 HJ5 HJ4 HJ4d m6 m7 m8 m9
        go_wp2
        go_ret
        exact ⟨rfl, HJ8.out⟩
end Go.Proofs.YtahkecdlibkokaaDoor

/- A journal whose head is safe: what each call leaves, and that Open finds it again. For JournalScripts and JournalOpens. -/
set_option linter.unusedVariables false
set_option maxRecDepth 100000
namespace Go.Proofs.YtahkecdlibkokaaDoor
open JournalMath DiskMath
open FrameMath (scan wrap wraps fits)

structure Good (s : JS) (sn : List UInt8) (rs : List (List UInt8)) : Prop where
  says : Says s sn rs
  safe : (head s.g sn).length + 8 ≤ s.d.S s.f
theorem good_begun (r : Nat) : Good (begun0 r) [] [] := by
  refine ⟨says_begun r, ?_⟩
  show (head 1 []).length + 8 ≤ (begins (new r) 1 0 []).S 0
  unfold begins cut syn app
  simp [upd, new, FrameMath.wrap_length]
theorem good_add (s : JS) (sn r : List UInt8) (rs : List (List UInt8)) (h : Good s sn rs) (hk : JOk s) : ∃ rs', Good (jAdd s r).1 sn rs' := by
  by_cases h0 : (jAdd s r).2 = 0
  · have hs := says_add s sn r rs h.says hk h0
    refine ⟨rs ++ [r], hs, ?_⟩
    unfold jAdd at h0 ⊢
    by_cases h1 : 4000 < r.length
    · rw [if_pos h1] at h0; exact absurd h0 (by simp)
    · rw [if_neg h1] at h0 ⊢
      by_cases h2 : s.d.R < used s.d + (wrap r).length
      · rw [if_pos h2] at h0; exact absurd h0 (by simp)
      · rw [if_neg h2]; exact h.safe
  · rw [add_same s r h0]; exact ⟨rs, h⟩
theorem good_syn (s : JS) (sn : List UInt8) (rs : List (List UInt8)) (h : Good s sn rs) : Good (jSyn s) sn rs := by
  refine ⟨says_syn s sn rs h.says, ?_⟩
  show (head s.g sn).length + 8 ≤ upd s.d.S s.f (s.d.F s.f).length s.f
  rw [upd_same, h.says.holds, FrameMath.wraps_length]
  show _ ≤ (head s.g sn).length + 8 + FrameMath.used rs
  omega
theorem good_cmp (s : JS) (sn snap : List UInt8) (rs : List (List UInt8)) (h : Good s sn rs) (hk : JOk s) : ∃ sn' rs', Good (jCmp s snap).1 sn' rs' := by
  by_cases h0 : (jCmp s snap).2 = 0
  · have hs := says_cmp s sn snap rs h.says hk h0
    have hf := hk.file
    refine ⟨snap, [], hs, ?_⟩
    unfold jCmp at h0 ⊢
    by_cases h1 : 190000 < snap.length ∨ s.g = 1125899906842624
    · rw [if_pos h1] at h0; exact absurd h0 (by simp)
    · rw [if_neg h1] at h0 ⊢
      unfold jBegin at h0 ⊢
      by_cases h2 : s.d.R < used s.d + (wrap (head (s.g + 1) snap)).length
      · rw [if_pos h2] at h0; exact absurd h0 (by simp)
      · rw [if_neg h2]
        show (head (s.g + 1) snap).length + 8 ≤ (begins s.d s.f s.g snap).S (1 - s.f)
        unfold begins cut syn app
        simp only [upd_other _ _ _ _ (show 1 - s.f ≠ s.f by omega), upd_same]
        rw [h.says.empty, List.nil_append, FrameMath.wrap_length]
        exact Nat.le_refl _
  · rw [cmp_same s snap h0]; exact ⟨sn, rs, h⟩
/-- A record that is read as a head is that head. -/
theorem readHead_inv (r : List UInt8) (h : (readHead r).1 ≠ 0) : r = head (readHead r).1 (readHead r).2 := by
  unfold readHead at h ⊢
  by_cases hc : r.take 1 = [72] ∧ (PackMath.tn (r.drop 1)).2.2 = 0 ∧ (PackMath.tn (r.drop 1)).1 ≠ 0 ∧ r.length ≤ 190000 + (1 + (PackMath.tn (r.drop 1)).2.1)
  · rw [if_pos hc]
    obtain ⟨n, c, e⟩ : ∃ n c, PackMath.tn (r.drop 1) = (n, c, 0) := ⟨_, _, by rw [← hc.2.1]⟩
    have h1 := PackMath.tn_ok e
    rw [e]
    unfold head
    simp only
    have s1 : r = r.take 1 ++ r.drop 1 := (List.take_append_drop 1 r).symm
    have s2 : r.drop 1 = (r.drop 1).take c ++ (r.drop 1).drop c := (List.take_append_drop c (r.drop 1)).symm
    rw [h1.2.2.1, List.drop_drop] at s2
    rw [← s2]
    conv => lhs; rw [s1, hc.1]
    rfl
  · rw [if_neg hc] at h; exact absurd rfl h
theorem mem_while (t : List (List UInt8)) (r : List UInt8) (h : r ∈ t.takeWhile short) : short r = true := by
  induction t with
  | nil => cases h
  | cons x t ih =>
    rw [List.takeWhile_cons] at h
    by_cases hx : short x = true
    · rw [if_pos hx] at h
      rcases List.mem_cons.1 h with rfl | h
      · exact hx
      · exact ih h
    · rw [if_neg hx] at h; cases h
theorem good_opened (d : DS) (f : Nat) (hf : f ≤ 1) (h : Ok d) (hg : (found (d.F f)).gen ≠ 0) : Good (opened d f (found (d.F f))) (found (d.F f)).snap (found (d.F f)).recs := by
  have hof := opened_files d f hf (found (d.F f)) h (found_le _).1
  have hws := FrameMath.wraps_scan (d.F f)
  have hfs : ∃ hd t, scan (d.F f) = hd :: t ∧ (readHead hd).1 ≠ 0 ∧ found (d.F f) = ⟨(readHead hd).1, (readHead hd).2, t.takeWhile short, FrameMath.used (hd :: t.takeWhile short)⟩ := by
    unfold found at hg ⊢
    cases hx : scan (d.F f) with
    | nil => rw [hx] at hg; exact absurd rfl hg
    | cons hd t =>
      rw [hx] at hg
      by_cases h0 : (readHead hd).1 = 0
      · rw [foundOf_no hd t h0] at hg; exact absurd rfl hg
      · exact ⟨hd, t, rfl, h0, foundOf_yes hd t h0⟩
  obtain ⟨hd, t, hx, h0, hfo⟩ := hfs
  rw [hx] at hws
  rw [hfo] at hof ⊢
  simp only at hof ⊢
  have hle := readHead_le hd
  have hinv := readHead_inv hd h0
  have hsplit : hd :: t = (hd :: t.takeWhile short) ++ t.dropWhile short := by rw [List.cons_append, List.takeWhile_append_dropWhile]
  have hu : FrameMath.used (hd :: t.takeWhile short) ≤ FrameMath.used (hd :: t) := by
    have := FrameMath.used_append (hd :: t.takeWhile short) (t.dropWhile short)
    rw [← hsplit] at this
    omega
  have e : (d.F f).take (FrameMath.used (hd :: t.takeWhile short)) = wraps (hd :: t.takeWhile short) := by
    have h1 : (d.F f).take (FrameMath.used (hd :: t.takeWhile short)) = ((d.F f).take (FrameMath.used (hd :: t))).take (FrameMath.used (hd :: t.takeWhile short)) := by
      rw [List.take_take, Nat.min_eq_left hu]
    rw [h1, ← hws]
    have h2 := wraps_prefix (hd :: t.takeWhile short) (t.dropWhile short)
    rw [← hsplit] at h2
    exact h2
  refine ⟨⟨?_, hof.2.1, hle.2, fun r hr => ?_, by show 1 ≤ (readHead hd).1; omega, rfl⟩, ?_⟩
  · rw [show (opened d f ⟨(readHead hd).1, (readHead hd).2, t.takeWhile short, FrameMath.used (hd :: t.takeWhile short)⟩).f = f from rfl, hof.1, e]
    show wraps (hd :: t.takeWhile short) = wraps (head (readHead hd).1 (readHead hd).2 :: t.takeWhile short)
    rw [← hinv]
  · have := mem_while t r hr
    unfold short at this
    simpa using this
  · show (head (readHead hd).1 (readHead hd).2).length + 8 ≤ (opened d f ⟨(readHead hd).1, (readHead hd).2, t.takeWhile short, FrameMath.used (hd :: t.takeWhile short)⟩).d.S f
    rw [hof.2.2.1, ← hinv]
    show _ ≤ hd.length + 8 + FrameMath.used (t.takeWhile short)
    omega
/-- Behind a crash the file that holds is found again, and the other one is not. -/
theorem good_crash (s : JS) (sn : List UInt8) (rs : List (List UInt8)) (h : Good s sn rs) (hk : JOk s) (keep : Nat) : (found ((crash s.d keep).F s.f)).gen ≠ 0 ∧ (found ((crash s.d keep).F (1 - s.f))).gen = 0 := by
  have hf := hk.file
  have ht := crash_tells s.d hk.ok keep s.f (by omega)
  have hcf : (crash s.d keep).F s.f = (wraps (head s.g sn :: rs)).take ((crash s.d keep).F s.f).length := by rw [← h.says.holds]; exact ht.2.1.symm
  have hm : (head s.g sn).length + 8 ≤ ((crash s.d keep).F s.f).length := by have := ht.2.2.1; have := h.safe; omega
  refine ⟨?_, ?_⟩
  · have := found_cut s.g sn rs ((crash s.d keep).F s.f).length h.says.gen hk.gen h.says.snap h.says.recs hm
    rw [← hcf] at this
    rw [this]
    show s.g ≠ 0
    have := h.says.gen
    omega
  · have h2 := (crash_tells s.d hk.ok keep (1 - s.f) (by omega)).1
    rw [h.says.empty] at h2
    have : (crash s.d keep).F (1 - s.f) = [] := List.eq_nil_of_length_eq_zero (by simpa using h2)
    rw [this, found_nil]
theorem good_found (s : JS) (sn : List UInt8) (rs : List (List UInt8)) (h : Good s sn rs) (hk : JOk s) : (found (s.d.F s.f)).gen ≠ 0 ∧ (found (s.d.F (1 - s.f))).gen = 0 := by
  obtain ⟨h1, h2⟩ := says_found s sn rs h.says hk
  rw [h1, h2]
  exact ⟨by show s.g ≠ 0; have := h.says.gen; omega, rfl⟩
end Go.Proofs.YtahkecdlibkokaaDoor

/- The walks of the document's ReadHead and found. -/
set_option linter.unusedVariables false
set_option maxRecDepth 100000
namespace Go.Proofs.YtahkecdlibkokaaDoor
open Go.RowKit
open JournalMath DiskMath
open FrameMath (scan)

theorem refReadHead_any (s : ByteArray) (hs : s.size ≤ 200000) (w : World) :
    Calls Tryd.prog 72 #[.string s] w fun e w' => e = .returned (.tuple #[.int .i64 ((readHead s.data.toList).1 : Int), .string ⟨(readHead s.data.toList).2.toArray⟩, .bool (decide ((readHead s.data.toList).1 ≠ 0))]) ∧ ∃ q, w' = w.drewN q := by
  by_cases h0 : s.size = 0
  · have hR : readHead s.data.toList = (0, []) := by
      unfold readHead; rw [if_neg]; rintro ⟨h, _⟩
      have := congrArg List.length h
      rw [List.length_take, size_data, h0] at this
      simp at this
    rw [hR]
    have i0 : ((s.size : Int) == 0) = true := by rw [beq_iff_eq]; omega
    clear hR
    go_enter Tryd.func72, Tryd.ntmps72
    go_wp2
    go_ret3
    exact ⟨rfl, 0, rfl⟩
  · have i0 : ((s.size : Int) == 0) = false := by rw [beq_eq_false_iff_ne]; omega
    have hpos : 0 < s.size := by omega
    have ip : (0 : Int) < (s.size : Int) := by omega
    have ht1 : s.data.toList.take 1 = [s[0]] := by
      have := Fr.mark_at s 0 hpos
      rwa [List.drop_zero] at this
    by_cases h1 : s[0].toNat = 72
    · have h1' : s.data.toList.take 1 = [72] := by rw [ht1]; congr 1; exact UInt8.toNat.inj h1
      have c2 := fun w => Pk.refTakeNum_any s 1 (by omega) (by omega) w
      obtain ⟨n, c, e, htn⟩ : ∃ n c e, PackMath.tn (s.data.toList.drop 1) = (n, c, e) := ⟨_, _, _, rfl⟩
      rw [Pk.tnV_of htn] at c2
      have i1 : ((s[0].toNat : Int) != 72) = false := by rw [h1]; rfl
      by_cases he : e = 0
      · subst he
        have hok := PackMath.tn_ok htn
        have hc : c ≤ s.size - 1 := by have := hok.2.2.2.1; rw [List.length_drop, size_data] at this; exact this
        have hn := hok.1
        have C2 : Hid (∀ w, Calls Tryd.prog 78 #[.string s, .int .i64 1] w fun e w' => e = .returned (.tuple #[.int .i64 (n : Int), .int .i64 ((1 + c : Nat) : Int), .int .i64 0]) ∧ w' = w) := c2
        clear c2 hok
        by_cases hz : n = 0
        · have hR : readHead s.data.toList = (0, []) := by
            unfold readHead; rw [htn, if_neg]; simp [hz]
          rw [hR]
          subst hz
          clear htn hR h1' ht1
          go_enter Tryd.func72, Tryd.ntmps72
          go_wp2_with fail
          refine (C2.out _).mono ?_
          rintro e w1 ⟨rfl, hw1⟩
          rw [hw1]; clear hw1
          go_wp2
          go_ret3
          exact ⟨rfl, 0, rfl⟩
        · by_cases hL : s.size ≤ 190000 + (1 + c)
          · have hR : readHead s.data.toList = (n, s.data.toList.drop (1 + c)) := by
              unfold readHead; rw [htn, if_pos]; exact ⟨h1', rfl, hz, by rw [size_data]; exact hL⟩
            have HX : Hid (s.extract (1 + c) s.size = ByteArray.mk (s.data.toList.drop (1 + c)).toArray) := by
              show _ = _
              rw [← Fr.drop_data, data_mk]
            rw [hR, show decide (((n, s.data.toList.drop (1 + c)) : Nat × List UInt8).1 ≠ 0) = true from decide_eq_true hz]
            clear htn hR h1' ht1
            have i2 : ¬ (n : Int) < 1 := by omega
            have i3 : ¬ (190000 : Int) < (s.size : Int) - ((1 + c : Nat) : Int) := by omega
            have i4 : ¬ (190000 : Int) < (s.size : Int) - (1 + (c : Int)) := by omega
            go_enter Tryd.func72, Tryd.ntmps72
            go_wp2_with fail
            refine (C2.out _).mono ?_
            rintro e w1 ⟨rfl, hw1⟩
            rw [hw1]; clear hw1
            go_wp2_with fail
            go_quiet (fail)
            go_wp2
            go_ret3
            rw [HX.out]
            exact ⟨rfl, _, rfl⟩
          · have hR : readHead s.data.toList = (0, []) := by
              unfold readHead; rw [htn, if_neg]; rintro ⟨_, _, _, h⟩; rw [size_data] at h; exact hL h
            rw [hR]
            clear htn hR h1' ht1
            have i2 : ¬ (n : Int) < 1 := by omega
            have i3 : (190000 : Int) < (s.size : Int) - ((1 + c : Nat) : Int) := by omega
            have i4 : (190000 : Int) < (s.size : Int) - (1 + (c : Int)) := by omega
            go_enter Tryd.func72, Tryd.ntmps72
            go_wp2_with fail
            refine (C2.out _).mono ?_
            rintro e w1 ⟨rfl, hw1⟩
            rw [hw1]; clear hw1
            go_wp2
            go_ret3
            exact ⟨rfl, 0, rfl⟩
      · have hR : readHead s.data.toList = (0, []) := by
          unfold readHead; rw [htn, if_neg]; simp [he]
        rw [hR, if_neg he] at *
        have C2 : Hid (∀ w, Calls Tryd.prog 78 #[.string s, .int .i64 1] w fun e' w' => e' = .returned (.tuple #[.int .i64 (n : Int), .int .i64 0, .int .i64 (e : Int)]) ∧ w' = w) := c2
        have i2 : ((e : Int) != 0) = true := by rw [bne_iff_ne]; omega
        clear htn hR h1' c2 ht1
        go_enter Tryd.func72, Tryd.ntmps72
        go_wp2_with fail
        refine (C2.out _).mono ?_
        rintro e w1 ⟨rfl, hw1⟩
        rw [hw1]; clear hw1
        go_wp2
        go_ret3
        exact ⟨rfl, 0, rfl⟩
    · have hR : readHead s.data.toList = (0, []) := by
        unfold readHead; rw [if_neg]; rintro ⟨h, _⟩
        rw [ht1] at h
        have h9 := (List.cons.inj h).1
        exact h1 (by rw [h9]; rfl)
      have i1 : ((s[0].toNat : Int) != 72) = true := by rw [bne_iff_ne]; omega
      rw [hR]
      clear hR ht1
      go_enter Tryd.func72, Tryd.ntmps72
      go_wp2
      go_ret3
      exact ⟨rfl, 0, rfl⟩
end Go.Proofs.YtahkecdlibkokaaDoor

/- The walk of the document's found. -/
set_option linter.unusedVariables false
set_option maxRecDepth 100000
namespace Go.Proofs.YtahkecdlibkokaaDoor
open Go.RowKit
open JournalMath DiskMath
open FrameMath (scan)

/-- What found answers. -/
def FindOk (w1 : World) (x : JournalMath.Found) (e : Ending) (w' : World) : Prop :=
  ∃ v, e = .returned (.tuple #[.int .i64 (x.gen : Int), .string ⟨x.snap.toArray⟩, v, .int .i64 (x.size : Int)]) ∧ w'.ownsRow w1.heap.size 9 1 v x.recs.length (x.recs.map strV) ∧ Below w1.heap.size w1 w'
set_option maxHeartbeats 2000000 in
theorem refFound_any (s : ByteArray) (hs : s.size ≤ 1048576) (w : World) :
    Calls Tryd.prog 62 #[.string s] w fun e w' => FindOk w (found s.data.toList) e w' := by
  obtain ⟨i0, hi, hz0, hz1, hz2⟩ := info_parts infoS
  have c1 := fun w => Fr.refScan_any s (by omega) w
  have hfit := (FrameMath.scan_stands s.data.toList).1
  have hul := FrameMath.used_le s.data.toList
  have hxl := FrameMath.scan_length s.data.toList
  rw [size_data] at hul hxl
  unfold found
  generalize scan s.data.toList = xs at *
  have C1 : Hid (∀ w, Calls Tryd.prog 71 #[.string s] w fun e w' => ∃ v, e = .returned (.tuple #[v, .int .i64 ((FrameMath.used xs : Nat) : Int)]) ∧ w'.ownsRow w.heap.size 9 1 v xs.length (xs.map strV) ∧ Below w.heap.size w w') := c1
  have HUL : Hid (FrameMath.used xs ≤ 1048576) := by show _ ≤ _; omega
  have hx : xs.length ≤ 1048576 := by omega
  clear c1
  cases xs with
  | nil =>
    clear hfit hul hxl hx
    go_enter Tryd.func62, Tryd.ntmps62
    go_wp2_with fail
    refine (C1.out _).mono ?_
    rintro e w1 ⟨v1, rfl, hown1, hb1⟩
    obtain ⟨a1, c1, rfl, _, _⟩ := own_row hown1
    have HB1 : Hid (Below w.heap.size w w1) := hb1
    clear hown1 hb1
    go_wp2_with fail
    refine bodyPost_ret (results_tmp4 rfl _ _ _) rfl ?_
    exact ⟨.slice none 0 0, rfl, World.ownsRow_nil _ _ _ _, HB1.out⟩
  | cons h t =>
    have hh := hfit h (by simp)
    have HFIT : Hid (∀ r ∈ t, r.length ≤ 200000) := fun r hr => hfit r (by simp [hr])
    have C2 : Hid (∀ w, Calls Tryd.prog 72 #[.string ⟨h.toArray⟩] w fun e w' => e = .returned (.tuple #[.int .i64 ((readHead h).1 : Int), .string ⟨(readHead h).2.toArray⟩, .bool (decide ((readHead h).1 ≠ 0))]) ∧ ∃ q, w' = w.drewN q) := by
      intro w
      have := refReadHead_any ⟨h.toArray⟩ (by rw [strV_size]; exact hh) w
      rw [mk_data] at this
      exact this
    have hz := strV_size h
    have htl : t.length + 1 ≤ 1048576 := hx
    have HUS : Hid (h.length + 8 + FrameMath.used t ≤ 1048576) := HUL.out
    have HL : Hid ((h :: t).length = t.length + 1) := rfl
    generalize hus : FrameMath.used (h :: t) = us at *
    clear hfit hul hxl hx hus HUL
    by_cases hg0 : (readHead h).1 = 0
    · rw [foundOf_no h t hg0]
      rw [readHead_none h hg0, show decide (((0, []) : Nat × List UInt8).1 ≠ 0) = false from rfl] at C2
      clear hg0
      go_enter Tryd.func62, Tryd.ntmps62
      go_wp2_with fail
      refine (C1.out _).mono ?_
      rintro e w1 ⟨v1, rfl, hown1, hb1⟩
      have hs1 := srow_own hown1
      obtain ⟨a1, c1, rfl, _, _⟩ := own_row hown1
      obtain ⟨g, o, rfl, hc0⟩ := srow_cell hs1 0 (by simp)
      unfold strV at hc0
      simp only [List.getElem_cons_zero, Nat.add_zero] at hc0
      have HB1 : Hid (Below w.heap.size w w1) := hb1
      rw [HL.out]
      clear hown1 hb1 hs1
      generalize ByteArray.mk h.toArray = hb at *
      go_wp2_with fail
      refine (C2.out _).mono ?_
      rintro e w2 ⟨rfl, q, hw2⟩
      have HB2 : Hid (Below w.heap.size w w2) := below_drew_of HB1.out hw2
      clear hw2
      go_wp2_with fail
      refine bodyPost_ret (results_tmp4 rfl _ _ _) rfl ?_
      exact ⟨.slice none 0 0, rfl, World.ownsRow_nil _ _ _ _, HB2.out⟩
    · have hgl := (readHead_le h).1
      have HFO : Hid (foundOf (h :: t) = ⟨(readHead h).1, (readHead h).2, t.takeWhile short, FrameMath.used (h :: t.takeWhile short)⟩) := foundOf_yes h t hg0
      rw [decide_eq_true hg0] at C2
      have HGE : Hid ((foundOf (h :: t)).gen = (readHead h).1) := by show _ = _; rw [HFO.out]
      generalize hgn : (readHead h).1 = g1 at *
      generalize hsnn : (readHead h).2 = sn1 at *
      clear hg0 hgn hsnn HGE
      go_enter Tryd.func62, Tryd.ntmps62
      go_wp2_with fail
      refine (C1.out _).mono ?_
      rintro e w1 ⟨v1, rfl, hown1, hb1⟩
      have hs1 := srow_own hown1
      obtain ⟨a1, c1, rfl, _, _⟩ := own_row hown1
      obtain ⟨g, o, rfl, hc0⟩ := srow_cell hs1 0 (by simp)
      unfold strV at hc0
      simp only [List.getElem_cons_zero, Nat.add_zero] at hc0
      have HB1 : Hid (Below w.heap.size w w1) := hb1
      have HS1 : Hid (SRow w1 (.slice (some ⟨g, o, none⟩) (t.length + 1) c1) (h :: t)) := hs1
      rw [HL.out]
      clear hown1 hb1 hs1
      generalize hhb : ByteArray.mk h.toArray = hb at *
      clear hhb
      go_wp2_with fail
      refine (C2.out _).mono ?_
      rintro e w2 ⟨rfl, q, hw2⟩
      have hb12 : Below w1.heap.size w1 w2 := by rw [hw2]; exact below_drewN (Below.refl _ _) q
      have HB2 : Hid (Below w.heap.size w w2) := HB1.out.trans (hb12.mono HB1.out.size)
      have HS2 : Hid (SRow w2 (.slice (some ⟨g, o, none⟩) (t.length + 1) c1) (h :: t)) := srow_below HS1.out hb12
      have hc2 : w2.cell? ⟨g, o, none⟩ = some (.string hb) := (hb12.cell (p := ⟨g, o, none⟩) (block_lt_of_cell hc0)).trans hc0
      clear hw2 hb12 hc0 HB1 HS1
      go_wp2_with fail
      have HEND : Hid (∀ k, k - 1 ≤ t.length → (∀ r ∈ t.take (k - 1), short r = true) → (∀ r, t[k - 1]? = some r → short r = false) → foundOf (h :: t) = ⟨g1, sn1, t.take (k - 1), FrameMath.used (h :: t.take (k - 1))⟩) := fun k _ h1 h2 => by rw [HFO.out, while_take t (k - 1) h1 h2]
      have HN0 : Hid (FrameMath.used (h :: t.take (1 - 1)) = 8 + h.length) := by show h.length + 8 + 0 = _; omega
      go_loopw [11, 12, 13] (fun n v i wr => ∃ k : Nat, 1 ≤ k ∧ k ≤ t.length + 1 ∧ i = .int .i64 (k : Int) ∧ n = .int .i64 ((FrameMath.used (h :: t.take (k - 1)) : Nat) : Int) ∧ Hid (∀ r ∈ t.take (k - 1), short r = true) ∧
          Hid (wr.ownsRow w2.heap.size 9 1 v (t.take (k - 1)).length ((t.take (k - 1)).map strV)) ∧ Hid (Below w2.heap.size w2 wr)) (fun _ _ i _ => t.length + 1 - (intOf i).toNat)
      case atStart =>
        refine ⟨1, Nat.le_refl _, by omega, rfl, ?_, fun r hr => absurd hr (by simp), World.ownsRow_nil _ _ _ _, Below.refl _ _⟩
        rw [HN0.out, Int.natCast_add]
        rfl
      case round =>
        obtain ⟨k, hk1, hk2, rfl, rfl, HSH, HO, HB⟩ := hrel
        clear hc2 HN0
        by_cases hlt : k < t.length + 1
        · obtain ⟨g', o', hgo, hc⟩ := srow_cell (srow_below HS2.out HB.out) k (by simpa using hlt)
          obtain ⟨rfl, rfl⟩ : g = g' ∧ o = o' := by simpa using hgo
          have hkt : k - 1 < t.length := by omega
          have hxt : (h :: t)[k]'(by simpa using hlt) = t[k - 1] := by
            have : (h :: t)[k]? = t[k - 1]? := by rw [show k = (k - 1) + 1 by omega]; rfl
            rw [List.getElem?_eq_getElem (by simpa using hlt), List.getElem?_eq_getElem hkt] at this
            exact Option.some.inj this
          rw [hxt] at hc
          have hrz := strV_size t[k - 1]
          have hr2 := HFIT.out t[k - 1] (List.getElem_mem hkt)
          have hget : t[k - 1]? = some t[k - 1] := List.getElem?_eq_getElem hkt
          unfold strV at hc
          have i1 : (k : Int) < (t.length : Int) + 1 := by omega
          have HLT : Hid (k < t.length + 1 ∧ 1 ≤ k) := ⟨hlt, hk1⟩
          have etk : t.take (k + 1 - 1) = t.take (k - 1) ++ [t[k - 1]] := by
            rw [show k + 1 - 1 = (k - 1) + 1 by omega]
            exact List.take_succ_eq_append_getElem hkt
          have hun : FrameMath.used (h :: t.take (k + 1 - 1)) = FrameMath.used (h :: t.take (k - 1)) + 8 + t[k - 1].length := by
            rw [etk]
            show h.length + 8 + FrameMath.used (t.take (k - 1) ++ [t[k - 1]]) = h.length + 8 + FrameMath.used (t.take (k - 1)) + 8 + t[k - 1].length
            rw [FrameMath.used_append]
            show _ + (_ + (t[k - 1].length + 8 + 0)) = _
            omega
          have hub : FrameMath.used (h :: t.take (k + 1 - 1)) ≤ 1048576 := by
            have h1 := FrameMath.used_append (t.take (k + 1 - 1)) (t.drop (k + 1 - 1))
            rw [List.take_append_drop] at h1
            have h3 := HUS.out
            show h.length + 8 + FrameMath.used (t.take (k + 1 - 1)) ≤ _
            omega
          have hal : (t.take (k - 1)).length ≤ 1048576 := by rw [List.length_take]; omega
          by_cases hsh : t[k - 1].length ≤ 4000
          · have i2 : ((ByteArray.mk t[k - 1].toArray).size : Int) ≤ 4000 := by rw [hrz]; omega
            have HSH2 : Hid (∀ r ∈ t.take (k + 1 - 1), short r = true) := fun r hr => by
              rw [etk] at hr
              rcases List.mem_append.1 hr with hr | hr
              · exact HSH.out r hr
              · obtain rfl := List.mem_singleton.1 hr; unfold short; simpa using hsh
            have HUN : Hid (((FrameMath.used (h :: t.take (k + 1 - 1)) : Nat) : Int) = ((FrameMath.used (h :: t.take (k - 1)) : Nat) : Int) + 8 + (t[k - 1].length : Int)) := by show _ = _; rw [hun]; omega
            have HTK : Hid (t.take (k + 1 - 1) = t.take (k - 1) ++ [t[k - 1]]) := etk
            have hown := HO.out
            obtain ⟨av, cv, hvv, _, _⟩ := own_row hown
            subst hvv
            have hub2 : FrameMath.used (h :: t.take (k - 1)) ≤ 1048576 := by omega
            clear hget hxt hgo etk hun hub HO hsh
            generalize hX : t[k - 1] = r at *
            have HRX : Hid (Value.string ⟨r.toArray⟩ = strV r) := by show _ = _; rfl
            generalize ByteArray.mk r.toArray = rb at *
            clear hX
            generalize FrameMath.used (h :: t.take (k - 1)) = un at *
            generalize hacc : t.take (k - 1) = acc at *
            clear hacc
            have hsz := HB.out.size
            have hgw : g < w2.heap.size := by
              obtain ⟨g9, o9, e9, h8⟩ := srow_cell HS2.out 0 (by simp)
              obtain ⟨rfl, rfl⟩ : g = g9 ∧ o = o9 := by simpa using e9
              exact block_lt_of_cell h8
            go_wp2_with (at_builtin; refine wpList_append_own _ rfl _ _ 47 rfl w2.heap.size 9 i0 (.string ⟨#[]⟩) 1 16 Tryd.underlying47 hi hz0 hz1 hz2 rfl (by decide) _ _ _ rfl (hown.alloc _) ⟨_, 0, none⟩ 1 1 [.string rb] rfl rfl (one_new _ _ _) (one_cell _) (by unfold maxLen; omega) (by omega) (by simp; omega) ?_)
            intro v' w5 hown' hgrow hnn
            have hb5 : Below w2.heap.size w2 w5 := below_append HB.out hown hgrow
            have HB5 : Hid (Below w2.heap.size w2 w5) := hb5
            have hc5 : w5.cell? ⟨g, o + k, none⟩ = some (.string rb) := (hb5.cell (p := ⟨g, o + k, none⟩) hgw).trans ((HB.out.cell (p := ⟨g, o + k, none⟩) hgw).symm.trans hc)
            have HO5 : Hid (w5.ownsRow w2.heap.size 9 1 v' (t.take (k + 1 - 1)).length ((t.take (k + 1 - 1)).map strV)) := by
              show World.ownsRow _ _ _ _ _ _ _
              rw [HTK.out]
              refine own_cast (by simp) ?_ hown'
              rw [HRX.out]
              simp
            obtain ⟨av', cv', hv', _, _⟩ := own_row hown'
            subst hv'
            clear hown' hgrow hnn hown hb5 hc hgw hsz
            go_wp2
            exact ⟨⟨k + 1, by omega, by have := HLT.out; omega, by go_num, by rw [HUN.out], HSH2, HO5, HB5⟩, by have := HLT.out; simp [intOf]; omega⟩
          · have i2 : ¬ ((ByteArray.mk t[k - 1].toArray).size : Int) ≤ 4000 := by rw [hrz]; omega
            have i3 : (4000 : Int) < ((ByteArray.mk t[k - 1].toArray).size : Int) := by omega
            have HFI2 : Hid (foundOf (h :: t) = ⟨g1, sn1, t.take (k - 1), FrameMath.used (h :: t.take (k - 1))⟩) := HEND.out k (by omega) HSH.out (fun r hr => by
              rw [hget] at hr
              obtain rfl := Option.some.inj hr
              unfold short; simp; omega)
            obtain ⟨ln, hln⟩ : ∃ ln, ln = (t.take (k - 1)).length := ⟨_, rfl⟩
            rw [← hln] at HO
            have HLN : Hid (ln = (t.take (k - 1)).length) := hln
            clear hln
            obtain ⟨av, cv, hvv, _, _⟩ := own_row HO.out
            subst hvv
            clear hget hxt hgo etk hun hub hsh
            generalize t[k - 1] = r at *
            generalize ByteArray.mk r.toArray = rb at *
            go_wp2_with fail
            refine bodyPost_ret (results_tmp4 rfl _ _ _) rfl ?_
            rw [HFI2.out]
            exact ⟨_, rfl, own_base (own_cast HLN.out rfl HO.out) HB2.out.size, HB2.out.trans (HB.out.mono HB2.out.size)⟩
        · have HFI := HEND.out k (by omega) HSH.out (fun r hr => by rw [List.getElem?_eq_none (by omega)] at hr; cases hr)
          have HFI2 : Hid (foundOf (h :: t) = ⟨g1, sn1, t.take (k - 1), FrameMath.used (h :: t.take (k - 1))⟩) := HFI
          obtain ⟨ln, hln⟩ : ∃ ln, ln = (t.take (k - 1)).length := ⟨_, rfl⟩
          rw [← hln] at HO
          have HLN : Hid (ln = (t.take (k - 1)).length) := hln
          clear hln
          obtain ⟨av, cv, hvv, _, _⟩ := own_row HO.out
          subst hvv
          have i1 : ¬ (k : Int) < (t.length : Int) + 1 := by omega
          clear HFI
          go_wp2_with fail
          refine bodyPost_ret (results_tmp4 rfl _ _ _) rfl ?_
          rw [HFI2.out]
          exact ⟨_, rfl, own_base (own_cast HLN.out rfl HO.out) HB2.out.size, HB2.out.trans (HB.out.mono HB2.out.size)⟩
end Go.Proofs.YtahkecdlibkokaaDoor

/- The walk of the document's Open. -/
set_option linter.unusedVariables false
set_option maxRecDepth 100000
namespace Go.Proofs.YtahkecdlibkokaaDoor
open Go.RowKit
open JournalMath DiskMath
open FrameMath (scan)
open Dk (PDisk RDisk ROk DIn Chg fp fp_lt rdisk_below rdisk_chg chg_below pdisk_below pdisk_chg)

/-- How the document's Open ends when there is a journal. -/
def ROpenOk (w : World) (b : Nat) (s : JS) (snap : List UInt8) (recs : List (List UInt8)) (e : Ending) (w' : World) : Prop :=
  ∃ by_ v, e = .returned (.tuple #[.pointer (some ⟨by_, 0, none⟩), .string ⟨snap.toArray⟩, v, .int .i64 0]) ∧ RDisk w' b s.d ∧ JCells w' by_ b s.f s.g s.n ∧ w.heap.size ≤ by_ ∧ w'.ownsRow w.heap.size 9 1 v recs.length (recs.map strV) ∧ Chg (fun k => k = b) w w' ∧ ∀ g, v.ownBlock = some g → g ≠ by_
theorem ropen_end {w w5 w8 : World} {b : Nat} {d3 : DS} (f g n : Nat) {v : Value} {recs : List (List UInt8)} (snap : List UInt8) (hb5 : Below w.heap.size w w5) (hlt : b < w.heap.size) (hR : RDisk w8 b d3) (hC : Chg (fun k => k = b) w5 w8) (hown : w5.ownsRow w.heap.size 9 1 v recs.length (recs.map strV)) :
    ROpenOk w b ⟨d3, f, g, n⟩ snap recs (.returned (.tuple #[.pointer (some ⟨w8.heap.size, 0, none⟩), .string ⟨snap.toArray⟩, v, .int .i64 0])) (w8.alloc (.cells #[.pointer (some ⟨b, 0, none⟩), .int .i64 (f : Int), .int .i64 (g : Int), .int .i64 (n : Int)] 89)) := by
  have hb9 : Below w8.heap.size w8 (w8.alloc (.cells #[.pointer (some ⟨b, 0, none⟩), .int .i64 (f : Int), .int .i64 (g : Int), .int .i64 (n : Int)] 89)) := (Below.refl _ _).alloc (Nat.le_refl _) _
  have h1 := hb5.size
  have h2 := hC.size
  refine ⟨w8.heap.size, v, rfl, rdisk_below hR hb9, ⟨by simp, by simp, by simp, by simp, by simp, fun j => by rw [World.frozen?, heap_alloc_new w8 _]; simp⟩, by omega, own_below (own_chg hown hC (fun g hg e => by have e2 : g = b := e; have := (hown.lt g hg).1; omega)) hb9, ?_, fun g hg => by have := (hown.lt g hg).2; omega⟩
  exact ((chg_below (S := fun k => k = b) hb5).trans hC (fun _ _ h => h)).trans (chg_below (S := fun _ => False) hb9) (fun _ _ h => h.elim)

set_option maxHeartbeats 2000000 in
theorem refOpen_none {w : World} {b : Nat} {d : DS} (hR : RDisk w b d) (hk : Ok d) (h0 : (found (d.F 0)).gen = 0) (h1 : (found (d.F 1)).gen = 0) :
    Calls Tryd.prog 49 #[.pointer (some ⟨b, 0, none⟩)] w fun e w' => e = .returned (.tuple #[.pointer none, .string ⟨#[]⟩, .slice none 0 0, .int .i64 61]) ∧ Below w.heap.size w w' := by
  have hl : ∀ i, i < 4 → (d.F i).length ≤ 1048576 := fun i hi => by have h1 := file_le d i hi; have h2 := hk.room; have h3 := hk.most; omega
  have C0 : Hid (∀ w, Calls Tryd.prog 62 #[.string ⟨(d.F 0).toArray⟩] w fun e w' => FindOk w (found (d.F 0)) e w') := fun w => by
    have := refFound_any ⟨(d.F 0).toArray⟩ (by rw [strV_size]; exact hl 0 (by decide)) w
    rwa [mk_data] at this
  have C1 : Hid (∀ w, Calls Tryd.prog 62 #[.string ⟨(d.F 1).toArray⟩] w fun e w' => FindOk w (found (d.F 1)) e w') := fun w => by
    have := refFound_any ⟨(d.F 1).toArray⟩ (by rw [strV_size]; exact hl 1 (by decide)) w
    rwa [mk_data] at this
  have c0 := hR.bytes 0 (by decide)
  have c1 := hR.bytes 1 (by decide)
  unfold strV at c0 c1
  simp only [Nat.zero_mul, Nat.one_mul] at c0 c1
  generalize ByteArray.mk (d.F 0).toArray = b0 at *
  generalize ByteArray.mk (d.F 1).toArray = b1 at *
  generalize found (d.F 0) = x0 at *
  generalize found (d.F 1) = x1 at *
  obtain ⟨g0, sn0, rc0, n0⟩ := x0
  obtain ⟨g1, sn1, rc1, n1⟩ := x1
  simp only at h0 h1
  subst h0 h1
  have hlt := hR.lt
  clear hR hk hl
  go_enter Tryd.func49, Tryd.ntmps49
  go_wp2_with fail
  refine (C0.out _).mono ?_
  rintro e w1 ⟨v0, rfl, hown0, hb1⟩
  obtain ⟨a0, k0, rfl, _, _⟩ := own_row hown0
  have c1' : w1.cell? ⟨b, 2, none⟩ = some (.string b1) := (hb1.cell (p := ⟨b, 2, none⟩) hlt).trans c1
  have HB1 : Hid (Below w.heap.size w w1) := hb1
  clear hown0 hb1 c0 c1
  go_wp2_with fail
  refine (C1.out _).mono ?_
  rintro e w2 ⟨v1, rfl, hown1, hb2⟩
  obtain ⟨a1, k1, rfl, _, _⟩ := own_row hown1
  have HB2 : Hid (Below w.heap.size w w2) := HB1.out.trans (hb2.mono HB1.out.size)
  clear hown1 hb2
  go_wp2_with fail
  refine bodyPost_ret (results_tmp4 rfl _ _ _) rfl ?_
  exact ⟨rfl, HB2.out⟩
set_option maxHeartbeats 2000000 in
theorem refOpen_first {w : World} {b : Nat} {d : DS} (hR : RDisk w b d) (hk : Ok d) (h0 : (found (d.F 0)).gen ≠ 0) (h1 : ¬ (found (d.F 0)).gen < (found (d.F 1)).gen) :
    Calls Tryd.prog 49 #[.pointer (some ⟨b, 0, none⟩)] w fun e w' => ROpenOk w b (opened d 0 (found (d.F 0))) (found (d.F 0)).snap (found (d.F 0)).recs e w' := by
  have hl : ∀ i, i < 4 → (d.F i).length ≤ 1048576 := fun i hi => by have h1 := file_le d i hi; have h2 := hk.room; have h3 := hk.most; omega
  have C0 : Hid (∀ w, Calls Tryd.prog 62 #[.string ⟨(d.F 0).toArray⟩] w fun e w' => FindOk w (found (d.F 0)) e w') := fun w => by
    have := refFound_any ⟨(d.F 0).toArray⟩ (by rw [strV_size]; exact hl 0 (by decide)) w
    rwa [mk_data] at this
  have C1 : Hid (∀ w, Calls Tryd.prog 62 #[.string ⟨(d.F 1).toArray⟩] w fun e w' => FindOk w (found (d.F 1)) e w') := fun w => by
    have := refFound_any ⟨(d.F 1).toArray⟩ (by rw [strV_size]; exact hl 1 (by decide)) w
    rwa [mk_data] at this
  have c0 := hR.bytes 0 (by decide)
  have c1 := hR.bytes 1 (by decide)
  unfold strV at c0 c1
  simp only [Nat.zero_mul, Nat.one_mul] at c0 c1
  generalize ByteArray.mk (d.F 0).toArray = b0 at *
  generalize ByteArray.mk (d.F 1).toArray = b1 at *
  have hfl := found_le (d.F 0)
  have hfg := (found_le (d.F 1)).2.2
  unfold opened
  generalize found (d.F 0) = x0 at *
  generalize found (d.F 1) = x1 at *
  obtain ⟨g0, sn0, rc0, n0⟩ := x0
  obtain ⟨g1, sn1, rc1, n1⟩ := x1
  simp only at h0 h1 hfl hfg ⊢
  have HR : Hid (RDisk w b d) := hR
  have HOK : Hid (Ok d) := hk
  have HFL : Hid (n0 ≤ (d.F 0).length) := hfl.1
  have hrc : rc0.length ≤ 1048576 := by have h1 := file_le d 0 (by decide); have h2 := hk.room; have h3 := hk.most; omega
  have hgx : g0 ≤ 1125899906842624 := hfl.2.2
  have hlt := hR.lt
  have i1 : ¬ (g0 : Int) < (g1 : Int) := by omega
  have i2 : ((g0 : Int) == 0) = false := by rw [beq_eq_false_iff_ne]; omega
  have i3 : (n0 : Int) ≤ 1048576 := by have h1 := file_le d 0 (by decide); have h2 := hk.room; have h3 := hk.most; omega
  clear hR hk hl hfl
  go_enter Tryd.func49, Tryd.ntmps49
  go_wp2_with fail
  refine (C0.out _).mono ?_
  rintro e w1 ⟨v0, rfl, hown0, hb1⟩
  obtain ⟨a0, k0, rfl, _, _⟩ := own_row hown0
  have c1' : w1.cell? ⟨b, 2, none⟩ = some (.string b1) := (hb1.cell (p := ⟨b, 2, none⟩) hlt).trans c1
  have HB1 : Hid (Below w.heap.size w w1) := hb1
  simp only at hown0
  have HO0 : Hid (w1.ownsRow w.heap.size 9 1 (.slice a0 rc0.length k0) rc0.length (rc0.map strV)) := hown0
  clear hown0 hb1 c0 c1
  go_wp2_with fail
  refine (C1.out _).mono ?_
  rintro e w2 ⟨v1, rfl, hown1, hb2⟩
  obtain ⟨a1, k1, rfl, _, _⟩ := own_row hown1
  simp only at hown1
  have hb02 : Below w.heap.size w w2 := HB1.out.trans (hb2.mono HB1.out.size)
  have HB2 : Hid (Below w.heap.size w w2) := hb02
  have HO : Hid (w2.ownsRow w.heap.size 9 1 (.slice a0 rc0.length k0) rc0.length (rc0.map strV)) := own_below HO0.out hb2
  have HR2 : Hid (RDisk w2 b d) := rdisk_below HR.out hb02
  have C2 : Hid (Calls Tryd.prog 56 #[.pointer (some ⟨b, 0, none⟩), .int .i64 1, .int .i64 0] w2 fun e w' => e = .returned (.int .i64 0) ∧ ROk w2 b (cut d 1 0) w') := by
    have := Dk.refCut_all ((1 : Nat) : Int) ((0 : Nat) : Int) HR2.out HOK.out
    rw [aCut_file _ _ (by decide) 0 (Nat.zero_le _)] at this
    exact this
  have hok2 : Ok (cut d 1 0) := ok_cut d 1 0 HOK.out (by decide) (Nat.zero_le _)
  have C3 : Hid (∀ w6, RDisk w6 b (cut d 1 0) → Calls Tryd.prog 56 #[.pointer (some ⟨b, 0, none⟩), .int .i64 0, .int .i64 (n0 : Int)] w6 fun e w' => e = .returned (.int .i64 0) ∧ ROk w6 b (cut (cut d 1 0) 0 n0) w') := by
    intro w6 h6
    have := Dk.refCut_all ((0 : Nat) : Int) (n0 : Int) h6 hok2
    rw [aCut_file _ _ (by decide) n0 (by show n0 ≤ (d.F 0).length; exact HFL.out)] at this
    exact this
  have C4 : Hid (∀ w7, RDisk w7 b (cut (cut d 1 0) 0 n0) → Calls Tryd.prog 43 #[.pointer (some ⟨b, 0, none⟩), .int .i64 0] w7 fun e w' => e = .returned (.int .i64 0) ∧ ROk w7 b (syn (cut (cut d 1 0) 0 n0) 0) w') := by
    intro w7 h7
    have := Dk.refSync_all ((0 : Nat) : Int) h7
    rw [aSyn_file _ _ (by decide)] at this
    exact this
  clear hown1 hb2 hb02 hok2 c1'
  go_wp2_with fail
  refine C2.out.mono ?_
  rintro e w3 ⟨rfl, hr3⟩
  have HR3 : Hid (ROk w2 b (cut d 1 0) w3) := hr3
  clear hr3
  go_wp2_with fail
  refine (C3.out _ HR3.out.1).mono ?_
  rintro e w4 ⟨rfl, hr4⟩
  have HR4 : Hid (ROk w2 b (cut (cut d 1 0) 0 n0) w4) := rok_trans HR3.out hr4
  clear hr4
  go_wp2_with fail
  refine (C4.out _ HR4.out.1).mono ?_
  rintro e w5 ⟨rfl, hr5⟩
  have HR5 : Hid (ROk w2 b (syn (cut (cut d 1 0) 0 n0) 0) w5) := rok_trans HR4.out hr5
  clear hr5
  have HEND : Hid (ROpenOk w b ⟨syn (cut (cut d 1 0) 0 n0) 0, 0, g0, rc0.length⟩ sn0 rc0 (.returned (.tuple #[.pointer (some ⟨w5.heap.size, 0, none⟩), .string ⟨sn0.toArray⟩, .slice a0 rc0.length k0, .int .i64 0])) (w5.alloc (.cells #[.pointer (some ⟨b, 0, none⟩), .int .i64 0, .int .i64 (g0 : Int), .int .i64 (rc0.length : Int)] 89))) := ropen_end 0 g0 rc0.length sn0 HB2.out hlt HR5.out.1 HR5.out.2 HO.out
  go_wp2_with fail
  refine bodyPost_ret (results_tmp4 rfl _ _ _) rfl ?_
  exact HEND.out
set_option maxHeartbeats 2000000 in
theorem refOpen_second {w : World} {b : Nat} {d : DS} (hR : RDisk w b d) (hk : Ok d) (h1 : (found (d.F 0)).gen < (found (d.F 1)).gen) :
    Calls Tryd.prog 49 #[.pointer (some ⟨b, 0, none⟩)] w fun e w' => ROpenOk w b (opened d 1 (found (d.F 1))) (found (d.F 1)).snap (found (d.F 1)).recs e w' := by
  have hl : ∀ i, i < 4 → (d.F i).length ≤ 1048576 := fun i hi => by have h1 := file_le d i hi; have h2 := hk.room; have h3 := hk.most; omega
  have C0 : Hid (∀ w, Calls Tryd.prog 62 #[.string ⟨(d.F 0).toArray⟩] w fun e w' => FindOk w (found (d.F 0)) e w') := fun w => by
    have := refFound_any ⟨(d.F 0).toArray⟩ (by rw [strV_size]; exact hl 0 (by decide)) w
    rwa [mk_data] at this
  have C1 : Hid (∀ w, Calls Tryd.prog 62 #[.string ⟨(d.F 1).toArray⟩] w fun e w' => FindOk w (found (d.F 1)) e w') := fun w => by
    have := refFound_any ⟨(d.F 1).toArray⟩ (by rw [strV_size]; exact hl 1 (by decide)) w
    rwa [mk_data] at this
  have c0 := hR.bytes 0 (by decide)
  have c1 := hR.bytes 1 (by decide)
  unfold strV at c0 c1
  simp only [Nat.zero_mul, Nat.one_mul] at c0 c1
  generalize ByteArray.mk (d.F 0).toArray = b0 at *
  generalize ByteArray.mk (d.F 1).toArray = b1 at *
  have hfl := found_le (d.F 1)
  have hfg := (found_le (d.F 0)).2.2
  unfold opened
  generalize found (d.F 0) = x0 at *
  generalize found (d.F 1) = x1 at *
  obtain ⟨g0, sn0, rc0, n0⟩ := x0
  obtain ⟨g1, sn1, rc1, n1⟩ := x1
  simp only at h1 hfl hfg ⊢
  have HR : Hid (RDisk w b d) := hR
  have HOK : Hid (Ok d) := hk
  have HFL : Hid (n1 ≤ (d.F 1).length) := hfl.1
  have hrc : rc1.length ≤ 1048576 := by have h1 := file_le d 1 (by decide); have h2 := hk.room; have h3 := hk.most; omega
  have hgx : g1 ≤ 1125899906842624 := hfl.2.2
  have hlt := hR.lt
  have i1 : (g0 : Int) < (g1 : Int) := by omega
  have i2 : ((g1 : Int) == 0) = false := by rw [beq_eq_false_iff_ne]; omega
  have i3 : (n1 : Int) ≤ 1048576 := by have h1 := file_le d 1 (by decide); have h2 := hk.room; have h3 := hk.most; omega
  clear hR hk hl hfl
  go_enter Tryd.func49, Tryd.ntmps49
  go_wp2_with fail
  refine (C0.out _).mono ?_
  rintro e w1 ⟨v0, rfl, hown0, hb1⟩
  obtain ⟨a0, k0, rfl, _, _⟩ := own_row hown0
  have c1' : w1.cell? ⟨b, 2, none⟩ = some (.string b1) := (hb1.cell (p := ⟨b, 2, none⟩) hlt).trans c1
  have HB1 : Hid (Below w.heap.size w w1) := hb1
  simp only at hown0
  have HO0 : Hid (w1.ownsRow w.heap.size 9 1 (.slice a0 rc0.length k0) rc0.length (rc0.map strV)) := hown0
  clear hown0 hb1 c0 c1
  go_wp2_with fail
  refine (C1.out _).mono ?_
  rintro e w2 ⟨v1, rfl, hown1, hb2⟩
  obtain ⟨a1, k1, rfl, _, _⟩ := own_row hown1
  simp only at hown1
  have hb02 : Below w.heap.size w w2 := HB1.out.trans (hb2.mono HB1.out.size)
  have HB2 : Hid (Below w.heap.size w w2) := hb02
  have HO : Hid (w2.ownsRow w.heap.size 9 1 (.slice a1 rc1.length k1) rc1.length (rc1.map strV)) := own_base hown1 HB1.out.size
  have HR2 : Hid (RDisk w2 b d) := rdisk_below HR.out hb02
  have C2 : Hid (Calls Tryd.prog 56 #[.pointer (some ⟨b, 0, none⟩), .int .i64 0, .int .i64 0] w2 fun e w' => e = .returned (.int .i64 0) ∧ ROk w2 b (cut d 0 0) w') := by
    have := Dk.refCut_all ((0 : Nat) : Int) ((0 : Nat) : Int) HR2.out HOK.out
    rw [aCut_file _ _ (by decide) 0 (Nat.zero_le _)] at this
    exact this
  have hok2 : Ok (cut d 0 0) := ok_cut d 0 0 HOK.out (by decide) (Nat.zero_le _)
  have C3 : Hid (∀ w6, RDisk w6 b (cut d 0 0) → Calls Tryd.prog 56 #[.pointer (some ⟨b, 0, none⟩), .int .i64 1, .int .i64 (n1 : Int)] w6 fun e w' => e = .returned (.int .i64 0) ∧ ROk w6 b (cut (cut d 0 0) 1 n1) w') := by
    intro w6 h6
    have := Dk.refCut_all ((1 : Nat) : Int) (n1 : Int) h6 hok2
    rw [aCut_file _ _ (by decide) n1 (by show n1 ≤ (d.F 1).length; exact HFL.out)] at this
    exact this
  have C4 : Hid (∀ w7, RDisk w7 b (cut (cut d 0 0) 1 n1) → Calls Tryd.prog 43 #[.pointer (some ⟨b, 0, none⟩), .int .i64 1] w7 fun e w' => e = .returned (.int .i64 0) ∧ ROk w7 b (syn (cut (cut d 0 0) 1 n1) 1) w') := by
    intro w7 h7
    have := Dk.refSync_all ((1 : Nat) : Int) h7
    rw [aSyn_file _ _ (by decide)] at this
    exact this
  clear hown1 hb2 hb02 hok2 c1'
  go_wp2_with fail
  refine C2.out.mono ?_
  rintro e w3 ⟨rfl, hr3⟩
  have HR3 : Hid (ROk w2 b (cut d 0 0) w3) := hr3
  clear hr3
  go_wp2_with fail
  refine (C3.out _ HR3.out.1).mono ?_
  rintro e w4 ⟨rfl, hr4⟩
  have HR4 : Hid (ROk w2 b (cut (cut d 0 0) 1 n1) w4) := rok_trans HR3.out hr4
  clear hr4
  go_wp2_with fail
  refine (C4.out _ HR4.out.1).mono ?_
  rintro e w5 ⟨rfl, hr5⟩
  have HR5 : Hid (ROk w2 b (syn (cut (cut d 0 0) 1 n1) 1) w5) := rok_trans HR4.out hr5
  clear hr5
  have HEND : Hid (ROpenOk w b ⟨syn (cut (cut d 0 0) 1 n1) 1, 1, g1, rc1.length⟩ sn1 rc1 (.returned (.tuple #[.pointer (some ⟨w5.heap.size, 0, none⟩), .string ⟨sn1.toArray⟩, .slice a1 rc1.length k1, .int .i64 0])) (w5.alloc (.cells #[.pointer (some ⟨b, 0, none⟩), .int .i64 1, .int .i64 (g1 : Int), .int .i64 (rc1.length : Int)] 89))) := ropen_end 1 g1 rc1.length sn1 HB2.out hlt HR5.out.1 HR5.out.2 HO.out
  go_wp2_with fail
  refine bodyPost_ret (results_tmp4 rfl _ _ _) rfl ?_
  exact HEND.out
end Go.Proofs.YtahkecdlibkokaaDoor

/- The walks of the laws' own 'laid' and 'alike'. -/
set_option linter.unusedVariables false
set_option maxRecDepth 100000
namespace Go.Proofs.YtahkecdlibkokaaDoor
open Go.RowKit
open JournalMath DiskMath
open Fr (Tab tab_below tab_drewN)
open Dk (PDisk RDisk ROk DIn Chg fp fp_lt rdisk_below rdisk_chg chg_below pdisk_below pdisk_chg)

/-- The program's disk and the document's, from block B on. -/
def Duo (B : Nat) (w : World) (bd bx : Nat) (d e : DS) (w1 : World) : Prop :=
  ∃ V, PDisk w1 bd V d ∧ RDisk w1 bx e ∧ (∀ k, fp bd V k ∨ k = bx → B ≤ k) ∧ ¬ fp bd V bx ∧ Below B w w1
theorem Duo.bel {B : Nat} {w w1 : World} {bd bx : Nat} {d e : DS} (h : Duo B w bd bx d e w1) : Below B w w1 := h.choose_spec.2.2.2.2
theorem Duo.below {B : Nat} {w w1 w2 : World} {bd bx : Nat} {d e : DS} (h : Duo B w bd bx d e w1) (hb : Below w1.heap.size w1 w2) (hB : B ≤ w1.heap.size) : Duo B w bd bx d e w2 := by
  obtain ⟨V, h1, h2, h3, h4, h5⟩ := h
  exact ⟨V, pdisk_below h1 hb, rdisk_below h2 hb, h3, h4, h5.trans (hb.mono hB)⟩
theorem Duo.prog {B : Nat} {w w1 : World} {bd bx : Nat} {d d' e : DS} {f : FuncId} {args : Array Value} {r : Value} (h : Duo B w bd bx d e w1) (hB : B ≤ w1.heap.size)
    (hc : ∀ (T : Nat → Prop), DIn T w1 bd d w1 → Calls Tryd.prog f args w1 fun en w' => en = .returned r ∧ DIn T w1 bd d' w') : Calls Tryd.prog f args w1 fun en w' => en = .returned r ∧ Duo B w bd bx d' e w' ∧ w1.heap.size ≤ w'.heap.size := by
  obtain ⟨V, h1, h2, h3, h4, h5⟩ := h
  refine (hc (fun k => k < w1.heap.size ∧ ¬ fp bd V k) ⟨V, h1, fun k hk _ ht => ht.2 hk, Chg.refl _ _⟩).mono ?_
  rintro en w' ⟨k1, V2, k2, k3, k4⟩
  have hV : ∀ k, fp bd V2 k → k < w1.heap.size → fp bd V k := fun k hk hlt => Classical.byContradiction fun hn => k3 k hk hlt ⟨hlt, hn⟩
  refine ⟨k1, ⟨V2, k2, rdisk_chg h2 k4 (fun hn => hn ⟨h2.lt, h4⟩), fun k hk => ?_, fun hf => h4 (hV bx hf h2.lt), h5.trans ⟨k4.os, k4.tape, k4.output, k4.size, fun k hk => k4.block k (by omega) (fun hn => hn ⟨by omega, fun hf => by have := h3 k (Or.inl hf); omega⟩)⟩⟩, k4.size⟩
  rcases hk with hk | hk
  · by_cases hlt : k < w1.heap.size
    · exact h3 k (Or.inl (hV k hk hlt))
    · omega
  · exact h3 k (Or.inr hk)
theorem Duo.ref {B : Nat} {w w1 : World} {bd bx : Nat} {d e e' : DS} {f : FuncId} {args : Array Value} {r : Value} (h : Duo B w bd bx d e w1) (hB : B ≤ w1.heap.size)
    (hc : RDisk w1 bx e → Calls Tryd.prog f args w1 fun en w' => en = .returned r ∧ ROk w1 bx e' w') : Calls Tryd.prog f args w1 fun en w' => en = .returned r ∧ Duo B w bd bx d e' w' ∧ w1.heap.size ≤ w'.heap.size := by
  obtain ⟨V, h1, h2, h3, h4, h5⟩ := h
  refine (hc h2).mono ?_
  rintro en w' ⟨k1, k2, k3⟩
  exact ⟨k1, ⟨V, pdisk_chg h1 k3 (fun k hk e => h4 (by have e2 : k = bx := e; rw [← e2]; exact hk)), k2, h3, h4, h5.trans ⟨k3.os, k3.tape, k3.output, k3.size, fun k hk => k3.block k (by omega) (fun e => by have e2 : k = bx := e; have := h3 bx (Or.inr rfl); omega)⟩⟩, k3.size⟩

/-- The bytes of a file, safe and others. -/
structure Im where
  Safe : ByteArray
  More : ByteArray
def IRow (w : World) (v : Value) (l : List Im) : Prop := ∃ ao cap, v = .slice ao l.length cap ∧ ∀ j, (h : j < l.length) → ∃ g o, ao = some ⟨g, o, none⟩ ∧ g < w.heap.size ∧
  w.cell? ⟨g, o + j * 2, none⟩ = some (.string l[j].Safe) ∧ w.cell? ⟨g, o + j * 2 + 1, none⟩ = some (.string l[j].More)
theorem irow_below {w w' : World} {v : Value} {l : List Im} (h : IRow w v l) (hb : Below w.heap.size w w') : IRow w' v l := by
  obtain ⟨ao, cap, rfl, hrow⟩ := h
  refine ⟨ao, cap, rfl, fun j hj => ?_⟩
  obtain ⟨g, o, h1, h2, h3, h4⟩ := hrow j hj
  exact ⟨g, o, h1, by have := hb.size; omega, (hb.cell (p := ⟨g, o + j * 2, none⟩) h2).trans h3, (hb.cell (p := ⟨g, o + j * 2 + 1, none⟩) h2).trans h4⟩
/-- What laid makes of a disk with one image. -/
def lay1 (d : DS) (i : Nat) (x : Im) : DS := (aApp (aSyn (aApp d i x.Safe.data.toList).1 i).1 i x.More.data.toList).1
theorem ok_lay1 (d : DS) (i : Nat) (x : Im) (h : Ok d) : Ok (lay1 d i x) := ok_aApp _ _ _ (ok_aSyn _ _ (ok_aApp _ _ _ h))

set_option maxHeartbeats 600000 in
theorem alike_any (w : World) (bd bx : Nat) (V : Nat → Value) (d : DS) (hP : PDisk w bd V d) (hR : RDisk w bx d) (hk : Ok d) :
    Calls Tryd.prog 13 #[.pointer (some ⟨bd, 0, none⟩), .pointer (some ⟨bx, 0, none⟩)] w fun e w' => e = .returned (.bool true) ∧ Below w.heap.size w w' := by
  have C1 : Hid (∀ w1, Below w.heap.size w w1 → ∀ i : Nat, i < 4 → Calls Tryd.prog 33 #[.pointer (some ⟨bd, 0, none⟩), .int .i64 (i : Int)] w1 fun e w' => e = .returned (.tuple #[.string ⟨(d.F i).toArray⟩, .int .i64 0]) ∧ Below w.heap.size w w') := fun w1 hb i hi => (Dk.read_any w1 bd V d i hi (pdisk_below hP hb) hk).mono fun e w' ⟨k1, k2⟩ => ⟨k1, hb.trans (k2.mono hb.size)⟩
  have C2 : Hid (∀ w1, Below w.heap.size w w1 → ∀ i : Nat, i < 4 → Calls Tryd.prog 34 #[.pointer (some ⟨bx, 0, none⟩), .int .i64 (i : Int)] w1 fun e w' => e = .returned (.tuple #[.string ⟨(d.F i).toArray⟩, .int .i64 0]) ∧ Below w.heap.size w w') := fun w1 hb i hi => (Dk.refRead_any w1 bx d i hi (rdisk_below hR hb)).mono fun e w' h => by
    obtain ⟨k1, rfl⟩ := h
    exact ⟨k1, hb⟩
  have C3 : Hid (∀ w1, Below w.heap.size w w1 → ∀ i : Nat, i < 4 → Calls Tryd.prog 20 #[.pointer (some ⟨bd, 0, none⟩), .int .i64 (i : Int)] w1 fun e w' => e = .returned (.tuple #[.int .i64 ((d.F i).length : Int), .int .i64 (d.S i : Int), .int .i64 0]) ∧ Below w.heap.size w w') := fun w1 hb i hi => (Dk.size_any w1 bd V d i hi (pdisk_below hP hb)).mono fun e w' h => by
    obtain ⟨k1, q, rfl⟩ := h
    exact ⟨k1, below_drewN hb q⟩
  have C4 : Hid (∀ w1, Below w.heap.size w w1 → ∀ i : Nat, i < 4 → Calls Tryd.prog 35 #[.pointer (some ⟨bx, 0, none⟩), .int .i64 (i : Int)] w1 fun e w' => e = .returned (.tuple #[.int .i64 ((d.F i).length : Int), .int .i64 (d.S i : Int), .int .i64 0]) ∧ Below w.heap.size w w') := fun w1 hb i hi => (Dk.refSize_any w1 bx d i hi (rdisk_below hR hb)).mono fun e w' h => by
    obtain ⟨k1, q, rfl⟩ := h
    exact ⟨k1, below_drewN hb q⟩
  clear hP hR hk
  go_enter Tryd.func13, Tryd.ntmps13
  go_wp2_with fail
  go_loopw [5] (fun i wr => ∃ k : Nat, k ≤ 4 ∧ i = .int .i64 (k : Int) ∧ Hid (Below w.heap.size w wr)) (fun i _ => 4 - (intOf i).toNat)
  case atStart => exact ⟨0, by decide, rfl, Below.refl _ _⟩
  case round =>
    obtain ⟨k, hk, rfl, HB⟩ := hrel
    by_cases hlt : k < 4
    · have i1 : (k : Int) < 4 := by omega
      have HLT : Hid (k < 4) := hlt
      have C1' : Hid (∀ w1, Below w.heap.size w w1 → Calls Tryd.prog 33 #[.pointer (some ⟨bd, 0, none⟩), .int .i64 (k : Int)] w1 fun e w' => e = .returned (.tuple #[.string ⟨(d.F k).toArray⟩, .int .i64 0]) ∧ Below w.heap.size w w') := fun w1 hb => C1.out w1 hb k hlt
      have C2' : Hid (∀ w1, Below w.heap.size w w1 → Calls Tryd.prog 34 #[.pointer (some ⟨bx, 0, none⟩), .int .i64 (k : Int)] w1 fun e w' => e = .returned (.tuple #[.string ⟨(d.F k).toArray⟩, .int .i64 0]) ∧ Below w.heap.size w w') := fun w1 hb => C2.out w1 hb k hlt
      have C3' : Hid (∀ w1, Below w.heap.size w w1 → Calls Tryd.prog 20 #[.pointer (some ⟨bd, 0, none⟩), .int .i64 (k : Int)] w1 fun e w' => e = .returned (.tuple #[.int .i64 ((d.F k).length : Int), .int .i64 (d.S k : Int), .int .i64 0]) ∧ Below w.heap.size w w') := fun w1 hb => C3.out w1 hb k hlt
      have C4' : Hid (∀ w1, Below w.heap.size w w1 → Calls Tryd.prog 35 #[.pointer (some ⟨bx, 0, none⟩), .int .i64 (k : Int)] w1 fun e w' => e = .returned (.tuple #[.int .i64 ((d.F k).length : Int), .int .i64 (d.S k : Int), .int .i64 0]) ∧ Below w.heap.size w w') := fun w1 hb => C4.out w1 hb k hlt
      generalize ByteArray.mk (d.F k).toArray = s at *
      generalize (d.F k).length = n at *
      generalize d.S k = m at *
      go_wp2_with fail
      refine (C1'.out _ HB.out).mono ?_
      rintro e w1 ⟨rfl, hb1⟩
      have HB1 : Hid (Below w.heap.size w w1) := hb1
      clear hb1
      go_wp2_with fail
      refine (C2'.out _ HB1.out).mono ?_
      rintro e w2 ⟨rfl, hb2⟩
      have HB2 : Hid (Below w.heap.size w w2) := hb2
      clear hb2
      go_wp2_with fail
      refine (C3'.out _ HB2.out).mono ?_
      rintro e w3 ⟨rfl, hb3⟩
      have HB3 : Hid (Below w.heap.size w w3) := hb3
      clear hb3
      go_wp2_with fail
      refine (C4'.out _ HB3.out).mono ?_
      rintro e w4 ⟨rfl, hb4⟩
      have HB4 : Hid (Below w.heap.size w w4) := hb4
      clear hb4
      go_wp2
      exact ⟨⟨k + 1, by have := HLT.out; omega, by go_num, HB4⟩, by have := HLT.out; simp [intOf]; omega⟩
    · have i1 : ¬ (k : Int) < 4 := by omega
      go_wp2_with fail
      go_ret
      exact ⟨rfl, HB.out⟩
end Go.Proofs.YtahkecdlibkokaaDoor

/- The walk of the laws' own 'filled': it writes into its list's own block and into new ones, and nowhere else. -/
set_option linter.unusedVariables false
set_option maxRecDepth 100000
namespace Go.Proofs.YtahkecdlibkokaaDoor
open Go.RowKit
open JournalMath DiskMath
open Dk (Chg chg_below)

theorem own_zero {w : World} {B e n : Nat} {v : Value} {xs : List Value} (h : w.ownsRow B e 1 v n xs) : w.ownsRow 0 e 1 v n xs :=
  ⟨h.1, h.2.imp id fun ⟨g, cap, cur, hv, _, r⟩ => ⟨g, cap, cur, hv, Nat.zero_le _, r⟩⟩

/-- An append to an owned row: it stays where it was, or moves to a new block. -/
theorem wpList_append_more {P : Program} (w : World) {ops : Array Oper} {rest : List Oper} {o : Oper} {a : Act} {Q : Exit → Act → World → Prop} (hgd : o.guard = none) (s x : Operand) (t : TypeId)
    (ho : o.op = .call { callee := .builtin .append, args := #[s, x], argTypes := #[t, t] })
    (base : Nat) (e : TypeId) (i : TypeInfo) (z : Value) (bytes : Nat) (ht : P.underlying t = some (.slice e)) (hi : P.info? e = some i) (hz : i.zero = some z)
    (hsize : i.size = 1) (hby : i.bytes = bytes) (hzs : z.cells.size = 1)
    (v : Value) (n : Nat) (xs : List Value) (hs : a.eval s = v) (hown : w.ownsRow base e 1 v n xs)
    (ad : Addr) (m c : Nat) (news : List Value) (hx : a.eval x = .slice (some ad) m c) (hl : news.length = m * 1) (hnews : ∀ j u, news[j]? = some u → w.cell? (ad.add j) = some u) (h1 : ∀ u ∈ news, u.oneCell' = true)
    (hm : 0 < m) (h63 : n + m ≤ maxLen) (hbytes : (n + m) * bytes ≤ 140737488355328)
    (h : ∀ g' cap' w', w'.ownsRow 0 e 1 (.slice (some ⟨g', 0, none⟩) (n + m) cap') (n + m) (xs ++ news) → (v.ownBlock = some g' ∨ w.heap.size ≤ g') → Chg (fun k => v.ownBlock = some k) w w' →
      wpList P ops Q rest (a.put o.dst (.slice (some ⟨g', 0, none⟩) (n + m) cap')) w') : wpList P ops Q (o :: rest) a w := by
  have grow : ∀ v' w', w'.ownsRow w.heap.size e 1 v' (n + m) (xs ++ news) → w.grownBy w' none → wpList P ops Q rest (a.put o.dst v') w' := by
    intro v' w' ho' hg
    obtain ⟨g', cap', rfl, hb, _, _, _, _, _⟩ := own_shape ho' (by omega)
    exact h g' cap' w' (own_zero ho') (Or.inr hb) ⟨hg.os, hg.tape, hg.output, hg.size, fun k hk _ => hg.block k hk (by simp)⟩
  rcases hown.2 with ⟨hv, h0⟩ | ⟨g, cap, cur, hv, hb, hg, hnc, hcm, hcs, htake⟩
  · obtain rfl : n = 0 := by omega
    obtain rfl : xs = [] := List.eq_nil_of_length_eq_zero (by simpa using hown.1)
    rw [hv] at hs
    exact wpList_append_grows w hgd s x t ho e i z 1 bytes ht hi hz hsize hby hzs (by decide) none 0 0 [] hs (fun _ => ⟨rfl, rfl⟩) rfl (fun b hb => by cases hb) ad m c news hx hl hnews h1 (by omega) h63 hbytes grow
  · subst hv
    by_cases hr : n + m ≤ cap
    · exact wpList_append_fits w hgd s x t ho base e i 1 ht hi hsize g n cap xs hs hown ad m c news hx hl hnews h1 hr fun w' k1 k2 =>
        h g cap w' (own_zero k1) (Or.inl rfl) ⟨k2.os, k2.tape, k2.output, k2.size, fun k hk hn => k2.block k hk (fun e => hn e.symm)⟩
    · exact wpList_append_grows w hgd s x t ho e i z 1 bytes ht hi hz hsize hby hzs (by decide) (some ⟨g, 0, none⟩) n cap xs hs (fun e => by cases e) hown.1
        (fun b hb j u hu => by
          cases hb
          have hj : j < xs.length := (List.getElem?_eq_some_iff.1 hu).1
          rw [← hu]
          have hc := hown.cellAt j (by rw [hown.1] at hj; omega)
          by_cases h9 : j = 0
          · subst h9; simpa [Addr.add] using hc
          · simpa [Addr.add, h9] using hc) ad m c news hx hl hnews h1 (by omega) h63 hbytes grow

theorem two_new (w : World) (u v : Value) (t : TypeId) : ∀ (j : Nat) (x : Value), [u, v][j]? = some x → (w.alloc (.cells #[u, v] t)).cell? ((⟨w.heap.size, 0, none⟩ : Addr).add j) = some x := by
  intro j x h
  match j, h with
  | 0, h => rw [← h]; exact World.cell?_alloc_new w #[u, v] t 0
  | 1, h => rw [← h]; exact World.cell?_alloc_new w #[u, v] t 1
  | j + 2, h => simp at h
theorem two_cells (s t : ByteArray) : ∀ u ∈ [Value.string s, Value.string t], u.oneCell' = true := by
  intro u hu
  rcases List.mem_cons.1 hu with rfl | hu
  · rfl
  · obtain rfl := List.mem_singleton.1 hu
    rfl

set_option maxHeartbeats 1600000 in
theorem filled_any (w : World) (B n : Nat) (v : Value) (xs : List Value) (hown : w.ownsRow B 9 1 v n xs) (hn : n ≤ 4194304) :
    Calls Tryd.prog 50 #[v] w fun e w' => e = .returned (.tuple #[]) ∧ Chg (fun k => v.ownBlock = some k) w w' := by
  obtain ⟨i0, hi, hz0, hz1, hz2⟩ := info_parts infoS
  obtain ⟨ao, cap, rfl, _, _⟩ := own_row hown
  generalize hV : (Value.slice ao n cap).ownBlock = vb at *
  have HV : Hid ((Value.slice ao n cap).ownBlock = vb) := hV
  have HO : Hid (w.ownsRow B 9 1 (.slice ao n cap) n xs) := hown
  clear hown hV
  go_enter Tryd.func50, Tryd.ntmps50
  go_wp2
  go_loopw [2] (fun i wr => ∃ (k : Nat) (ys : List Value), k ≤ n ∧ i = .int .i64 k ∧ Hid (wr.ownsRow B 9 1 (.slice ao n cap) n ys) ∧ Hid (Chg (fun k => vb = some k) w wr)) (fun i _ => n - (intOf i).toNat)
  case atStart => exact ⟨0, xs, Nat.zero_le _, rfl, HO, Chg.refl _ _⟩
  case round =>
    obtain ⟨k, ys, hk, rfl, HR, HC⟩ := hrel
    by_cases hlt : k < n
    · obtain ⟨g, cap', hv, _, _, _, _, hc, hf⟩ := own_shape HR.out (by omega)
      obtain ⟨rfl, rfl⟩ : ao = some ⟨g, 0, none⟩ ∧ cap = cap' := by simpa using hv
      have hyl : ys.length = n := HR.out.1.trans (Nat.mul_one n)
      have hck := hc k hlt
      rw [List.getElem?_eq_getElem (by omega)] at hck
      generalize ys[k]'(by omega) = y at *
      have hfk := hf k
      have i1 : (k : Int) < (n : Int) := by omega
      clear hc hf hv
      go_wp2
      refine ⟨⟨k + 1, _, by omega, by go_num, (HR.out.stored k _).1, ?_⟩, by simp [intOf]; omega⟩
      refine HC.out.trans (Chg.mono (Dk.chg_set _ _ _) (T := fun k => vb = some k) ?_) (fun _ _ h => h)
      rintro _ _ rfl
      exact HV.out.symm
    · obtain rfl : k = n := by omega
      have hr := HR.out
      go_wp2_with (at_builtin; refine wpList_append_more _ rfl _ _ 47 rfl B 9 i0 (.string ⟨#[]⟩) 16 Tryd.underlying47 hi hz0 hz1 hz2 rfl _ _ _ rfl (hr.alloc _) ⟨_, 0, none⟩ 2 2 [.string ⟨#[111, 118, 101, 114]⟩, .string ⟨#[111, 118, 101, 114]⟩] rfl rfl (two_new _ _ _ _) (two_cells _ _) (by decide) (by unfold maxLen; omega) (by omega) ?_)
      intro g' cap' w5 hown' hat hchg
      have hat2 : Hid (vb = some g' ∨ wr.heap.size < g') := by
        rcases hat with h | h
        · exact Or.inl (HV.out.symm.trans h)
        · refine Or.inr ?_
          have h2 := World.size_alloc wr (.cells #[.string ⟨#[111, 118, 101, 114]⟩, .string ⟨#[111, 118, 101, 114]⟩] 9)
          omega
      have HC5 : Hid (Chg (fun j => vb = some j) w w5) := by
        refine (HC.out.trans (chg_below ((Below.refl _ _).alloc (Nat.le_refl _) _)) (fun _ _ h => h)).trans hchg (fun j _ h => ?_)
        exact HV.out.symm.trans h
      obtain ⟨M, hM⟩ : ∃ M, k + 2 = M + 1 := ⟨k + 1, rfl⟩
      have hc5 := hown'.cellAt M (by omega)
      have hf5 := hown'.frozenAt M
      have hl5 := hown'.1
      rw [List.getElem?_eq_getElem (by omega)] at hc5
      generalize (ys ++ [Value.string ⟨#[111, 118, 101, 114]⟩, Value.string ⟨#[111, 118, 101, 114]⟩])[M]'(by omega) = y at hc5
      rw [hM]
      have hMn : M ≤ 4194305 := by omega
      have HS : Hid (w.heap.size ≤ wr.heap.size) := HC.out.size
      clear hown' hat hchg hl5 HC hr HR HO
      go_wp2
      refine bodyPost_end (results_none rfl _ _ _) rfl ?_
      refine ⟨rfl, HC5.out.trans (Dk.chg_set _ _ _) ?_⟩
      rintro j hj rfl
      rcases hat2.out with h | h
      · exact h
      · have := HS.out
        omega
end Go.Proofs.YtahkecdlibkokaaDoor

/- The pair of the laws' scripts: both journals, both disks, and the pair's own four cells; the walk of 'stat'. -/
set_option linter.unusedVariables false
set_option maxRecDepth 100000
namespace Go.Proofs.YtahkecdlibkokaaDoor
open Go.RowKit
open JournalMath DiskMath
open Fr (Tab tab_below tab_drewN)
open Dk (PDisk RDisk ROk DIn Chg fp fp_lt rdisk_below rdisk_chg chg_below pdisk_below pdisk_chg)

/-- The pair's own cells. -/
structure PB (w : World) (pb bd bj bx by_ : Nat) : Prop where
  c0 : w.cell? ⟨pb, 0, none⟩ = some (.pointer (some ⟨bd, 0, none⟩))
  c1 : w.cell? ⟨pb, 1, none⟩ = some (.pointer (some ⟨bj, 0, none⟩))
  c2 : w.cell? ⟨pb, 2, none⟩ = some (.pointer (some ⟨bx, 0, none⟩))
  c3 : w.cell? ⟨pb, 3, none⟩ = some (.pointer (some ⟨by_, 0, none⟩))
  free : ∀ j, w.frozen? ⟨pb, j, none⟩ = false
theorem PB.block {w w' : World} {pb bd bj bx by_ : Nat} (h : PB w pb bd bj bx by_) (hb : w'.heap[pb]? = w.heap[pb]?) : PB w' pb bd bj bx by_ :=
  ⟨(World.cell?_of_block (w := w) (a := ⟨pb, 0, none⟩) hb).trans h.c0, (World.cell?_of_block (w := w) (a := ⟨pb, 1, none⟩) hb).trans h.c1, (World.cell?_of_block (w := w) (a := ⟨pb, 2, none⟩) hb).trans h.c2, (World.cell?_of_block (w := w) (a := ⟨pb, 3, none⟩) hb).trans h.c3,
    fun j => (World.frozen?_of_block (w := w) (a := ⟨pb, j, none⟩) hb).trans (h.free j)⟩

/-- The program's side is at s, the document's at t. -/
structure Both (B : Nat) (w : World) (pb bd bj bx by_ : Nat) (s t : JS) (wr : World) : Prop where
  sole : Sole B w bj bd s (fun k => k = bx ∨ k = by_ ∨ k = pb) wr
  rj : RJ wr bx by_ t
  pair : PB wr pb bd bj bx by_
  nx : pb ≠ bx
  ny : pb ≠ by_
  lx : B ≤ bx
  ly : B ≤ by_
  lp : B ≤ pb
  lw : B ≤ wr.heap.size

theorem Both.prog {B : Nat} {w wr : World} {pb bd bj bx by_ : Nat} {s t s' : JS} {f : FuncId} {args : Array Value} {r : Value} (h : Both B w pb bd bj bx by_ s t wr) (hT : Tab w) (hBw : w.heap.size ≤ B)
    (hc : ∀ (T : Nat → Prop), JIn T wr bj bd s wr → T 0 → Tab wr → Calls Tryd.prog f args wr fun e w' => e = .returned r ∧ JIn T wr bj bd s' w') :
    Calls Tryd.prog f args wr fun e w' => e = .returned r ∧ Both B w pb bd bj bx by_ s' t w' := by
  refine (h.sole.call h.lw hT hBw hc).mono ?_
  rintro e w' ⟨k1, k2, k3, k4⟩
  have hb1 := h.sole.bel
  have hb2 := k2.bel
  have hchg : Chg (fun k => ¬ (k = bx ∨ k = by_ ∨ k = pb)) wr w' := ⟨hb2.os.trans hb1.os.symm, hb2.tape.trans hb1.tape.symm, hb2.output.trans hb1.output.symm, k4, fun k _ hn => k3 k (Classical.byContradiction hn)⟩
  exact ⟨k1, k2, ⟨rdisk_chg h.rj.1 hchg (fun hn => hn (Or.inl rfl)), h.rj.2.1.block (k3 by_ (Or.inr (Or.inl rfl))) k4, h.rj.2.2⟩, h.pair.block (k3 pb (Or.inr (Or.inr rfl))), h.nx, h.ny, h.lx, h.ly, h.lp, Nat.le_trans h.lw k4⟩

theorem Both.ref {B : Nat} {w wr w' : World} {pb bd bj bx by_ : Nat} {s t t' : JS} (h : Both B w pb bd bj bx by_ s t wr) (hr : RJOk wr bx by_ t' w') : Both B w pb bd bj bx by_ s t' w' := by
  have hp : pb < wr.heap.size := block_lt_of_cell h.pair.c0
  have hx : bx < wr.heap.size := h.rj.1.lt
  have hy : by_ < wr.heap.size := h.rj.2.1.lt
  have hz := hr.2.2.size
  refine ⟨h.sole.own h.lw (hr.2.2.mono (T := fun k => k = bx ∨ k = by_ ∨ k = pb) (fun k _ hk => hk.elim Or.inl (fun e => Or.inr (Or.inl e)))) ?_ (fun k hk => ⟨Or.inl hk, ?_⟩), hr.rj h.rj.2.2, h.pair.block (hr.2.2.block pb hp ?_), h.nx, h.ny, h.lx, h.ly, h.lp, Nat.le_trans h.lw hz⟩
  · rintro k (rfl | rfl | rfl)
    · exact h.lx
    · exact h.ly
    · exact h.lp
  · rcases hk with rfl | rfl | rfl <;> omega
  · rintro (e | e)
    · exact h.nx e
    · exact h.ny e
theorem Both.below {B : Nat} {w wr w' : World} {pb bd bj bx by_ : Nat} {s t : JS} (h : Both B w pb bd bj bx by_ s t wr) (hb : Below wr.heap.size wr w') : Both B w pb bd bj bx by_ s t w' :=
  h.ref (RJOk.below (RJOk.self h.rj) hb)

set_option maxHeartbeats 1000000 in
theorem statp_any {B : Nat} {w wr : World} {pb bd bj bx by_ : Nat} {s : JS} (h : Both B w pb bd bj bx by_ s s wr) (hk : JOk s) (hT : Tab w) (hBw : w.heap.size ≤ B) :
    Calls Tryd.prog 12 #[.pointer (some ⟨pb, 0, none⟩)] wr fun e w' => e = .returned (.bool true) ∧ Both B w pb bd bj bx by_ s s w' := by
  have C1 : Hid (Calls Tryd.prog 21 #[.pointer (some ⟨bj, 0, none⟩)] wr fun e w' => e = .returned (.tuple #[.int .i64 (s.g : Int), .int .i64 (s.n : Int), .int .i64 ((s.d.F s.f).length : Int)]) ∧ w'.cell? ⟨pb, 3, none⟩ = some (.pointer (some ⟨by_, 0, none⟩)) ∧ Hid (Both B w pb bd bj bx by_ s s w')) :=
    (h.prog hT hBw (fun T hJ hG hT' => stat_any hJ hk hG hT')).mono fun e w' ⟨k1, k2⟩ => ⟨k1, k2.pair.c3, k2⟩
  have C2 : Hid (∀ w2, Hid (Both B w pb bd bj bx by_ s s w2) → Calls Tryd.prog 32 #[.pointer (some ⟨by_, 0, none⟩)] w2 fun e w' => e = .returned (.tuple #[.int .i64 (s.g : Int), .int .i64 (s.n : Int), .int .i64 ((s.d.F s.f).length : Int)]) ∧ Hid (Both B w pb bd bj bx by_ s s w')) :=
    fun w2 h2 => (refStat_any h2.out.rj hk).mono fun e w' ⟨k1, q, k2⟩ => ⟨k1, by subst k2; exact h2.out.below (below_drewN (Below.refl _ _) q)⟩
  have c1 := h.pair.c1
  generalize (s.d.F s.f).length = n at *
  clear h
  go_enter Tryd.func12, Tryd.ntmps12
  go_wp2_with (first | (go_at_call 21; refine C1.out.mono ?_; rintro e w2 ⟨rfl, m3, HB2⟩) | (go_at_call 32; refine (C2.out _ (by assumption)).mono ?_; rintro e w3 ⟨rfl, HB3⟩))
  go_ret
  exact ⟨rfl, (by assumption : Hid _).out⟩
end Go.Proofs.YtahkecdlibkokaaDoor

/- What stands within the laws' 'opens': before Open, behind both Opens, behind the writes. -/
set_option linter.unusedVariables false
set_option maxRecDepth 100000
namespace Go.Proofs.YtahkecdlibkokaaDoor
open Go.RowKit
open JournalMath DiskMath
open Fr (Tab tab_below tab_drewN)
open Dk (PDisk RDisk ROk DIn Chg fp fp_lt rdisk_below rdisk_chg chg_below pdisk_below pdisk_chg)

/-- The pair's cells, whatever its journals are. -/
structure PH (w : World) (pb bd bx : Nat) : Prop where
  c0 : w.cell? ⟨pb, 0, none⟩ = some (.pointer (some ⟨bd, 0, none⟩))
  c1 : ∃ u, w.cell? ⟨pb, 1, none⟩ = some u
  c2 : w.cell? ⟨pb, 2, none⟩ = some (.pointer (some ⟨bx, 0, none⟩))
  c3 : ∃ u, w.cell? ⟨pb, 3, none⟩ = some u
  free : ∀ j, w.frozen? ⟨pb, j, none⟩ = false
theorem PH.block {w w' : World} {pb bd bx : Nat} (h : PH w pb bd bx) (hb : w'.heap[pb]? = w.heap[pb]?) : PH w' pb bd bx := by
  obtain ⟨c0, ⟨u1, c1⟩, c2, ⟨u3, c3⟩, fr⟩ := h
  exact ⟨(World.cell?_of_block (w := w) (a := ⟨pb, 0, none⟩) hb).trans c0, ⟨u1, (World.cell?_of_block (w := w) (a := ⟨pb, 1, none⟩) hb).trans c1⟩, (World.cell?_of_block (w := w) (a := ⟨pb, 2, none⟩) hb).trans c2, ⟨u3, (World.cell?_of_block (w := w) (a := ⟨pb, 3, none⟩) hb).trans c3⟩,
    fun j => (World.frozen?_of_block (w := w) (a := ⟨pb, j, none⟩) hb).trans (fr j)⟩
theorem PB.half {w : World} {pb bd bj bx by_ : Nat} (h : PB w pb bd bj bx by_) : PH w pb bd bx := ⟨h.c0, ⟨_, h.c1⟩, h.c2, ⟨_, h.c3⟩, h.free⟩

/-- Both disks and the pair's cells. -/
structure Half (B : Nat) (w : World) (pb bd bx : Nat) (V : Nat → Value) (d : DS) (wr : World) : Prop where
  pd : PDisk wr bd V d
  rd : RDisk wr bx d
  pair : PH wr pb bd bx
  fl : ∀ k, fp bd V k → B ≤ k
  fx : ¬ fp bd V bx
  fpb : ¬ fp bd V pb
  nx : pb ≠ bx
  lx : B ≤ bx
  lp : B ≤ pb
  lw : B ≤ wr.heap.size
  bel : Below B w wr

/-- Behind both Opens. -/
structure Mid (B : Nat) (w : World) (pb bd jb bx by_ : Nat) (s : JS) (v v2 : Value) (recs : List (List UInt8)) (wr : World) : Prop where
  sole : Sole B w jb bd s (fun k => k = bx ∨ k = by_ ∨ k = pb ∨ v.ownBlock = some k) wr
  rj : RJ wr bx by_ s
  pair : PH wr pb bd bx
  nx : pb ≠ bx
  ny : pb ≠ by_
  lx : B ≤ bx
  ly : B ≤ by_
  lp : B ≤ pb
  lw : B ≤ wr.heap.size
  vb : ∀ k, v.ownBlock = some k → B ≤ k ∧ k ≠ bx ∧ k ≠ by_ ∧ k ≠ pb
  own : wr.ownsRow B 9 1 v recs.length (recs.map strV)
  own2 : wr.ownsRow B 9 1 v2 recs.length (recs.map strV)

theorem own_from {w : World} {B C e n : Nat} {v : Value} {xs : List Value} (h : w.ownsRow B e 1 v n xs) (hC : C ≤ B) : w.ownsRow C e 1 v n xs :=
  ⟨h.1, h.2.imp id fun ⟨g, cap, cur, hv, hb, r⟩ => ⟨g, cap, cur, hv, Nat.le_trans hC hb, r⟩⟩

theorem Mid.below {B : Nat} {w wr w' : World} {pb bd jb bx by_ : Nat} {s : JS} {v v2 : Value} {recs : List (List UInt8)} (h : Mid B w pb bd jb bx by_ s v v2 recs wr) (hb : Below wr.heap.size wr w') : Mid B w pb bd jb bx by_ s v v2 recs w' := by
  have hp : pb < wr.heap.size := block_lt_of_cell h.pair.c0
  have hx : bx < wr.heap.size := h.rj.1.lt
  have hy : by_ < wr.heap.size := h.rj.2.1.lt
  have hz := hb.size
  refine ⟨h.sole.own h.lw (chg_below hb) ?_ (fun k hk => ⟨Or.inl hk, ?_⟩), h.rj.below hb, h.pair.block (hb.block _ hp), h.nx, h.ny, h.lx, h.ly, h.lp, Nat.le_trans h.lw hz, h.vb, own_below h.own hb, own_below h.own2 hb⟩
  · rintro k (rfl | rfl | rfl | hk)
    · exact h.lx
    · exact h.ly
    · exact h.lp
    · exact (h.vb k hk).1
  · rcases hk with rfl | rfl | rfl | hk
    · omega
    · omega
    · omega
    · have := (h.own.lt k hk).2; omega

/-- Behind 'filled', and the two writes into the pair. -/
theorem Mid.fin {B : Nat} {w wr w' : World} {pb bd jb bx by_ : Nat} {s : JS} {v v2 : Value} {recs : List (List UInt8)} (h : Mid B w pb bd jb bx by_ s v v2 recs wr) (hc : Chg (fun k => v.ownBlock = some k) wr w') :
    PH w' pb bd bx ∧ Both B w pb bd jb bx by_ s s ((w'.setCell ⟨pb, 1, none⟩ (.pointer (some ⟨jb, 0, none⟩))).setCell ⟨pb, 3, none⟩ (.pointer (some ⟨by_, 0, none⟩))) := by
  have hp : pb < wr.heap.size := block_lt_of_cell h.pair.c0
  have hx : bx < wr.heap.size := h.rj.1.lt
  have hy : by_ < wr.heap.size := h.rj.2.1.lt
  have hpv : ¬ v.ownBlock = some pb := fun e => (h.vb _ e).2.2.2 rfl
  have hxv : ¬ v.ownBlock = some bx := fun e => (h.vb _ e).2.1 rfl
  have hyv : ¬ v.ownBlock = some by_ := fun e => (h.vb _ e).2.2.1 rfl
  have hP := h.pair.block (hc.block pb hp hpv)
  refine ⟨hP, ?_⟩
  generalize hW : (w'.setCell ⟨pb, 1, none⟩ (.pointer (some ⟨jb, 0, none⟩))).setCell ⟨pb, 3, none⟩ (.pointer (some ⟨by_, 0, none⟩)) = W
  have hc1 : Chg (fun k => k = pb) w' W := by
    subst hW
    exact (Dk.chg_set w' ⟨pb, 1, none⟩ _).trans (Dk.chg_set _ ⟨pb, 3, none⟩ _) (fun _ _ h => h)
  have hc2 : Chg (fun k => k = bx ∨ k = by_ ∨ k = pb ∨ v.ownBlock = some k) wr W := (hc.mono (fun k _ hk => Or.inr (Or.inr (Or.inr hk)))).trans hc1 (fun k _ hk => Or.inr (Or.inr (Or.inl hk)))
  have hc3 : Chg (fun k => k = pb ∨ v.ownBlock = some k) wr W := (hc.mono (fun k _ hk => Or.inr hk)).trans hc1 (fun k _ hk => Or.inl hk)
  have hz := hc2.size
  refine ⟨h.sole.own h.lw hc2 ?_ (fun k hk => ⟨Or.inl ?_, ?_⟩), ⟨rdisk_chg h.rj.1 hc3 (fun e => e.elim (fun e => h.nx e.symm) hxv), h.rj.2.1.block (hc3.block _ hy (fun e => e.elim (fun e => h.ny (by have e2 : by_ = pb := e; exact e2.symm)) hyv)) hz, h.rj.2.2⟩, ?_, h.nx, h.ny, h.lx, h.ly, h.lp, Nat.le_trans h.lw hz⟩
  · rintro k (rfl | rfl | rfl | hk)
    · exact h.lx
    · exact h.ly
    · exact h.lp
    · exact (h.vb k hk).1
  · rcases hk with e | e | e
    · exact Or.inl e
    · exact Or.inr (Or.inl e)
    · exact Or.inr (Or.inr (Or.inl e))
  · rcases hk with rfl | rfl | rfl <;> omega
  · obtain ⟨c0, ⟨u1, c1⟩, c2, ⟨u3, c3⟩, fr⟩ := hP
    subst hW
    refine ⟨?_, ?_, ?_, ?_, fun j => ?_⟩
    · rw [World.cell?_setCell_other _ _ _ _ (by simp), World.cell?_setCell_other _ _ _ _ (by simp)]; exact c0
    · rw [World.cell?_setCell_other _ _ _ _ (by simp)]; exact World.cell?_setCell_same w' _ _ c1
    · rw [World.cell?_setCell_other _ _ _ _ (by simp), World.cell?_setCell_other _ _ _ _ (by simp)]; exact c2
    · exact World.cell?_setCell_same _ _ _ (by rw [World.cell?_setCell_other _ _ _ _ (by simp)]; exact c3)
    · rw [World.frozen?_setCell, World.frozen?_setCell]; exact fr j

/-- The program's Open. -/
theorem Half.first {B : Nat} {w wr w1 : World} {pb bd bx : Nat} {V : Nat → Value} {d : DS} {s : JS} {snap : List UInt8} {recs : List (List UInt8)} {e : Ending} (h : Half B w pb bd bx V d wr)
    (ho : OpenOk (fun k => k < wr.heap.size ∧ ¬ fp bd V k) wr wr bd s snap recs e w1) :
    ∃ jb v, e = .returned (.tuple #[.pointer (some ⟨jb, 0, none⟩), .string ⟨snap.toArray⟩, v, .int .i64 0]) ∧ Sole B w jb bd s (fun k => k = bx ∨ k = pb ∨ v.ownBlock = some k) w1 ∧ RDisk w1 bx d ∧ PH w1 pb bd bx ∧ wr.heap.size ≤ w1.heap.size ∧ w1.ownsRow wr.heap.size 9 1 v recs.length (recs.map strV) := by
  obtain ⟨jb, v, V2, k1, k2, k3, k4, k5, k6, k7, k8⟩ := ho
  have hp : pb < wr.heap.size := block_lt_of_cell h.pair.c0
  have hx : bx < wr.heap.size := h.rd.lt
  have hz := k6.size
  have hlw := h.lw
  have hV : ∀ k, fp bd V2 k ∨ k = jb → k < wr.heap.size → fp bd V k := fun k hk hlt => Classical.byContradiction fun hn => k4 k hk hlt ⟨hlt, hn⟩
  refine ⟨jb, v, k1, ⟨V2, k2, k3, k5, fun k hk => ?_, fun k hk => ⟨?_, fun hf => ?_⟩, h.bel.trans ⟨k6.os, k6.tape, k6.output, k6.size, fun k hk => k6.block k (by omega) (fun hn => hn ⟨by omega, fun hf => by have := h.fl k hf; omega⟩)⟩⟩, rdisk_chg h.rd k6 (fun hn => hn ⟨hx, h.fx⟩), h.pair.block (k6.block pb hp (fun hn => hn ⟨hp, h.fpb⟩)), hz, k7⟩
  · by_cases hlt : k < wr.heap.size
    · exact h.fl k (hV k hk hlt)
    · omega
  · rcases hk with rfl | rfl | hk
    · omega
    · omega
    · exact (k7.lt k hk).2
  · rcases hk with rfl | rfl | hk
    · exact h.fx (hV _ hf hx)
    · exact h.fpb (hV _ hf hp)
    · rcases hf with hf | hf
      · exact (k8 k hk).1 hf
      · exact (k8 k hk).2 hf

/-- The document's Open behind it. -/
theorem Half.second {B : Nat} {w wr w1 w2 : World} {pb bd bx jb : Nat} {V : Nat → Value} {d : DS} {s : JS} {snap : List UInt8} {recs : List (List UInt8)} {v : Value} {e : Ending} (h : Half B w pb bd bx V d wr)
    (hs : Sole B w jb bd s (fun k => k = bx ∨ k = pb ∨ v.ownBlock = some k) w1) (hp1 : PH w1 pb bd bx) (hz1 : wr.heap.size ≤ w1.heap.size) (hv : w1.ownsRow wr.heap.size 9 1 v recs.length (recs.map strV)) (ho : ROpenOk w1 bx s snap recs e w2) :
    ∃ by_ v2, e = .returned (.tuple #[.pointer (some ⟨by_, 0, none⟩), .string ⟨snap.toArray⟩, v2, .int .i64 0]) ∧ Mid B w pb bd jb bx by_ s v v2 recs w2 := by
  obtain ⟨by_, v2, k1, k2, k3, k4, k5, k6, k7⟩ := ho
  have hp : pb < wr.heap.size := block_lt_of_cell h.pair.c0
  have hx : bx < wr.heap.size := h.rd.lt
  have hlw := h.lw
  have hz := k6.size
  have hy := k3.lt
  have hlx := h.lx
  have hlp := h.lp
  have hvb : ∀ k, v.ownBlock = some k → wr.heap.size ≤ k ∧ k < w1.heap.size := fun k hk => hv.lt k hk
  refine ⟨by_, v2, k1, hs.own (by omega) (k6.mono (T := fun k => k = bx ∨ k = pb ∨ v.ownBlock = some k) (fun k _ hk => Or.inl hk)) ?_ (fun k hk => ?_), ⟨k2, k3, by omega⟩, hp1.block (k6.block pb (by omega) h.nx), h.nx, by omega, hlx, by omega, hlp, by omega, fun k hk => ?_, own_from (own_chg hv k6 (fun g hg e => ?_)) hlw, own_from k5 (by omega)⟩
  · rintro k (rfl | rfl | hk)
    · exact hlx
    · exact hlp
    · have := hvb k hk; omega
  · rcases hk with rfl | rfl | rfl | hk
    · exact ⟨Or.inl (Or.inl rfl), by omega⟩
    · exact ⟨Or.inr k4, hy⟩
    · exact ⟨Or.inl (Or.inr (Or.inl rfl)), by omega⟩
    · exact ⟨Or.inl (Or.inr (Or.inr hk)), by have := hvb k hk; omega⟩
  · have := hvb k hk
    exact ⟨by omega, by omega, by omega, by omega⟩
  · have e2 : g = bx := e
    have := hvb g hg
    omega
end Go.Proofs.YtahkecdlibkokaaDoor

/- The walk of the laws' 'opens' where there is a journal. -/
set_option linter.unusedVariables false
set_option maxRecDepth 100000
namespace Go.Proofs.YtahkecdlibkokaaDoor
open Go.RowKit
open JournalMath DiskMath
open Fr (Tab tab_below tab_drewN)
open Dk (PDisk RDisk ROk DIn Chg fp fp_lt rdisk_below rdisk_chg chg_below pdisk_below pdisk_chg)

set_option maxHeartbeats 4000000 in
theorem opens_ok {B : Nat} {w wr : World} {pb bd bx : Nat} {V : Nat → Value} {d : DS} {s : JS} {snap : List UInt8} {recs : List (List UInt8)} (h : Half B w pb bd bx V d wr) (hs : JOk s) (hrl : recs.length ≤ 4194304) (hT : Tab w) (hBw : w.heap.size ≤ B)
    (hO : Calls Tryd.prog 18 #[.pointer (some ⟨bd, 0, none⟩)] wr fun e w' => OpenOk (fun k => k < wr.heap.size ∧ ¬ fp bd V k) wr wr bd s snap recs e w')
    (hR : ∀ w1, RDisk w1 bx d → Calls Tryd.prog 49 #[.pointer (some ⟨bx, 0, none⟩)] w1 fun e w' => ROpenOk w1 bx s snap recs e w') :
    Calls Tryd.prog 19 #[.pointer (some ⟨pb, 0, none⟩)] wr fun e w' => e = .returned (.bool true) ∧ ∃ jb by_, Both B w pb bd jb bx by_ s s w' := by
  have C1 : Hid (Calls Tryd.prog 18 #[.pointer (some ⟨bd, 0, none⟩)] wr fun e w' => ∃ jb v, e = .returned (.tuple #[.pointer (some ⟨jb, 0, none⟩), .string ⟨snap.toArray⟩, v, .int .i64 0]) ∧ w'.cell? ⟨pb, 2, none⟩ = some (.pointer (some ⟨bx, 0, none⟩)) ∧
      Hid (Sole B w jb bd s (fun k => k = bx ∨ k = pb ∨ v.ownBlock = some k) w' ∧ RDisk w' bx d ∧ PH w' pb bd bx ∧ wr.heap.size ≤ w'.heap.size ∧ w'.ownsRow wr.heap.size 9 1 v recs.length (recs.map strV))) := hO.mono fun e w' k => by
    obtain ⟨jb, v, k1, k2⟩ := h.first k
    exact ⟨jb, v, k1, k2.2.2.1.c2, k2⟩
  have C2 : Hid (∀ jb v w1, Hid (Sole B w jb bd s (fun k => k = bx ∨ k = pb ∨ v.ownBlock = some k) w1 ∧ RDisk w1 bx d ∧ PH w1 pb bd bx ∧ wr.heap.size ≤ w1.heap.size ∧ w1.ownsRow wr.heap.size 9 1 v recs.length (recs.map strV)) →
      Calls Tryd.prog 49 #[.pointer (some ⟨bx, 0, none⟩)] w1 fun e w' => ∃ by_ v2, e = .returned (.tuple #[.pointer (some ⟨by_, 0, none⟩), .string ⟨snap.toArray⟩, v2, .int .i64 0]) ∧ Hid (Mid B w pb bd jb bx by_ s v v2 recs w')) := fun jb v w1 hA =>
    (hR w1 hA.out.2.1).mono fun e w' k => h.second hA.out.1 hA.out.2.2.1 hA.out.2.2.2.1 hA.out.2.2.2.2 k
  have C3 : Hid (∀ jb by_ v v2 w2, Hid (Mid B w pb bd jb bx by_ s v v2 recs w2) → Calls Tryd.prog 23 #[v, v2] w2.drew fun e w' => e = .returned (.bool true) ∧ w'.cell? ⟨pb, 0, none⟩ = some (.pointer (some ⟨bd, 0, none⟩)) ∧ w'.cell? ⟨pb, 2, none⟩ = some (.pointer (some ⟨bx, 0, none⟩)) ∧ Hid (Mid B w pb bd jb bx by_ s v v2 recs w')) := fun jb by_ v v2 w2 hM =>
    (same_true recs (by omega) v v2 w2.drew (srow_own hM.out.own.drew) (srow_own hM.out.own2.drew)).mono fun e w' ⟨k1, q, k2⟩ => by
      subst k2
      have := hM.out.below (below_drewN ((Below.refl _ _).drew) q)
      exact ⟨k1, this.pair.c0, this.pair.c2, this⟩
  have C4 : Hid (∀ jb by_ v v2 w2, Hid (Mid B w pb bd jb bx by_ s v v2 recs w2) → Calls Tryd.prog 13 #[.pointer (some ⟨bd, 0, none⟩), .pointer (some ⟨bx, 0, none⟩)] w2 fun e w' => e = .returned (.bool true) ∧ w'.cell? ⟨pb, 0, none⟩ = some (.pointer (some ⟨bd, 0, none⟩)) ∧ w'.cell? ⟨pb, 2, none⟩ = some (.pointer (some ⟨bx, 0, none⟩)) ∧ Hid (Mid B w pb bd jb bx by_ s v v2 recs w')) := fun jb by_ v v2 w2 hM => by
    obtain ⟨V2, hP, _⟩ := hM.out.sole
    exact (alike_any w2 bd bx V2 s.d hP hM.out.rj.1 hs.ok).mono fun e w' ⟨k1, k2⟩ => ⟨k1, (hM.out.below k2).pair.c0, (hM.out.below k2).pair.c2, hM.out.below k2⟩
  have C5 : Hid (∀ jb by_ v v2 w2, Hid (Mid B w pb bd jb bx by_ s v v2 recs w2) → Calls Tryd.prog 50 #[v] w2 fun e w' => e = .returned (.tuple #[]) ∧ (∃ u, w'.cell? ⟨pb, 1, none⟩ = some u) ∧ (∃ u, w'.cell? ⟨pb, 3, none⟩ = some u) ∧ w'.frozen? ⟨pb, 1, none⟩ = false ∧ w'.frozen? ⟨pb, 3, none⟩ = false ∧
      Hid (Both B w pb bd jb bx by_ s s ((w'.setCell ⟨pb, 1, none⟩ (.pointer (some ⟨jb, 0, none⟩))).setCell ⟨pb, 3, none⟩ (.pointer (some ⟨by_, 0, none⟩))))) := fun jb by_ v v2 w2 hM =>
    (filled_any w2 B _ v _ hM.out.own hrl).mono fun e w' ⟨k1, k2⟩ => by
      obtain ⟨p, b⟩ := hM.out.fin k2
      exact ⟨k1, p.c1, p.c3, p.free 1, p.free 3, b⟩
  have C6 : Hid (∀ jb by_ w2, Hid (Both B w pb bd jb bx by_ s s w2) → Calls Tryd.prog 12 #[.pointer (some ⟨pb, 0, none⟩)] w2 fun e w' => e = .returned (.bool true) ∧ Hid (Both B w pb bd jb bx by_ s s w')) := fun jb by_ w2 hB => statp_any hB.out hs hT hBw
  have c0 := h.pair.c0
  clear hO hR h
  generalize (ByteArray.mk snap.toArray) = sn at *
  go_enter Tryd.func19, Tryd.ntmps19
  go_wp2_with (first | (go_at_call 18; refine C1.out.mono ?_; rintro e w1 ⟨jb, v, rfl, m2, HA⟩) | (go_at_call 49; refine (C2.out _ _ _ (by assumption)).mono ?_; rintro e w2 ⟨by_, v2, rfl, HM⟩))
  have c0' := HM.out.pair.c0
  have c2' := HM.out.pair.c2
  clear C1 C2 HA
  go_region_held3 (fun w' => w'.cell? ⟨pb, 0, none⟩ = some (.pointer (some ⟨bd, 0, none⟩)) ∧ w'.cell? ⟨pb, 2, none⟩ = some (.pointer (some ⟨bx, 0, none⟩))) (go_keep) (first | (go_at_call 23; refine (C3.out _ _ _ _ _ HM).mono ?_; rintro e w3 ⟨rfl, m0, m2, HM3⟩) | (go_at_call 13; refine (C4.out _ _ _ _ _ HM3).mono ?_; rintro e w4 ⟨rfl, n0, n2, HM4⟩))
  clear C3 C4
  go_wp2_with (first | (go_at_call 50; refine (C5.out _ _ _ _ _ HM4).mono ?_; rintro e w5 ⟨rfl, ⟨u1, p1⟩, ⟨u3, p3⟩, f1, f3, HB⟩) | (go_at_call 12; refine (C6.out _ _ _ HB).mono ?_; rintro e w6 ⟨rfl, HB6⟩))
  go_ret
  exact ⟨rfl, _, _, HB6.out⟩
end Go.Proofs.YtahkecdlibkokaaDoor
