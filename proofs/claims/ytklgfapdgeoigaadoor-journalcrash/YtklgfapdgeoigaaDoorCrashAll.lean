/- The texts AMath, PlayM, SoleW, PlaysW, ShortW, TwoDW, LossW, one behind the other. -/
import Derived.Test.YtklgfapdgeoigaaDoorJMath2
import Derived.Test.YtklgfapdgeoigaaDoorSaysW
import Derived.Test.YtklgfapdgeoigaaDoorBegunW
import Derived.BigRegion
import Derived.RegionTactic
import Derived.Test.YtklgfapdgeoigaaDoorDkCopyAllW
/- Open of what Open left: the mathematics. -/
set_option linter.unusedVariables false
namespace JournalMath
open DiskMath (DS upd Ok app syn cut crash)
open FrameMath (scan wrap wraps fits)

theorem while_again (t : List (List UInt8)) : (t.takeWhile short).takeWhile short = t.takeWhile short := by
  induction t with
  | nil => rfl
  | cons x t ih =>
    by_cases h : short x = true
    · rw [List.takeWhile_cons, if_pos h, List.takeWhile_cons, if_pos h, ih]
    · rw [List.takeWhile_cons, if_neg h]; rfl
theorem wraps_prefix (xs ys : List (List UInt8)) : (wraps (xs ++ ys)).take (FrameMath.used xs) = wraps xs := by
  rw [FrameMath.wraps_append]
  exact List.take_left' (FrameMath.wraps_length xs)
/-- What was found stands by itself. -/
theorem found_again (l : List UInt8) (h : (found l).gen ≠ 0) : found (l.take (found l).size) = found l := by
  unfold found at h ⊢
  have hst := FrameMath.scan_stands l
  have hws := FrameMath.wraps_scan l
  have hul := FrameMath.used_le l
  generalize hx : scan l = xs at *
  cases xs with
  | nil => exact absurd rfl h
  | cons hd t =>
    by_cases h0 : (readHead hd).1 = 0
    · rw [foundOf_no hd t h0] at h; exact absurd rfl h
    · rw [foundOf_yes hd t h0]
      simp only
      have hsplit : hd :: t = (hd :: t.takeWhile short) ++ t.dropWhile short := by rw [List.cons_append, List.takeWhile_append_dropWhile]
      have hu : FrameMath.used (hd :: t.takeWhile short) ≤ FrameMath.used (hd :: t) := by
        have := FrameMath.used_append (hd :: t.takeWhile short) (t.dropWhile short)
        rw [← hsplit] at this
        omega
      have e : l.take (FrameMath.used (hd :: t.takeWhile short)) = wraps (hd :: t.takeWhile short) := by
        have h1 : l.take (FrameMath.used (hd :: t.takeWhile short)) = (l.take (FrameMath.used (hd :: t))).take (FrameMath.used (hd :: t.takeWhile short)) := by
          rw [List.take_take, Nat.min_eq_left hu]
        rw [h1, ← hws]
        have h2 := wraps_prefix (hd :: t.takeWhile short) (t.dropWhile short)
        rw [← hsplit] at h2
        exact h2
      have hfit : fits (hd :: t.takeWhile short) := fun r hr => hst.1 r (by
        rw [hsplit]; exact List.mem_append_left _ hr)
      rw [e, FrameMath.scan_all _ hfit, foundOf_yes hd _ h0, while_again]
/-- A disk behind Open: the file that holds is what was found, all of it safe; the other one is empty. -/
theorem opened_files (d : DS) (f : Nat) (hf : f ≤ 1) (x : Found) (h : Ok d) (hx : x.size ≤ (d.F f).length) : (opened d f x).d.F f = (d.F f).take x.size ∧ (opened d f x).d.F (1 - f) = [] ∧ (opened d f x).d.S f = x.size ∧ (opened d f x).d.S (1 - f) = 0 := by
  have hne : f ≠ 1 - f := by omega
  have hne2 : 1 - f ≠ f := by omega
  have e1 : ((cut (cut d (1 - f) 0) f x.size).F f) = (d.F f).take x.size := by
    unfold cut
    simp only [DiskMath.upd_same, DiskMath.upd_other _ _ _ _ hne]
  refine ⟨e1, ?_, ?_, ?_⟩
  · show (cut (cut d (1 - f) 0) f x.size).F (1 - f) = []
    unfold cut
    simp only [DiskMath.upd_same, DiskMath.upd_other _ _ _ _ hne2, List.take_zero]
  · show upd _ f ((cut (cut d (1 - f) 0) f x.size).F f).length f = x.size
    rw [DiskMath.upd_same, e1, List.length_take]
    omega
  · show upd _ f _ (1 - f) = 0
    rw [DiskMath.upd_other _ _ _ _ hne2]
    unfold cut
    simp only [DiskMath.upd_same, DiskMath.upd_other _ _ _ _ hne2]
    omega
/-- A crash leaves alone what is safe. -/
theorem crash_safe (d : DS) (i keep : Nat) (hi : i < 4) (h : d.S i = (d.F i).length) : (crash d keep).F i = d.F i := by
  rw [(DiskMath.crash_file d keep i hi).1]
  have : DiskMath.stay d i (DiskMath.left d keep i) = 0 := by unfold DiskMath.stay; omega
  rw [this, Nat.add_zero, h, List.take_length]
end JournalMath

/- What a journal's disk is behind Adds, Syncs and Compacts: the mathematics. -/
set_option linter.unusedVariables false
set_option maxRecDepth 100000
namespace Go.Proofs.YtklgfapdgeoigaaDoor
open JournalMath DiskMath
open FrameMath (scan wrap wraps)

/-- What was told so far: the snapshot, the records behind it, how many of them are safe. -/
structure Play (s : JS) (sn : List UInt8) (rs : List (List UInt8)) (sf : Nat) : Prop where
  says : Says s sn rs
  two : s.d.F 2 = []
  three : s.d.F 3 = []
  safe : FrameMath.used (head s.g sn :: rs.take sf) ≤ s.d.S s.f
  le : sf ≤ rs.length
theorem play_begun (r : Nat) : Play (begun0 r) [] [] 0 := by
  refine ⟨says_begun r, ?_, ?_, ?_, Nat.le_refl _⟩
  · show (begins (new r) 1 0 []).F 2 = []
    unfold begins cut syn app
    simp [upd, new]
  · show (begins (new r) 1 0 []).F 3 = []
    unfold begins cut syn app
    simp [upd, new]
  · show FrameMath.used [head 1 []] ≤ (begins (new r) 1 0 []).S 0
    unfold begins cut syn app
    simp [upd, new, FrameMath.used, FrameMath.wrap_length]
theorem play_add (s : JS) (sn r : List UInt8) (rs : List (List UInt8)) (sf : Nat) (h : Play s sn rs sf) (hk : JOk s) (h0 : (jAdd s r).2 = 0) : Play (jAdd s r).1 sn (rs ++ [r]) sf := by
  have hs := says_add s sn r rs h.says hk h0
  have hf := hk.file
  unfold jAdd at h0 hs ⊢
  by_cases h1 : 4000 < r.length
  · rw [if_pos h1] at h0; exact absurd h0 (by simp)
  · rw [if_neg h1] at h0 hs ⊢
    by_cases h2 : s.d.R < used s.d + (wrap r).length
    · rw [if_pos h2] at h0; exact absurd h0 (by simp)
    · rw [if_neg h2] at hs ⊢
      refine ⟨hs, ?_, ?_, ?_, by rw [List.length_append]; have := h.le; omega⟩
      · show (app s.d s.f (wrap r)).F 2 = []
        unfold app
        simp only [upd_other _ _ _ _ (show 2 ≠ s.f by omega)]
        exact h.two
      · show (app s.d s.f (wrap r)).F 3 = []
        unfold app
        simp only [upd_other _ _ _ _ (show 3 ≠ s.f by omega)]
        exact h.three
      · show FrameMath.used (head s.g sn :: (rs ++ [r]).take sf) ≤ s.d.S s.f
        rw [List.take_append_of_le_length h.le]
        exact h.safe
theorem play_syn (s : JS) (sn : List UInt8) (rs : List (List UInt8)) (sf : Nat) (h : Play s sn rs sf) : Play (jSyn s) sn rs rs.length := by
  refine ⟨says_syn s sn rs h.says, h.two, h.three, ?_, Nat.le_refl _⟩
  show FrameMath.used (head s.g sn :: rs.take rs.length) ≤ upd s.d.S s.f (s.d.F s.f).length s.f
  rw [List.take_length, upd_same, h.says.holds, FrameMath.wraps_length]
  exact Nat.le_refl _
theorem play_cmp (s : JS) (sn snap : List UInt8) (rs : List (List UInt8)) (sf : Nat) (h : Play s sn rs sf) (hk : JOk s) (h0 : (jCmp s snap).2 = 0) : Play (jCmp s snap).1 snap [] 0 := by
  have hs := says_cmp s sn snap rs h.says hk h0
  have hf := hk.file
  unfold jCmp at h0 hs ⊢
  by_cases h1 : 190000 < snap.length ∨ s.g = 1125899906842624
  · rw [if_pos h1] at h0; exact absurd h0 (by simp)
  · rw [if_neg h1] at h0 hs ⊢
    unfold jBegin at h0 hs ⊢
    by_cases h2 : s.d.R < used s.d + (wrap (head (s.g + 1) snap)).length
    · rw [if_pos h2] at h0; exact absurd h0 (by simp)
    · rw [if_neg h2] at hs ⊢
      have n2 : (2 : Nat) ≠ s.f := by omega
      have n3 : (3 : Nat) ≠ s.f := by omega
      have m2 : (2 : Nat) ≠ 1 - s.f := by omega
      have m3 : (3 : Nat) ≠ 1 - s.f := by omega
      refine ⟨hs, ?_, ?_, ?_, Nat.le_refl _⟩
      · show (begins s.d s.f s.g snap).F 2 = []
        unfold begins cut syn app
        simp only [upd_other _ _ _ _ n2, upd_other _ _ _ _ m2]
        exact h.two
      · show (begins s.d s.f s.g snap).F 3 = []
        unfold begins cut syn app
        simp only [upd_other _ _ _ _ n3, upd_other _ _ _ _ m3]
        exact h.three
      · show FrameMath.used [head (s.g + 1) snap] ≤ (begins s.d s.f s.g snap).S (1 - s.f)
        unfold begins cut syn app
        simp only [upd_other _ _ _ _ (show 1 - s.f ≠ s.f by omega), upd_same]
        rw [h.says.empty, List.nil_append, FrameMath.wrap_length]
        exact Nat.le_refl _
/-- Behind a crash: the file that holds is cut off behind what was safe; the other one is empty. -/
theorem play_crash (s : JS) (sn : List UInt8) (rs : List (List UInt8)) (sf : Nat) (h : Play s sn rs sf) (hk : JOk s) (keep : Nat) :
    ∃ k, sf ≤ k ∧ k ≤ rs.length ∧ found ((crash s.d keep).F s.f) = ⟨s.g, sn, rs.take k, FrameMath.used (head s.g sn :: rs.take k)⟩ ∧ found ((crash s.d keep).F (1 - s.f)) = ⟨0, [], [], 0⟩ ∧
      k = kept rs (((crash s.d keep).F s.f).length - ((head s.g sn).length + 8)) := by
  have hf := hk.file
  have ht := crash_tells s.d hk.ok keep s.f (by omega)
  have hcf : (crash s.d keep).F s.f = (wraps (head s.g sn :: rs)).take ((crash s.d keep).F s.f).length := by rw [← h.says.holds]; exact ht.2.1.symm
  have hsafe := h.safe
  have hu : FrameMath.used (head s.g sn :: rs.take sf) = (head s.g sn).length + 8 + FrameMath.used (rs.take sf) := rfl
  have hm : (head s.g sn).length + 8 ≤ ((crash s.d keep).F s.f).length := by have := ht.2.2.1; omega
  refine ⟨kept rs (((crash s.d keep).F s.f).length - ((head s.g sn).length + 8)), ?_, kept_le _ _, ?_, ?_, rfl⟩
  · refine kept_ge rs sf _ h.le ?_
    have := ht.2.2.1
    omega
  · have := found_cut s.g sn rs ((crash s.d keep).F s.f).length h.says.gen hk.gen h.says.snap h.says.recs hm
    rw [← hcf] at this
    exact this
  · have h2 := (crash_tells s.d hk.ok keep (1 - s.f) (by omega)).1
    rw [h.says.empty] at h2
    have : (crash s.d keep).F (1 - s.f) = [] := List.eq_nil_of_length_eq_zero (by simpa using h2)
    rw [this, found_nil]
theorem crash_more (d : DS) (hk : Ok d) (a b i : Nat) (hi : i < 4) (hab : a ≤ b) : ((crash d a).F i).length ≤ ((crash d b).F i).length := by
  have hl : ∀ k, left d a k ≤ left d b k := by
    intro k
    have h1 := kept_is d a k
    have h2 := kept_is d b k
    omega
  have h := hl i
  rw [(crash_file d a i hi).1, (crash_file d b i hi).1, List.length_take, List.length_take]
  unfold stay
  omega
end Go.Proofs.YtklgfapdgeoigaaDoor

/- The program's journal beside blocks of the law's own. -/
set_option linter.unusedVariables false
set_option maxRecDepth 100000
namespace Go.Proofs.YtklgfapdgeoigaaDoor
open Go.RowKit
open JournalMath DiskMath
open Fr (Tab tab_below tab_drewN)
open Dk (PDisk RDisk ROk DIn Chg fp fp_lt rdisk_below rdisk_chg chg_below pdisk_below pdisk_chg)

/-- A journal and its disk from block B on, none of whose blocks is among those of N. -/
def Sole (B : Nat) (w : World) (bj bd : Nat) (s : JS) (N : Nat → Prop) (wr : World) : Prop :=
  ∃ V, PDisk wr bd V s.d ∧ JCells wr bj bd s.f s.g s.n ∧ ¬ fp bd V bj ∧ (∀ k, fp bd V k ∨ k = bj → B ≤ k) ∧ (∀ k, N k → k < wr.heap.size ∧ ¬ (fp bd V k ∨ k = bj)) ∧ Below B w wr
theorem Sole.bel {B : Nat} {w wr : World} {bj bd : Nat} {s : JS} {N : Nat → Prop} (h : Sole B w bj bd s N wr) : Below B w wr := h.choose_spec.2.2.2.2.2
/-- A call on the journal. -/
theorem Sole.call {B : Nat} {w wr : World} {bj bd : Nat} {s s' : JS} {N : Nat → Prop} {f : FuncId} {args : Array Value} {r : Value} (h : Sole B w bj bd s N wr) (hB : B ≤ wr.heap.size) (hT : Tab w) (hBw : w.heap.size ≤ B)
    (hc : ∀ (T : Nat → Prop), JIn T wr bj bd s wr → T 0 → Tab wr → Calls Tryd.prog f args wr fun e w' => e = .returned r ∧ JIn T wr bj bd s' w') :
    Calls Tryd.prog f args wr fun e w' => e = .returned r ∧ Sole B w bj bd s' N w' ∧ (∀ k, N k → w'.heap[k]? = wr.heap[k]?) ∧ wr.heap.size ≤ w'.heap.size := by
  obtain ⟨V, h1, h2, h3, h4, h5, h6⟩ := h
  have hT1 : Tab wr := fun i hi => by
    have h0 := hT i hi
    have hlt := block_lt_of_cell h0
    rw [h6.cell (p := ⟨0, i, none⟩) (by simp only at hlt ⊢; omega)]
    exact h0
  have hG : 0 < wr.heap.size ∧ ¬ (fp bd V 0 ∨ 0 = bj) := ⟨tab_lt hT1, fun hf => by have := h4 _ hf; have := tab_lt hT; omega⟩
  refine (hc (fun k => k < wr.heap.size ∧ ¬ (fp bd V k ∨ k = bj)) ⟨V, h1, h2, fun k hk _ ht => ht.2 hk, h3, Chg.refl _ _⟩ hG hT1).mono ?_
  rintro e w' ⟨k1, V2, g1, g2, g3, g4, g5⟩
  have hV : ∀ k, fp bd V2 k ∨ k = bj → k < wr.heap.size → fp bd V k ∨ k = bj := fun k hk hlt => Classical.byContradiction fun hn => g3 k hk hlt ⟨hlt, hn⟩
  refine ⟨k1, ⟨V2, g1, g2, g4, fun k hk => ?_, fun k hk => ⟨by have := (h5 k hk).1; have := g5.size; omega, fun hf => (h5 k hk).2 (hV k hf (h5 k hk).1)⟩, h6.trans ⟨g5.os, g5.tape, g5.output, g5.size, fun k hk => g5.block k (by omega) (fun hn => hn ⟨by omega, fun hf => by have := h4 k hf; omega⟩)⟩⟩, fun k hk => g5.block k (h5 k hk).1 (fun hn => hn (h5 k hk)), g5.size⟩
  by_cases hlt : k < wr.heap.size
  · exact h4 k (hV k hk hlt)
  · omega
/-- What the law writes into its own blocks. -/
theorem Sole.own {B : Nat} {w wr w2 : World} {bj bd : Nat} {s : JS} {N N' : Nat → Prop} (h : Sole B w bj bd s N wr) (hB : B ≤ wr.heap.size) (hc : Chg N wr w2) (hNB : ∀ k, N k → B ≤ k) (hN : ∀ k, N' k → (N k ∨ wr.heap.size ≤ k) ∧ k < w2.heap.size) : Sole B w bj bd s N' w2 := by
  obtain ⟨V, h1, h2, h3, h4, h5, h6⟩ := h
  refine ⟨V, pdisk_chg h1 hc (fun k hk hn => (h5 k hn).2 (Or.inl hk)), h2.block (hc.block _ h2.lt (fun hn => (h5 _ hn).2 (Or.inr rfl))) hc.size, h3, h4, fun k hk => ⟨(hN k hk).2, fun hf => ?_⟩, h6.trans ⟨hc.os, hc.tape, hc.output, hc.size, fun k hk => hc.block k (by omega) (fun hn => by have := hNB k hn; omega)⟩⟩
  rcases (hN k hk).1 with h | h
  · exact (h5 k h).2 hf
  · rcases hf with hf | hf
    · have := fp_lt h1 k hf; omega
    · have := h2.lt; omega
theorem Quad.sole {B : Nat} {w w1 : World} {bd bj bx by_ : Nat} {s : JS} (h : Quad B w bd bj bx by_ s w1) : Sole B w bj bd s (fun _ => False) w1 := by
  obtain ⟨V, g1, g2, g3, g4, g5, g6, g7, g8, g9, g10, g11, g12⟩ := h
  exact ⟨V, g1, g2, g6, fun k hk => by
    rcases hk with hk | hk
    · exact g5 k (Or.inl hk)
    · exact g5 k (Or.inr (Or.inl hk)), fun k hk => hk.elim, g12⟩
/-- What was told, in memory: three cells at block B, and the row of its records. -/
structure ToldAt (B : Nat) (sn : ByteArray) (v : Value) (rs : List (List UInt8)) (sf : Nat) (wr : World) : Prop where
  cs : wr.cell? ⟨B, 0, none⟩ = some (.string sn)
  cr : wr.cell? ⟨B, 1, none⟩ = some v
  cn : wr.cell? ⟨B, 2, none⟩ = some (.int .i64 (sf : Int))
  free : ∀ j, wr.frozen? ⟨B, j, none⟩ = false
  own : wr.ownsRow (B + 1) 9 1 v rs.length (rs.map strV)
/-- The told ones stay where their blocks do. -/
theorem ToldAt.blocks {B sf : Nat} {sn : ByteArray} {v : Value} {rs : List (List UInt8)} {wr w' : World} (h : ToldAt B sn v rs sf wr) (h1 : w'.heap[B]? = wr.heap[B]?) (h2 : ∀ g, v.ownBlock = some g → w'.heap[g]? = wr.heap[g]?) : ToldAt B sn v rs sf w' := by
  refine ⟨(World.cell?_of_block (w := wr) (a := ⟨B, 0, none⟩) h1).trans h.cs, (World.cell?_of_block (w := wr) (a := ⟨B, 1, none⟩) h1).trans h.cr, (World.cell?_of_block (w := wr) (a := ⟨B, 2, none⟩) h1).trans h.cn, fun j => (World.frozen?_of_block (w := wr) (a := ⟨B, j, none⟩) h1).trans (h.free j), ?_⟩
  refine ⟨h.own.1, ?_⟩
  rcases h.own.2 with h0 | ⟨g, cap, cur, hv, hb, hgg, rest⟩
  · exact Or.inl h0
  · refine Or.inr ⟨g, cap, cur, hv, hb, ?_, rest⟩
    rw [h2 g (by rw [hv]; rfl)]
    exact hgg
theorem ToldAt.below {B sf : Nat} {sn : ByteArray} {v : Value} {rs : List (List UInt8)} {wr w' : World} (h : ToldAt B sn v rs sf wr) (hb : Below wr.heap.size wr w') : ToldAt B sn v rs sf w' :=
  h.blocks (hb.block _ (block_lt_of_cell h.cs)) (fun g hg => hb.block _ (h.own.lt g hg).2)
theorem ToldAt.row {B sf : Nat} {sn : ByteArray} {v : Value} {rs : List (List UInt8)} {wr : World} (h : ToldAt B sn v rs sf wr) (i : Nat) (u : Value) : (wr.setCell ⟨B, i, none⟩ u).ownsRow (B + 1) 9 1 v rs.length (rs.map strV) :=
  ownsRow_setCell_other h.own (a := ⟨B, i, none⟩) (fun e => by have : B + 1 ≤ B := (h.own.lt _ e).1; omega) u
/-- How many are safe, written anew. -/
theorem ToldAt.safe {B sf : Nat} {sn : ByteArray} {v : Value} {rs : List (List UInt8)} {wr : World} (h : ToldAt B sn v rs sf wr) (n : Nat) : ToldAt B sn v rs n (wr.setCell ⟨B, 2, none⟩ (.int .i64 (n : Int))) := by
  refine ⟨?_, ?_, World.cell?_setCell_same wr _ _ h.cn, fun j => ?_, h.row 2 _⟩
  · rw [World.cell?_setCell_other _ _ _ _ (by simp)]; exact h.cs
  · rw [World.cell?_setCell_other _ _ _ _ (by simp)]; exact h.cr
  · rw [World.frozen?_setCell]; exact h.free j
/-- All of it written anew, with no records. -/
theorem ToldAt.anew {B sf : Nat} {sn : ByteArray} {v : Value} {rs : List (List UInt8)} {wr : World} (h : ToldAt B sn v rs sf wr) (sn' : ByteArray) :
    ToldAt B sn' (.slice none 0 0) [] 0 (((wr.setCell ⟨B, 0, none⟩ (.string sn')).setCell ⟨B, 1, none⟩ (.slice none 0 0)).setCell ⟨B, 2, none⟩ (.int .i64 0)) := by
  have o : ∀ (w : World) (i j : Nat) (u : Value), i ≠ j → (w.setCell ⟨B, j, none⟩ u).cell? ⟨B, i, none⟩ = w.cell? ⟨B, i, none⟩ := fun w i j u h => World.cell?_setCell_other w _ _ _ (fun e => h (congrArg Addr.off e).symm)
  refine ⟨?_, ?_, ?_, fun j => ?_, World.ownsRow_nil _ _ _ _⟩
  · rw [o _ 0 2 _ (by decide), o _ 0 1 _ (by decide)]; exact World.cell?_setCell_same wr _ _ h.cs
  · rw [o _ 1 2 _ (by decide)]; exact World.cell?_setCell_same _ _ _ ((o _ 1 0 _ (by decide)).trans h.cr)
  · exact World.cell?_setCell_same _ _ _ ((o _ 2 1 _ (by decide)).trans ((o _ 2 0 _ (by decide)).trans h.cn))
  · rw [World.frozen?_setCell, World.frozen?_setCell, World.frozen?_setCell]; exact h.free j
/-- A record more. -/
theorem ToldAt.push {B sf : Nat} {sn : ByteArray} {v v' : Value} {rs : List (List UInt8)} {r : List UInt8} {wr w1 : World} {o : Obj} (h : ToldAt B sn v rs sf wr)
    (hown' : w1.ownsRow (B + 1) 9 1 v' (rs.length + 1) (rs.map strV ++ [strV r])) (hg : (wr.alloc o).grownBy w1 v.ownBlock) :
    w1.cell? ⟨B, 1, none⟩ = some v ∧ w1.frozen? ⟨B, 1, none⟩ = false ∧ ToldAt B sn v' (rs ++ [r]) sf (w1.setCell ⟨B, 1, none⟩ v') ∧ Chg (fun k => k = B ∨ v.ownBlock = some k) wr (w1.setCell ⟨B, 1, none⟩ v') ∧ ∀ g, v'.ownBlock = some g → g < (w1.setCell ⟨B, 1, none⟩ v').heap.size := by
  have k := block_lt_of_cell h.cs
  simp only at k
  have hb : Below (B + 1) wr w1 := ((Below.refl _ wr).alloc (by omega) o).grown hg (by simp; omega) (fun j hj => (h.own.lt j hj).1)
  have c := fun j => hb.cell (p := ⟨B, j, none⟩) (by simp)
  have f1 : w1.frozen? ⟨B, 1, none⟩ = false := (hb.frozen (p := ⟨B, 1, none⟩) (by simp)).trans (h.free 1)
  refine ⟨(c 1).trans h.cr, f1, ⟨?_, World.cell?_setCell_same w1 _ _ ((c 1).trans h.cr), ?_, fun j => ?_, ?_⟩, ?_, fun g hg' => by simpa using (hown'.lt g hg').2⟩
  · rw [World.cell?_setCell_other _ _ _ _ (by simp), c]; exact h.cs
  · rw [World.cell?_setCell_other _ _ _ _ (by simp), c]; exact h.cn
  · rw [World.frozen?_setCell]; exact (hb.frozen (p := ⟨B, j, none⟩) (by simp)).trans (h.free j)
  · exact own_cast (by simp) (by simp) (ownsRow_setCell_other hown' (a := ⟨B, 1, none⟩) (fun e => by have : B + 1 ≤ B := (hown'.lt _ e).1; omega) v')
  · have hc1 : Chg (fun k => v.ownBlock = some k) wr w1 := by
      refine ⟨hg.os, hg.tape, hg.output, by have := hg.size; simp at this; omega, fun j hj hn => ?_⟩
      rw [hg.block j (by simp; omega) (fun e => hn e.symm)]
      exact heap_alloc_old wr o hj
    exact (hc1.mono (fun k _ hk => Or.inr hk)).trans (Dk.chg_set w1 ⟨B, 1, none⟩ v') (fun k _ hk => Or.inl hk)
end Go.Proofs.YtklgfapdgeoigaaDoor

/- The walk of the laws' own 'plays': a journal behind Adds, Syncs and Compacts. -/
set_option linter.unusedVariables false
set_option maxRecDepth 100000
namespace Go.Proofs.YtklgfapdgeoigaaDoor
open Go.RowKit
open JournalMath DiskMath
open Fr (Tab tab_below tab_drewN)
open Dk (PDisk RDisk ROk DIn Chg fp fp_lt rdisk_below rdisk_chg chg_below pdisk_below pdisk_chg)

/-- A call of a script. -/
structure JOp where
  Do : Int
  N : Int
  S : ByteArray
def ORow (w : World) (v : Value) (l : List JOp) : Prop := ∃ ao cap, v = .slice ao l.length cap ∧ ∀ j, (h : j < l.length) → ∃ g o, ao = some ⟨g, o, none⟩ ∧ g < w.heap.size ∧
  w.cell? ⟨g, o + j * 3, none⟩ = some (.int .i64 l[j].Do) ∧ w.cell? ⟨g, o + j * 3 + 1, none⟩ = some (.int .i64 l[j].N) ∧ w.cell? ⟨g, o + j * 3 + 2, none⟩ = some (.string l[j].S)
def OpOk (o : JOp) : Prop := (-9223372036854775808 ≤ o.Do ∧ o.Do ≤ 9223372036854775807) ∧ (-9223372036854775808 ≤ o.N ∧ o.N ≤ 9223372036854775807) ∧ o.S.size ≤ 140737488351232
theorem orow_below {w w' : World} {v : Value} {l : List JOp} (h : ORow w v l) (hb : Below w.heap.size w w') : ORow w' v l := by
  obtain ⟨ao, cap, rfl, hrow⟩ := h
  refine ⟨ao, cap, rfl, fun j hj => ?_⟩
  obtain ⟨g, o, h1, h2, h3, h4, h5⟩ := hrow j hj
  exact ⟨g, o, h1, by have := hb.size; omega, (hb.cell (p := ⟨g, o + j * 3, none⟩) h2).trans h3, (hb.cell (p := ⟨g, o + j * 3 + 1, none⟩) h2).trans h4, (hb.cell (p := ⟨g, o + j * 3 + 2, none⟩) h2).trans h5⟩
theorem orow_at {w : World} {ao : Option Addr} {n cap : Nat} {l : List JOp} (h : ORow w (.slice ao n cap) l) (j : Nat) (hj : j < l.length) : ∃ g o, ao = some ⟨g, o, none⟩ ∧ g < w.heap.size ∧
    w.cell? ⟨g, o + j * 3, none⟩ = some (.int .i64 l[j].Do) ∧ w.cell? ⟨g, o + j * 3 + 1, none⟩ = some (.int .i64 l[j].N) ∧ w.cell? ⟨g, o + j * 3 + 2, none⟩ = some (.string l[j].S) := by
  obtain ⟨ao', cap', hv, hrow⟩ := h
  obtain ⟨rfl, _, _⟩ : ao = ao' ∧ n = l.length ∧ cap = cap' := by simpa using hv
  exact hrow j hj
theorem Sole.base {B : Nat} {w0 w wr : World} {bj bd : Nat} {s : JS} {N : Nat → Prop} (h : Sole B w bj bd s N wr) (hb : Below w0.heap.size w0 w) (hB : w0.heap.size ≤ B) : Sole w0.heap.size w0 bj bd s N wr := by
  obtain ⟨V, h1, h2, h3, h4, h5, h6⟩ := h
  exact ⟨V, h1, h2, h3, fun k hk => Nat.le_trans hB (h4 k hk), h5, hb.trans (h6.mono hB)⟩
theorem Sole.base2 {B : Nat} {w0 w wr : World} {bj bd : Nat} {s : JS} {N : Nat → Prop} (h : Sole B w bj bd s N wr) (hb : Below w0.heap.size w0 w) (hB : w0.heap.size ≤ B) (hBr : B ≤ wr.heap.size) : Sole w0.heap.size w0 bj bd s (fun k => N k ∨ (w0.heap.size ≤ k ∧ k < B)) wr := by
  obtain ⟨V, h1, h2, h3, h4, h5, h6⟩ := h
  refine ⟨V, h1, h2, h3, fun k hk => Nat.le_trans hB (h4 k hk), fun k hk => ?_, hb.trans (h6.mono hB)⟩
  rcases hk with hk | hk
  · exact h5 k hk
  · exact ⟨by omega, fun hf => by have := h4 k hf; omega⟩
/-- A row of texts is no block of a journal or a disk. -/
theorem Sole.texts {B : Nat} {w wr w2 : World} {bj bd X n : Nat} {s : JS} {N N' : Nat → Prop} {v : Value} {xs : List Value} {sv : ByteArray} (h : Sole B w bj bd s N wr) (hB : B ≤ wr.heap.size) (hc : Chg N wr w2) (hNB : ∀ k, N k → B ≤ k) (hN : ∀ k, N' k → ((N k ∨ wr.heap.size ≤ k) ∧ k < w2.heap.size) ∨ v.ownBlock = some k)
    (hv : w2.ownsRow X 9 1 v n xs) (hx : xs[0]? = some (.string sv)) : Sole B w bj bd s N' w2 := by
  have h0 := h.own (N' := fun k => N' k ∧ ¬ v.ownBlock = some k) hB hc hNB (fun k hk => by
    rcases hN k hk.1 with h | h
    · exact h
    · exact absurd h hk.2)
  obtain ⟨V, h1, h2, h3, h4, h5, h6⟩ := h0
  refine ⟨V, h1, h2, h3, h4, fun k hk => ?_, h6⟩
  by_cases hvk : v.ownBlock = some k
  · have hn0 : 0 < n := by
      have h9 := (List.getElem?_eq_some_iff.1 hx).1
      have h8 : xs.length = n := hv.1.trans (Nat.mul_one n)
      omega
    obtain ⟨ao, cap, hva, _, hrow⟩ := own_row hv
    obtain ⟨g0, hao, _, _, hcell⟩ := hrow 0 hn0
    rw [hao] at hva
    rcases hv.2 with ⟨rfl, _⟩ | ⟨g, cap, cur, rfl, hb, hgg, _⟩
    · cases hvk
    · obtain rfl : g = k := by simpa [Value.ownBlock] using hvk
      obtain rfl : g = g0 := by have h9 := congrArg Value.ownBlock hva; simpa [Value.ownBlock] using h9
      have hc0 : w2.cell? ⟨g, 0, none⟩ = some (.string sv) := hcell.trans hx
      refine ⟨(Array.getElem?_eq_some_iff.1 hgg).1, fun hf => ?_⟩
      rcases hf with (hf | ⟨i, hi, hf⟩) | hf
      · have hb0 := h1.bytes 0 (by decide)
        obtain ⟨a, c, hva, _, _⟩ := own_row (h1.rows 0 (by decide))
        rw [hva, Nat.zero_mul, ← hf, hc0] at hb0
        cases hb0
      · rcases (h1.rows i hi).2 with ⟨e, _⟩ | ⟨g', cap', cur', e, _, hgg', _⟩
        · rw [e] at hf; cases hf
        · rw [e] at hf
          obtain rfl : g' = g := by simpa [Value.ownBlock] using hf
          rw [hgg] at hgg'
          have := Option.some.inj hgg'
          have h7 := (Obj.cells.inj this).2.1
          exact absurd h7 (by decide)
      · have := h2.disk
        rw [← hf, hc0] at this
        cases this
  · exact h5 k ⟨hk, hvk⟩
theorem set3 {w : World} {g : Nat} {x0 x1 x2 : Value} (a b c : Value) (h0 : w.cell? ⟨g, 0, none⟩ = some x0) (h1 : w.cell? ⟨g, 1, none⟩ = some x1) (h2 : w.cell? ⟨g, 2, none⟩ = some x2) :
    (((w.setCell ⟨g, 0, none⟩ a).setCell ⟨g, 1, none⟩ b).setCell ⟨g, 2, none⟩ c).cell? ⟨g, 0, none⟩ = some a ∧ (((w.setCell ⟨g, 0, none⟩ a).setCell ⟨g, 1, none⟩ b).setCell ⟨g, 2, none⟩ c).cell? ⟨g, 1, none⟩ = some b ∧ (((w.setCell ⟨g, 0, none⟩ a).setCell ⟨g, 1, none⟩ b).setCell ⟨g, 2, none⟩ c).cell? ⟨g, 2, none⟩ = some c := by
  have o : ∀ (w : World) (i j : Nat) (u : Value), i ≠ j → (w.setCell ⟨g, j, none⟩ u).cell? ⟨g, i, none⟩ = w.cell? ⟨g, i, none⟩ := fun w i j u h => World.cell?_setCell_other w _ _ _ (fun e => h (congrArg Addr.off e).symm)
  refine ⟨?_, ?_, ?_⟩
  · rw [o _ 0 2 _ (by decide), o _ 0 1 _ (by decide)]; exact World.cell?_setCell_same w _ _ h0
  · rw [o _ 1 2 _ (by decide)]; exact World.cell?_setCell_same _ _ _ ((o _ 1 0 _ (by decide)).trans h1)
  · exact World.cell?_setCell_same _ _ _ ((o _ 2 1 _ (by decide)).trans ((o _ 2 0 _ (by decide)).trans h2))
theorem results_plays {P : Program} {fn : Func} {p t u x : Tmp} {ty : TypeId} (h : fn.results = #[.tmp t, .tmp u, .cell p ty, .tmp x]) (tmps : Array Value) (w : World) (g : Nat) (c0 c1 c2 : Value) (d : TypeDesc)
    (hp : tmps.getD p undef = .pointer (some ⟨g, 0, none⟩)) (h0 : w.cell? ⟨g, 0, none⟩ = some c0) (h1 : w.cell? ⟨g, 1, none⟩ = some c1) (h2 : w.cell? ⟨g, 2, none⟩ = some c2)
    (hu : P.underlying ty = some d) (hd : d.isRow = true) (hi : (P.info? ty).map (·.size) = some 3) : (results fn tmps).run P w = .ok (.tuple #[tmps.getD t undef, tmps.getD u undef, .agg #[c0, c1, c2], tmps.getD x undef]) w := by
  have hp' : tmps[p]?.getD undef = .pointer (some ⟨g, 0, none⟩) := by simpa using hp
  have hr : w.rangeAt g 0 [c0, c1, c2] := by
    intro j v hj
    rw [Nat.zero_add]
    match j, hj with
    | 0, hj => cases hj; exact h0
    | 1, hj => cases hj; exact h1
    | 2, hj => cases hj; exact h2
  simp [results, h, hp', asAddr, run_loadVar_mid w g 0 ty [c0, c1, c2] d hr hu hd hi]
/-- How plays ends. -/
def PlaysOk (w : World) (e : Ending) (w' : World) : Prop := ∃ (bd bj : Nat) (s : JS) (sn : List UInt8) (rs : List (List UInt8)) (sf : Nat) (v : Value), e = .returned (.tuple #[.pointer (some ⟨bd, 0, none⟩), .pointer (some ⟨bj, 0, none⟩), .agg #[.string ⟨sn.toArray⟩, v, .int .i64 (sf : Int)], .bool true]) ∧ Play s sn rs sf ∧ JOk s ∧
  Sole w.heap.size w bj bd s (fun k => v.ownBlock = some k) w' ∧ w'.ownsRow w.heap.size 9 1 v rs.length (rs.map strV) ∧ w.heap.size ≤ w'.heap.size

set_option maxHeartbeats 2000000 in
theorem plays_any (room : Int) (hroom : -9223372036854775808 ≤ room ∧ room ≤ 9223372036854775807) (l : List JOp) (hl : ∀ o ∈ l, OpOk o) (hll : l.length ≤ 140737488355328) (v : Value) (w : World) (hv : ORow w v l) (hT : Tab w) :
    Calls Tryd.prog 24 #[.int .i64 room, v] w fun e w' => PlaysOk w e w' := by
  obtain ⟨i0, hi, hz0, hz1, hz2⟩ := info_parts infoS
  obtain ⟨q, hq⟩ : ∃ q, q = pick room 6000 := ⟨_, rfl⟩
  have hql : q < 6000 := by rw [hq]; exact pick_lt room 6000 (by decide)
  have C0 : Hid (∀ w, Calls Tryd.prog 10 #[.int .i64 room, .int .i64 6000] w fun e w' => e = .returned (.int .i64 (q : Int)) ∧ w' = w) := fun w => by rw [hq]; exact pick_any room 6000 (by decide) (by decide) hroom w
  obtain ⟨wa, hwa⟩ : ∃ wa, wa = w.alloc (.cells #[.string ⟨#[]⟩, .slice none 0 0, .int .i64 0] 59) := ⟨_, rfl⟩
  have HWA : Hid (wa = w.alloc (.cells #[.string ⟨#[]⟩, .slice none 0 0, .int .i64 0] 59)) := hwa
  have hba : Below w.heap.size w wa := by rw [hwa]; exact (Below.refl _ _).alloc (Nat.le_refl _) _
  have HBA : Hid (Below w.heap.size w wa) := hba
  have HSA : Hid (wa.heap.size = w.heap.size + 1) := by show _ = _; rw [hwa]; simp
  have HTA : Hid (Tab wa) := tab_below hT hba
  have C1 : Hid (Calls Tryd.prog 9 #[.int .i64 (20 + (q : Int))] wa fun e w' => ∃ bd bj bx by_, e = .returned (.tuple #[.agg #[.pointer (some ⟨bd, 0, none⟩), .pointer (some ⟨bj, 0, none⟩), .pointer (some ⟨bx, 0, none⟩), .pointer (some ⟨by_, 0, none⟩)], .bool true]) ∧ Quad wa.heap.size wa bd bj bx by_ (begun0 (20 + q)) w' ∧ wa.heap.size ≤ w'.heap.size) := by
    have := made_any (20 + q) (by omega) (by omega) wa HTA.out
    rw [Int.natCast_add] at this
    exact this
  have HP0 : Hid (Play (begun0 (20 + q)) [] [] 0) := play_begun _
  have HK0 : Hid (JOk (begun0 (20 + q))) := jok_begun _ (by omega) (by omega)
  generalize begun0 (20 + q) = s0 at *
  have HV : Hid (ORow w v l) := hv
  have HL : Hid (∀ o ∈ l, OpOk o) := hl
  obtain ⟨ao, cap, rfl, _⟩ := hv
  clear hq hl hwa hba hT
  go_enter Tryd.func24, Tryd.ntmps24
  go_wp2_with fail
  rw [← HWA.out]
  refine (C0.out _).mono ?_
  rintro e w0 ⟨rfl, hw0⟩
  rw [hw0]
  clear hw0 C0 w0
  go_wp2_with fail
  refine C1.out.mono ?_
  rintro e w1 ⟨bd, bj, bx, by_, rfl, hQ, hsz1⟩
  obtain ⟨w2, hw2⟩ : ∃ w2, (w1.alloc (.cells #[.pointer (some ⟨bd, 0, none⟩), .pointer (some ⟨bj, 0, none⟩), .pointer (some ⟨bx, 0, none⟩), .pointer (some ⟨by_, 0, none⟩)] 28)).alloc (.cells #[.string ⟨#[]⟩, .slice none 0 0, .int .i64 0] 59) = w2 := ⟨_, rfl⟩
  have HW2 : Hid ((w1.alloc (.cells #[.pointer (some ⟨bd, 0, none⟩), .pointer (some ⟨bj, 0, none⟩), .pointer (some ⟨bx, 0, none⟩), .pointer (some ⟨by_, 0, none⟩)] 28)).alloc (.cells #[.string ⟨#[]⟩, .slice none 0 0, .int .i64 0] 59) = w2) := hw2
  have hs2 : w2.heap.size = w1.heap.size + 2 := by rw [← hw2]; simp
  have hb12 : Below w1.heap.size w1 w2 := by rw [← hw2]; exact ((Below.refl _ _).alloc (Nat.le_refl _) _).alloc (by simp) _
  have p0 : w2.cell? ⟨w1.heap.size, 0, none⟩ = some (.pointer (some ⟨bd, 0, none⟩)) := by rw [← hw2]; simp
  have p1 : w2.cell? ⟨w1.heap.size, 1, none⟩ = some (.pointer (some ⟨bj, 0, none⟩)) := by rw [← hw2]; simp
  have hT2 : ToldAt (w1.heap.size + 1) ⟨#[]⟩ (.slice none 0 0) [] 0 w2 := by
    rw [← hw2]
    refine ⟨by simp, by simp, by simp, fun j => ?_, World.ownsRow_nil _ _ _ _⟩
    have := heap_alloc_new (w1.alloc (.cells #[.pointer (some ⟨bd, 0, none⟩), .pointer (some ⟨bj, 0, none⟩), .pointer (some ⟨bx, 0, none⟩), .pointer (some ⟨by_, 0, none⟩)] 28)) (.cells #[.string ⟨#[]⟩, .slice none 0 0, .int .i64 0] 59)
    rw [World.frozen?, show (w1.alloc (.cells #[.pointer (some ⟨bd, 0, none⟩), .pointer (some ⟨bj, 0, none⟩), .pointer (some ⟨bx, 0, none⟩), .pointer (some ⟨by_, 0, none⟩)] 28)).heap.size = w1.heap.size + 1 by simp] at *
    rw [this]
    simp
  have hS2 : Sole wa.heap.size wa bj bd s0 (fun k => k = w1.heap.size ∨ k = w1.heap.size + 1 ∨ (Value.slice none 0 0).ownBlock = some k) w2 :=
    hQ.sole.own hsz1 (chg_below hb12) (fun k hk => hk.elim) (fun k hk => by
      rcases hk with hk | hk | hk
      · exact ⟨Or.inr (by omega), by omega⟩
      · exact ⟨Or.inr (by omega), by omega⟩
      · cases hk)
  have HS2 : Hid (Sole wa.heap.size wa bj bd s0 (fun k => k = w1.heap.size ∨ k = w1.heap.size + 1 ∨ (Value.slice none 0 0).ownBlock = some k) w2) := hS2
  have HT2 : Hid (ToldAt (w1.heap.size + 1) ⟨#[]⟩ (.slice none 0 0) [] 0 w2) := hT2
  have C2 : Hid (Calls Tryd.prog 11 #[] w2 fun e w' => e = .returned (.bool true) ∧ Below w2.heap.size w2 w') := begun_any w2 (tab_below HTA.out hS2.bel)
  have HP2 : Hid (w2.cell? ⟨w1.heap.size, 0, none⟩ = some (.pointer (some ⟨bd, 0, none⟩)) ∧ w2.cell? ⟨w1.heap.size, 1, none⟩ = some (.pointer (some ⟨bj, 0, none⟩))) := ⟨p0, p1⟩
  have HSZ : Hid (wa.heap.size ≤ w1.heap.size ∧ w2.heap.size = w1.heap.size + 2) := ⟨hsz1, hs2⟩
  clear hQ hw2 hs2 hb12 p0 p1 hT2 hS2 C1 hsz1
  go_wp2_with fail
  rw [HW2.out]
  refine C2.out.mono ?_
  rintro e w3 ⟨rfl, hb3⟩
  have hz := HSZ.out
  have HS3 : Hid (Sole wa.heap.size wa bj bd s0 (fun k => k = w1.heap.size ∨ k = w1.heap.size + 1 ∨ (Value.slice none 0 0).ownBlock = some k) w3) := HS2.out.own (by omega) (chg_below hb3) (fun k hk => by
      rcases hk with hk | hk | hk
      · omega
      · omega
      · cases hk) (fun k hk => ⟨Or.inl hk, by
      have := hb3.size
      rcases hk with hk | hk | hk
      · omega
      · omega
      · cases hk⟩)
  have HT3 : Hid (ToldAt (w1.heap.size + 1) ⟨#[]⟩ (.slice none 0 0) [] 0 w3) := HT2.out.below hb3
  have HP3 : Hid (w3.cell? ⟨w1.heap.size, 0, none⟩ = some (.pointer (some ⟨bd, 0, none⟩)) ∧ w3.cell? ⟨w1.heap.size, 1, none⟩ = some (.pointer (some ⟨bj, 0, none⟩))) := ⟨(hb3.cell (p := ⟨w1.heap.size, 0, none⟩) (by simp; omega)).trans HP2.out.1, (hb3.cell (p := ⟨w1.heap.size, 1, none⟩) (by simp; omega)).trans HP2.out.2⟩
  have HZ3 : Hid (wa.heap.size ≤ w3.heap.size) := by have := hb3.size; show _ ≤ _; omega
  have HZ1 : Hid (wa.heap.size ≤ w1.heap.size) := hz.1
  generalize w1.heap.size = pb at *
  clear hb3 HS2 HT2 HP2 C2 hz HSZ HW2
  go_wp2_with fail
  go_loopw [11] (fun i wr => ∃ (k : Nat) (s : JS) (sn : List UInt8) (rs : List (List UInt8)) (sf : Nat) (v : Value), k ≤ l.length ∧ i = .int .i64 (k : Int) ∧ Hid (Play s sn rs sf) ∧ Hid (JOk s) ∧
      Hid (Sole wa.heap.size wa bj bd s (fun k => k = pb ∨ k = pb + 1 ∨ v.ownBlock = some k) wr) ∧ Hid (ToldAt (pb + 1) ⟨sn.toArray⟩ v rs sf wr) ∧
      Hid (wr.cell? ⟨pb, 0, none⟩ = some (.pointer (some ⟨bd, 0, none⟩)) ∧ wr.cell? ⟨pb, 1, none⟩ = some (.pointer (some ⟨bj, 0, none⟩))) ∧ Hid (wa.heap.size ≤ wr.heap.size)) (fun i _ => l.length - (intOf i).toNat)
  case atStart => exact ⟨0, s0, [], [], 0, _, Nat.zero_le _, rfl, HP0, HK0, HS3, HT3, HP3, HZ3⟩
  case round =>
    obtain ⟨k, s, sn, rs, sf, v, hkl, rfl, HP, HK, HS, HTo, HPB, HZ⟩ := hrel
    clear HP0 HK0 HS3 HT3 HP3 HZ3
    by_cases hlt : k < l.length
    · obtain ⟨g, o, rfl, hg, m0, m1, m2⟩ := orow_at (orow_below HV.out (HBA.out.trans (HS.out.bel.mono HBA.out.size))) k hlt
      obtain ⟨hD1, hN1, hS1⟩ := HL.out l[k] (List.getElem_mem hlt)
      have i1 : (k : Int) < (l.length : Int) := by omega
      have HLT : Hid (k < l.length) := hlt
      generalize l[k].Do = D at *
      generalize l[k].N = NN at *
      generalize l[k].S = S at *
      have hsz := HZ.out
      have hz1 := HZ1.out
      have hNB : ∀ k, (k = pb ∨ k = pb + 1 ∨ v.ownBlock = some k) → wa.heap.size ≤ k := fun k hk => by
        rcases hk with hk | hk | hk
        · omega
        · omega
        · have := (HTo.out.own.lt k hk).1; omega
      obtain ⟨w4, hw4⟩ : ∃ w4, (wr.alloc (.cells #[.int .i64 D, .int .i64 NN, .string S] 36)) = w4 := ⟨_, rfl⟩
      have HW4 : Hid ((wr.alloc (.cells #[.int .i64 D, .int .i64 NN, .string S] 36)) = w4) := hw4
      have hb4 : Below wr.heap.size wr w4 := by rw [← hw4]; exact (Below.refl _ _).alloc (Nat.le_refl _) _
      have hs4 : w4.heap.size = wr.heap.size + 1 := by rw [← hw4]; simp
      have hpl : pb < wr.heap.size := by have := block_lt_of_cell HPB.out.1; exact this
      have x0 : (wr.alloc (.cells #[.int .i64 D, .int .i64 NN, .string S] 36)).cell? ⟨pb, 0, none⟩ = some (.pointer (some ⟨bd, 0, none⟩)) := by rw [hw4]; exact (hb4.cell (p := ⟨pb, 0, none⟩) hpl).trans HPB.out.1
      have x1 : (wr.alloc (.cells #[.int .i64 D, .int .i64 NN, .string S] 36)).cell? ⟨pb, 1, none⟩ = some (.pointer (some ⟨bj, 0, none⟩)) := by rw [hw4]; exact (hb4.cell (p := ⟨pb, 1, none⟩) hpl).trans HPB.out.2
      have y2 : w4.cell? ⟨wr.heap.size, 2, none⟩ = some (.string S) := by rw [← hw4]; simp
      have HTo4 : Hid (ToldAt (pb + 1) ⟨sn.toArray⟩ v rs sf w4) := HTo.out.below hb4
      have HS4 : Hid (Sole wa.heap.size wa bj bd s (fun k => (k = pb ∨ k = pb + 1 ∨ v.ownBlock = some k) ∨ k = wr.heap.size) w4) := HS.out.own hsz (chg_below hb4) hNB (fun k hk => by
        rcases hk with hk | hk
        · exact ⟨Or.inl hk, by have := (HS.out.choose_spec.2.2.2.2.1 k hk).1; omega⟩
        · exact ⟨Or.inr (by omega), by omega⟩)
      have HZ4 : Hid (wa.heap.size ≤ w4.heap.size) := by show _ ≤ _; omega
      have HPB4 : Hid (w4.cell? ⟨pb, 0, none⟩ = some (.pointer (some ⟨bd, 0, none⟩)) ∧ w4.cell? ⟨pb, 1, none⟩ = some (.pointer (some ⟨bj, 0, none⟩))) := by rw [hw4] at x0 x1; exact ⟨x0, x1⟩
      have HOB : Hid (w4.cell? ⟨wr.heap.size, 2, none⟩ = some (.string S)) := y2
      have HNB : Hid (∀ k, (fun k => (k = pb ∨ k = pb + 1 ∨ v.ownBlock = some k) ∨ k = wr.heap.size) k → wa.heap.size ≤ k) := fun k hk => by
        rcases hk with hk | hk
        · exact hNB k hk
        · omega
      have HBLK : Hid (∀ w5 : World, (∀ k, (fun k => (k = pb ∨ k = pb + 1 ∨ v.ownBlock = some k) ∨ k = wr.heap.size) k → w5.heap[k]? = w4.heap[k]?) → (w5.cell? ⟨pb, 0, none⟩ = some (.pointer (some ⟨bd, 0, none⟩)) ∧ w5.cell? ⟨pb, 1, none⟩ = some (.pointer (some ⟨bj, 0, none⟩))) ∧ ToldAt (pb + 1) ⟨sn.toArray⟩ v rs sf w5 ∧ w5.cell? ⟨wr.heap.size, 2, none⟩ = some (.string S)) := fun w5 h => by
        have hp := h pb (Or.inl (Or.inl rfl))
        have ho := h wr.heap.size (Or.inr rfl)
        exact ⟨⟨(World.cell?_of_block (w := w4) (a := ⟨pb, 0, none⟩) hp).trans HPB4.out.1, (World.cell?_of_block (w := w4) (a := ⟨pb, 1, none⟩) hp).trans HPB4.out.2⟩, HTo4.out.blocks (h (pb + 1) (Or.inl (Or.inr (Or.inl rfl)))) (fun g hg => h g (Or.inl (Or.inr (Or.inr hg)))), (World.cell?_of_block (w := w4) (a := ⟨wr.heap.size, 2, none⟩) ho).trans HOB.out⟩
      have HSHR : Hid (∀ s' w5, Sole wa.heap.size wa bj bd s' (fun k => (k = pb ∨ k = pb + 1 ∨ v.ownBlock = some k) ∨ k = wr.heap.size) w5 → wa.heap.size ≤ w5.heap.size → Sole wa.heap.size wa bj bd s' (fun k => k = pb ∨ k = pb + 1 ∨ v.ownBlock = some k) w5) := fun s' w5 h hB => h.own hB (Chg.refl _ _) HNB.out (fun k hk => ⟨Or.inl (Or.inl hk), (h.choose_spec.2.2.2.2.1 k (Or.inl hk)).1⟩)
      have hrs : rs.length ≤ 1048576 := by
        have h1 := HK.out.count
        have h2 := file_le s.d s.f (by have := HK.out.file; omega)
        have h3 := HK.out.ok.room
        have h4 := HK.out.ok.most
        have h5 := HP.out.says.count
        omega
      clear hw4 hb4 hs4 hpl hsz hz1 hNB hg HTo HS HPB y2
      by_cases hD0 : D = 0
      · subst hD0
        have C5 := HS4.out.call (f := 30) (args := #[.pointer (some ⟨bj, 0, none⟩), .string S]) (r := .int .i64 (jAdd s S.data.toList).2) (s' := (jAdd s S.data.toList).1) HZ4.out HTA.out (Nat.le_refl _) (fun T hJ hG hT => add_any S (by omega) hJ HK.out hG hT)
        have A5 : Hid (Calls Tryd.prog 30 #[.pointer (some ⟨bj, 0, none⟩), .string S] w4 fun e w' => e = .returned (.int .i64 (jAdd s S.data.toList).2) ∧ Sole wa.heap.size wa bj bd (jAdd s S.data.toList).1 (fun k => (k = pb ∨ k = pb + 1 ∨ v.ownBlock = some k) ∨ k = wr.heap.size) w' ∧ (∀ k, (fun k => (k = pb ∨ k = pb + 1 ∨ v.ownBlock = some k) ∨ k = wr.heap.size) k → w'.heap[k]? = w4.heap[k]?) ∧ w4.heap.size ≤ w'.heap.size) := C5
        have hK5 := jok_add s S.data.toList HK.out
        by_cases he : (jAdd s S.data.toList).2 = 0
        · have hP5 := play_add s sn S.data.toList rs sf HP.out HK.out he
          rw [he] at A5
          have HK5 : Hid (JOk (jAdd s S.data.toList).1) := hK5
          have HP5 : Hid (Play (jAdd s S.data.toList).1 sn (rs ++ [S.data.toList]) sf) := hP5
          generalize (jAdd s S.data.toList).1 = s5 at *
          clear C5 hK5 hP5 he
          go_wp2_with fail
          rw [HW4.out]
          refine A5.out.mono ?_
          rintro e w5 ⟨rfl, hS5, hB5, hZ5⟩
          obtain ⟨hp5, hT5, ho5⟩ := HBLK.out _ hB5
          have t1 := hT5.cr
          have hown := hT5.own
          have hsz5 : wr.heap.size < w5.heap.size := block_lt_of_cell ho5
          have HS5 : Hid (Sole wa.heap.size wa bj bd s5 (fun k => (k = pb ∨ k = pb + 1 ∨ v.ownBlock = some k) ∨ k = wr.heap.size) w5) := hS5
          have HT5 : Hid (ToldAt (pb + 1) ⟨sn.toArray⟩ v rs sf w5) := hT5
          have HP5b : Hid (w5.cell? ⟨pb, 0, none⟩ = some (.pointer (some ⟨bd, 0, none⟩)) ∧ w5.cell? ⟨pb, 1, none⟩ = some (.pointer (some ⟨bj, 0, none⟩))) := hp5
          have HZ5 : Hid (wa.heap.size ≤ w5.heap.size) := Nat.le_trans HZ4.out hZ5
          have HSV : Hid (Value.string S = strV S.data.toList) := by show _ = _; unfold strV; rw [data_mk]
          obtain ⟨av, cv, hvv, _, _⟩ := own_row hown
          subst hvv
          have hpb5 : pb + 1 < w5.heap.size := block_lt_of_cell hT5.cs
          clear hS5 hT5 hp5 hB5 hZ5 m0 m1 m2 x0 x1
          go_wp2_with (at_builtin; refine wpList_append_own _ rfl _ _ 47 rfl (pb + 1 + 1) 9 i0 (.string ⟨#[]⟩) 1 16 Tryd.underlying47 hi hz0 hz1 hz2 rfl (by decide) _ _ _ rfl (hown.alloc _) ⟨_, 0, none⟩ 1 1 [.string S] rfl rfl (one_new _ _ _) (one_cell _) (by unfold maxLen; omega) (by omega) (by simp; omega) ?_)
          intro v' w6 hown' hgrow hnn
          have hown'' : w6.ownsRow (pb + 1 + 1) 9 1 v' (rs.length + 1) (rs.map strV ++ [strV S.data.toList]) := by
            rw [← HSV.out]
            exact hown'
          obtain ⟨av', cv', hv', _, _⟩ := own_row hown''
          subst hv'
          obtain ⟨d1, d2, hT6, hC6, hlt6⟩ := HT5.out.push hown'' hgrow
          have HT6 : Hid (ToldAt (pb + 1) ⟨sn.toArray⟩ (.slice av' (rs.length + 1) cv') (rs ++ [S.data.toList]) sf (w6.setCell ⟨pb + 1, 1, none⟩ (.slice av' (rs.length + 1) cv'))) := hT6
          have hpv : ¬ (pb = pb + 1 ∨ (Value.slice av rs.length cv).ownBlock = some pb) := by
            rintro (h | h)
            · omega
            · have := (HT5.out.own.lt pb h).1; omega
          have hblk6 : (w6.setCell ⟨pb + 1, 1, none⟩ (.slice av' (rs.length + 1) cv')).heap[pb]? = w5.heap[pb]? := hC6.block pb (by omega) hpv
          have HP6 : Hid ((w6.setCell ⟨pb + 1, 1, none⟩ (.slice av' (rs.length + 1) cv')).cell? ⟨pb, 0, none⟩ = some (.pointer (some ⟨bd, 0, none⟩)) ∧ (w6.setCell ⟨pb + 1, 1, none⟩ (.slice av' (rs.length + 1) cv')).cell? ⟨pb, 1, none⟩ = some (.pointer (some ⟨bj, 0, none⟩))) := ⟨(World.cell?_of_block (w := w5) (a := ⟨pb, 0, none⟩) hblk6).trans HP5b.out.1, (World.cell?_of_block (w := w5) (a := ⟨pb, 1, none⟩) hblk6).trans HP5b.out.2⟩
          have hsz6 := hC6.size
          have HZ6 : Hid (wa.heap.size ≤ (w6.setCell ⟨pb + 1, 1, none⟩ (.slice av' (rs.length + 1) cv')).heap.size) := Nat.le_trans HZ5.out hsz6
          have HS6 : Hid (Sole wa.heap.size wa bj bd s5 (fun k => k = pb ∨ k = pb + 1 ∨ (Value.slice av' (rs.length + 1) cv').ownBlock = some k) (w6.setCell ⟨pb + 1, 1, none⟩ (.slice av' (rs.length + 1) cv'))) := by
            obtain ⟨sv, hsv⟩ : ∃ sv, ((rs ++ [S.data.toList]).map strV)[0]? = some (.string sv) := by
              cases rs with
              | nil => exact ⟨_, rfl⟩
              | cons r rs => exact ⟨_, rfl⟩
            refine HS5.out.texts HZ5.out (hC6.mono (fun k _ hk => ?_)) HNB.out (fun k hk => ?_) HT6.out.own hsv
            · rcases hk with hk | hk
              · exact Or.inl (Or.inr (Or.inl hk))
              · exact Or.inl (Or.inr (Or.inr hk))
            · rcases hk with hk | hk | hk
              · exact Or.inl ⟨Or.inl (Or.inl (Or.inl hk)), by omega⟩
              · exact Or.inl ⟨Or.inl (Or.inl (Or.inr (Or.inl hk))), by omega⟩
              · exact Or.inr hk
          clear hown' hown'' hgrow hnn hT6 hC6 hlt6 hpv hblk6 HS5 HT5 HP5b hown t1 ho5
          go_wp2
          exact ⟨⟨k + 1, s5, sn, rs ++ [S.data.toList], sf, _, by have := HLT.out; omega, by go_num, HP5, HK5, HS6, HT6, HP6, HZ6⟩, by have := HLT.out; simp [intOf]; omega⟩
        · have hsame := add_same s S.data.toList he
          rw [hsame] at A5
          have j0 : ((jAdd s S.data.toList).2 == 0) = false := by rw [beq_eq_false_iff_ne]; exact he
          generalize (jAdd s S.data.toList).2 = er at *
          clear C5 hK5 he hsame
          go_wp2_with fail
          rw [HW4.out]
          refine A5.out.mono ?_
          rintro e w5 ⟨rfl, hS5, hB5, hZ5⟩
          obtain ⟨hp5, hT5, _⟩ := HBLK.out _ hB5
          have HZ5 : Hid (wa.heap.size ≤ w5.heap.size) := Nat.le_trans HZ4.out hZ5
          have HS5 : Hid (Sole wa.heap.size wa bj bd s (fun k => k = pb ∨ k = pb + 1 ∨ v.ownBlock = some k) w5) := HSHR.out _ _ hS5 HZ5.out
          have HT5 : Hid (ToldAt (pb + 1) ⟨sn.toArray⟩ v rs sf w5) := hT5
          have HP5 : Hid (w5.cell? ⟨pb, 0, none⟩ = some (.pointer (some ⟨bd, 0, none⟩)) ∧ w5.cell? ⟨pb, 1, none⟩ = some (.pointer (some ⟨bj, 0, none⟩))) := hp5
          clear hS5 hT5 hp5 hB5 hZ5
          go_wp2
          exact ⟨⟨k + 1, s, sn, rs, sf, v, by have := HLT.out; omega, by go_num, HP, HK, HS5, HT5, HP5, HZ5⟩, by have := HLT.out; simp [intOf]; omega⟩
      · by_cases hD1' : D = 1
        · subst hD1'
          have C5 := HS4.out.call (f := 31) (args := #[.pointer (some ⟨bj, 0, none⟩)]) (r := .int .i64 0) (s' := jSyn s) HZ4.out HTA.out (Nat.le_refl _) (fun T hJ hG hT => jsync_any hJ HK.out hG hT)
          have A5 : Hid (Calls Tryd.prog 31 #[.pointer (some ⟨bj, 0, none⟩)] w4 fun e w' => e = .returned (.int .i64 0) ∧ Sole wa.heap.size wa bj bd (jSyn s) (fun k => (k = pb ∨ k = pb + 1 ∨ v.ownBlock = some k) ∨ k = wr.heap.size) w' ∧ (∀ k, (fun k => (k = pb ∨ k = pb + 1 ∨ v.ownBlock = some k) ∨ k = wr.heap.size) k → w'.heap[k]? = w4.heap[k]?) ∧ w4.heap.size ≤ w'.heap.size) := C5
          have HK5 : Hid (JOk (jSyn s)) := jok_syn s HK.out
          have HP5 : Hid (Play (jSyn s) sn rs rs.length) := play_syn s sn rs sf HP.out
          generalize jSyn s = s5 at *
          clear C5 hD0
          go_wp2_with fail
          rw [HW4.out]
          refine A5.out.mono ?_
          rintro e w5 ⟨rfl, hS5, hB5, hZ5⟩
          obtain ⟨hp5, hT5, _⟩ := HBLK.out _ hB5
          have t1 := hT5.cr
          have t2 := hT5.cn
          have u2 := hT5.free 2
          obtain ⟨av, cv, hvv, _, _⟩ := own_row hT5.own
          subst hvv
          have HZ5 : Hid (wa.heap.size ≤ (w5.setCell ⟨pb + 1, 2, none⟩ (.int .i64 (rs.length : Int))).heap.size) := by show _ ≤ _; simp; exact Nat.le_trans HZ4.out hZ5
          have HT6 : Hid (ToldAt (pb + 1) ⟨sn.toArray⟩ (.slice av rs.length cv) rs rs.length (w5.setCell ⟨pb + 1, 2, none⟩ (.int .i64 (rs.length : Int)))) := hT5.safe rs.length
          have HP6 : Hid ((w5.setCell ⟨pb + 1, 2, none⟩ (.int .i64 (rs.length : Int))).cell? ⟨pb, 0, none⟩ = some (.pointer (some ⟨bd, 0, none⟩)) ∧ (w5.setCell ⟨pb + 1, 2, none⟩ (.int .i64 (rs.length : Int))).cell? ⟨pb, 1, none⟩ = some (.pointer (some ⟨bj, 0, none⟩))) := by
            refine ⟨?_, ?_⟩
            · rw [World.cell?_setCell_other _ _ _ _ (by simp)]; exact hp5.1
            · rw [World.cell?_setCell_other _ _ _ _ (by simp)]; exact hp5.2
          have HS6 : Hid (Sole wa.heap.size wa bj bd s5 (fun k => k = pb ∨ k = pb + 1 ∨ (Value.slice av rs.length cv).ownBlock = some k) (w5.setCell ⟨pb + 1, 2, none⟩ (.int .i64 (rs.length : Int)))) := hS5.own (Nat.le_trans HZ4.out hZ5) ((Dk.chg_set w5 ⟨pb + 1, 2, none⟩ (.int .i64 (rs.length : Int))).mono (fun k _ hk => Or.inl (Or.inr (Or.inl hk)))) HNB.out (fun k hk => ⟨Or.inl (Or.inl hk), by simpa using (hS5.choose_spec.2.2.2.2.1 k (Or.inl hk)).1⟩)
          clear hS5 hT5 hp5 hB5 hZ5 m0 m1 m2 x0 x1
          go_wp2
          exact ⟨⟨k + 1, s5, sn, rs, rs.length, _, by have := HLT.out; omega, by go_num, HP5, HK5, HS6, HT6, HP6, HZ5⟩, by have := HLT.out; simp [intOf]; omega⟩
        · by_cases hD2 : D = 2
          · subst hD2
            have C5 := HS4.out.call (f := 26) (args := #[.pointer (some ⟨bj, 0, none⟩), .string S]) (r := .int .i64 (jCmp s S.data.toList).2) (s' := (jCmp s S.data.toList).1) HZ4.out HTA.out (Nat.le_refl _) (fun T hJ hG hT => compact_any S (by omega) hJ HK.out hG hT)
            have A5 : Hid (Calls Tryd.prog 26 #[.pointer (some ⟨bj, 0, none⟩), .string S] w4 fun e w' => e = .returned (.int .i64 (jCmp s S.data.toList).2) ∧ Sole wa.heap.size wa bj bd (jCmp s S.data.toList).1 (fun k => (k = pb ∨ k = pb + 1 ∨ v.ownBlock = some k) ∨ k = wr.heap.size) w' ∧ (∀ k, (fun k => (k = pb ∨ k = pb + 1 ∨ v.ownBlock = some k) ∨ k = wr.heap.size) k → w'.heap[k]? = w4.heap[k]?) ∧ w4.heap.size ≤ w'.heap.size) := C5
            have hK5 := jok_cmp s S.data.toList HK.out
            by_cases he : (jCmp s S.data.toList).2 = 0
            · have hP5 := play_cmp s sn S.data.toList rs sf HP.out HK.out he
              rw [he] at A5
              have HK5 : Hid (JOk (jCmp s S.data.toList).1) := hK5
              have HP5 : Hid (Play (jCmp s S.data.toList).1 S.data.toList [] 0) := hP5
              generalize (jCmp s S.data.toList).1 = s5 at *
              clear C5 hK5 hP5 he hD0 hD1'
              go_wp2_with fail
              rw [HW4.out]
              refine A5.out.mono ?_
              rintro e w5 ⟨rfl, hS5, hB5, hZ5⟩
              obtain ⟨hp5, hT5, ho5⟩ := HBLK.out _ hB5
              have t0 := hT5.cs
              have t1 := hT5.cr
              have t2 := hT5.cn
              have u0 := hT5.free 0
              have u1 := hT5.free 1
              have u2 := hT5.free 2
              have hch : Chg (fun k => k = pb + 1) w5 (((w5.setCell ⟨pb + 1, 0, none⟩ (.string S)).setCell ⟨pb + 1, 1, none⟩ (.slice none 0 0)).setCell ⟨pb + 1, 2, none⟩ (.int .i64 0)) :=
                ((Dk.chg_set w5 ⟨pb + 1, 0, none⟩ (.string S)).trans (Dk.chg_set _ ⟨pb + 1, 1, none⟩ (.slice none 0 0)) (fun _ _ h => h)).trans (Dk.chg_set _ ⟨pb + 1, 2, none⟩ (.int .i64 0)) (fun _ _ h => h)
              have hpl5 : pb < w5.heap.size := block_lt_of_cell hp5.1
              have hblk : (((w5.setCell ⟨pb + 1, 0, none⟩ (.string S)).setCell ⟨pb + 1, 1, none⟩ (.slice none 0 0)).setCell ⟨pb + 1, 2, none⟩ (.int .i64 0)).heap[pb]? = w5.heap[pb]? := hch.block pb hpl5 (by omega)
              have HZ5 : Hid (wa.heap.size ≤ (((w5.setCell ⟨pb + 1, 0, none⟩ (.string S)).setCell ⟨pb + 1, 1, none⟩ (.slice none 0 0)).setCell ⟨pb + 1, 2, none⟩ (.int .i64 0)).heap.size) := Nat.le_trans (Nat.le_trans HZ4.out hZ5) hch.size
              have HT6 : Hid (ToldAt (pb + 1) ⟨S.data.toList.toArray⟩ (.slice none 0 0) [] 0 (((w5.setCell ⟨pb + 1, 0, none⟩ (.string S)).setCell ⟨pb + 1, 1, none⟩ (.slice none 0 0)).setCell ⟨pb + 1, 2, none⟩ (.int .i64 0))) := by
                show ToldAt _ _ _ _ _ _
                rw [data_mk]
                exact hT5.anew S
              have HP6 : Hid ((((w5.setCell ⟨pb + 1, 0, none⟩ (.string S)).setCell ⟨pb + 1, 1, none⟩ (.slice none 0 0)).setCell ⟨pb + 1, 2, none⟩ (.int .i64 0)).cell? ⟨pb, 0, none⟩ = some (.pointer (some ⟨bd, 0, none⟩)) ∧ (((w5.setCell ⟨pb + 1, 0, none⟩ (.string S)).setCell ⟨pb + 1, 1, none⟩ (.slice none 0 0)).setCell ⟨pb + 1, 2, none⟩ (.int .i64 0)).cell? ⟨pb, 1, none⟩ = some (.pointer (some ⟨bj, 0, none⟩))) := ⟨(World.cell?_of_block (w := w5) (a := ⟨pb, 0, none⟩) hblk).trans hp5.1, (World.cell?_of_block (w := w5) (a := ⟨pb, 1, none⟩) hblk).trans hp5.2⟩
              have HS6 : Hid (Sole wa.heap.size wa bj bd s5 (fun k => k = pb ∨ k = pb + 1 ∨ (Value.slice none 0 0).ownBlock = some k) (((w5.setCell ⟨pb + 1, 0, none⟩ (.string S)).setCell ⟨pb + 1, 1, none⟩ (.slice none 0 0)).setCell ⟨pb + 1, 2, none⟩ (.int .i64 0))) := hS5.own (Nat.le_trans HZ4.out hZ5) (hch.mono (fun k _ hk => Or.inl (Or.inr (Or.inl hk)))) HNB.out (fun k hk => by
                rcases hk with hk | hk | hk
                · exact ⟨Or.inl (Or.inl (Or.inl hk)), by have := hch.size; omega⟩
                · exact ⟨Or.inl (Or.inl (Or.inr (Or.inl hk))), by have := hch.size; have h9 := block_lt_of_cell t0; simp only at h9; omega⟩
                · cases hk)
              obtain ⟨av, cv, hvv, _, _⟩ := own_row hT5.own
              subst hvv
              clear hS5 hT5 hp5 hB5 hZ5 m0 m1 m2 x0 x1 hch hblk
              go_wp2
              exact ⟨⟨k + 1, s5, S.data.toList, [], 0, _, by have := HLT.out; omega, by go_num, HP5, HK5, HS6, HT6, HP6, HZ5⟩, by have := HLT.out; simp [intOf]; omega⟩
            · have hsame := cmp_same s S.data.toList he
              rw [hsame] at A5
              have j0 : ((jCmp s S.data.toList).2 == 0) = false := by rw [beq_eq_false_iff_ne]; exact he
              generalize (jCmp s S.data.toList).2 = er at *
              clear C5 hK5 he hsame hD0 hD1'
              go_wp2_with fail
              rw [HW4.out]
              refine A5.out.mono ?_
              rintro e w5 ⟨rfl, hS5, hB5, hZ5⟩
              obtain ⟨hp5, hT5, _⟩ := HBLK.out _ hB5
              have HZ5 : Hid (wa.heap.size ≤ w5.heap.size) := Nat.le_trans HZ4.out hZ5
              have HS5 : Hid (Sole wa.heap.size wa bj bd s (fun k => k = pb ∨ k = pb + 1 ∨ v.ownBlock = some k) w5) := HSHR.out _ _ hS5 HZ5.out
              have HT5 : Hid (ToldAt (pb + 1) ⟨sn.toArray⟩ v rs sf w5) := hT5
              have HP5 : Hid (w5.cell? ⟨pb, 0, none⟩ = some (.pointer (some ⟨bd, 0, none⟩)) ∧ w5.cell? ⟨pb, 1, none⟩ = some (.pointer (some ⟨bj, 0, none⟩))) := hp5
              clear hS5 hT5 hp5 hB5 hZ5
              go_wp2
              exact ⟨⟨k + 1, s, sn, rs, sf, v, by have := HLT.out; omega, by go_num, HP, HK, HS5, HT5, HP5, HZ5⟩, by have := HLT.out; simp [intOf]; omega⟩
          · have j0 : (D == 0) = false := by rw [beq_eq_false_iff_ne]; exact hD0
            have j1 : (D == 1) = false := by rw [beq_eq_false_iff_ne]; exact hD1'
            have j2 : (D == 2) = false := by rw [beq_eq_false_iff_ne]; exact hD2
            go_wp2
            rw [HW4.out]
            exact ⟨⟨k + 1, s, sn, rs, sf, v, by have := HLT.out; omega, by go_num, HP, HK, HSHR.out _ _ HS4.out HZ4.out, HTo4, HPB4, HZ4⟩, by have := HLT.out; simp [intOf]; omega⟩
    · have hbw : Below w.heap.size w wr := HBA.out.trans (HS.out.bel.mono HBA.out.size)
      have hsa := HSA.out
      have hsb := HS.out.bel
      have c0 : wr.cell? ⟨w.heap.size, 0, none⟩ = some (.string ⟨#[]⟩) := (hsb.cell (p := ⟨w.heap.size, 0, none⟩) (by simp; omega)).trans (by rw [HWA.out]; simp)
      have c1 : wr.cell? ⟨w.heap.size, 1, none⟩ = some (.slice none 0 0) := (hsb.cell (p := ⟨w.heap.size, 1, none⟩) (by simp; omega)).trans (by rw [HWA.out]; simp)
      have c2 : wr.cell? ⟨w.heap.size, 2, none⟩ = some (.int .i64 0) := (hsb.cell (p := ⟨w.heap.size, 2, none⟩) (by simp; omega)).trans (by rw [HWA.out]; simp)
      have cf : ∀ j, wr.frozen? ⟨w.heap.size, j, none⟩ = false := fun j => (hsb.frozen (p := ⟨w.heap.size, j, none⟩) (by simp; omega)).trans (by rw [HWA.out, World.frozen?, heap_alloc_new w _]; simp)
      have f0 := cf 0
      have f1 := cf 1
      have f2 := cf 2
      have p0 := HPB.out.1
      have p1 := HPB.out.2
      have t0 := HTo.out.cs
      have t1 := HTo.out.cr
      have t2 := HTo.out.cn
      obtain ⟨av, cv, hvv, _, _⟩ := own_row HTo.out.own
      subst hvv
      have hz1 := HZ1.out
      have ne1 : pb ≠ w.heap.size := by omega
      have ne2 : pb + 1 ≠ w.heap.size := by omega
      have ne3 : w.heap.size ≠ pb := by omega
      have ne4 : w.heap.size ≠ pb + 1 := by omega
      have HC : Hid (wr.cell? ⟨w.heap.size, 0, none⟩ = some (.string ⟨#[]⟩) ∧ wr.cell? ⟨w.heap.size, 1, none⟩ = some (.slice none 0 0) ∧ wr.cell? ⟨w.heap.size, 2, none⟩ = some (.int .i64 0)) := ⟨c0, c1, c2⟩
      clear hsa hsb cf hz1 hbw
      have HFIN : Hid (∀ a b c : Value, Sole w.heap.size w bj bd s (fun k => (Value.slice av rs.length cv).ownBlock = some k) ((((wr.setCell ⟨w.heap.size, 0, none⟩ a).setCell ⟨w.heap.size, 1, none⟩ b).setCell ⟨w.heap.size, 2, none⟩ c).drew) ∧ ((((wr.setCell ⟨w.heap.size, 0, none⟩ a).setCell ⟨w.heap.size, 1, none⟩ b).setCell ⟨w.heap.size, 2, none⟩ c).drew).ownsRow w.heap.size 9 1 (.slice av rs.length cv) rs.length (rs.map strV) ∧ w.heap.size ≤ ((((wr.setCell ⟨w.heap.size, 0, none⟩ a).setCell ⟨w.heap.size, 1, none⟩ b).setCell ⟨w.heap.size, 2, none⟩ c).drew).heap.size) := by
        intro a b c
        have hsa := HSA.out
        have hz := HZ.out
        have hz1 := HZ1.out
        have hS := HS.out.base2 HBA.out (by omega) hz
        have hch : Chg (fun k => k = w.heap.size) wr (((wr.setCell ⟨w.heap.size, 0, none⟩ a).setCell ⟨w.heap.size, 1, none⟩ b).setCell ⟨w.heap.size, 2, none⟩ c).drew :=
          (((Dk.chg_set wr ⟨w.heap.size, 0, none⟩ a).trans (Dk.chg_set _ ⟨w.heap.size, 1, none⟩ b) (fun _ _ h => h)).trans (Dk.chg_set _ ⟨w.heap.size, 2, none⟩ c) (fun _ _ h => h)).trans (Dk.chg_drew (fun _ => False) _) (fun _ _ h => h.elim)
        have hsz := hch.size
        refine ⟨hS.own (by omega) (hch.mono (fun k _ e => Or.inr (by omega))) (fun k hk => ?_) (fun k hk => ⟨Or.inl (Or.inl (Or.inr (Or.inr hk))), by have := (HTo.out.own.lt k hk).2; omega⟩), ?_, by omega⟩
        · rcases hk with (hk | hk | hk) | hk
          · omega
          · omega
          · have := (HTo.out.own.lt k hk).1; omega
          · omega
        · exact own_base (own_chg HTo.out.own hch (fun g hg e => by have := (HTo.out.own.lt g hg).1; have e2 : g = w.heap.size := e; omega)) (by omega)
      go_wp2_with fail
      go_region
      go_wp2_with fail
      refine bodyPost_ret (results_plays rfl _ _ w.heap.size (.string ⟨sn.toArray⟩) (.slice av rs.length cv) (.int .i64 (sf : Int)) _ rfl (set3 _ _ _ HC.out.1 HC.out.2.1 HC.out.2.2).1 (set3 _ _ _ HC.out.1 HC.out.2.1 HC.out.2.2).2.1 (set3 _ _ _ HC.out.1 HC.out.2.1 HC.out.2.2).2.2 Tryd.underlying59 rfl (by kernel_rfl)) rfl ?_
      exact ⟨bd, bj, s, sn, rs, sf, .slice av rs.length cv, rfl, HP.out, HK.out, (HFIN.out _ _ _).1, (HFIN.out _ _ _).2.1, (HFIN.out _ _ _).2.2⟩
end Go.Proofs.YtklgfapdgeoigaaDoor

/- The walk of the law JournalShort. -/
set_option linter.unusedVariables false
set_option maxRecDepth 100000
namespace Go.Proofs.YtklgfapdgeoigaaDoor
open Go.RowKit
open JournalMath DiskMath
open Fr (Tab tab_below tab_drewN)
open Dk (PDisk RDisk ROk DIn Chg fp fp_lt rdisk_below rdisk_chg chg_below pdisk_below pdisk_chg)

/-- How an Open ends beside blocks of the law's own. -/
def SoleOpen (B : Nat) (w : World) (bd : Nat) (d : DS) (sn : List UInt8) (rs : List (List UInt8)) (N : Nat → Prop) (wr : World) (e : Ending) (w' : World) : Prop :=
  ∃ (jb : Nat) (v : Value) (V : Nat → Value), e = .returned (.tuple #[.pointer (some ⟨jb, 0, none⟩), .string ⟨sn.toArray⟩, v, .int .i64 0]) ∧ SRow w' v rs ∧ PDisk w' bd V d ∧ (∀ k, N k → w'.heap[k]? = wr.heap[k]?) ∧ Below B w w'
/-- Open of a disk of which one file holds. -/
theorem Sole.open_ {B : Nat} {w wr : World} {bj bd : Nat} {s : JS} {N : Nat → Prop} (h : Sole B w bj bd s N wr) (hB : B ≤ wr.heap.size) (hT : Tab w) (hBw : w.heap.size ≤ B) (hk : Ok s.d) (f : Nat) (hf : f ≤ 1) (h0 : (found (s.d.F f)).gen ≠ 0) (h1 : (found (s.d.F (1 - f))).gen = 0) :
    Calls Tryd.prog 18 #[.pointer (some ⟨bd, 0, none⟩)] wr fun e w' => SoleOpen B w bd (opened s.d f (found (s.d.F f))).d (found (s.d.F f)).snap (found (s.d.F f)).recs N wr e w' := by
  obtain ⟨V, g1, g2, g3, g4, g5, g6⟩ := h
  have hT1 : Tab wr := fun i hi => by
    have h0 := hT i hi
    have hlt := block_lt_of_cell h0
    rw [g6.cell (p := ⟨0, i, none⟩) (by simp only at hlt ⊢; omega)]
    exact h0
  have hG : 0 < wr.heap.size ∧ ¬ (fp bd V 0) := ⟨tab_lt hT1, fun hf => by have := g4 _ (Or.inl hf); have := tab_lt hT; omega⟩
  refine (open_any (T := fun k => k < wr.heap.size ∧ ¬ fp bd V k) f hf ⟨V, g1, fun k hk _ ht => ht.2 hk, Chg.refl _ _⟩ hk hG hT1 h0 h1).mono ?_
  rintro e w' ⟨jb, v, V2, k1, k2, k3, k4, k5, k6, k7, k8⟩
  exact ⟨jb, v, V2, k1, srow_own k7, k2, fun k hk => k6.block k (g5 k hk).1 (fun hn => hn ⟨(g5 k hk).1, fun hf => (g5 k hk).2 (Or.inl hf)⟩), g6.trans ⟨k6.os, k6.tape, k6.output, k6.size, fun k hk => k6.block k (by omega) (fun hn => hn ⟨by omega, fun hf => by have := g4 k (Or.inl hf); omega⟩)⟩⟩
theorem ok_opened (d : DS) (f : Nat) (h : Ok d) (hf : f ≤ 1) : Ok (opened d f (found (d.F f))).d := (jok_opened d f h hf).ok
theorem used_opened (s : JS) (sn : List UInt8) (rs : List (List UInt8)) (sf : Nat) (h : Play s sn rs sf) (hk : JOk s) : used (opened s.d s.f (found (s.d.F s.f))).d = (s.d.F s.f).length := by
  have hf := hk.file
  have hx := (says_found s sn rs h.says hk).1
  have ho := opened_files s.d s.f hf (found (s.d.F s.f)) hk.ok (found_le _).1
  rw [hx] at ho ⊢
  simp only [List.take_length] at ho
  have h2 : (opened s.d s.f ⟨s.g, sn, rs, (s.d.F s.f).length⟩).d.F 2 = [] := by
    show (cut (cut s.d (1 - s.f) 0) s.f _).F 2 = []
    unfold cut
    simp only [upd_other _ _ _ _ (show 2 ≠ s.f by omega), upd_other _ _ _ _ (show 2 ≠ 1 - s.f by omega)]
    exact h.two
  have h3 : (opened s.d s.f ⟨s.g, sn, rs, (s.d.F s.f).length⟩).d.F 3 = [] := by
    show (cut (cut s.d (1 - s.f) 0) s.f _).F 3 = []
    unfold cut
    simp only [upd_other _ _ _ _ (show 3 ≠ s.f by omega), upd_other _ _ _ _ (show 3 ≠ 1 - s.f by omega)]
    exact h.three
  unfold used
  rw [h2, h3]
  rcases (show s.f = 0 ∨ s.f = 1 by omega) with e | e
  · rw [e] at ho ⊢
    rw [ho.1, show (1 : Nat) = 1 - 0 from rfl, ho.2.1]
    simp
  · rw [e] at ho ⊢
    rw [ho.1, show (0 : Nat) = 1 - 1 from rfl, ho.2.1]
    simp
theorem cmp_err (s : JS) (snap : List UInt8) (h : (jCmp s snap).2 ≠ 0) : (jCmp s snap).2 = 2 ∨ (jCmp s snap).2 = 41 := by
  unfold jCmp at h ⊢
  split
  · exact Or.inl rfl
  · rename_i h1
    rw [if_neg h1] at h
    unfold jBegin at h ⊢
    split
    · exact Or.inr rfl
    · rename_i h2; rw [if_neg h2] at h; exact absurd rfl h
theorem cmp_gen (s : JS) (snap : List UInt8) (h : (jCmp s snap).2 = 0) : (jCmp s snap).1.g = s.g + 1 ∧ (jCmp s snap).1.n = 0 := by
  unfold jCmp at h ⊢
  by_cases h1 : 190000 < snap.length ∨ s.g = 1125899906842624
  · rw [if_pos h1] at h; exact absurd h (by simp)
  · rw [if_neg h1] at h ⊢
    unfold jBegin at h ⊢
    by_cases h2 : s.d.R < used s.d + (FrameMath.wrap (head (s.g + 1) snap)).length
    · rw [if_pos h2] at h; exact absurd h (by simp)
    · rw [if_neg h2]; exact ⟨rfl, rfl⟩
theorem short_size (s : JS) (snap : List UInt8) (h : Says s snap []) (hk : JOk s) : snap.length < (s.d.F s.f).length := by
  rw [h.holds, FrameMath.wraps_length]
  have := (head_length s.g snap hk.gen).2
  show snap.length < (head s.g snap).length + 8 + 0
  omega

set_option maxHeartbeats 2000000 in
theorem journalShort_walk (room : Int) (hroom : -9223372036854775808 ≤ room ∧ room ≤ 9223372036854775807) (l : List JOp) (hl : ∀ o ∈ l, OpOk o) (hll : l.length ≤ 140737488355328) (v : Value) (snap : ByteArray) (hsn : snap.size ≤ 140737488351232) (w : World) (hv : ORow w v l) (hT : Tab w) :
    Calls Tryd.prog 8 #[.int .i64 room, v, .string snap] w fun e w' => e = .returned (.bool true) ∧ Below w.heap.size w w' := by
  have C1 : Hid (Calls Tryd.prog 24 #[.int .i64 room, v] w fun e w' => PlaysOk w e w') := plays_any room hroom l hl hll v w hv hT
  have HT : Hid (Tab w) := hT
  obtain ⟨ao, cap, rfl, _⟩ := hv
  clear hl hT
  go_enter Tryd.func8, Tryd.ntmps8
  go_wp2_with fail
  refine C1.out.mono ?_
  rintro e w1 ⟨bd, bj, s, sn, rs, sf, v1, rfl, hP, hK, hS, hown, hsz⟩
  obtain ⟨w2, hw2⟩ : ∃ w2, w1.alloc (.cells #[.string ⟨sn.toArray⟩, v1, .int .i64 (sf : Int)] 59) = w2 := ⟨_, rfl⟩
  have hb12 : Below w1.heap.size w1 w2 := by rw [← hw2]; exact (Below.refl _ _).alloc (Nat.le_refl _) _
  have hs2 : w2.heap.size = w1.heap.size + 1 := by rw [← hw2]; simp
  have hS2 : Sole w.heap.size w bj bd s (fun k => v1.ownBlock = some k ∨ k = w1.heap.size) w2 := hS.own hsz (chg_below hb12) (fun k hk => (hown.lt k hk).1) (fun k hk => by
    rcases hk with hk | hk
    · exact ⟨Or.inl hk, by have := (hown.lt k hk).2; omega⟩
    · exact ⟨Or.inr (by omega), by omega⟩)
  have hown2 := own_below hown hb12
  have q0 : w2.cell? ⟨w1.heap.size, 0, none⟩ = some (.string ⟨sn.toArray⟩) := by rw [← hw2]; simp
  have q1 : w2.cell? ⟨w1.heap.size, 1, none⟩ = some v1 := by
    obtain ⟨a, c, rfl, _, _⟩ := own_row hown
    rw [← hw2]; simp
  have HBLK : Hid (∀ w3 : World, (∀ k, (v1.ownBlock = some k ∨ k = w1.heap.size) → w3.heap[k]? = w2.heap[k]?) → w3.cell? ⟨w1.heap.size, 0, none⟩ = some (.string ⟨sn.toArray⟩) ∧ w3.cell? ⟨w1.heap.size, 1, none⟩ = some v1 ∧ SRow w3 v1 rs) := fun w3 h => by
    have ho := h w1.heap.size (Or.inr rfl)
    refine ⟨(World.cell?_of_block (w := w2) (a := ⟨w1.heap.size, 0, none⟩) ho).trans q0, (World.cell?_of_block (w := w2) (a := ⟨w1.heap.size, 1, none⟩) ho).trans q1, ?_⟩
    refine srow_own (B := w.heap.size) (e := 9) ⟨hown2.1, ?_⟩
    rcases hown2.2 with h0 | ⟨g, cap, cur, hv, hb, hgg, rest⟩
    · exact Or.inl h0
    · refine Or.inr ⟨g, cap, cur, hv, hb, ?_, rest⟩
      rw [h g (Or.inl (by rw [hv]; rfl))]
      exact hgg
  have HS2 : Hid (Sole w.heap.size w bj bd s (fun k => v1.ownBlock = some k ∨ k = w1.heap.size) w2) := hS2
  have HW2 : Hid (w1.alloc (.cells #[.string ⟨sn.toArray⟩, v1, .int .i64 (sf : Int)] 59) = w2) := hw2
  have hcount := hP.says.count
  have hrl : rs.length ≤ 1048576 := by
    have h1 := hK.count
    have h2 := file_le s.d s.f (by have := hK.file; omega)
    have h3 := hK.ok.room
    have h4 := hK.ok.most
    omega
  have HZ : Hid (w.heap.size ≤ w2.heap.size) := by show _ ≤ _; omega
  have ST1 : Hid (∀ w3, Sole w.heap.size w bj bd s (fun k => v1.ownBlock = some k ∨ k = w1.heap.size) w3 → w.heap.size ≤ w3.heap.size → Calls Tryd.prog 21 #[.pointer (some ⟨bj, 0, none⟩)] w3 fun e w' => e = .returned (.tuple #[.int .i64 (s.g : Int), .int .i64 (rs.length : Int), .int .i64 ((s.d.F s.f).length : Int)]) ∧ Sole w.heap.size w bj bd s (fun k => v1.ownBlock = some k ∨ k = w1.heap.size) w' ∧ (∀ k, (v1.ownBlock = some k ∨ k = w1.heap.size) → w'.heap[k]? = w3.heap[k]?) ∧ w3.heap.size ≤ w'.heap.size) := fun w3 h hB => h.call hB HT.out (Nat.le_refl _) (fun T hJ hG hT => by rw [← hcount]; exact stat_any hJ hK hG hT)
  have CM : Hid (∀ w3, Sole w.heap.size w bj bd s (fun k => v1.ownBlock = some k ∨ k = w1.heap.size) w3 → w.heap.size ≤ w3.heap.size → Calls Tryd.prog 26 #[.pointer (some ⟨bj, 0, none⟩), .string snap] w3 fun e w' => e = .returned (.int .i64 (jCmp s snap.data.toList).2) ∧ Sole w.heap.size w bj bd (jCmp s snap.data.toList).1 (fun k => v1.ownBlock = some k ∨ k = w1.heap.size) w' ∧ (∀ k, (v1.ownBlock = some k ∨ k = w1.heap.size) → w'.heap[k]? = w3.heap[k]?) ∧ w3.heap.size ≤ w'.heap.size) := fun w3 h hB => h.call hB HT.out (Nat.le_refl _) (fun T hJ hG hT => compact_any snap (by omega) hJ hK hG hT)
  have hg50 := hK.gen
  have hfl : (s.d.F s.f).length ≤ 1048576 := by have h2 := file_le s.d s.f (by have := hK.file; omega); have h3 := hK.ok.room; have h4 := hK.ok.most; omega
  have hvr : SRow w2 v1 rs := srow_own hown2
  by_cases he : (jCmp s snap.data.toList).2 = 0
  · have hP2 := play_cmp s sn snap.data.toList rs sf hP hK he
    have hK2 := jok_cmp s snap.data.toList hK
    have hg2 := cmp_gen s snap.data.toList he
    rw [he] at CM
    generalize (jCmp s snap.data.toList).1 = s2 at *
    have hss := short_size s2 _ hP2.says hK2
    rw [size_data] at hss
    have hus := used_opened s2 _ _ _ hP2 hK2
    have hok := ok_opened s2.d s2.f hK2.ok hK2.file
    have hfl2 : (s2.d.F s2.f).length ≤ 1048576 := by have h2 := file_le s2.d s2.f (by have := hK2.file; omega); have h3 := hK2.ok.room; have h4 := hK2.ok.most; omega
    have ST2 : Hid (∀ w3, Sole w.heap.size w bj bd s2 (fun k => v1.ownBlock = some k ∨ k = w1.heap.size) w3 → w.heap.size ≤ w3.heap.size → Calls Tryd.prog 21 #[.pointer (some ⟨bj, 0, none⟩)] w3 fun e w' => e = .returned (.tuple #[.int .i64 ((s.g : Int) + 1), .int .i64 0, .int .i64 ((s2.d.F s2.f).length : Int)]) ∧ Sole w.heap.size w bj bd s2 (fun k => v1.ownBlock = some k ∨ k = w1.heap.size) w' ∧ (∀ k, (v1.ownBlock = some k ∨ k = w1.heap.size) → w'.heap[k]? = w3.heap[k]?) ∧ w3.heap.size ≤ w'.heap.size) := fun w3 h hB => h.call hB HT.out (Nat.le_refl _) (fun T hJ hG hT => by
      have := stat_any hJ hK2 hG hT
      rw [hg2.1, hg2.2, Int.natCast_add] at this
      exact this)
    have OP : Hid (∀ w3, Sole w.heap.size w bj bd s2 (fun k => v1.ownBlock = some k ∨ k = w1.heap.size) w3 → w.heap.size ≤ w3.heap.size → Calls Tryd.prog 18 #[.pointer (some ⟨bd, 0, none⟩)] w3 fun e w' => ∃ jb v V, e = .returned (.tuple #[.pointer (some ⟨jb, 0, none⟩), .string snap, v, .int .i64 0]) ∧ SRow w' v [] ∧ PDisk w' bd V (opened s2.d s2.f (found (s2.d.F s2.f))).d ∧ Below w.heap.size w w') := fun w3 h hB => by
      obtain ⟨hfo, hfe⟩ := says_found s2 _ _ hP2.says hK2
      have := h.open_ hB HT.out (Nat.le_refl _) hK2.ok s2.f hK2.file (by rw [hfo]; show s2.g ≠ 0; have := hP2.says.gen; omega) (by rw [hfe])
      rw [hfo] at this ⊢
      refine this.mono ?_
      rintro e w' ⟨jb, v, V, k1, k2, k3, k4, k5⟩
      rw [data_mk] at k1
      exact ⟨jb, v, V, k1, k2, k3, k5⟩
    generalize (opened s2.d s2.f (found (s2.d.F s2.f))).d = d6 at *
    generalize (s2.d.F s2.f).length = sz2 at *
    generalize (s.d.F s.f).length = sz at *
    generalize s.g = gg at *
    have HUS : Hid (∀ (w6 : World) V, PDisk w6 bd V d6 → Calls Tryd.prog 27 #[.pointer (some ⟨bd, 0, none⟩)] w6 fun e w' => e = .returned (.int .i64 (sz2 : Int)) ∧ w' = w6) := fun w6 V h => by
      have := Dk.used_any w6 bd V d6 h hok
      rw [hus] at this
      exact this
    clear hP hK hS hown hS2 hown2 q0 q1 hw2 hb12 hs2 C1 hcount hsz hP2 hK2 hg2 hus hok he HBLK
    have i9 : (snap.size : Int) < (sz2 : Int) := by omega
    obtain ⟨av, cv, hvv⟩ : ∃ av cv, v1 = .slice av rs.length cv := by
      obtain ⟨a, c, h, _⟩ := hvr
      exact ⟨a, c, h⟩
    subst hvv
    clear hvr
    go_wp2_with fail
    rw [HW2.out]
    refine (ST1.out _ HS2.out HZ.out).mono ?_
    rintro e w3 ⟨rfl, hS3, hB3, hZ3⟩
    have HS3 : Hid (Sole w.heap.size w bj bd s (fun k => (Value.slice av rs.length cv).ownBlock = some k ∨ k = w1.heap.size) w3) := hS3
    have HZ3 : Hid (w.heap.size ≤ w3.heap.size) := Nat.le_trans HZ.out hZ3
    clear hS3 hB3 hZ3
    go_wp2_with fail
    refine (CM.out _ HS3.out HZ3.out).mono ?_
    rintro e w4 ⟨rfl, hS4, hB4, hZ4⟩
    have HS4 : Hid (Sole w.heap.size w bj bd s2 (fun k => (Value.slice av rs.length cv).ownBlock = some k ∨ k = w1.heap.size) w4) := hS4
    have HZ4 : Hid (w.heap.size ≤ w4.heap.size) := Nat.le_trans HZ3.out hZ4
    clear hS4 hB4 hZ4
    go_wp2_with fail
    refine (ST2.out _ HS4.out HZ4.out).mono ?_
    rintro e w5 ⟨rfl, hS5, hB5, hZ5⟩
    have HS5 : Hid (Sole w.heap.size w bj bd s2 (fun k => (Value.slice av rs.length cv).ownBlock = some k ∨ k = w1.heap.size) w5) := hS5
    have HZ5 : Hid (w.heap.size ≤ w5.heap.size) := Nat.le_trans HZ4.out hZ5
    clear hS5 hB5 hZ5
    go_wp2_with fail
    refine (OP.out _ HS5.out HZ5.out).mono ?_
    rintro e w6 ⟨jb, v6, V6, rfl, hr6, hP6, hb6⟩
    have HB6 : Hid (Below w.heap.size w w6) := hb6
    have HU6 : Hid (Calls Tryd.prog 27 #[.pointer (some ⟨bd, 0, none⟩)] w6 fun e w' => e = .returned (.int .i64 (sz2 : Int)) ∧ w' = w6) := HUS.out _ _ hP6
    obtain ⟨a6, c6, rfl, _, _⟩ := hr6
    clear hP6 hb6
    go_wp2_with fail
    refine HU6.out.mono ?_
    rintro e w7 ⟨rfl, hw7⟩
    rw [hw7]
    clear hw7
    go_wp2_with fail
    go_ret
    exact ⟨rfl, HB6.out⟩
  · have hsame := cmp_same s snap.data.toList he
    have herr := cmp_err s snap.data.toList he
    rw [hsame] at CM
    have OP : Hid (∀ w3, Sole w.heap.size w bj bd s (fun k => v1.ownBlock = some k ∨ k = w1.heap.size) w3 → w.heap.size ≤ w3.heap.size → Calls Tryd.prog 18 #[.pointer (some ⟨bd, 0, none⟩)] w3 fun e w' => SoleOpen w.heap.size w bd (opened s.d s.f (found (s.d.F s.f))).d sn rs (fun k => v1.ownBlock = some k ∨ k = w1.heap.size) w3 e w') := fun w3 h hB => by
      obtain ⟨hfo, hfe⟩ := says_found s sn rs hP.says hK
      have := h.open_ hB HT.out (Nat.le_refl _) hK.ok s.f hK.file (by rw [hfo]; show s.g ≠ 0; have := hP.says.gen; omega) (by rw [hfe])
      rw [hfo] at this ⊢
      exact this
    generalize (jCmp s snap.data.toList).2 = er at *
    generalize (s.d.F s.f).length = sz at *
    generalize s.g = gg at *
    clear hP hK hS hown hS2 hown2 q0 q1 hw2 hb12 hs2 hsame C1 hcount hsz
    obtain ⟨av, cv, hvv⟩ : ∃ av cv, v1 = .slice av rs.length cv := by
      obtain ⟨a, c, h, _⟩ := hvr
      exact ⟨a, c, h⟩
    subst hvv
    clear hvr
    have e0 : (er != 0) = true := by rw [bne_iff_ne]; exact he
    rcases herr with rfl | rfl
    all_goals
      go_wp2_with fail
      rw [HW2.out]
      refine (ST1.out _ HS2.out HZ.out).mono ?_
      rintro e w3 ⟨rfl, hS3, hB3, hZ3⟩
      have HS3 : Hid (Sole w.heap.size w bj bd s (fun k => (Value.slice av rs.length cv).ownBlock = some k ∨ k = w1.heap.size) w3) := hS3
      have HB3 : Hid (∀ k, ((Value.slice av rs.length cv).ownBlock = some k ∨ k = w1.heap.size) → w3.heap[k]? = w2.heap[k]?) := hB3
      have HZ3 : Hid (w.heap.size ≤ w3.heap.size) := Nat.le_trans HZ.out hZ3
      clear hS3 hB3 hZ3
      go_wp2_with fail
      refine (CM.out _ HS3.out HZ3.out).mono ?_
      rintro e w4 ⟨rfl, hS4, hB4, hZ4⟩
      have HS4 : Hid (Sole w.heap.size w bj bd s (fun k => (Value.slice av rs.length cv).ownBlock = some k ∨ k = w1.heap.size) w4) := hS4
      have HB4 : Hid (∀ k, ((Value.slice av rs.length cv).ownBlock = some k ∨ k = w1.heap.size) → w4.heap[k]? = w2.heap[k]?) := fun k hk => (hB4 k hk).trans (HB3.out k hk)
      have HZ4 : Hid (w.heap.size ≤ w4.heap.size) := Nat.le_trans HZ3.out hZ4
      clear hS4 hB4 hZ4
      go_wp2_with fail
      refine (ST1.out _ HS4.out HZ4.out).mono ?_
      rintro e w5 ⟨rfl, hS5, hB5, hZ5⟩
      have HS5 : Hid (Sole w.heap.size w bj bd s (fun k => (Value.slice av rs.length cv).ownBlock = some k ∨ k = w1.heap.size) w5) := hS5
      have HB5 : Hid (∀ k, ((Value.slice av rs.length cv).ownBlock = some k ∨ k = w1.heap.size) → w5.heap[k]? = w2.heap[k]?) := fun k hk => (hB5 k hk).trans (HB4.out k hk)
      have HZ5 : Hid (w.heap.size ≤ w5.heap.size) := Nat.le_trans HZ4.out hZ5
      obtain ⟨y0, y1, _⟩ := HBLK.out _ HB5.out
      clear hS5 hB5 hZ5
      go_wp2_with fail
      refine (OP.out _ HS5.out HZ5.out).mono ?_
      rintro e w6 ⟨jb, v6, V6, rfl, hr6, hP6, hB6, hb6⟩
      obtain ⟨z0, z1, hr1⟩ := HBLK.out w6 (fun k hk => (hB6 k hk).trans (HB5.out k hk))
      have HR6 : Hid (SRow w6 v6 rs) := hr6
      have HR1 : Hid (SRow w6 (.slice av rs.length cv) rs) := hr1
      have HB6 : Hid (Below w.heap.size w w6) := hb6
      obtain ⟨a6, c6, rfl, _, _⟩ := hr6
      clear hr1 hP6 hB6 hb6 y0 y1
      go_wp2_with fail
      refine (same_true rs (by omega) _ _ w6 HR6.out HR1.out).mono ?_
      rintro e w7 ⟨rfl, q, hw7⟩
      have HB7 : Hid (Below w.heap.size w w7) := below_drew_of HB6.out hw7
      clear hw7
      go_wp2_with fail
      go_ret
      exact ⟨rfl, HB7.out⟩
end Go.Proofs.YtklgfapdgeoigaaDoor

/- Two disks of the program's beside blocks of the law's own. -/
set_option linter.unusedVariables false
set_option maxRecDepth 100000
namespace Go.Proofs.YtklgfapdgeoigaaDoor
open Go.RowKit
open JournalMath DiskMath
open Fr (Tab tab_below tab_drewN)
open Dk (PDisk RDisk ROk DIn Chg fp fp_lt rdisk_below rdisk_chg chg_below pdisk_below pdisk_chg)

/-- Two disks that have no block in common, from block B on, and none of whose blocks is among those of N. -/
def DD (B : Nat) (w : World) (bd bc : Nat) (d1 d2 : DS) (N : Nat → Prop) (wr : World) : Prop :=
  ∃ V U, PDisk wr bd V d1 ∧ PDisk wr bc U d2 ∧ (∀ k, fp bd V k → ¬ fp bc U k) ∧ (∀ k, fp bd V k ∨ fp bc U k → B ≤ k) ∧ (∀ k, N k → k < wr.heap.size ∧ ¬ fp bd V k ∧ ¬ fp bc U k) ∧ Below B w wr
theorem DD.swap {B : Nat} {w wr : World} {bd bc : Nat} {d1 d2 : DS} {N : Nat → Prop} (h : DD B w bd bc d1 d2 N wr) : DD B w bc bd d2 d1 N wr := by
  obtain ⟨V, U, h1, h2, h3, h4, h5, h6⟩ := h
  exact ⟨U, V, h2, h1, fun k hk hv => h3 k hv hk, fun k hk => h4 k hk.symm, fun k hk => ⟨(h5 k hk).1, (h5 k hk).2.2, (h5 k hk).2.1⟩, h6⟩
theorem DD.bel {B : Nat} {w wr : World} {bd bc : Nat} {d1 d2 : DS} {N : Nat → Prop} (h : DD B w bd bc d1 d2 N wr) : Below B w wr := by
  obtain ⟨V, U, h1, h2, h3, h4, h5, h6⟩ := h
  exact h6
theorem DD.drew {B : Nat} {w wr w2 : World} {bd bc : Nat} {d1 d2 : DS} {N : Nat → Prop} (h : DD B w bd bc d1 d2 N wr) (hB : B ≤ wr.heap.size) (e : ∃ q, w2 = wr.drewN q) : DD B w bd bc d1 d2 N w2 := by
  obtain ⟨q, rfl⟩ := e
  have hb : Below wr.heap.size wr (wr.drewN q) := below_drewN (Below.refl _ _) q
  obtain ⟨V, U, h1, h2, h3, h4, h5, h6⟩ := h
  exact ⟨V, U, pdisk_below h1 hb, pdisk_below h2 hb, h3, h4, fun k hk => ⟨by have := (h5 k hk).1; have := hb.size; omega, (h5 k hk).2⟩, h6.trans (hb.mono hB)⟩
/-- A call on the first one. -/
theorem DD.call {B : Nat} {w wr : World} {bd bc : Nat} {d1 d1' d2 : DS} {N : Nat → Prop} {f : FuncId} {args : Array Value} {r : Value} (h : DD B w bd bc d1 d2 N wr) (hB : B ≤ wr.heap.size)
    (hc : ∀ (T : Nat → Prop), DIn T wr bd d1 wr → Calls Tryd.prog f args wr fun e w' => e = .returned r ∧ DIn T wr bd d1' w') :
    Calls Tryd.prog f args wr fun e w' => e = .returned r ∧ DD B w bd bc d1' d2 N w' ∧ (∀ k, N k → w'.heap[k]? = wr.heap[k]?) ∧ wr.heap.size ≤ w'.heap.size := by
  obtain ⟨V, U, h1, h2, h3, h4, h5, h6⟩ := h
  refine (hc (fun k => k < wr.heap.size ∧ ¬ fp bd V k) ⟨V, h1, fun k hk _ ht => ht.2 hk, Chg.refl _ _⟩).mono ?_
  rintro e w' ⟨k1, V2, g1, g2, g3⟩
  have hV : ∀ k, fp bd V2 k → k < wr.heap.size → fp bd V k := fun k hk hlt => Classical.byContradiction fun hn => g2 k hk hlt ⟨hlt, hn⟩
  have hU := fp_lt h2
  have hsz := g3.size
  refine ⟨k1, ⟨V2, U, g1, pdisk_chg h2 g3 (fun k hk hn => hn ⟨hU k hk, fun hf => h3 k hf hk⟩), fun k hk hu => h3 k (hV k hk (hU k hu)) hu, fun k hk => ?_, fun k hk => ⟨by have := (h5 k hk).1; omega, fun hf => (h5 k hk).2.1 (hV k hf (h5 k hk).1), (h5 k hk).2.2⟩, h6.trans ⟨g3.os, g3.tape, g3.output, g3.size, fun k hk => g3.block k (by omega) (fun hn => hn ⟨by omega, fun hf => by have := h4 k (Or.inl hf); omega⟩)⟩⟩, fun k hk => g3.block k (h5 k hk).1 (fun hn => hn ⟨(h5 k hk).1, (h5 k hk).2.1⟩), g3.size⟩
  rcases hk with hk | hk
  · by_cases hlt : k < wr.heap.size
    · exact h4 k (Or.inl (hV k hk hlt))
    · omega
  · exact h4 k (Or.inr hk)
/-- How an Open on the first one ends. -/
def DDOpen (B : Nat) (w : World) (bd bc : Nat) (d1 d2 : DS) (sn : List UInt8) (rs : List (List UInt8)) (N : Nat → Prop) (wr : World) (e : Ending) (w' : World) : Prop :=
  ∃ (jb : Nat) (v : Value), e = .returned (.tuple #[.pointer (some ⟨jb, 0, none⟩), .string ⟨sn.toArray⟩, v, .int .i64 0]) ∧ w'.ownsRow wr.heap.size 9 1 v rs.length (rs.map strV) ∧ DD B w bd bc d1 d2 (fun k => N k ∨ v.ownBlock = some k) w' ∧ (∀ k, N k → w'.heap[k]? = wr.heap[k]?) ∧ wr.heap.size ≤ w'.heap.size
theorem DD.open_ {B : Nat} {w wr : World} {bd bc : Nat} {d1 d2 : DS} {N : Nat → Prop} (h : DD B w bd bc d1 d2 N wr) (hB : B ≤ wr.heap.size) (hT : Tab w) (hBw : w.heap.size ≤ B) (hk : Ok d1) (f : Nat) (hf : f ≤ 1) (h0 : (found (d1.F f)).gen ≠ 0) (h1 : (found (d1.F (1 - f))).gen = 0) :
    Calls Tryd.prog 18 #[.pointer (some ⟨bd, 0, none⟩)] wr fun e w' => DDOpen B w bd bc (opened d1 f (found (d1.F f))).d d2 (found (d1.F f)).snap (found (d1.F f)).recs N wr e w' := by
  obtain ⟨V, U, g1, g2, g3, g4, g5, g6⟩ := h
  have hT1 : Tab wr := fun i hi => by
    have h0 := hT i hi
    have hlt := block_lt_of_cell h0
    rw [g6.cell (p := ⟨0, i, none⟩) (by simp only at hlt ⊢; omega)]
    exact h0
  have hG : 0 < wr.heap.size ∧ ¬ fp bd V 0 := ⟨tab_lt hT1, fun hf => by have := g4 _ (Or.inl hf); have := tab_lt hT; omega⟩
  refine (open_any (T := fun k => k < wr.heap.size ∧ ¬ fp bd V k) f hf ⟨V, g1, fun k hk _ ht => ht.2 hk, Chg.refl _ _⟩ hk hG hT1 h0 h1).mono ?_
  rintro e w' ⟨jb, v, V2, k1, k2, k3, k4, k5, k6, k7, k8⟩
  have hV : ∀ k, fp bd V2 k → k < wr.heap.size → fp bd V k := fun k hk hlt => Classical.byContradiction fun hn => k4 k (Or.inl hk) hlt ⟨hlt, hn⟩
  have hU := fp_lt g2
  have hsz := k6.size
  refine ⟨jb, v, k1, k7, ⟨V2, U, k2, pdisk_chg g2 k6 (fun k hk hn => hn ⟨hU k hk, fun hf => g3 k hf hk⟩), fun k hk hu => g3 k (hV k hk (hU k hu)) hu, fun k hk => ?_, fun k hk => ?_, g6.trans ⟨k6.os, k6.tape, k6.output, k6.size, fun k hk => k6.block k (by omega) (fun hn => hn ⟨by omega, fun hf => by have := g4 k (Or.inl hf); omega⟩)⟩⟩, fun k hk => k6.block k (g5 k hk).1 (fun hn => hn ⟨(g5 k hk).1, (g5 k hk).2.1⟩), k6.size⟩
  · rcases hk with hk | hk
    · by_cases hlt : k < wr.heap.size
      · exact g4 k (Or.inl (hV k hk hlt))
      · omega
    · exact g4 k (Or.inr hk)
  · rcases hk with hk | hk
    · exact ⟨by have := (g5 k hk).1; omega, fun hf => (g5 k hk).2.1 (hV k hf (g5 k hk).1), (g5 k hk).2.2⟩
    · have hl := k7.lt k hk
      exact ⟨hl.2, (k8 k hk).1, fun hu => by have := hU k hu; omega⟩
theorem Sole.copy {B : Nat} {w wr : World} {bj bd : Nat} {s : JS} {N : Nat → Prop} (h : Sole B w bj bd s N wr) (hB : B ≤ wr.heap.size) (hk : Ok s.d) :
    Calls Tryd.prog 25 #[.pointer (some ⟨bd, 0, none⟩)] wr fun e w' => ∃ bc, e = .returned (.pointer (some ⟨bc, 0, none⟩)) ∧ DD B w bd bc s.d s.d N w' ∧ (∀ k, N k → w'.heap[k]? = wr.heap[k]?) ∧ wr.heap.size ≤ w'.heap.size := by
  obtain ⟨V, g1, g2, g3, g4, g5, g6⟩ := h
  refine (Dk.copy_any wr bd V s.d g1 hk).mono ?_
  rintro e w' ⟨k1, hb, U, k2, k3⟩
  refine ⟨wr.heap.size, k1, ⟨V, U, pdisk_below g1 hb, k2, fun k hk hu => by have := fp_lt g1 k hk; have := k3 k hu; omega, fun k hk => ?_, fun k hk => ⟨by have := (g5 k hk).1; have := hb.size; omega, fun hf => (g5 k hk).2 (Or.inl hf), fun hu => by have := k3 k hu; have := (g5 k hk).1; omega⟩, g6.trans (hb.mono hB)⟩, fun k hk => hb.block k (g5 k hk).1, hb.size⟩
  rcases hk with hk | hk
  · exact g4 k (Or.inl hk)
  · have := k3 k hk; omega
end Go.Proofs.YtklgfapdgeoigaaDoor

/- The walk of the law JournalCrash. -/
set_option linter.unusedVariables false
set_option maxRecDepth 100000
namespace Go.Proofs.YtklgfapdgeoigaaDoor
open Go.RowKit
open JournalMath DiskMath
open Fr (Tab tab_below tab_drewN)
open Dk (PDisk RDisk ROk DIn Chg fp fp_lt rdisk_below rdisk_chg chg_below pdisk_below pdisk_chg)

/-- What two crashes leave, and one behind an Open. -/
theorem loss_math (s : JS) (sn : List UInt8) (rs : List (List UInt8)) (sf : Nat) (h : Play s sn rs sf) (hk : JOk s) (a b : Nat) (hab : a ≤ b) : ∃ (k1 k2 n1 n2 : Nat) (o1 : DS), sf ≤ k1 ∧ k1 ≤ k2 ∧ k2 ≤ rs.length ∧ Ok (crash s.d a) ∧ Ok (crash s.d b) ∧
    found ((crash s.d a).F s.f) = ⟨s.g, sn, rs.take k1, n1⟩ ∧ found ((crash s.d a).F (1 - s.f)) = ⟨0, [], [], 0⟩ ∧ found ((crash s.d b).F s.f) = ⟨s.g, sn, rs.take k2, n2⟩ ∧ found ((crash s.d b).F (1 - s.f)) = ⟨0, [], [], 0⟩ ∧
    o1 = (opened (crash s.d a) s.f (found ((crash s.d a).F s.f))).d ∧ Ok o1 ∧ Ok (crash o1 b) ∧ found ((crash o1 b).F s.f) = ⟨s.g, sn, rs.take k1, n1⟩ ∧ found ((crash o1 b).F (1 - s.f)) = ⟨0, [], [], 0⟩ := by
  have hf := hk.file
  obtain ⟨k1, p1, p2, p3, p4, p5⟩ := play_crash s sn rs sf h hk a
  obtain ⟨k2, q1, q2, q3, q4, q5⟩ := play_crash s sn rs sf h hk b
  have hok1 := ok_crash s.d a hk.ok
  have hok2 := ok_crash s.d b hk.ok
  have hmono : k1 ≤ k2 := by
    rw [p5, q5]
    refine kept_mono _ _ _ ?_
    have := crash_more s.d hk.ok a b s.f (by omega) hab
    omega
  have hgen : (found ((crash s.d a).F s.f)).gen ≠ 0 := by rw [p3]; show s.g ≠ 0; have := h.says.gen; omega
  have hof := opened_files (crash s.d a) s.f hf (found ((crash s.d a).F s.f)) hok1 (found_le _).1
  have hag := found_again ((crash s.d a).F s.f) hgen
  have hlen := (found_le ((crash s.d a).F s.f)).1
  have hj := jok_opened (crash s.d a) s.f hok1 hf
  refine ⟨k1, k2, _, _, _, p1, hmono, q2, hok1, hok2, p3, p4, q3, q4, rfl, hj.ok, ok_crash _ _ hj.ok, ?_, ?_⟩
  · rw [crash_safe _ s.f _ (by omega) (by rw [hof.2.2.1, hof.1, List.length_take]; omega), hof.1, hag, p3]
  · rw [crash_safe _ (1 - s.f) _ (by omega) (by rw [hof.2.2.2, hof.2.1]; rfl), hof.2.1, found_nil]
theorem srow_blocks {w w' : World} {B n : Nat} {v : Value} {rs : List (List UInt8)} (hn : n = rs.length) (h : w.ownsRow B 9 1 v n (rs.map strV)) (hb : ∀ g, v.ownBlock = some g → w'.heap[g]? = w.heap[g]?) : SRow w' v rs := by
  subst hn
  refine srow_own (B := B) (e := 9) ⟨h.1, ?_⟩
  rcases h.2 with h0 | ⟨g, cap, cur, hv, hbb, hgg, rest⟩
  · exact Or.inl h0
  · refine Or.inr ⟨g, cap, cur, hv, hbb, ?_, rest⟩
    rw [hb g (by rw [hv]; rfl)]
    exact hgg
theorem srow_cut {w : World} {ao : Option Addr} {n cap : Nat} {xs : List (List UInt8)} (k : Nat) (hk : k ≤ xs.length) (h : SRow w (.slice ao n cap) xs) : SRow w (.slice ao k cap) (xs.take k) := by
  have hl : (xs.take k).length = k := by rw [List.length_take]; omega
  obtain ⟨ao', cap', hv, hc, hrow⟩ := h
  obtain ⟨rfl, rfl, rfl⟩ : ao = ao' ∧ n = xs.length ∧ cap = cap' := by simpa using hv
  refine ⟨ao, cap, by rw [hl], ⟨by rw [hl]; omega, hc.2⟩, fun j hj => ?_⟩
  rw [hl] at hj
  obtain ⟨g', o, h1, h2⟩ := hrow j (by omega)
  refine ⟨g', o, h1, ?_⟩
  rw [h2]
  simp

set_option maxHeartbeats 2000000 in
theorem journalCrash_walk (room : Int) (hroom : -9223372036854775808 ≤ room ∧ room ≤ 9223372036854775807) (l : List JOp) (hl : ∀ o ∈ l, OpOk o) (hll : l.length ≤ 140737488355328) (v : Value) (keep more : Int) (hke : -9223372036854775808 ≤ keep ∧ keep ≤ 9223372036854775807) (hmo : -9223372036854775808 ≤ more ∧ more ≤ 9223372036854775807) (w : World) (hv : ORow w v l) (hT : Tab w) :
    Calls Tryd.prog 7 #[.int .i64 room, v, .int .i64 keep, .int .i64 more] w fun e w' => e = .returned (.bool true) ∧ Below w.heap.size w w' := by
  have C1 : Hid (Calls Tryd.prog 24 #[.int .i64 room, v] w fun e w' => PlaysOk w e w') := plays_any room hroom l hl hll v w hv hT
  have HT : Hid (Tab w) := hT
  obtain ⟨ao, cap, rfl, _⟩ := hv
  clear hl hT
  go_enter Tryd.func7, Tryd.ntmps7
  go_wp2_with fail
  refine C1.out.mono ?_
  rintro e w1 ⟨bd, bj, s, sn, rs, sf, v1, rfl, hP, hK, hS, hown, hsz⟩
  obtain ⟨av, cv, hvv⟩ : ∃ av cv, v1 = .slice av rs.length cv := by
    obtain ⟨a, c, h, _⟩ := own_row hown
    exact ⟨a, c, h⟩
  subst hvv
  obtain ⟨_, _, hvz, hcc, _⟩ := own_row hown
  obtain ⟨rfl, rfl⟩ : av = _ ∧ cv = _ := by simpa using hvz
  have hcv := hcc.1
  obtain ⟨w2, hw2⟩ : ∃ w2, w1.alloc (.cells #[.string ⟨sn.toArray⟩, .slice av rs.length cv, .int .i64 (sf : Int)] 59) = w2 := ⟨_, rfl⟩
  have hb12 : Below w1.heap.size w1 w2 := by rw [← hw2]; exact (Below.refl _ _).alloc (Nat.le_refl _) _
  have hs2 : w2.heap.size = w1.heap.size + 1 := by rw [← hw2]; simp
  have hS2 : Sole w.heap.size w bj bd s (fun k => (Value.slice av rs.length cv).ownBlock = some k ∨ k = w1.heap.size) w2 := hS.own hsz (chg_below hb12) (fun k hk => (hown.lt k hk).1) (fun k hk => by
    rcases hk with hk | hk
    · exact ⟨Or.inl hk, by have := (hown.lt k hk).2; omega⟩
    · exact ⟨Or.inr (by omega), by omega⟩)
  have hown2 := own_below hown hb12
  have q0 : w2.cell? ⟨w1.heap.size, 0, none⟩ = some (.string ⟨sn.toArray⟩) := by rw [← hw2]; simp
  have q1 : w2.cell? ⟨w1.heap.size, 1, none⟩ = some (.slice av rs.length cv) := by rw [← hw2]; simp
  have q2 : w2.cell? ⟨w1.heap.size, 2, none⟩ = some (.int .i64 (sf : Int)) := by rw [← hw2]; simp
  have HBLK : Hid (∀ w3 : World, (∀ k, ((Value.slice av rs.length cv).ownBlock = some k ∨ k = w1.heap.size) → w3.heap[k]? = w2.heap[k]?) → w3.cell? ⟨w1.heap.size, 0, none⟩ = some (.string ⟨sn.toArray⟩) ∧ w3.cell? ⟨w1.heap.size, 1, none⟩ = some (.slice av rs.length cv) ∧ w3.cell? ⟨w1.heap.size, 2, none⟩ = some (.int .i64 (sf : Int)) ∧ SRow w3 (.slice av rs.length cv) rs) := fun w3 h => by
    have ho := h w1.heap.size (Or.inr rfl)
    exact ⟨(World.cell?_of_block (w := w2) (a := ⟨w1.heap.size, 0, none⟩) ho).trans q0, (World.cell?_of_block (w := w2) (a := ⟨w1.heap.size, 1, none⟩) ho).trans q1, (World.cell?_of_block (w := w2) (a := ⟨w1.heap.size, 2, none⟩) ho).trans q2, srow_blocks rfl hown2 (fun g hg => h g (Or.inl hg))⟩
  have HS2 : Hid (Sole w.heap.size w bj bd s (fun k => (Value.slice av rs.length cv).ownBlock = some k ∨ k = w1.heap.size) w2) := hS2
  have HW2 : Hid (w1.alloc (.cells #[.string ⟨sn.toArray⟩, .slice av rs.length cv, .int .i64 (sf : Int)] 59) = w2) := hw2
  have hrl : rs.length ≤ 1048576 := by
    have h1 := hK.count
    have h2 := file_le s.d s.f (by have := hK.file; omega)
    have h3 := hK.ok.room
    have h4 := hK.ok.most
    have h5 := hP.says.count
    omega
  have HZ : Hid (w.heap.size ≤ w2.heap.size) := by show _ ≤ _; omega
  by_cases hkm : keep < more
  · obtain ⟨k1, k2, n1, n2, o1, hk1, hk2, hk3, hok1, hok2, f1, f2, f3, f4, ho1, hoo1, hoo3, f5, f6⟩ := loss_math s sn rs sf hP hK (keep).toNat (more).toNat (by omega)
    have hff := hK.file
    have hg0 : s.g ≠ 0 := by have := hP.says.gen; omega
    obtain ⟨o2, ho2⟩ : ∃ o2, o2 = (opened (crash s.d (more).toNat) s.f (found ((crash s.d (more).toNat).F s.f))).d := ⟨_, rfl⟩
    have HCP : Hid (Calls Tryd.prog 25 #[.pointer (some ⟨bd, 0, none⟩)] w2 fun e w' => ∃ bc, e = .returned (.pointer (some ⟨bc, 0, none⟩)) ∧ DD w.heap.size w bd bc s.d s.d (fun k => (Value.slice av rs.length cv).ownBlock = some k ∨ k = w1.heap.size) w' ∧ (∀ k, (fun k => (Value.slice av rs.length cv).ownBlock = some k ∨ k = w1.heap.size) k → w'.heap[k]? = w2.heap[k]?) ∧ w2.heap.size ≤ w'.heap.size) := HS2.out.copy HZ.out hK.ok
    have CR1 : Hid (∀ bc w3, DD w.heap.size w bd bc s.d s.d (fun k => (Value.slice av rs.length cv).ownBlock = some k ∨ k = w1.heap.size) w3 → w.heap.size ≤ w3.heap.size → Calls Tryd.prog 22 #[.pointer (some ⟨bd, 0, none⟩), .int .i64 keep] w3 fun e w' => e = .returned (.tuple #[]) ∧ DD w.heap.size w bd bc (crash s.d (keep).toNat) s.d (fun k => (Value.slice av rs.length cv).ownBlock = some k ∨ k = w1.heap.size) w' ∧ (∀ k, (fun k => (Value.slice av rs.length cv).ownBlock = some k ∨ k = w1.heap.size) k → w'.heap[k]? = w3.heap[k]?) ∧ w3.heap.size ≤ w'.heap.size) := fun bc w3 h hB => h.call hB (fun T hD => Dk.crash_all keep (by omega) hD hK.ok)
    have CR2 : Hid (∀ bc w3, DD w.heap.size w bd bc (crash s.d (keep).toNat) s.d (fun k => (Value.slice av rs.length cv).ownBlock = some k ∨ k = w1.heap.size) w3 → w.heap.size ≤ w3.heap.size → Calls Tryd.prog 22 #[.pointer (some ⟨bc, 0, none⟩), .int .i64 more] w3 fun e w' => e = .returned (.tuple #[]) ∧ DD w.heap.size w bd bc (crash s.d (keep).toNat) (crash s.d (more).toNat) (fun k => (Value.slice av rs.length cv).ownBlock = some k ∨ k = w1.heap.size) w' ∧ (∀ k, (fun k => (Value.slice av rs.length cv).ownBlock = some k ∨ k = w1.heap.size) k → w'.heap[k]? = w3.heap[k]?) ∧ w3.heap.size ≤ w'.heap.size) := fun bc w3 h hB => (h.swap.call hB (fun T hD => Dk.crash_all more (by omega) hD hK.ok)).mono fun e w' ⟨k1, k2, k3, k4⟩ => ⟨k1, k2.swap, k3, k4⟩
    have OP1 : Hid (∀ bc w3, DD w.heap.size w bd bc (crash s.d (keep).toNat) (crash s.d (more).toNat) (fun k => (Value.slice av rs.length cv).ownBlock = some k ∨ k = w1.heap.size) w3 → w.heap.size ≤ w3.heap.size → Calls Tryd.prog 18 #[.pointer (some ⟨bd, 0, none⟩)] w3 fun e w' => DDOpen w.heap.size w bd bc o1 (crash s.d (more).toNat) sn (rs.take k1) (fun k => (Value.slice av rs.length cv).ownBlock = some k ∨ k = w1.heap.size) w3 e w') := fun bc w3 h hB => by
      have := h.open_ hB HT.out (Nat.le_refl _) hok1 s.f hff (by rw [f1]; exact hg0) (by rw [f2])
      rw [← ho1, f1] at this
      exact this
    have OP2 : Hid (∀ bc w3 (N : Nat → Prop), DD w.heap.size w bd bc o1 (crash s.d (more).toNat) N w3 → w.heap.size ≤ w3.heap.size → Calls Tryd.prog 18 #[.pointer (some ⟨bc, 0, none⟩)] w3 fun e w' => DDOpen w.heap.size w bc bd o2 o1 sn (rs.take k2) N w3 e w') := fun bc w3 N h hB => by
      have := h.swap.open_ hB HT.out (Nat.le_refl _) hok2 s.f hff (by rw [f3]; exact hg0) (by rw [f4])
      rw [← ho2, f3] at this
      exact this
    have CR3 : Hid (∀ bc w3 (N : Nat → Prop), DD w.heap.size w bc bd o2 o1 N w3 → w.heap.size ≤ w3.heap.size → Calls Tryd.prog 22 #[.pointer (some ⟨bd, 0, none⟩), .int .i64 more] w3 fun e w' => e = .returned (.tuple #[]) ∧ DD w.heap.size w bd bc (crash o1 (more).toNat) o2 N w' ∧ (∀ k, N k → w'.heap[k]? = w3.heap[k]?) ∧ w3.heap.size ≤ w'.heap.size) := fun bc w3 N h hB => h.swap.call hB (fun T hD => Dk.crash_all more (by omega) hD hoo1)
    have OP3 : Hid (∀ bc w3 (N : Nat → Prop), DD w.heap.size w bd bc (crash o1 (more).toNat) o2 N w3 → w.heap.size ≤ w3.heap.size → Calls Tryd.prog 18 #[.pointer (some ⟨bd, 0, none⟩)] w3 fun e w' => ∃ (jb : Nat) (v : Value), e = .returned (.tuple #[.pointer (some ⟨jb, 0, none⟩), .string ⟨sn.toArray⟩, v, .int .i64 0]) ∧ SRow w' v (rs.take k1) ∧ (∀ k, N k → w'.heap[k]? = w3.heap[k]?) ∧ Below w.heap.size w w') := fun bc w3 N h hB => by
      have := h.open_ hB HT.out (Nat.le_refl _) hoo3 s.f hff (by rw [f5]; exact hg0) (by rw [f6])
      rw [f5] at this
      refine this.mono ?_
      rintro e w' ⟨jb, v, y1, y2, y3, y4, y5⟩
      exact ⟨jb, v, y1, srow_own y2, y4, y3.bel⟩
    have hl1 : (rs.take k1).length = k1 := by rw [List.length_take]; omega
    have hl2 : (rs.take k2).length = k2 := by rw [List.length_take]; omega
    generalize crash s.d (keep).toNat = d1 at *
    generalize crash s.d (more).toNat = d2 at *
    generalize crash o1 (more).toNat = d3 at *
    have HRT : Hid (∀ k, k ≤ rs.length → (rs.take k).length = k) := fun k hk => by rw [List.length_take]; omega
    clear hP hK hS hown hS2 hown2 q0 q1 q2 hw2 hb12 hs2 C1 hsz f1 f2 f3 f4 f5 f6 ho1 ho2 hok1 hok2 hoo1 hoo3 hff hg0 HS2
    go_wp2_with fail
    rw [HW2.out]
    refine HCP.out.mono ?_
    rintro e w3 ⟨bc, rfl, hD3, hB3, hZ3⟩
    have HD3 : Hid (DD w.heap.size w bd bc s.d s.d (fun k => (Value.slice av rs.length cv).ownBlock = some k ∨ k = w1.heap.size) w3) := hD3
    have HB3 : Hid (∀ k, (fun k => (Value.slice av rs.length cv).ownBlock = some k ∨ k = w1.heap.size) k → w3.heap[k]? = w2.heap[k]?) := hB3
    have HZ3 : Hid (w.heap.size ≤ w3.heap.size) := Nat.le_trans HZ.out hZ3
    clear hD3 hB3 hZ3
    go_wp2_with fail
    refine (CR1.out _ _ HD3.out HZ3.out).mono ?_
    rintro e w4 ⟨rfl, hD4, hB4, hZ4⟩
    have HD4 : Hid (DD w.heap.size w bd bc d1 s.d (fun k => (Value.slice av rs.length cv).ownBlock = some k ∨ k = w1.heap.size) w4) := hD4
    have HB4 : Hid (∀ k, (fun k => (Value.slice av rs.length cv).ownBlock = some k ∨ k = w1.heap.size) k → w4.heap[k]? = w2.heap[k]?) := fun k hk => (hB4 k hk).trans (HB3.out k hk)
    have HZ4 : Hid (w.heap.size ≤ w4.heap.size) := Nat.le_trans HZ3.out hZ4
    clear hD4 hB4 hZ4
    go_wp2_with fail
    refine (CR2.out _ _ HD4.out HZ4.out).mono ?_
    rintro e w5 ⟨rfl, hD5, hB5, hZ5⟩
    have HD5 : Hid (DD w.heap.size w bd bc d1 d2 (fun k => (Value.slice av rs.length cv).ownBlock = some k ∨ k = w1.heap.size) w5) := hD5
    have HB5 : Hid (∀ k, (fun k => (Value.slice av rs.length cv).ownBlock = some k ∨ k = w1.heap.size) k → w5.heap[k]? = w2.heap[k]?) := fun k hk => (hB5 k hk).trans (HB4.out k hk)
    have HZ5 : Hid (w.heap.size ≤ w5.heap.size) := Nat.le_trans HZ4.out hZ5
    clear hD5 hB5 hZ5
    go_wp2_with fail
    refine (OP1.out _ _ HD5.out HZ5.out).mono ?_
    rintro e w6 ⟨jb6, v6, rfl, hown6, hD6, hB6, hZ6⟩
    rw [hl1] at hown6
    obtain ⟨a6, c6, hv6, _, _⟩ := own_row hown6
    subst hv6
    have HO6 : Hid (w6.ownsRow w5.heap.size 9 1 (.slice a6 k1 c6) k1 ((rs.take k1).map strV)) := hown6
    have HD6 : Hid (DD w.heap.size w bd bc o1 d2 (fun k => (fun k => (Value.slice av rs.length cv).ownBlock = some k ∨ k = w1.heap.size) k ∨ (Value.slice a6 k1 c6).ownBlock = some k) w6) := hD6
    have HB6 : Hid (∀ k, (fun k => (Value.slice av rs.length cv).ownBlock = some k ∨ k = w1.heap.size) k → w6.heap[k]? = w2.heap[k]?) := fun k hk => (hB6 k hk).trans (HB5.out k hk)
    have HZ6 : Hid (w.heap.size ≤ w6.heap.size) := Nat.le_trans HZ5.out hZ6
    clear hown6 hD6 hB6 hZ6
    go_wp2_with fail
    refine (OP2.out _ _ _ HD6.out HZ6.out).mono ?_
    rintro e w7 ⟨jb7, v7, rfl, hown7, hD7, hB7, hZ7⟩
    rw [hl2] at hown7
    obtain ⟨a7, c7, hv7, _, _⟩ := own_row hown7
    subst hv7
    have HO7 : Hid (w7.ownsRow w6.heap.size 9 1 (.slice a7 k2 c7) k2 ((rs.take k2).map strV)) := hown7
    have HD7 : Hid (DD w.heap.size w bc bd o2 o1 (fun k => ((fun k => (Value.slice av rs.length cv).ownBlock = some k ∨ k = w1.heap.size) k ∨ (Value.slice a6 k1 c6).ownBlock = some k) ∨ (Value.slice a7 k2 c7).ownBlock = some k) w7) := hD7
    have HB7 : Hid (∀ k, (fun k => (Value.slice av rs.length cv).ownBlock = some k ∨ k = w1.heap.size) k → w7.heap[k]? = w2.heap[k]?) := fun k hk => (hB7 k (Or.inl hk)).trans (HB6.out k hk)
    have HB67 : Hid (∀ g, (Value.slice a6 k1 c6).ownBlock = some g → w7.heap[g]? = w6.heap[g]?) := fun g hg => hB7 g (Or.inr hg)
    have HZ7 : Hid (w.heap.size ≤ w7.heap.size) := Nat.le_trans HZ6.out hZ7
    obtain ⟨y0, y1, y2, hr1⟩ := HBLK.out _ HB7.out
    have HR1 : Hid (SRow w7 (.slice av rs.length cv) rs) := hr1
    have HRa : Hid (SRow w7 (.slice av k1 cv) (rs.take k1)) := srow_cut k1 (by omega) hr1
    have HRb : Hid (SRow w7 (.slice av k2 cv) (rs.take k2)) := srow_cut k2 (by omega) hr1
    have HR6 : Hid (SRow w7 (.slice a6 k1 c6) (rs.take k1)) := srow_blocks hl1.symm HO6.out HB67.out
    have HR7 : Hid (SRow w7 (.slice a7 k2 c7) (rs.take k2)) := srow_blocks hl2.symm HO7.out (fun _ _ => rfl)
    have i1 : ¬ (k1 : Int) < (sf : Int) := by omega
    have i2 : ¬ (k2 : Int) < (k1 : Int) := by omega
    have i3 : ¬ (rs.length : Int) < (k2 : Int) := by omega
    have i4 : (k1 : Int) ≤ (cv : Int) := by omega
    have i5 : (k2 : Int) ≤ (cv : Int) := by omega
    clear hown7 hD7 hB7 hZ7 hr1
    go_wp2_with fail
    refine (same_true (rs.take k1) (by rw [hl1]; omega) _ _ w7 HR6.out HRa.out).mono ?_
    rintro e w8 ⟨rfl, q8, hw8⟩
    have hb8 : Below w7.heap.size w7 w8 := by rw [hw8]; exact below_drewN (Below.refl _ _) q8
    have HD8 : Hid (DD w.heap.size w bc bd o2 o1 (fun k => ((fun k => (Value.slice av rs.length cv).ownBlock = some k ∨ k = w1.heap.size) k ∨ (Value.slice a6 k1 c6).ownBlock = some k) ∨ (Value.slice a7 k2 c7).ownBlock = some k) w8) := HD7.out.drew HZ7.out ⟨q8, hw8⟩
    have HZ8 : Hid (w.heap.size ≤ w8.heap.size) := Nat.le_trans HZ7.out hb8.size
    have HR7' : Hid (SRow w8 (.slice a7 k2 c7) (rs.take k2)) := srow_below HR7.out hb8
    have HRb' : Hid (SRow w8 (.slice av k2 cv) (rs.take k2)) := srow_below HRb.out hb8
    have hyl := block_lt_of_cell y1
    have z0 : w8.cell? ⟨w1.heap.size, 0, none⟩ = some (.string ⟨sn.toArray⟩) := (hb8.cell (p := ⟨w1.heap.size, 0, none⟩) hyl).trans y0
    have z1 : w8.cell? ⟨w1.heap.size, 1, none⟩ = some (.slice av rs.length cv) := (hb8.cell (p := ⟨w1.heap.size, 1, none⟩) hyl).trans y1
    have hg67 : ∀ g, (Value.slice a6 k1 c6).ownBlock = some g → w8.heap[g]? = w6.heap[g]? := fun g hg => (hb8.block g (by have := (HO6.out.lt g hg).2; have h7 := HB67.out g hg; have h8 := Array.getElem?_eq_some_iff.1 (h7.trans (show w6.heap[g]? = some w6.heap[g] from Array.getElem?_eq_getElem this)); exact h8.1)).trans (HB67.out g hg)
    have HG8 : Hid (∀ g, (Value.slice a6 k1 c6).ownBlock = some g → w8.heap[g]? = w6.heap[g]?) := hg67
    clear hw8 hb8 y0 y1 y2 hyl hg67
    go_wp2_with fail
    refine (same_true (rs.take k2) (by rw [hl2]; omega) _ _ w8 HR7'.out HRb'.out).mono ?_
    rintro e w9 ⟨rfl, q9, hw9⟩
    have hb9 : Below w8.heap.size w8 w9 := by rw [hw9]; exact below_drewN (Below.refl _ _) q9
    have HD9 : Hid (DD w.heap.size w bc bd o2 o1 (fun k => ((fun k => (Value.slice av rs.length cv).ownBlock = some k ∨ k = w1.heap.size) k ∨ (Value.slice a6 k1 c6).ownBlock = some k) ∨ (Value.slice a7 k2 c7).ownBlock = some k) w9) := HD8.out.drew HZ8.out ⟨q9, hw9⟩
    have HZ9 : Hid (w.heap.size ≤ w9.heap.size) := Nat.le_trans HZ8.out hb9.size
    have HG9 : Hid (∀ g, (Value.slice a6 k1 c6).ownBlock = some g → w9.heap[g]? = w6.heap[g]?) := fun g hg => by
      have h1 := HG8.out g hg
      have h2 := (HO6.out.lt g hg).2
      have h3 := Array.getElem?_eq_some_iff.1 (h1.trans (show w6.heap[g]? = some w6.heap[g] from Array.getElem?_eq_getElem h2))
      exact (hb9.block g h3.1).trans h1
    have HT9 : Hid (w9.cell? ⟨w1.heap.size, 0, none⟩ = some (.string ⟨sn.toArray⟩)) := (hb9.cell (p := ⟨w1.heap.size, 0, none⟩) (block_lt_of_cell z0)).trans z0
    clear hw9 hb9 z0 z1
    go_wp2_with fail
    refine (CR3.out _ _ _ HD9.out HZ9.out).mono ?_
    rintro e w10 ⟨rfl, hD10, hB10, hZ10⟩
    have HD10 : Hid (DD w.heap.size w bd bc d3 o2 (fun k => ((fun k => (Value.slice av rs.length cv).ownBlock = some k ∨ k = w1.heap.size) k ∨ (Value.slice a6 k1 c6).ownBlock = some k) ∨ (Value.slice a7 k2 c7).ownBlock = some k) w10) := hD10
    have HZ10 : Hid (w.heap.size ≤ w10.heap.size) := Nat.le_trans HZ9.out hZ10
    have HB10 : Hid (∀ k, (fun k => ((fun k => (Value.slice av rs.length cv).ownBlock = some k ∨ k = w1.heap.size) k ∨ (Value.slice a6 k1 c6).ownBlock = some k) ∨ (Value.slice a7 k2 c7).ownBlock = some k) k → w10.heap[k]? = w9.heap[k]?) := hB10
    clear hD10 hB10 hZ10
    go_wp2_with fail
    refine (OP3.out _ _ _ HD10.out HZ10.out).mono ?_
    rintro e w11 ⟨jb11, v11, rfl, hr11, hB11, hb11⟩
    have HRz : Hid (SRow w11 (.slice a6 k1 c6) (rs.take k1)) := srow_blocks hl1.symm HO6.out (fun g hg => ((hB11 g (Or.inl (Or.inr hg))).trans (HB10.out g (Or.inl (Or.inr hg)))).trans (HG9.out g hg))
    have ht11 : w11.heap[w1.heap.size]? = w9.heap[w1.heap.size]? := (hB11 _ (Or.inl (Or.inl (Or.inr rfl)))).trans (HB10.out _ (Or.inl (Or.inl (Or.inr rfl))))
    have u0 : w11.cell? ⟨w1.heap.size, 0, none⟩ = some (.string ⟨sn.toArray⟩) := (World.cell?_of_block (w := w9) (a := ⟨w1.heap.size, 0, none⟩) ht11).trans HT9.out
    have HRy : Hid (SRow w11 v11 (rs.take k1)) := hr11
    have HB11 : Hid (Below w.heap.size w w11) := hb11
    obtain ⟨a11, c11, hv11, _, _⟩ := hr11
    subst hv11
    rw [hl1] at HRy
    clear hB11 hb11 ht11
    go_wp2_with fail
    refine (same_true (rs.take k1) (by rw [hl1]; omega) _ _ w11 HRy.out HRz.out).mono ?_
    rintro e w12 ⟨rfl, q12, hw12⟩
    have HB12 : Hid (Below w.heap.size w w12) := below_drew_of HB11.out hw12
    clear hw12
    go_wp2_with fail
    go_ret
    exact ⟨rfl, HB12.out⟩
  · by_cases hkm2 : more < keep
    · obtain ⟨k1, k2, n1, n2, o1, hk1, hk2, hk3, hok1, hok2, f1, f2, f3, f4, ho1, hoo1, hoo3, f5, f6⟩ := loss_math s sn rs sf hP hK (more).toNat (keep).toNat (by omega)
      have hff := hK.file
      have hg0 : s.g ≠ 0 := by have := hP.says.gen; omega
      obtain ⟨o2, ho2⟩ : ∃ o2, o2 = (opened (crash s.d (keep).toNat) s.f (found ((crash s.d (keep).toNat).F s.f))).d := ⟨_, rfl⟩
      have HCP : Hid (Calls Tryd.prog 25 #[.pointer (some ⟨bd, 0, none⟩)] w2 fun e w' => ∃ bc, e = .returned (.pointer (some ⟨bc, 0, none⟩)) ∧ DD w.heap.size w bd bc s.d s.d (fun k => (Value.slice av rs.length cv).ownBlock = some k ∨ k = w1.heap.size) w' ∧ (∀ k, (fun k => (Value.slice av rs.length cv).ownBlock = some k ∨ k = w1.heap.size) k → w'.heap[k]? = w2.heap[k]?) ∧ w2.heap.size ≤ w'.heap.size) := HS2.out.copy HZ.out hK.ok
      have CR1 : Hid (∀ bc w3, DD w.heap.size w bd bc s.d s.d (fun k => (Value.slice av rs.length cv).ownBlock = some k ∨ k = w1.heap.size) w3 → w.heap.size ≤ w3.heap.size → Calls Tryd.prog 22 #[.pointer (some ⟨bd, 0, none⟩), .int .i64 more] w3 fun e w' => e = .returned (.tuple #[]) ∧ DD w.heap.size w bd bc (crash s.d (more).toNat) s.d (fun k => (Value.slice av rs.length cv).ownBlock = some k ∨ k = w1.heap.size) w' ∧ (∀ k, (fun k => (Value.slice av rs.length cv).ownBlock = some k ∨ k = w1.heap.size) k → w'.heap[k]? = w3.heap[k]?) ∧ w3.heap.size ≤ w'.heap.size) := fun bc w3 h hB => h.call hB (fun T hD => Dk.crash_all more (by omega) hD hK.ok)
      have CR2 : Hid (∀ bc w3, DD w.heap.size w bd bc (crash s.d (more).toNat) s.d (fun k => (Value.slice av rs.length cv).ownBlock = some k ∨ k = w1.heap.size) w3 → w.heap.size ≤ w3.heap.size → Calls Tryd.prog 22 #[.pointer (some ⟨bc, 0, none⟩), .int .i64 keep] w3 fun e w' => e = .returned (.tuple #[]) ∧ DD w.heap.size w bd bc (crash s.d (more).toNat) (crash s.d (keep).toNat) (fun k => (Value.slice av rs.length cv).ownBlock = some k ∨ k = w1.heap.size) w' ∧ (∀ k, (fun k => (Value.slice av rs.length cv).ownBlock = some k ∨ k = w1.heap.size) k → w'.heap[k]? = w3.heap[k]?) ∧ w3.heap.size ≤ w'.heap.size) := fun bc w3 h hB => (h.swap.call hB (fun T hD => Dk.crash_all keep (by omega) hD hK.ok)).mono fun e w' ⟨k1, k2, k3, k4⟩ => ⟨k1, k2.swap, k3, k4⟩
      have OP1 : Hid (∀ bc w3, DD w.heap.size w bd bc (crash s.d (more).toNat) (crash s.d (keep).toNat) (fun k => (Value.slice av rs.length cv).ownBlock = some k ∨ k = w1.heap.size) w3 → w.heap.size ≤ w3.heap.size → Calls Tryd.prog 18 #[.pointer (some ⟨bd, 0, none⟩)] w3 fun e w' => DDOpen w.heap.size w bd bc o1 (crash s.d (keep).toNat) sn (rs.take k1) (fun k => (Value.slice av rs.length cv).ownBlock = some k ∨ k = w1.heap.size) w3 e w') := fun bc w3 h hB => by
        have := h.open_ hB HT.out (Nat.le_refl _) hok1 s.f hff (by rw [f1]; exact hg0) (by rw [f2])
        rw [← ho1, f1] at this
        exact this
      have OP2 : Hid (∀ bc w3 (N : Nat → Prop), DD w.heap.size w bd bc o1 (crash s.d (keep).toNat) N w3 → w.heap.size ≤ w3.heap.size → Calls Tryd.prog 18 #[.pointer (some ⟨bc, 0, none⟩)] w3 fun e w' => DDOpen w.heap.size w bc bd o2 o1 sn (rs.take k2) N w3 e w') := fun bc w3 N h hB => by
        have := h.swap.open_ hB HT.out (Nat.le_refl _) hok2 s.f hff (by rw [f3]; exact hg0) (by rw [f4])
        rw [← ho2, f3] at this
        exact this
      have CR3 : Hid (∀ bc w3 (N : Nat → Prop), DD w.heap.size w bc bd o2 o1 N w3 → w.heap.size ≤ w3.heap.size → Calls Tryd.prog 22 #[.pointer (some ⟨bd, 0, none⟩), .int .i64 keep] w3 fun e w' => e = .returned (.tuple #[]) ∧ DD w.heap.size w bd bc (crash o1 (keep).toNat) o2 N w' ∧ (∀ k, N k → w'.heap[k]? = w3.heap[k]?) ∧ w3.heap.size ≤ w'.heap.size) := fun bc w3 N h hB => h.swap.call hB (fun T hD => Dk.crash_all keep (by omega) hD hoo1)
      have OP3 : Hid (∀ bc w3 (N : Nat → Prop), DD w.heap.size w bd bc (crash o1 (keep).toNat) o2 N w3 → w.heap.size ≤ w3.heap.size → Calls Tryd.prog 18 #[.pointer (some ⟨bd, 0, none⟩)] w3 fun e w' => ∃ (jb : Nat) (v : Value), e = .returned (.tuple #[.pointer (some ⟨jb, 0, none⟩), .string ⟨sn.toArray⟩, v, .int .i64 0]) ∧ SRow w' v (rs.take k1) ∧ (∀ k, N k → w'.heap[k]? = w3.heap[k]?) ∧ Below w.heap.size w w') := fun bc w3 N h hB => by
        have := h.open_ hB HT.out (Nat.le_refl _) hoo3 s.f hff (by rw [f5]; exact hg0) (by rw [f6])
        rw [f5] at this
        refine this.mono ?_
        rintro e w' ⟨jb, v, y1, y2, y3, y4, y5⟩
        exact ⟨jb, v, y1, srow_own y2, y4, y3.bel⟩
      have hl1 : (rs.take k1).length = k1 := by rw [List.length_take]; omega
      have hl2 : (rs.take k2).length = k2 := by rw [List.length_take]; omega
      generalize crash s.d (more).toNat = d1 at *
      generalize crash s.d (keep).toNat = d2 at *
      generalize crash o1 (keep).toNat = d3 at *
      have HRT : Hid (∀ k, k ≤ rs.length → (rs.take k).length = k) := fun k hk => by rw [List.length_take]; omega
      clear hP hK hS hown hS2 hown2 q0 q1 q2 hw2 hb12 hs2 C1 hsz f1 f2 f3 f4 f5 f6 ho1 ho2 hok1 hok2 hoo1 hoo3 hff hg0 HS2
      go_wp2_with fail
      rw [HW2.out]
      refine HCP.out.mono ?_
      rintro e w3 ⟨bc, rfl, hD3, hB3, hZ3⟩
      have HD3 : Hid (DD w.heap.size w bd bc s.d s.d (fun k => (Value.slice av rs.length cv).ownBlock = some k ∨ k = w1.heap.size) w3) := hD3
      have HB3 : Hid (∀ k, (fun k => (Value.slice av rs.length cv).ownBlock = some k ∨ k = w1.heap.size) k → w3.heap[k]? = w2.heap[k]?) := hB3
      have HZ3 : Hid (w.heap.size ≤ w3.heap.size) := Nat.le_trans HZ.out hZ3
      clear hD3 hB3 hZ3
      go_wp2_with fail
      refine (CR1.out _ _ HD3.out HZ3.out).mono ?_
      rintro e w4 ⟨rfl, hD4, hB4, hZ4⟩
      have HD4 : Hid (DD w.heap.size w bd bc d1 s.d (fun k => (Value.slice av rs.length cv).ownBlock = some k ∨ k = w1.heap.size) w4) := hD4
      have HB4 : Hid (∀ k, (fun k => (Value.slice av rs.length cv).ownBlock = some k ∨ k = w1.heap.size) k → w4.heap[k]? = w2.heap[k]?) := fun k hk => (hB4 k hk).trans (HB3.out k hk)
      have HZ4 : Hid (w.heap.size ≤ w4.heap.size) := Nat.le_trans HZ3.out hZ4
      clear hD4 hB4 hZ4
      go_wp2_with fail
      refine (CR2.out _ _ HD4.out HZ4.out).mono ?_
      rintro e w5 ⟨rfl, hD5, hB5, hZ5⟩
      have HD5 : Hid (DD w.heap.size w bd bc d1 d2 (fun k => (Value.slice av rs.length cv).ownBlock = some k ∨ k = w1.heap.size) w5) := hD5
      have HB5 : Hid (∀ k, (fun k => (Value.slice av rs.length cv).ownBlock = some k ∨ k = w1.heap.size) k → w5.heap[k]? = w2.heap[k]?) := fun k hk => (hB5 k hk).trans (HB4.out k hk)
      have HZ5 : Hid (w.heap.size ≤ w5.heap.size) := Nat.le_trans HZ4.out hZ5
      clear hD5 hB5 hZ5
      go_wp2_with fail
      refine (OP1.out _ _ HD5.out HZ5.out).mono ?_
      rintro e w6 ⟨jb6, v6, rfl, hown6, hD6, hB6, hZ6⟩
      rw [hl1] at hown6
      obtain ⟨a6, c6, hv6, _, _⟩ := own_row hown6
      subst hv6
      have HO6 : Hid (w6.ownsRow w5.heap.size 9 1 (.slice a6 k1 c6) k1 ((rs.take k1).map strV)) := hown6
      have HD6 : Hid (DD w.heap.size w bd bc o1 d2 (fun k => (fun k => (Value.slice av rs.length cv).ownBlock = some k ∨ k = w1.heap.size) k ∨ (Value.slice a6 k1 c6).ownBlock = some k) w6) := hD6
      have HB6 : Hid (∀ k, (fun k => (Value.slice av rs.length cv).ownBlock = some k ∨ k = w1.heap.size) k → w6.heap[k]? = w2.heap[k]?) := fun k hk => (hB6 k hk).trans (HB5.out k hk)
      have HZ6 : Hid (w.heap.size ≤ w6.heap.size) := Nat.le_trans HZ5.out hZ6
      clear hown6 hD6 hB6 hZ6
      go_wp2_with fail
      refine (OP2.out _ _ _ HD6.out HZ6.out).mono ?_
      rintro e w7 ⟨jb7, v7, rfl, hown7, hD7, hB7, hZ7⟩
      rw [hl2] at hown7
      obtain ⟨a7, c7, hv7, _, _⟩ := own_row hown7
      subst hv7
      have HO7 : Hid (w7.ownsRow w6.heap.size 9 1 (.slice a7 k2 c7) k2 ((rs.take k2).map strV)) := hown7
      have HD7 : Hid (DD w.heap.size w bc bd o2 o1 (fun k => ((fun k => (Value.slice av rs.length cv).ownBlock = some k ∨ k = w1.heap.size) k ∨ (Value.slice a6 k1 c6).ownBlock = some k) ∨ (Value.slice a7 k2 c7).ownBlock = some k) w7) := hD7
      have HB7 : Hid (∀ k, (fun k => (Value.slice av rs.length cv).ownBlock = some k ∨ k = w1.heap.size) k → w7.heap[k]? = w2.heap[k]?) := fun k hk => (hB7 k (Or.inl hk)).trans (HB6.out k hk)
      have HB67 : Hid (∀ g, (Value.slice a6 k1 c6).ownBlock = some g → w7.heap[g]? = w6.heap[g]?) := fun g hg => hB7 g (Or.inr hg)
      have HZ7 : Hid (w.heap.size ≤ w7.heap.size) := Nat.le_trans HZ6.out hZ7
      obtain ⟨y0, y1, y2, hr1⟩ := HBLK.out _ HB7.out
      have HR1 : Hid (SRow w7 (.slice av rs.length cv) rs) := hr1
      have HRa : Hid (SRow w7 (.slice av k1 cv) (rs.take k1)) := srow_cut k1 (by omega) hr1
      have HRb : Hid (SRow w7 (.slice av k2 cv) (rs.take k2)) := srow_cut k2 (by omega) hr1
      have HR6 : Hid (SRow w7 (.slice a6 k1 c6) (rs.take k1)) := srow_blocks hl1.symm HO6.out HB67.out
      have HR7 : Hid (SRow w7 (.slice a7 k2 c7) (rs.take k2)) := srow_blocks hl2.symm HO7.out (fun _ _ => rfl)
      have i1 : ¬ (k1 : Int) < (sf : Int) := by omega
      have i2 : ¬ (k2 : Int) < (k1 : Int) := by omega
      have i3 : ¬ (rs.length : Int) < (k2 : Int) := by omega
      have i4 : (k1 : Int) ≤ (cv : Int) := by omega
      have i5 : (k2 : Int) ≤ (cv : Int) := by omega
      clear hown7 hD7 hB7 hZ7 hr1
      go_wp2_with fail
      refine (same_true (rs.take k1) (by rw [hl1]; omega) _ _ w7 HR6.out HRa.out).mono ?_
      rintro e w8 ⟨rfl, q8, hw8⟩
      have hb8 : Below w7.heap.size w7 w8 := by rw [hw8]; exact below_drewN (Below.refl _ _) q8
      have HD8 : Hid (DD w.heap.size w bc bd o2 o1 (fun k => ((fun k => (Value.slice av rs.length cv).ownBlock = some k ∨ k = w1.heap.size) k ∨ (Value.slice a6 k1 c6).ownBlock = some k) ∨ (Value.slice a7 k2 c7).ownBlock = some k) w8) := HD7.out.drew HZ7.out ⟨q8, hw8⟩
      have HZ8 : Hid (w.heap.size ≤ w8.heap.size) := Nat.le_trans HZ7.out hb8.size
      have HR7' : Hid (SRow w8 (.slice a7 k2 c7) (rs.take k2)) := srow_below HR7.out hb8
      have HRb' : Hid (SRow w8 (.slice av k2 cv) (rs.take k2)) := srow_below HRb.out hb8
      have hyl := block_lt_of_cell y1
      have z0 : w8.cell? ⟨w1.heap.size, 0, none⟩ = some (.string ⟨sn.toArray⟩) := (hb8.cell (p := ⟨w1.heap.size, 0, none⟩) hyl).trans y0
      have z1 : w8.cell? ⟨w1.heap.size, 1, none⟩ = some (.slice av rs.length cv) := (hb8.cell (p := ⟨w1.heap.size, 1, none⟩) hyl).trans y1
      have hg67 : ∀ g, (Value.slice a6 k1 c6).ownBlock = some g → w8.heap[g]? = w6.heap[g]? := fun g hg => (hb8.block g (by have := (HO6.out.lt g hg).2; have h7 := HB67.out g hg; have h8 := Array.getElem?_eq_some_iff.1 (h7.trans (show w6.heap[g]? = some w6.heap[g] from Array.getElem?_eq_getElem this)); exact h8.1)).trans (HB67.out g hg)
      have HG8 : Hid (∀ g, (Value.slice a6 k1 c6).ownBlock = some g → w8.heap[g]? = w6.heap[g]?) := hg67
      clear hw8 hb8 y0 y1 y2 hyl hg67
      go_wp2_with fail
      refine (same_true (rs.take k2) (by rw [hl2]; omega) _ _ w8 HR7'.out HRb'.out).mono ?_
      rintro e w9 ⟨rfl, q9, hw9⟩
      have hb9 : Below w8.heap.size w8 w9 := by rw [hw9]; exact below_drewN (Below.refl _ _) q9
      have HD9 : Hid (DD w.heap.size w bc bd o2 o1 (fun k => ((fun k => (Value.slice av rs.length cv).ownBlock = some k ∨ k = w1.heap.size) k ∨ (Value.slice a6 k1 c6).ownBlock = some k) ∨ (Value.slice a7 k2 c7).ownBlock = some k) w9) := HD8.out.drew HZ8.out ⟨q9, hw9⟩
      have HZ9 : Hid (w.heap.size ≤ w9.heap.size) := Nat.le_trans HZ8.out hb9.size
      have HG9 : Hid (∀ g, (Value.slice a6 k1 c6).ownBlock = some g → w9.heap[g]? = w6.heap[g]?) := fun g hg => by
        have h1 := HG8.out g hg
        have h2 := (HO6.out.lt g hg).2
        have h3 := Array.getElem?_eq_some_iff.1 (h1.trans (show w6.heap[g]? = some w6.heap[g] from Array.getElem?_eq_getElem h2))
        exact (hb9.block g h3.1).trans h1
      have HT9 : Hid (w9.cell? ⟨w1.heap.size, 0, none⟩ = some (.string ⟨sn.toArray⟩)) := (hb9.cell (p := ⟨w1.heap.size, 0, none⟩) (block_lt_of_cell z0)).trans z0
      clear hw9 hb9 z0 z1
      go_wp2_with fail
      refine (CR3.out _ _ _ HD9.out HZ9.out).mono ?_
      rintro e w10 ⟨rfl, hD10, hB10, hZ10⟩
      have HD10 : Hid (DD w.heap.size w bd bc d3 o2 (fun k => ((fun k => (Value.slice av rs.length cv).ownBlock = some k ∨ k = w1.heap.size) k ∨ (Value.slice a6 k1 c6).ownBlock = some k) ∨ (Value.slice a7 k2 c7).ownBlock = some k) w10) := hD10
      have HZ10 : Hid (w.heap.size ≤ w10.heap.size) := Nat.le_trans HZ9.out hZ10
      have HB10 : Hid (∀ k, (fun k => ((fun k => (Value.slice av rs.length cv).ownBlock = some k ∨ k = w1.heap.size) k ∨ (Value.slice a6 k1 c6).ownBlock = some k) ∨ (Value.slice a7 k2 c7).ownBlock = some k) k → w10.heap[k]? = w9.heap[k]?) := hB10
      clear hD10 hB10 hZ10
      go_wp2_with fail
      refine (OP3.out _ _ _ HD10.out HZ10.out).mono ?_
      rintro e w11 ⟨jb11, v11, rfl, hr11, hB11, hb11⟩
      have HRz : Hid (SRow w11 (.slice a6 k1 c6) (rs.take k1)) := srow_blocks hl1.symm HO6.out (fun g hg => ((hB11 g (Or.inl (Or.inr hg))).trans (HB10.out g (Or.inl (Or.inr hg)))).trans (HG9.out g hg))
      have ht11 : w11.heap[w1.heap.size]? = w9.heap[w1.heap.size]? := (hB11 _ (Or.inl (Or.inl (Or.inr rfl)))).trans (HB10.out _ (Or.inl (Or.inl (Or.inr rfl))))
      have u0 : w11.cell? ⟨w1.heap.size, 0, none⟩ = some (.string ⟨sn.toArray⟩) := (World.cell?_of_block (w := w9) (a := ⟨w1.heap.size, 0, none⟩) ht11).trans HT9.out
      have HRy : Hid (SRow w11 v11 (rs.take k1)) := hr11
      have HB11 : Hid (Below w.heap.size w w11) := hb11
      obtain ⟨a11, c11, hv11, _, _⟩ := hr11
      subst hv11
      rw [hl1] at HRy
      clear hB11 hb11 ht11
      go_wp2_with fail
      refine (same_true (rs.take k1) (by rw [hl1]; omega) _ _ w11 HRy.out HRz.out).mono ?_
      rintro e w12 ⟨rfl, q12, hw12⟩
      have HB12 : Hid (Below w.heap.size w w12) := below_drew_of HB11.out hw12
      clear hw12
      go_wp2_with fail
      go_ret
      exact ⟨rfl, HB12.out⟩
    · obtain rfl : keep = more := by omega
      obtain ⟨k1, k2, n1, n2, o1, hk1, hk2, hk3, hok1, hok2, f1, f2, f3, f4, ho1, hoo1, hoo3, f5, f6⟩ := loss_math s sn rs sf hP hK (keep).toNat (keep).toNat (by omega)
      have hff := hK.file
      have hg0 : s.g ≠ 0 := by have := hP.says.gen; omega
      obtain ⟨o2, ho2⟩ : ∃ o2, o2 = (opened (crash s.d (keep).toNat) s.f (found ((crash s.d (keep).toNat).F s.f))).d := ⟨_, rfl⟩
      have HCP : Hid (Calls Tryd.prog 25 #[.pointer (some ⟨bd, 0, none⟩)] w2 fun e w' => ∃ bc, e = .returned (.pointer (some ⟨bc, 0, none⟩)) ∧ DD w.heap.size w bd bc s.d s.d (fun k => (Value.slice av rs.length cv).ownBlock = some k ∨ k = w1.heap.size) w' ∧ (∀ k, (fun k => (Value.slice av rs.length cv).ownBlock = some k ∨ k = w1.heap.size) k → w'.heap[k]? = w2.heap[k]?) ∧ w2.heap.size ≤ w'.heap.size) := HS2.out.copy HZ.out hK.ok
      have CR1 : Hid (∀ bc w3, DD w.heap.size w bd bc s.d s.d (fun k => (Value.slice av rs.length cv).ownBlock = some k ∨ k = w1.heap.size) w3 → w.heap.size ≤ w3.heap.size → Calls Tryd.prog 22 #[.pointer (some ⟨bd, 0, none⟩), .int .i64 keep] w3 fun e w' => e = .returned (.tuple #[]) ∧ DD w.heap.size w bd bc (crash s.d (keep).toNat) s.d (fun k => (Value.slice av rs.length cv).ownBlock = some k ∨ k = w1.heap.size) w' ∧ (∀ k, (fun k => (Value.slice av rs.length cv).ownBlock = some k ∨ k = w1.heap.size) k → w'.heap[k]? = w3.heap[k]?) ∧ w3.heap.size ≤ w'.heap.size) := fun bc w3 h hB => h.call hB (fun T hD => Dk.crash_all keep (by omega) hD hK.ok)
      have CR2 : Hid (∀ bc w3, DD w.heap.size w bd bc (crash s.d (keep).toNat) s.d (fun k => (Value.slice av rs.length cv).ownBlock = some k ∨ k = w1.heap.size) w3 → w.heap.size ≤ w3.heap.size → Calls Tryd.prog 22 #[.pointer (some ⟨bc, 0, none⟩), .int .i64 keep] w3 fun e w' => e = .returned (.tuple #[]) ∧ DD w.heap.size w bd bc (crash s.d (keep).toNat) (crash s.d (keep).toNat) (fun k => (Value.slice av rs.length cv).ownBlock = some k ∨ k = w1.heap.size) w' ∧ (∀ k, (fun k => (Value.slice av rs.length cv).ownBlock = some k ∨ k = w1.heap.size) k → w'.heap[k]? = w3.heap[k]?) ∧ w3.heap.size ≤ w'.heap.size) := fun bc w3 h hB => (h.swap.call hB (fun T hD => Dk.crash_all keep (by omega) hD hK.ok)).mono fun e w' ⟨k1, k2, k3, k4⟩ => ⟨k1, k2.swap, k3, k4⟩
      have OP1 : Hid (∀ bc w3, DD w.heap.size w bd bc (crash s.d (keep).toNat) (crash s.d (keep).toNat) (fun k => (Value.slice av rs.length cv).ownBlock = some k ∨ k = w1.heap.size) w3 → w.heap.size ≤ w3.heap.size → Calls Tryd.prog 18 #[.pointer (some ⟨bd, 0, none⟩)] w3 fun e w' => DDOpen w.heap.size w bd bc o1 (crash s.d (keep).toNat) sn (rs.take k1) (fun k => (Value.slice av rs.length cv).ownBlock = some k ∨ k = w1.heap.size) w3 e w') := fun bc w3 h hB => by
        have := h.open_ hB HT.out (Nat.le_refl _) hok1 s.f hff (by rw [f1]; exact hg0) (by rw [f2])
        rw [← ho1, f1] at this
        exact this
      have OP2 : Hid (∀ bc w3 (N : Nat → Prop), DD w.heap.size w bd bc o1 (crash s.d (keep).toNat) N w3 → w.heap.size ≤ w3.heap.size → Calls Tryd.prog 18 #[.pointer (some ⟨bc, 0, none⟩)] w3 fun e w' => DDOpen w.heap.size w bc bd o2 o1 sn (rs.take k2) N w3 e w') := fun bc w3 N h hB => by
        have := h.swap.open_ hB HT.out (Nat.le_refl _) hok2 s.f hff (by rw [f3]; exact hg0) (by rw [f4])
        rw [← ho2, f3] at this
        exact this
      have CR3 : Hid (∀ bc w3 (N : Nat → Prop), DD w.heap.size w bc bd o2 o1 N w3 → w.heap.size ≤ w3.heap.size → Calls Tryd.prog 22 #[.pointer (some ⟨bd, 0, none⟩), .int .i64 keep] w3 fun e w' => e = .returned (.tuple #[]) ∧ DD w.heap.size w bd bc (crash o1 (keep).toNat) o2 N w' ∧ (∀ k, N k → w'.heap[k]? = w3.heap[k]?) ∧ w3.heap.size ≤ w'.heap.size) := fun bc w3 N h hB => h.swap.call hB (fun T hD => Dk.crash_all keep (by omega) hD hoo1)
      have OP3 : Hid (∀ bc w3 (N : Nat → Prop), DD w.heap.size w bd bc (crash o1 (keep).toNat) o2 N w3 → w.heap.size ≤ w3.heap.size → Calls Tryd.prog 18 #[.pointer (some ⟨bd, 0, none⟩)] w3 fun e w' => ∃ (jb : Nat) (v : Value), e = .returned (.tuple #[.pointer (some ⟨jb, 0, none⟩), .string ⟨sn.toArray⟩, v, .int .i64 0]) ∧ SRow w' v (rs.take k1) ∧ (∀ k, N k → w'.heap[k]? = w3.heap[k]?) ∧ Below w.heap.size w w') := fun bc w3 N h hB => by
        have := h.open_ hB HT.out (Nat.le_refl _) hoo3 s.f hff (by rw [f5]; exact hg0) (by rw [f6])
        rw [f5] at this
        refine this.mono ?_
        rintro e w' ⟨jb, v, y1, y2, y3, y4, y5⟩
        exact ⟨jb, v, y1, srow_own y2, y4, y3.bel⟩
      have hl1 : (rs.take k1).length = k1 := by rw [List.length_take]; omega
      have hl2 : (rs.take k2).length = k2 := by rw [List.length_take]; omega
      generalize crash s.d (keep).toNat = d1 at *
      generalize crash o1 (keep).toNat = d3 at *
      have HRT : Hid (∀ k, k ≤ rs.length → (rs.take k).length = k) := fun k hk => by rw [List.length_take]; omega
      clear hP hK hS hown hS2 hown2 q0 q1 q2 hw2 hb12 hs2 C1 hsz f1 f2 f3 f4 f5 f6 ho1 ho2 hok1 hok2 hoo1 hoo3 hff hg0 HS2
      go_wp2_with fail
      rw [HW2.out]
      refine HCP.out.mono ?_
      rintro e w3 ⟨bc, rfl, hD3, hB3, hZ3⟩
      have HD3 : Hid (DD w.heap.size w bd bc s.d s.d (fun k => (Value.slice av rs.length cv).ownBlock = some k ∨ k = w1.heap.size) w3) := hD3
      have HB3 : Hid (∀ k, (fun k => (Value.slice av rs.length cv).ownBlock = some k ∨ k = w1.heap.size) k → w3.heap[k]? = w2.heap[k]?) := hB3
      have HZ3 : Hid (w.heap.size ≤ w3.heap.size) := Nat.le_trans HZ.out hZ3
      clear hD3 hB3 hZ3
      go_wp2_with fail
      refine (CR1.out _ _ HD3.out HZ3.out).mono ?_
      rintro e w4 ⟨rfl, hD4, hB4, hZ4⟩
      have HD4 : Hid (DD w.heap.size w bd bc d1 s.d (fun k => (Value.slice av rs.length cv).ownBlock = some k ∨ k = w1.heap.size) w4) := hD4
      have HB4 : Hid (∀ k, (fun k => (Value.slice av rs.length cv).ownBlock = some k ∨ k = w1.heap.size) k → w4.heap[k]? = w2.heap[k]?) := fun k hk => (hB4 k hk).trans (HB3.out k hk)
      have HZ4 : Hid (w.heap.size ≤ w4.heap.size) := Nat.le_trans HZ3.out hZ4
      clear hD4 hB4 hZ4
      go_wp2_with fail
      refine (CR2.out _ _ HD4.out HZ4.out).mono ?_
      rintro e w5 ⟨rfl, hD5, hB5, hZ5⟩
      have HD5 : Hid (DD w.heap.size w bd bc d1 d1 (fun k => (Value.slice av rs.length cv).ownBlock = some k ∨ k = w1.heap.size) w5) := hD5
      have HB5 : Hid (∀ k, (fun k => (Value.slice av rs.length cv).ownBlock = some k ∨ k = w1.heap.size) k → w5.heap[k]? = w2.heap[k]?) := fun k hk => (hB5 k hk).trans (HB4.out k hk)
      have HZ5 : Hid (w.heap.size ≤ w5.heap.size) := Nat.le_trans HZ4.out hZ5
      clear hD5 hB5 hZ5
      go_wp2_with fail
      refine (OP1.out _ _ HD5.out HZ5.out).mono ?_
      rintro e w6 ⟨jb6, v6, rfl, hown6, hD6, hB6, hZ6⟩
      rw [hl1] at hown6
      obtain ⟨a6, c6, hv6, _, _⟩ := own_row hown6
      subst hv6
      have HO6 : Hid (w6.ownsRow w5.heap.size 9 1 (.slice a6 k1 c6) k1 ((rs.take k1).map strV)) := hown6
      have HD6 : Hid (DD w.heap.size w bd bc o1 d1 (fun k => (fun k => (Value.slice av rs.length cv).ownBlock = some k ∨ k = w1.heap.size) k ∨ (Value.slice a6 k1 c6).ownBlock = some k) w6) := hD6
      have HB6 : Hid (∀ k, (fun k => (Value.slice av rs.length cv).ownBlock = some k ∨ k = w1.heap.size) k → w6.heap[k]? = w2.heap[k]?) := fun k hk => (hB6 k hk).trans (HB5.out k hk)
      have HZ6 : Hid (w.heap.size ≤ w6.heap.size) := Nat.le_trans HZ5.out hZ6
      clear hown6 hD6 hB6 hZ6
      go_wp2_with fail
      refine (OP2.out _ _ _ HD6.out HZ6.out).mono ?_
      rintro e w7 ⟨jb7, v7, rfl, hown7, hD7, hB7, hZ7⟩
      rw [hl2] at hown7
      obtain ⟨a7, c7, hv7, _, _⟩ := own_row hown7
      subst hv7
      have HO7 : Hid (w7.ownsRow w6.heap.size 9 1 (.slice a7 k2 c7) k2 ((rs.take k2).map strV)) := hown7
      have HD7 : Hid (DD w.heap.size w bc bd o2 o1 (fun k => ((fun k => (Value.slice av rs.length cv).ownBlock = some k ∨ k = w1.heap.size) k ∨ (Value.slice a6 k1 c6).ownBlock = some k) ∨ (Value.slice a7 k2 c7).ownBlock = some k) w7) := hD7
      have HB7 : Hid (∀ k, (fun k => (Value.slice av rs.length cv).ownBlock = some k ∨ k = w1.heap.size) k → w7.heap[k]? = w2.heap[k]?) := fun k hk => (hB7 k (Or.inl hk)).trans (HB6.out k hk)
      have HB67 : Hid (∀ g, (Value.slice a6 k1 c6).ownBlock = some g → w7.heap[g]? = w6.heap[g]?) := fun g hg => hB7 g (Or.inr hg)
      have HZ7 : Hid (w.heap.size ≤ w7.heap.size) := Nat.le_trans HZ6.out hZ7
      obtain ⟨y0, y1, y2, hr1⟩ := HBLK.out _ HB7.out
      have HR1 : Hid (SRow w7 (.slice av rs.length cv) rs) := hr1
      have HRa : Hid (SRow w7 (.slice av k1 cv) (rs.take k1)) := srow_cut k1 (by omega) hr1
      have HRb : Hid (SRow w7 (.slice av k2 cv) (rs.take k2)) := srow_cut k2 (by omega) hr1
      have HR6 : Hid (SRow w7 (.slice a6 k1 c6) (rs.take k1)) := srow_blocks hl1.symm HO6.out HB67.out
      have HR7 : Hid (SRow w7 (.slice a7 k2 c7) (rs.take k2)) := srow_blocks hl2.symm HO7.out (fun _ _ => rfl)
      have i1 : ¬ (k1 : Int) < (sf : Int) := by omega
      have i2 : ¬ (k2 : Int) < (k1 : Int) := by omega
      have i3 : ¬ (rs.length : Int) < (k2 : Int) := by omega
      have i4 : (k1 : Int) ≤ (cv : Int) := by omega
      have i5 : (k2 : Int) ≤ (cv : Int) := by omega
      clear hown7 hD7 hB7 hZ7 hr1
      go_wp2_with fail
      refine (same_true (rs.take k1) (by rw [hl1]; omega) _ _ w7 HR6.out HRa.out).mono ?_
      rintro e w8 ⟨rfl, q8, hw8⟩
      have hb8 : Below w7.heap.size w7 w8 := by rw [hw8]; exact below_drewN (Below.refl _ _) q8
      have HD8 : Hid (DD w.heap.size w bc bd o2 o1 (fun k => ((fun k => (Value.slice av rs.length cv).ownBlock = some k ∨ k = w1.heap.size) k ∨ (Value.slice a6 k1 c6).ownBlock = some k) ∨ (Value.slice a7 k2 c7).ownBlock = some k) w8) := HD7.out.drew HZ7.out ⟨q8, hw8⟩
      have HZ8 : Hid (w.heap.size ≤ w8.heap.size) := Nat.le_trans HZ7.out hb8.size
      have HR7' : Hid (SRow w8 (.slice a7 k2 c7) (rs.take k2)) := srow_below HR7.out hb8
      have HRb' : Hid (SRow w8 (.slice av k2 cv) (rs.take k2)) := srow_below HRb.out hb8
      have hyl := block_lt_of_cell y1
      have z0 : w8.cell? ⟨w1.heap.size, 0, none⟩ = some (.string ⟨sn.toArray⟩) := (hb8.cell (p := ⟨w1.heap.size, 0, none⟩) hyl).trans y0
      have z1 : w8.cell? ⟨w1.heap.size, 1, none⟩ = some (.slice av rs.length cv) := (hb8.cell (p := ⟨w1.heap.size, 1, none⟩) hyl).trans y1
      have hg67 : ∀ g, (Value.slice a6 k1 c6).ownBlock = some g → w8.heap[g]? = w6.heap[g]? := fun g hg => (hb8.block g (by have := (HO6.out.lt g hg).2; have h7 := HB67.out g hg; have h8 := Array.getElem?_eq_some_iff.1 (h7.trans (show w6.heap[g]? = some w6.heap[g] from Array.getElem?_eq_getElem this)); exact h8.1)).trans (HB67.out g hg)
      have HG8 : Hid (∀ g, (Value.slice a6 k1 c6).ownBlock = some g → w8.heap[g]? = w6.heap[g]?) := hg67
      clear hw8 hb8 y0 y1 y2 hyl hg67
      go_wp2_with fail
      refine (same_true (rs.take k2) (by rw [hl2]; omega) _ _ w8 HR7'.out HRb'.out).mono ?_
      rintro e w9 ⟨rfl, q9, hw9⟩
      have hb9 : Below w8.heap.size w8 w9 := by rw [hw9]; exact below_drewN (Below.refl _ _) q9
      have HD9 : Hid (DD w.heap.size w bc bd o2 o1 (fun k => ((fun k => (Value.slice av rs.length cv).ownBlock = some k ∨ k = w1.heap.size) k ∨ (Value.slice a6 k1 c6).ownBlock = some k) ∨ (Value.slice a7 k2 c7).ownBlock = some k) w9) := HD8.out.drew HZ8.out ⟨q9, hw9⟩
      have HZ9 : Hid (w.heap.size ≤ w9.heap.size) := Nat.le_trans HZ8.out hb9.size
      have HG9 : Hid (∀ g, (Value.slice a6 k1 c6).ownBlock = some g → w9.heap[g]? = w6.heap[g]?) := fun g hg => by
        have h1 := HG8.out g hg
        have h2 := (HO6.out.lt g hg).2
        have h3 := Array.getElem?_eq_some_iff.1 (h1.trans (show w6.heap[g]? = some w6.heap[g] from Array.getElem?_eq_getElem h2))
        exact (hb9.block g h3.1).trans h1
      have HT9 : Hid (w9.cell? ⟨w1.heap.size, 0, none⟩ = some (.string ⟨sn.toArray⟩)) := (hb9.cell (p := ⟨w1.heap.size, 0, none⟩) (block_lt_of_cell z0)).trans z0
      clear hw9 hb9 z0 z1
      go_wp2_with fail
      refine (CR3.out _ _ _ HD9.out HZ9.out).mono ?_
      rintro e w10 ⟨rfl, hD10, hB10, hZ10⟩
      have HD10 : Hid (DD w.heap.size w bd bc d3 o2 (fun k => ((fun k => (Value.slice av rs.length cv).ownBlock = some k ∨ k = w1.heap.size) k ∨ (Value.slice a6 k1 c6).ownBlock = some k) ∨ (Value.slice a7 k2 c7).ownBlock = some k) w10) := hD10
      have HZ10 : Hid (w.heap.size ≤ w10.heap.size) := Nat.le_trans HZ9.out hZ10
      have HB10 : Hid (∀ k, (fun k => ((fun k => (Value.slice av rs.length cv).ownBlock = some k ∨ k = w1.heap.size) k ∨ (Value.slice a6 k1 c6).ownBlock = some k) ∨ (Value.slice a7 k2 c7).ownBlock = some k) k → w10.heap[k]? = w9.heap[k]?) := hB10
      clear hD10 hB10 hZ10
      go_wp2_with fail
      refine (OP3.out _ _ _ HD10.out HZ10.out).mono ?_
      rintro e w11 ⟨jb11, v11, rfl, hr11, hB11, hb11⟩
      have HRz : Hid (SRow w11 (.slice a6 k1 c6) (rs.take k1)) := srow_blocks hl1.symm HO6.out (fun g hg => ((hB11 g (Or.inl (Or.inr hg))).trans (HB10.out g (Or.inl (Or.inr hg)))).trans (HG9.out g hg))
      have ht11 : w11.heap[w1.heap.size]? = w9.heap[w1.heap.size]? := (hB11 _ (Or.inl (Or.inl (Or.inr rfl)))).trans (HB10.out _ (Or.inl (Or.inl (Or.inr rfl))))
      have u0 : w11.cell? ⟨w1.heap.size, 0, none⟩ = some (.string ⟨sn.toArray⟩) := (World.cell?_of_block (w := w9) (a := ⟨w1.heap.size, 0, none⟩) ht11).trans HT9.out
      have HRy : Hid (SRow w11 v11 (rs.take k1)) := hr11
      have HB11 : Hid (Below w.heap.size w w11) := hb11
      obtain ⟨a11, c11, hv11, _, _⟩ := hr11
      subst hv11
      rw [hl1] at HRy
      clear hB11 hb11 ht11
      go_wp2_with fail
      refine (same_true (rs.take k1) (by rw [hl1]; omega) _ _ w11 HRy.out HRz.out).mono ?_
      rintro e w12 ⟨rfl, q12, hw12⟩
      have HB12 : Hid (Below w.heap.size w w12) := below_drew_of HB11.out hw12
      clear hw12
      go_wp2_with fail
      go_ret
      exact ⟨rfl, HB12.out⟩
end Go.Proofs.YtklgfapdgeoigaaDoor
