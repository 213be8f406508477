/- The walk of the law JournalShort. -/
import Derived.Test.YtklgfapdgeoigaaDoorPlaysW
set_option linter.unusedVariables false
set_option maxRecDepth 100000
namespace Go.Proofs.YtklgfapdgeoigaaDoor
open Go.RowKit
open JournalMath DiskMath
open Fr (Tab tab_below tab_drewN)
open Dk (PDisk RDisk ROk DIn Chg fp fp_lt rdisk_below rdisk_chg chg_below pdisk_below pdisk_chg)

/-- How an Open ends beside blocks of the law's own. -/
def SoleOpen (B : Nat) (w : World) (bd : Nat) (d : DS) (sn : List UInt8) (rs : List (List UInt8)) (N : Nat → Prop) (wr : World) (e : Ending) (w' : World) : Prop :=
  ∃ (jb : Nat) (v : Value) (V : Nat → Value), e = .returned (.tuple #[.pointer (some ⟨jb, 0, none⟩), .string ⟨sn.toArray⟩, v, .int .i64 0]) ∧ SRow w' v rs ∧ PDisk w' bd V d ∧ (∀ k, N k → w'.heap[k]? = wr.heap[k]?) ∧ Below B w w'
/-- Open of a disk of which one file holds. -/
theorem Sole.open_ {B : Nat} {w wr : World} {bj bd : Nat} {s : JS} {N : Nat → Prop} (h : Sole B w bj bd s N wr) (hB : B ≤ wr.heap.size) (hT : Tab w) (hBw : w.heap.size ≤ B) (hk : Ok s.d) (f : Nat) (hf : f ≤ 1) (h0 : (found (s.d.F f)).gen ≠ 0) (h1 : (found (s.d.F (1 - f))).gen = 0) :
    Calls Tryd.prog 18 #[.pointer (some ⟨bd, 0, none⟩)] wr fun e w' => SoleOpen B w bd (opened s.d f (found (s.d.F f))).d (found (s.d.F f)).snap (found (s.d.F f)).recs N wr e w' := by
  obtain ⟨V, g1, g2, g3, g4, g5, g6⟩ := h
  have hT1 : Tab wr := fun i hi => by
    have h0 := hT i hi
    have hlt := block_lt_of_cell h0
    rw [g6.cell (p := ⟨0, i, none⟩) (by simp only at hlt ⊢; omega)]
    exact h0
  have hG : 0 < wr.heap.size ∧ ¬ (fp bd V 0) := ⟨tab_lt hT1, fun hf => by have := g4 _ (Or.inl hf); have := tab_lt hT; omega⟩
  refine (open_any (T := fun k => k < wr.heap.size ∧ ¬ fp bd V k) f hf ⟨V, g1, fun k hk _ ht => ht.2 hk, Chg.refl _ _⟩ hk hG hT1 h0 h1).mono ?_
  rintro e w' ⟨jb, v, V2, k1, k2, k3, k4, k5, k6, k7, k8⟩
  exact ⟨jb, v, V2, k1, srow_own k7, k2, fun k hk => k6.block k (g5 k hk).1 (fun hn => hn ⟨(g5 k hk).1, fun hf => (g5 k hk).2 (Or.inl hf)⟩), g6.trans ⟨k6.os, k6.tape, k6.output, k6.size, fun k hk => k6.block k (by omega) (fun hn => hn ⟨by omega, fun hf => by have := g4 k (Or.inl hf); omega⟩)⟩⟩
theorem ok_opened (d : DS) (f : Nat) (h : Ok d) (hf : f ≤ 1) : Ok (opened d f (found (d.F f))).d := (jok_opened d f h hf).ok
theorem used_opened (s : JS) (sn : List UInt8) (rs : List (List UInt8)) (sf : Nat) (h : Play s sn rs sf) (hk : JOk s) : used (opened s.d s.f (found (s.d.F s.f))).d = (s.d.F s.f).length := by
  have hf := hk.file
  have hx := (says_found s sn rs h.says hk).1
  have ho := opened_files s.d s.f hf (found (s.d.F s.f)) hk.ok (found_le _).1
  rw [hx] at ho ⊢
  simp only [List.take_length] at ho
  have h2 : (opened s.d s.f ⟨s.g, sn, rs, (s.d.F s.f).length⟩).d.F 2 = [] := by
    show (cut (cut s.d (1 - s.f) 0) s.f _).F 2 = []
    unfold cut
    simp only [upd_other _ _ _ _ (show 2 ≠ s.f by omega), upd_other _ _ _ _ (show 2 ≠ 1 - s.f by omega)]
    exact h.two
  have h3 : (opened s.d s.f ⟨s.g, sn, rs, (s.d.F s.f).length⟩).d.F 3 = [] := by
    show (cut (cut s.d (1 - s.f) 0) s.f _).F 3 = []
    unfold cut
    simp only [upd_other _ _ _ _ (show 3 ≠ s.f by omega), upd_other _ _ _ _ (show 3 ≠ 1 - s.f by omega)]
    exact h.three
  unfold used
  rw [h2, h3]
  rcases (show s.f = 0 ∨ s.f = 1 by omega) with e | e
  · rw [e] at ho ⊢
    rw [ho.1, show (1 : Nat) = 1 - 0 from rfl, ho.2.1]
    simp
  · rw [e] at ho ⊢
    rw [ho.1, show (0 : Nat) = 1 - 1 from rfl, ho.2.1]
    simp
theorem cmp_err (s : JS) (snap : List UInt8) (h : (jCmp s snap).2 ≠ 0) : (jCmp s snap).2 = 2 ∨ (jCmp s snap).2 = 41 := by
  unfold jCmp at h ⊢
  split
  · exact Or.inl rfl
  · rename_i h1
    rw [if_neg h1] at h
    unfold jBegin at h ⊢
    split
    · exact Or.inr rfl
    · rename_i h2; rw [if_neg h2] at h; exact absurd rfl h
theorem cmp_gen (s : JS) (snap : List UInt8) (h : (jCmp s snap).2 = 0) : (jCmp s snap).1.g = s.g + 1 ∧ (jCmp s snap).1.n = 0 := by
  unfold jCmp at h ⊢
  by_cases h1 : 190000 < snap.length ∨ s.g = 1125899906842624
  · rw [if_pos h1] at h; exact absurd h (by simp)
  · rw [if_neg h1] at h ⊢
    unfold jBegin at h ⊢
    by_cases h2 : s.d.R < used s.d + (FrameMath.wrap (head (s.g + 1) snap)).length
    · rw [if_pos h2] at h; exact absurd h (by simp)
    · rw [if_neg h2]; exact ⟨rfl, rfl⟩
theorem short_size (s : JS) (snap : List UInt8) (h : Says s snap []) (hk : JOk s) : snap.length < (s.d.F s.f).length := by
  rw [h.holds, FrameMath.wraps_length]
  have := (head_length s.g snap hk.gen).2
  show snap.length < (head s.g snap).length + 8 + 0
  omega

set_option maxHeartbeats 2000000 in
theorem journalShort_walk (room : Int) (hroom : -9223372036854775808 ≤ room ∧ room ≤ 9223372036854775807) (l : List JOp) (hl : ∀ o ∈ l, OpOk o) (hll : l.length ≤ 140737488355328) (v : Value) (snap : ByteArray) (hsn : snap.size ≤ 140737488351232) (w : World) (hv : ORow w v l) (hT : Tab w) :
    Calls Tryd.prog 8 #[.int .i64 room, v, .string snap] w fun e w' => e = .returned (.bool true) ∧ Below w.heap.size w w' := by
  have C1 : Hid (Calls Tryd.prog 24 #[.int .i64 room, v] w fun e w' => PlaysOk w e w') := plays_any room hroom l hl hll v w hv hT
  have HT : Hid (Tab w) := hT
  obtain ⟨ao, cap, rfl, _⟩ := hv
  clear hl hT
  go_enter Tryd.func8, Tryd.ntmps8
  go_wp2_with fail
  refine C1.out.mono ?_
  rintro e w1 ⟨bd, bj, s, sn, rs, sf, v1, rfl, hP, hK, hS, hown, hsz⟩
  obtain ⟨w2, hw2⟩ : ∃ w2, w1.alloc (.cells #[.string ⟨sn.toArray⟩, v1, .int .i64 (sf : Int)] 59) = w2 := ⟨_, rfl⟩
  have hb12 : Below w1.heap.size w1 w2 := by rw [← hw2]; exact (Below.refl _ _).alloc (Nat.le_refl _) _
  have hs2 : w2.heap.size = w1.heap.size + 1 := by rw [← hw2]; simp
  have hS2 : Sole w.heap.size w bj bd s (fun k => v1.ownBlock = some k ∨ k = w1.heap.size) w2 := hS.own hsz (chg_below hb12) (fun k hk => (hown.lt k hk).1) (fun k hk => by
    rcases hk with hk | hk
    · exact ⟨Or.inl hk, by have := (hown.lt k hk).2; omega⟩
    · exact ⟨Or.inr (by omega), by omega⟩)
  have hown2 := own_below hown hb12
  have q0 : w2.cell? ⟨w1.heap.size, 0, none⟩ = some (.string ⟨sn.toArray⟩) := by rw [← hw2]; simp
  have q1 : w2.cell? ⟨w1.heap.size, 1, none⟩ = some v1 := by
    obtain ⟨a, c, rfl, _, _⟩ := own_row hown
    rw [← hw2]; simp
  have HBLK : Hid (∀ w3 : World, (∀ k, (v1.ownBlock = some k ∨ k = w1.heap.size) → w3.heap[k]? = w2.heap[k]?) → w3.cell? ⟨w1.heap.size, 0, none⟩ = some (.string ⟨sn.toArray⟩) ∧ w3.cell? ⟨w1.heap.size, 1, none⟩ = some v1 ∧ SRow w3 v1 rs) := fun w3 h => by
    have ho := h w1.heap.size (Or.inr rfl)
    refine ⟨(World.cell?_of_block (w := w2) (a := ⟨w1.heap.size, 0, none⟩) ho).trans q0, (World.cell?_of_block (w := w2) (a := ⟨w1.heap.size, 1, none⟩) ho).trans q1, ?_⟩
    refine srow_own (B := w.heap.size) (e := 9) ⟨hown2.1, ?_⟩
    rcases hown2.2 with h0 | ⟨g, cap, cur, hv, hb, hgg, rest⟩
    · exact Or.inl h0
    · refine Or.inr ⟨g, cap, cur, hv, hb, ?_, rest⟩
      rw [h g (Or.inl (by rw [hv]; rfl))]
      exact hgg
  have HS2 : Hid (Sole w.heap.size w bj bd s (fun k => v1.ownBlock = some k ∨ k = w1.heap.size) w2) := hS2
  have HW2 : Hid (w1.alloc (.cells #[.string ⟨sn.toArray⟩, v1, .int .i64 (sf : Int)] 59) = w2) := hw2
  have hcount := hP.says.count
  have hrl : rs.length ≤ 1048576 := by
    have h1 := hK.count
    have h2 := file_le s.d s.f (by have := hK.file; omega)
    have h3 := hK.ok.room
    have h4 := hK.ok.most
    omega
  have HZ : Hid (w.heap.size ≤ w2.heap.size) := by show _ ≤ _; omega
  have ST1 : Hid (∀ w3, Sole w.heap.size w bj bd s (fun k => v1.ownBlock = some k ∨ k = w1.heap.size) w3 → w.heap.size ≤ w3.heap.size → Calls Tryd.prog 21 #[.pointer (some ⟨bj, 0, none⟩)] w3 fun e w' => e = .returned (.tuple #[.int .i64 (s.g : Int), .int .i64 (rs.length : Int), .int .i64 ((s.d.F s.f).length : Int)]) ∧ Sole w.heap.size w bj bd s (fun k => v1.ownBlock = some k ∨ k = w1.heap.size) w' ∧ (∀ k, (v1.ownBlock = some k ∨ k = w1.heap.size) → w'.heap[k]? = w3.heap[k]?) ∧ w3.heap.size ≤ w'.heap.size) := fun w3 h hB => h.call hB HT.out (Nat.le_refl _) (fun T hJ hG hT => by rw [← hcount]; exact stat_any hJ hK hG hT)
  have CM : Hid (∀ w3, Sole w.heap.size w bj bd s (fun k => v1.ownBlock = some k ∨ k = w1.heap.size) w3 → w.heap.size ≤ w3.heap.size → Calls Tryd.prog 26 #[.pointer (some ⟨bj, 0, none⟩), .string snap] w3 fun e w' => e = .returned (.int .i64 (jCmp s snap.data.toList).2) ∧ Sole w.heap.size w bj bd (jCmp s snap.data.toList).1 (fun k => v1.ownBlock = some k ∨ k = w1.heap.size) w' ∧ (∀ k, (v1.ownBlock = some k ∨ k = w1.heap.size) → w'.heap[k]? = w3.heap[k]?) ∧ w3.heap.size ≤ w'.heap.size) := fun w3 h hB => h.call hB HT.out (Nat.le_refl _) (fun T hJ hG hT => compact_any snap (by omega) hJ hK hG hT)
  have hg50 := hK.gen
  have hfl : (s.d.F s.f).length ≤ 1048576 := by have h2 := file_le s.d s.f (by have := hK.file; omega); have h3 := hK.ok.room; have h4 := hK.ok.most; omega
  have hvr : SRow w2 v1 rs := srow_own hown2
  by_cases he : (jCmp s snap.data.toList).2 = 0
  · have hP2 := play_cmp s sn snap.data.toList rs sf hP hK he
    have hK2 := jok_cmp s snap.data.toList hK
    have hg2 := cmp_gen s snap.data.toList he
    rw [he] at CM
    generalize (jCmp s snap.data.toList).1 = s2 at *
    have hss := short_size s2 _ hP2.says hK2
    rw [size_data] at hss
    have hus := used_opened s2 _ _ _ hP2 hK2
    have hok := ok_opened s2.d s2.f hK2.ok hK2.file
    have hfl2 : (s2.d.F s2.f).length ≤ 1048576 := by have h2 := file_le s2.d s2.f (by have := hK2.file; omega); have h3 := hK2.ok.room; have h4 := hK2.ok.most; omega
    have ST2 : Hid (∀ w3, Sole w.heap.size w bj bd s2 (fun k => v1.ownBlock = some k ∨ k = w1.heap.size) w3 → w.heap.size ≤ w3.heap.size → Calls Tryd.prog 21 #[.pointer (some ⟨bj, 0, none⟩)] w3 fun e w' => e = .returned (.tuple #[.int .i64 ((s.g : Int) + 1), .int .i64 0, .int .i64 ((s2.d.F s2.f).length : Int)]) ∧ Sole w.heap.size w bj bd s2 (fun k => v1.ownBlock = some k ∨ k = w1.heap.size) w' ∧ (∀ k, (v1.ownBlock = some k ∨ k = w1.heap.size) → w'.heap[k]? = w3.heap[k]?) ∧ w3.heap.size ≤ w'.heap.size) := fun w3 h hB => h.call hB HT.out (Nat.le_refl _) (fun T hJ hG hT => by
      have := stat_any hJ hK2 hG hT
      rw [hg2.1, hg2.2, Int.natCast_add] at this
      exact this)
    have OP : Hid (∀ w3, Sole w.heap.size w bj bd s2 (fun k => v1.ownBlock = some k ∨ k = w1.heap.size) w3 → w.heap.size ≤ w3.heap.size → Calls Tryd.prog 18 #[.pointer (some ⟨bd, 0, none⟩)] w3 fun e w' => ∃ jb v V, e = .returned (.tuple #[.pointer (some ⟨jb, 0, none⟩), .string snap, v, .int .i64 0]) ∧ SRow w' v [] ∧ PDisk w' bd V (opened s2.d s2.f (found (s2.d.F s2.f))).d ∧ Below w.heap.size w w') := fun w3 h hB => by
      obtain ⟨hfo, hfe⟩ := says_found s2 _ _ hP2.says hK2
      have := h.open_ hB HT.out (Nat.le_refl _) hK2.ok s2.f hK2.file (by rw [hfo]; show s2.g ≠ 0; have := hP2.says.gen; omega) (by rw [hfe])
      rw [hfo] at this ⊢
      refine this.mono ?_
      rintro e w' ⟨jb, v, V, k1, k2, k3, k4, k5⟩
      rw [data_mk] at k1
      exact ⟨jb, v, V, k1, k2, k3, k5⟩
    generalize (opened s2.d s2.f (found (s2.d.F s2.f))).d = d6 at *
    generalize (s2.d.F s2.f).length = sz2 at *
    generalize (s.d.F s.f).length = sz at *
    generalize s.g = gg at *
    have HUS : Hid (∀ (w6 : World) V, PDisk w6 bd V d6 → Calls Tryd.prog 27 #[.pointer (some ⟨bd, 0, none⟩)] w6 fun e w' => e = .returned (.int .i64 (sz2 : Int)) ∧ w' = w6) := fun w6 V h => by
      have := Dk.used_any w6 bd V d6 h hok
      rw [hus] at this
      exact this
    clear hP hK hS hown hS2 hown2 q0 q1 hw2 hb12 hs2 C1 hcount hsz hP2 hK2 hg2 hus hok he HBLK
    have i9 : (snap.size : Int) < (sz2 : Int) := by omega
    obtain ⟨av, cv, hvv⟩ : ∃ av cv, v1 = .slice av rs.length cv := by
      obtain ⟨a, c, h, _⟩ := hvr
      exact ⟨a, c, h⟩
    subst hvv
    clear hvr
    go_wp2_with fail
    rw [HW2.out]
    refine (ST1.out _ HS2.out HZ.out).mono ?_
    rintro e w3 ⟨rfl, hS3, hB3, hZ3⟩
    have HS3 : Hid (Sole w.heap.size w bj bd s (fun k => (Value.slice av rs.length cv).ownBlock = some k ∨ k = w1.heap.size) w3) := hS3
    have HZ3 : Hid (w.heap.size ≤ w3.heap.size) := Nat.le_trans HZ.out hZ3
    clear hS3 hB3 hZ3
    go_wp2_with fail
    refine (CM.out _ HS3.out HZ3.out).mono ?_
    rintro e w4 ⟨rfl, hS4, hB4, hZ4⟩
    have HS4 : Hid (Sole w.heap.size w bj bd s2 (fun k => (Value.slice av rs.length cv).ownBlock = some k ∨ k = w1.heap.size) w4) := hS4
    have HZ4 : Hid (w.heap.size ≤ w4.heap.size) := Nat.le_trans HZ3.out hZ4
    clear hS4 hB4 hZ4
    go_wp2_with fail
    refine (ST2.out _ HS4.out HZ4.out).mono ?_
    rintro e w5 ⟨rfl, hS5, hB5, hZ5⟩
    have HS5 : Hid (Sole w.heap.size w bj bd s2 (fun k => (Value.slice av rs.length cv).ownBlock = some k ∨ k = w1.heap.size) w5) := hS5
    have HZ5 : Hid (w.heap.size ≤ w5.heap.size) := Nat.le_trans HZ4.out hZ5
    clear hS5 hB5 hZ5
    go_wp2_with fail
    refine (OP.out _ HS5.out HZ5.out).mono ?_
    rintro e w6 ⟨jb, v6, V6, rfl, hr6, hP6, hb6⟩
    have HB6 : Hid (Below w.heap.size w w6) := hb6
    have HU6 : Hid (Calls Tryd.prog 27 #[.pointer (some ⟨bd, 0, none⟩)] w6 fun e w' => e = .returned (.int .i64 (sz2 : Int)) ∧ w' = w6) := HUS.out _ _ hP6
    obtain ⟨a6, c6, rfl, _, _⟩ := hr6
    clear hP6 hb6
    go_wp2_with fail
    refine HU6.out.mono ?_
    rintro e w7 ⟨rfl, hw7⟩
    rw [hw7]
    clear hw7
    go_wp2_with fail
    go_ret
    exact ⟨rfl, HB6.out⟩
  · have hsame := cmp_same s snap.data.toList he
    have herr := cmp_err s snap.data.toList he
    rw [hsame] at CM
    have OP : Hid (∀ w3, Sole w.heap.size w bj bd s (fun k => v1.ownBlock = some k ∨ k = w1.heap.size) w3 → w.heap.size ≤ w3.heap.size → Calls Tryd.prog 18 #[.pointer (some ⟨bd, 0, none⟩)] w3 fun e w' => SoleOpen w.heap.size w bd (opened s.d s.f (found (s.d.F s.f))).d sn rs (fun k => v1.ownBlock = some k ∨ k = w1.heap.size) w3 e w') := fun w3 h hB => by
      obtain ⟨hfo, hfe⟩ := says_found s sn rs hP.says hK
      have := h.open_ hB HT.out (Nat.le_refl _) hK.ok s.f hK.file (by rw [hfo]; show s.g ≠ 0; have := hP.says.gen; omega) (by rw [hfe])
      rw [hfo] at this ⊢
      exact this
    generalize (jCmp s snap.data.toList).2 = er at *
    generalize (s.d.F s.f).length = sz at *
    generalize s.g = gg at *
    clear hP hK hS hown hS2 hown2 q0 q1 hw2 hb12 hs2 hsame C1 hcount hsz
    obtain ⟨av, cv, hvv⟩ : ∃ av cv, v1 = .slice av rs.length cv := by
      obtain ⟨a, c, h, _⟩ := hvr
      exact ⟨a, c, h⟩
    subst hvv
    clear hvr
    have e0 : (er != 0) = true := by rw [bne_iff_ne]; exact he
    rcases herr with rfl | rfl
    all_goals
      go_wp2_with fail
      rw [HW2.out]
      refine (ST1.out _ HS2.out HZ.out).mono ?_
      rintro e w3 ⟨rfl, hS3, hB3, hZ3⟩
      have HS3 : Hid (Sole w.heap.size w bj bd s (fun k => (Value.slice av rs.length cv).ownBlock = some k ∨ k = w1.heap.size) w3) := hS3
      have HB3 : Hid (∀ k, ((Value.slice av rs.length cv).ownBlock = some k ∨ k = w1.heap.size) → w3.heap[k]? = w2.heap[k]?) := hB3
      have HZ3 : Hid (w.heap.size ≤ w3.heap.size) := Nat.le_trans HZ.out hZ3
      clear hS3 hB3 hZ3
      go_wp2_with fail
      refine (CM.out _ HS3.out HZ3.out).mono ?_
      rintro e w4 ⟨rfl, hS4, hB4, hZ4⟩
      have HS4 : Hid (Sole w.heap.size w bj bd s (fun k => (Value.slice av rs.length cv).ownBlock = some k ∨ k = w1.heap.size) w4) := hS4
      have HB4 : Hid (∀ k, ((Value.slice av rs.length cv).ownBlock = some k ∨ k = w1.heap.size) → w4.heap[k]? = w2.heap[k]?) := fun k hk => (hB4 k hk).trans (HB3.out k hk)
      have HZ4 : Hid (w.heap.size ≤ w4.heap.size) := Nat.le_trans HZ3.out hZ4
      clear hS4 hB4 hZ4
      go_wp2_with fail
      refine (ST1.out _ HS4.out HZ4.out).mono ?_
      rintro e w5 ⟨rfl, hS5, hB5, hZ5⟩
      have HS5 : Hid (Sole w.heap.size w bj bd s (fun k => (Value.slice av rs.length cv).ownBlock = some k ∨ k = w1.heap.size) w5) := hS5
      have HB5 : Hid (∀ k, ((Value.slice av rs.length cv).ownBlock = some k ∨ k = w1.heap.size) → w5.heap[k]? = w2.heap[k]?) := fun k hk => (hB5 k hk).trans (HB4.out k hk)
      have HZ5 : Hid (w.heap.size ≤ w5.heap.size) := Nat.le_trans HZ4.out hZ5
      obtain ⟨y0, y1, _⟩ := HBLK.out _ HB5.out
      clear hS5 hB5 hZ5
      go_wp2_with fail
      refine (OP.out _ HS5.out HZ5.out).mono ?_
      rintro e w6 ⟨jb, v6, V6, rfl, hr6, hP6, hB6, hb6⟩
      obtain ⟨z0, z1, hr1⟩ := HBLK.out w6 (fun k hk => (hB6 k hk).trans (HB5.out k hk))
      have HR6 : Hid (SRow w6 v6 rs) := hr6
      have HR1 : Hid (SRow w6 (.slice av rs.length cv) rs) := hr1
      have HB6 : Hid (Below w.heap.size w w6) := hb6
      obtain ⟨a6, c6, rfl, _, _⟩ := hr6
      clear hr1 hP6 hB6 hb6 y0 y1
      go_wp2_with fail
      refine (same_true rs (by omega) _ _ w6 HR6.out HR1.out).mono ?_
      rintro e w7 ⟨rfl, q, hw7⟩
      have HB7 : Hid (Below w.heap.size w w7) := below_drew_of HB6.out hw7
      clear hw7
      go_wp2_with fail
      go_ret
      exact ⟨rfl, HB7.out⟩
end Go.Proofs.YtklgfapdgeoigaaDoor
