/- The walk of the laws' own 'begun'. -/
import Derived.Test.YtahkecdlibkokaaDoorSaysW
set_option linter.unusedVariables false
set_option maxRecDepth 100000
namespace Go.Proofs.YtahkecdlibkokaaDoor
open Go.RowKit
open JournalMath DiskMath
open FrameMath (scan wrap wraps)
open Fr (Tab tab_below tab_drewN)
open Dk (PDisk RDisk ROk DIn Chg fp fp_lt rdisk_below rdisk_chg chg_below pdisk_below pdisk_chg)

theorem used_begun (r : Nat) : used (begun0 r).d ≤ 17 := by
  have h1 := (head_length 1 [] (by decide)).1
  have h2 : (wrap (head 1 [])).length = (head 1 []).length + 8 := FrameMath.wrap_length _
  show used (begins (new r) 1 0 []) ≤ 17
  unfold begins cut syn app used
  simp [upd, new]
  simp at h1
  omega
/-- From a world on in which all four lie: the program's journal, and that nothing else changes. -/
theorem Quad.from {B : Nat} {w w1 w2 : World} {bd bj bx by_ : Nat} {s : JS} (h : Quad B w bd bj bx by_ s w1) (hB : B ≤ w1.heap.size) (hb : Below w1.heap.size w1 w2) : ∃ V, JIn (fun k => k < w2.heap.size ∧ ¬ (fp bd V k ∨ k = bj)) w2 bj bd s w2 ∧ (∀ k, fp bd V k ∨ k = bj → B ≤ k ∧ k < w1.heap.size) ∧
    ∀ w3, Chg (fun k => ¬ (k < w2.heap.size ∧ ¬ (fp bd V k ∨ k = bj))) w2 w3 → Below B w w3 := by
  obtain ⟨V, g1, g2, g3, g4, g5, g6, g7, g8, g9, g10, g11, g12⟩ := h
  have hlow : ∀ k, fp bd V k ∨ k = bj → B ≤ k ∧ k < w1.heap.size := fun k hk => by
    rcases hk with hk | hk
    · exact ⟨g5 k (Or.inl hk), fp_lt g1 k hk⟩
    · exact ⟨g5 k (Or.inr (Or.inl hk)), by rw [hk]; exact g2.lt⟩
  have hsz := hb.size
  refine ⟨V, ⟨V, pdisk_below g1 hb, g2.block (hb.block _ g2.lt) hb.size, fun k hk _ ht => ht.2 hk, g6, Chg.refl _ _⟩, hlow, fun w3 hc => (g12.trans (hb.mono hB)).trans ⟨hc.os, hc.tape, hc.output, hc.size, fun k hk => hc.block k (by omega) (fun hn => hn ⟨by omega, fun hf => by have := (hlow k hf).1; omega⟩)⟩⟩
theorem JIn.din {T : Nat → Prop} {w w1 : World} {bj bd : Nat} {s : JS} (h : JIn T w bj bd s w1) : DIn T w bd s.d w1 := by
  obtain ⟨V, h1, h2, h3, h4, h5⟩ := h
  exact ⟨V, h1, fun k hk => h3 k (Or.inl hk), h5⟩

set_option maxHeartbeats 2000000 in
theorem begun_any (w : World) (hT : Tab w) :
    Calls Tryd.prog 11 #[] w fun e w' => e = .returned (.bool true) ∧ Below w.heap.size w w' := by
  have C1 : Hid (Calls Tryd.prog 9 #[.int .i64 100] w fun e w' => ∃ bd bj bx by_, e = .returned (.tuple #[.agg #[.pointer (some ⟨bd, 0, none⟩), .pointer (some ⟨bj, 0, none⟩), .pointer (some ⟨bx, 0, none⟩), .pointer (some ⟨by_, 0, none⟩)], .bool true]) ∧ Quad w.heap.size w bd bj bx by_ (begun0 100) w' ∧ w.heap.size ≤ w'.heap.size) := made_any 100 (by decide) (by decide) w hT
  have hk0 := jok_begun 100 (by decide) (by decide)
  have hs0 := says_begun 100
  have ha : (jAdd (begun0 100) [97, 98, 99]).2 = 0 := by
    have h1 := used_begun 100
    have h2 : (wrap [97, 98, 99]).length = 11 := FrameMath.wrap_length _
    have h3 : (begun0 100).d.R = 100 := rfl
    unfold jAdd
    rw [if_neg (by decide), if_neg (by omega)]
  have hs1 := says_add _ _ _ _ hs0 hk0 ha
  have hk1 := jok_add _ [97, 98, 99] hk0
  have hk2 := jok_syn _ hk1
  have hs2 := says_syn _ _ _ hs1
  have C2 : Hid (∀ (T : Nat → Prop) (w w1 : World) bj bd, JIn T w bj bd (begun0 100) w1 → T 0 → Tab w → Calls Tryd.prog 30 #[.pointer (some ⟨bj, 0, none⟩), .string ⟨#[97, 98, 99]⟩] w1 fun e w' => e = .returned (.int .i64 0) ∧ JIn T w bj bd (jAdd (begun0 100) [97, 98, 99]).1 w') := by
    intro T w w1 bj bd hJ hG hT
    have := add_any ⟨#[97, 98, 99]⟩ (by decide) hJ hk0 hG hT
    rw [show (ByteArray.mk #[97, 98, 99]).data.toList = [97, 98, 99] from rfl, ha] at this
    exact this
  generalize (jAdd (begun0 100) [97, 98, 99]).1 = s1 at *
  have C3 : Hid (∀ (T : Nat → Prop) (w w1 : World) bj bd, JIn T w bj bd s1 w1 → T 0 → Tab w → Calls Tryd.prog 31 #[.pointer (some ⟨bj, 0, none⟩)] w1 fun e w' => e = .returned (.int .i64 0) ∧ JIn T w bj bd (jSyn s1) w') := fun T w w1 bj bd hJ hG hT => jsync_any hJ hk1 hG hT
  generalize jSyn s1 = s2 at *
  obtain ⟨hfo, hfe⟩ := says_found _ _ _ hs2 hk2
  have C4 : Hid (∀ (T : Nat → Prop) (w w1 : World) bd, DIn T w bd s2.d w1 → T 0 → Tab w → Calls Tryd.prog 18 #[.pointer (some ⟨bd, 0, none⟩)] w1 fun e w' => ∃ jb v, e = .returned (.tuple #[.pointer (some ⟨jb, 0, none⟩), .string ⟨#[]⟩, v, .int .i64 0]) ∧ Chg (fun k => ¬ T k) w w' ∧ SRow w' v [[97, 98, 99]]) := by
    intro T w w1 bd hD hG hT
    have := open_any s2.f hk2.file hD hk2.ok hG hT (by rw [hfo]; show s2.g ≠ 0; have := hs2.gen; omega) (by rw [hfe])
    rw [hfo] at this
    refine this.mono ?_
    rintro e w' ⟨jb, v, V, h1, h2, h3, h4, h5, h6, h7, h8⟩
    exact ⟨jb, v, h1, h6, srow_own h7⟩
  have HT : Hid (Tab w) := hT
  clear hk0 hs0 ha hs1 hk1 hk2 hs2 hfo hfe hT
  generalize begun0 100 = s0 at *
  go_enter Tryd.func11, Tryd.ntmps11
  go_wp2_with fail
  refine C1.out.mono ?_
  rintro e w1 ⟨bd, bj, bx, by_, rfl, hQ, hsz⟩
  obtain ⟨w2, hw2⟩ : ∃ w2, w1.alloc (.cells #[.pointer (some ⟨bd, 0, none⟩), .pointer (some ⟨bj, 0, none⟩), .pointer (some ⟨bx, 0, none⟩), .pointer (some ⟨by_, 0, none⟩)] 28) = w2 := ⟨_, rfl⟩
  have HW2 : Hid (w1.alloc (.cells #[.pointer (some ⟨bd, 0, none⟩), .pointer (some ⟨bj, 0, none⟩), .pointer (some ⟨bx, 0, none⟩), .pointer (some ⟨by_, 0, none⟩)] 28) = w2) := hw2
  have hs2 : w2.heap.size = w1.heap.size + 1 := by rw [← hw2]; simp
  have c0 : w2.cell? ⟨w1.heap.size, 0, none⟩ = some (.pointer (some ⟨bd, 0, none⟩)) := by rw [← hw2]; simp
  have c1 : w2.cell? ⟨w1.heap.size, 1, none⟩ = some (.pointer (some ⟨bj, 0, none⟩)) := by rw [← hw2]; simp
  have hb12 : Below w1.heap.size w1 w2 := by rw [← hw2]; exact (Below.refl _ _).alloc (Nat.le_refl _) _
  obtain ⟨V, hJ, hlow, hbel⟩ := hQ.from hsz hb12
  have hb2 := hbel w2 (Chg.refl _ _)
  have hT2 : Tab w2 := tab_below HT.out hb2
  have hG : 0 < w2.heap.size ∧ ¬ (fp bd V 0 ∨ 0 = bj) := ⟨tab_lt hT2, fun hf => by have := (hlow _ hf).1; have := tab_lt HT.out; omega⟩
  have HPB : Hid (∀ w3, Chg (fun k => ¬ (k < w2.heap.size ∧ ¬ (fp bd V k ∨ k = bj))) w2 w3 → w3.cell? ⟨w1.heap.size, 0, none⟩ = some (.pointer (some ⟨bd, 0, none⟩)) ∧ w3.cell? ⟨w1.heap.size, 1, none⟩ = some (.pointer (some ⟨bj, 0, none⟩))) := by
    intro w3 hc
    have hblk : w3.heap[w1.heap.size]? = w2.heap[w1.heap.size]? := hc.block _ (by omega) (fun hn => hn ⟨by omega, fun hf => by have := (hlow _ hf).2; omega⟩)
    exact ⟨(World.cell?_of_block (w := w2) (a := ⟨w1.heap.size, 0, none⟩) hblk).trans c0, (World.cell?_of_block (w := w2) (a := ⟨w1.heap.size, 1, none⟩) hblk).trans c1⟩
  have HBEL : Hid (∀ w3, Chg (fun k => ¬ (k < w2.heap.size ∧ ¬ (fp bd V k ∨ k = bj))) w2 w3 → Below w.heap.size w w3) := hbel
  have C2' : Hid (Calls Tryd.prog 30 #[.pointer (some ⟨bj, 0, none⟩), .string ⟨#[97, 98, 99]⟩] w2 fun e w' => e = .returned (.int .i64 0) ∧ JIn (fun k => k < w2.heap.size ∧ ¬ (fp bd V k ∨ k = bj)) w2 bj bd s1 w') := C2.out _ _ _ _ _ hJ hG hT2
  have C3' : Hid (∀ w3, JIn (fun k => k < w2.heap.size ∧ ¬ (fp bd V k ∨ k = bj)) w2 bj bd s1 w3 → Calls Tryd.prog 31 #[.pointer (some ⟨bj, 0, none⟩)] w3 fun e w' => e = .returned (.int .i64 0) ∧ JIn (fun k => k < w2.heap.size ∧ ¬ (fp bd V k ∨ k = bj)) w2 bj bd s2 w') := fun w3 h => C3.out _ _ _ _ _ h hG hT2
  have C4' : Hid (∀ w3, DIn (fun k => k < w2.heap.size ∧ ¬ (fp bd V k ∨ k = bj)) w2 bd s2.d w3 → Calls Tryd.prog 18 #[.pointer (some ⟨bd, 0, none⟩)] w3 fun e w' => ∃ jb v, e = .returned (.tuple #[.pointer (some ⟨jb, 0, none⟩), .string ⟨#[]⟩, v, .int .i64 0]) ∧ Chg (fun k => ¬ (k < w2.heap.size ∧ ¬ (fp bd V k ∨ k = bj))) w2 w' ∧ SRow w' v [[97, 98, 99]]) := fun w3 h => C4.out _ _ _ _ h hG hT2
  clear hJ hlow hbel hb2 hT2 hG hb12 hQ hsz hs2 hw2 C1 C2 C3 C4
  go_wp2_with fail
  rw [HW2.out]
  refine C2'.out.mono ?_
  rintro e w3 ⟨rfl, hJ3⟩
  obtain ⟨p0, p1⟩ := HPB.out _ hJ3.chg
  have HJ3 : Hid (JIn (fun k => k < w2.heap.size ∧ ¬ (fp bd V k ∨ k = bj)) w2 bj bd s1 w3) := hJ3
  clear hJ3 c0 c1
  go_wp2_with fail
  refine (C3'.out _ HJ3.out).mono ?_
  rintro e w4 ⟨rfl, hJ4⟩
  obtain ⟨q0, q1⟩ := HPB.out _ hJ4.chg
  have HJ4 : Hid (JIn (fun k => k < w2.heap.size ∧ ¬ (fp bd V k ∨ k = bj)) w2 bj bd s2 w4) := hJ4
  clear hJ4 p0 p1
  go_wp2_with fail
  refine (C4'.out _ HJ4.out.din).mono ?_
  rintro e w5 ⟨jb, v, rfl, hc5, hs5⟩
  have HB5 : Hid (Below w.heap.size w w5) := HBEL.out _ hc5
  have hba : Below w5.heap.size w5 (w5.alloc (.cells #[.string ⟨#[97, 98, 99]⟩] 9)) := (Below.refl _ _).alloc (Nat.le_refl _) _
  have HS5 : Hid (SRow (w5.alloc (.cells #[.string ⟨#[97, 98, 99]⟩] 9)) v [[97, 98, 99]]) := srow_below hs5 hba
  have HS6 : Hid (SRow (w5.alloc (.cells #[.string ⟨#[97, 98, 99]⟩] 9)) (.slice (some ⟨w5.heap.size, 0, none⟩) 1 1) [[97, 98, 99]]) := by
    refine ⟨_, _, rfl, ⟨Nat.le_refl _, fun h => by cases h⟩, fun j hj => ?_⟩
    obtain rfl : j = 0 := by simpa using hj
    exact ⟨w5.heap.size, 0, rfl, by simp [strV]⟩
  have HB6 : Hid (Below w.heap.size w (w5.alloc (.cells #[.string ⟨#[97, 98, 99]⟩] 9))) := HB5.out.trans (hba.mono HB5.out.size)
  obtain ⟨ao, cap, rfl, _, _⟩ := hs5
  clear hba hc5 q0 q1
  go_wp2_with fail
  refine (same_true [[97, 98, 99]] (by decide) _ _ _ HS5.out HS6.out).mono ?_
  rintro e w6 ⟨rfl, q, hw6⟩
  have HB7 : Hid (Below w.heap.size w w6) := below_drew_of HB6.out hw6
  clear hw6
  go_wp2_with fail
  go_ret
  exact ⟨rfl, HB7.out⟩
end Go.Proofs.YtahkecdlibkokaaDoor
