/- The walk of the law JournalAgain. -/
import Derived.Test.YtklgfapdgeoigaaDoorMakesW
import Derived.Test.YtklgfapdgeoigaaDoorAMath
set_option linter.unusedVariables false
set_option maxRecDepth 100000
namespace Go.Proofs.YtklgfapdgeoigaaDoor
open Go.RowKit
open JournalMath DiskMath
open Fr (Tab tab_below tab_drewN)
open Dk (PDisk RDisk ROk DIn Chg fp fp_lt rdisk_below rdisk_chg chg_below pdisk_below pdisk_chg)

/-- From the end of an Open on: the journal, its row of records, and what is left alone. -/
theorem OpenOk.on {T : Nat → Prop} {w w1 w' : World} {b : Nat} {s : JS} {snap : List UInt8} {recs : List (List UInt8)} {e : Ending} (h : OpenOk T w w1 b s snap recs e w') (hG : T 0) (hT : Tab w) :
    ∃ jb v V, e = .returned (.tuple #[.pointer (some ⟨jb, 0, none⟩), .string ⟨snap.toArray⟩, v, .int .i64 0]) ∧ JIn T w jb b s w' ∧ JIn (fun k => k < w'.heap.size ∧ ¬ (fp b V k ∨ k = jb)) w' jb b s w' ∧ SRow w' v recs ∧ (0 < w'.heap.size ∧ ¬ (fp b V 0 ∨ 0 = jb)) ∧ Tab w' ∧
      (∀ w2, Chg (fun k => ¬ (k < w'.heap.size ∧ ¬ (fp b V k ∨ k = jb))) w' w2 → Chg (fun k => ¬ T k) w w2 ∧ SRow w2 v recs) := by
  obtain ⟨jb, v, V, h1, h2, h3, h4, h5, h6, h7, h8⟩ := h
  have hT' : Tab w' := tab_chg h6 hG hT
  refine ⟨jb, v, V, h1, ⟨V, h2, h3, h4, h5, h6⟩, ⟨V, h2, h3, fun k hk _ ht => ht.2 hk, h5, Chg.refl _ _⟩, srow_own h7, ⟨tab_lt hT', fun hf => h4 _ hf (tab_lt hT) hG⟩, hT', fun w2 hc => ⟨h6.trans hc (fun k hk hn => ?_), srow_own (own_chg h7 hc (fun g hg hn => hn ⟨(h7.lt g hg).2, fun hf => ?_⟩))⟩⟩
  · by_cases hf : fp b V k ∨ k = jb
    · exact h4 k hf hk
    · exact absurd ⟨by have := h6.size; omega, hf⟩ hn
  · rcases hf with hf | hf
    · exact (h8 g hg).1 hf
    · exact (h8 g hg).2 hf
theorem size_jin {T : Nat → Prop} {w w1 : World} {bj bd : Nat} {s : JS} (i : Nat) (hi : i < 4) (hJ : JIn T w bj bd s w1) :
    Calls Tryd.prog 20 #[.pointer (some ⟨bd, 0, none⟩), .int .i64 (i : Int)] w1 fun e w' => e = .returned (.tuple #[.int .i64 ((s.d.F i).length : Int), .int .i64 (s.d.S i : Int), .int .i64 0]) ∧ JIn T w bj bd s w' := by
  obtain ⟨V, h1, _⟩ := id hJ
  exact (Dk.size_any w1 bd V s.d i hi h1).mono fun e w' ⟨k1, k2⟩ => ⟨k1, jin_drewN hJ k2⟩
theorem crash_jin {T : Nat → Prop} {w w1 : World} {bj bd : Nat} {s : JS} (n : Int) (hn : -9223372036854775808 ≤ n ∧ n ≤ 9223372036854775807) (hJ : JIn T w bj bd s w1) (hk : Ok s.d) (hG : T 0) (hT : Tab w) :
    Calls Tryd.prog 22 #[.pointer (some ⟨bd, 0, none⟩), .int .i64 n] w1 fun e w' => e = .returned (.tuple #[]) ∧ JIn T w bj bd ⟨crash s.d n.toNat, s.f, s.g, s.n⟩ w' := by
  obtain ⟨T', hD, hG', hT', hnext⟩ := jin_disk hJ hG hT
  exact (Dk.crash_all n hn hD hk).mono fun e w' ⟨k1, k2⟩ => ⟨k1, hnext _ _ k2⟩

set_option maxHeartbeats 2000000 in
theorem journalAgain_walk (room : Int) (hroom : -9223372036854775808 ≤ room ∧ room ≤ 9223372036854775807) (l : List Im) (hl : ∀ x ∈ l, x.Safe.size ≤ 140737488351232 ∧ x.More.size ≤ 140737488351232) (hll : l.length ≤ 140737488355328) (v : Value) (keep : Int) (hkeep : -9223372036854775808 ≤ keep ∧ keep ≤ 9223372036854775807) (w : World) (hv : IRow w v l) (hT : Tab w) :
    Calls Tryd.prog 6 #[.int .i64 room, v, .int .i64 keep] w fun e w' => e = .returned (.bool true) ∧ Below w.heap.size w w' := by
  have C1 : Hid (Calls Tryd.prog 15 #[.int .i64 room, v] w fun e w' => LaidOk w e w') := laid_any room hroom l hl hll v w hv
  have HT : Hid (Tab w) := hT
  have HKE : Hid (-9223372036854775808 ≤ keep ∧ keep ≤ 9223372036854775807) := hkeep
  obtain ⟨ao, cap, rfl, _⟩ := hv
  clear hl hT hkeep
  go_enter Tryd.func6, Tryd.ntmps6
  go_wp2_with fail
  refine C1.out.mono ?_
  rintro e w1 ⟨bd, bx, d, rfl, hk, hD, hsz⟩
  have C2 : Hid (Calls Tryd.prog 11 #[] w1 fun e w' => e = .returned (.bool true) ∧ Below w1.heap.size w1 w') := begun_any w1 (tab_below HT.out hD.bel)
  have HD : Hid (Duo w.heap.size w bd bx d d w1) := hD
  have HK : Hid (Ok d) := hk
  have HS : Hid (w.heap.size ≤ w1.heap.size) := hsz
  clear hD hk hsz C1
  go_wp2_with fail
  refine C2.out.mono ?_
  rintro e w2 ⟨rfl, hb2⟩
  obtain ⟨V, hP, hDI, hG, hT2, hR, hx, hbel⟩ := (HD.out.below hb2 HS.out).set (Nat.le_trans HS.out hb2.size) HT.out (Nat.le_refl _)
  by_cases hnone : (found (d.F 0)).gen = 0 ∧ (found (d.F 1)).gen = 0
  · have C3 : Hid (Calls Tryd.prog 18 #[.pointer (some ⟨bd, 0, none⟩)] w2 fun e w' => e = .returned (.tuple #[.pointer none, .string ⟨#[]⟩, .slice none 0 0, .int .i64 61]) ∧ Below w.heap.size w w') := (open_none hDI HK.out hG hT2 hnone.1 hnone.2).mono fun e w' ⟨k1, k2⟩ => ⟨k1, (hbel w2 (Chg.refl _ _)).trans (k2.mono (by have := HS.out; have := hb2.size; omega))⟩
    clear hP hDI hG hT2 hR hx hbel hnone hb2
    go_wp2_with fail
    refine C3.out.mono ?_
    rintro e w3 ⟨rfl, hb3⟩
    have HB3 : Hid (Below w.heap.size w w3) := hb3
    clear hb3
    go_wp2_with fail
    go_ret
    exact ⟨rfl, HB3.out⟩
  · obtain ⟨f, hf, hg1, hO⟩ : ∃ f, f ≤ 1 ∧ (found (d.F f)).gen ≠ 0 ∧ Calls Tryd.prog 18 #[.pointer (some ⟨bd, 0, none⟩)] w2 fun e w' => OpenOk (fun k => k < w2.heap.size ∧ ¬ fp bd V k) w2 w2 bd (opened d f (found (d.F f))) (found (d.F f)).snap (found (d.F f)).recs e w' := by
      by_cases hlt : (found (d.F 0)).gen < (found (d.F 1)).gen
      · exact ⟨1, Nat.le_refl _, by omega, open_second hDI HK.out hG hT2 hlt⟩
      · exact ⟨0, Nat.zero_le _, by omega, open_first hDI HK.out hG hT2 (by omega) hlt⟩
    have hfl := found_le (d.F f)
    have hof := opened_files d f hf (found (d.F f)) HK.out hfl.1
    have hjok := jok_opened d f HK.out hf
    have hag := found_again (d.F f) hg1
    have hfs : (opened d f (found (d.F f))).f = f := rfl
    have hgs : (opened d f (found (d.F f))).g = (found (d.F f)).gen := rfl
    have hns : (opened d f (found (d.F f))).n = (found (d.F f)).recs.length := rfl
    generalize found (d.F f) = x at *
    generalize opened d f x = s1 at *
    have C3 : Hid (Calls Tryd.prog 18 #[.pointer (some ⟨bd, 0, none⟩)] w2 fun e w' => OpenOk (fun k => k < w2.heap.size ∧ ¬ fp bd V k) w2 w2 bd s1 x.snap x.recs e w') := hO
    have HGG : Hid ((fun k => k < w2.heap.size ∧ ¬ fp bd V k) 0) := hG
    have HT2 : Hid (Tab w2) := hT2
    have HBEL : Hid (∀ w3, Chg (fun k => ¬ (k < w2.heap.size ∧ ¬ fp bd V k)) w2 w3 → Below w.heap.size w w3) := hbel
    -- sizes
    have hlen : (s1.d.F f).length = x.size := by rw [hof.1, List.length_take]; omega
    have hsafe : ∀ i, i < 2 → s1.d.S i = (s1.d.F i).length := fun i hi => by
      by_cases e : i = f
      · rw [e, hof.2.2.1, hlen]
      · have e2 : i = 1 - f := by omega
        rw [e2, hof.2.2.2, hof.2.1]; rfl
    have HSAFE : Hid (∀ i, i < 2 → s1.d.S i = (s1.d.F i).length) := hsafe
    have HJOK : Hid (JOk s1) := hjok
    obtain ⟨d2, hd2⟩ : ∃ d2, d2 = crash s1.d keep.toNat := ⟨_, rfl⟩
    have hk2 : Ok d2 := by rw [hd2]; exact ok_crash _ _ hjok.ok
    have hF2 : d2.F f = s1.d.F f := by rw [hd2]; exact crash_safe _ f _ (by omega) (hsafe f (by omega))
    have hE2 : d2.F (1 - f) = [] := by rw [hd2, crash_safe _ (1 - f) _ (by omega) (hsafe (1 - f) (by omega)), hof.2.1]
    have hfo2 : found (d2.F f) = x := by rw [hF2, hof.1, hag]
    have hof2 := opened_files d2 f hf x hk2 (by rw [hF2]; omega)
    have hjok2 : JOk (opened d2 f x) := by have := jok_opened d2 f hk2 hf; rwa [hfo2] at this
    have hlen2 : ((opened d2 f x).d.F f).length = x.size := by rw [hof2.1, List.length_take, hF2]; omega
    have C5 : Hid (∀ (T : Nat → Prop) (w w1 : World), DIn T w bd d2 w1 → T 0 → Tab w → Calls Tryd.prog 18 #[.pointer (some ⟨bd, 0, none⟩)] w1 fun e w' => OpenOk T w w1 bd (opened d2 f x) x.snap x.recs e w') := by
      intro T w w1 hD hG hT
      have := open_any f hf hD hk2 hG hT (by rw [hfo2]; exact hg1) (by rw [hE2, found_nil])
      rw [hfo2] at this
      exact this
    have C4 : Hid (∀ (T : Nat → Prop) (w w1 : World) jb, JIn T w jb bd s1 w1 → T 0 → Tab w → Calls Tryd.prog 22 #[.pointer (some ⟨bd, 0, none⟩), .int .i64 keep] w1 fun e w' => e = .returned (.tuple #[]) ∧ JIn T w jb bd ⟨d2, s1.f, s1.g, s1.n⟩ w') := by
      intro T w w1 jb hJ hG hT
      rw [hd2]
      exact crash_jin keep HKE.out hJ hjok.ok hG hT
    have S1 : Hid (∀ (T : Nat → Prop) (w w1 : World) jb, JIn T w jb bd s1 w1 → T 0 → Tab w → Calls Tryd.prog 21 #[.pointer (some ⟨jb, 0, none⟩)] w1 fun e w' => e = .returned (.tuple #[.int .i64 (x.gen : Int), .int .i64 (x.recs.length : Int), .int .i64 (x.size : Int)]) ∧ JIn T w jb bd s1 w') := by
      intro T w w1 jb hJ hG hT
      have := stat_any hJ hjok hG hT
      rw [hfs, hlen, hgs, hns] at this
      exact this
    have hf2s : (opened d2 f x).f = f := rfl
    have hg2s : (opened d2 f x).g = x.gen := rfl
    have hn2s : (opened d2 f x).n = x.recs.length := rfl
    generalize opened d2 f x = s2 at *
    have S2 : Hid (∀ (T : Nat → Prop) (w w1 : World) jb, JIn T w jb bd s2 w1 → T 0 → Tab w → Calls Tryd.prog 21 #[.pointer (some ⟨jb, 0, none⟩)] w1 fun e w' => e = .returned (.tuple #[.int .i64 (x.gen : Int), .int .i64 (x.recs.length : Int), .int .i64 (x.size : Int)]) ∧ JIn T w jb bd s2 w') := by
      intro T w w1 jb hJ hG hT
      have := stat_any hJ hjok2 hG hT
      rw [hf2s, hlen2, hg2s, hn2s] at this
      exact this
    have hrl : x.recs.length ≤ 1048576 := by
      have h1 := file_le d f (by omega)
      have h2 := HK.out.room
      have h3 := HK.out.most
      omega
    obtain ⟨gen, snap, recs, size⟩ := x
    simp only at *
    clear hP hDI hG hT2 hR hx hbel hnone hb2 hO hfl hof hjok hag hfs hgs hns hlen hsafe hd2 hk2 hF2 hE2 hfo2 hof2 hjok2 hlen2 hf2s hg2s hn2s hg1
    go_wp2_with fail
    refine C3.out.mono ?_
    rintro e w3 h3
    obtain ⟨jb, v1, V1, rfl, _, hJ3, hrow3, hG3, hT3, hup⟩ := h3.on HGG.out HT2.out
    have HJ3 : Hid (JIn (fun k => k < w3.heap.size ∧ ¬ (fp bd V1 k ∨ k = jb)) w3 jb bd s1 w3) := hJ3
    have HG3 : Hid ((fun k => k < w3.heap.size ∧ ¬ (fp bd V1 k ∨ k = jb)) 0) := hG3
    have HT3 : Hid (Tab w3) := hT3
    have HUP : Hid (∀ w2', Chg (fun k => ¬ (k < w3.heap.size ∧ ¬ (fp bd V1 k ∨ k = jb))) w3 w2' → Below w.heap.size w w2' ∧ SRow w2' v1 recs) := fun w2' hc => ⟨HBEL.out _ (hup w2' hc).1, (hup w2' hc).2⟩
    obtain ⟨a1, c1, rfl, _, _⟩ := hrow3
    clear hJ3 hG3 hT3 hup h3 C3 HGG HT2 HBEL
    go_wp2_with fail
    go_loopw [14] (fun i wr => ∃ k : Nat, k ≤ 2 ∧ i = .int .i64 (k : Int) ∧ Hid (JIn (fun k => k < w3.heap.size ∧ ¬ (fp bd V1 k ∨ k = jb)) w3 jb bd s1 wr)) (fun i _ => 2 - (intOf i).toNat)
    case atStart => exact ⟨0, by decide, rfl, HJ3⟩
    case round =>
      obtain ⟨k, hk2, rfl, HJ⟩ := hrel
      clear HJ3
      by_cases hlt : k < 2
      · have i1 : (k : Int) < 2 := by omega
        have HLT : Hid (k < 2) := hlt
        have SZ : Hid (Calls Tryd.prog 20 #[.pointer (some ⟨bd, 0, none⟩), .int .i64 (k : Int)] wr fun e w' => e = .returned (.tuple #[.int .i64 ((s1.d.F k).length : Int), .int .i64 ((s1.d.F k).length : Int), .int .i64 0]) ∧ JIn (fun k => k < w3.heap.size ∧ ¬ (fp bd V1 k ∨ k = jb)) w3 jb bd s1 w') := by
          have := size_jin k (by omega) HJ.out
          rw [HSAFE.out k hlt] at this
          exact this
        generalize (s1.d.F k).length = m at *
        go_wp2_with fail
        refine SZ.out.mono ?_
        rintro e w4 ⟨rfl, hJ4⟩
        have HJ4 : Hid (JIn (fun k => k < w3.heap.size ∧ ¬ (fp bd V1 k ∨ k = jb)) w3 jb bd s1 w4) := hJ4
        clear hJ4
        go_wp2
        exact ⟨⟨k + 1, by have := HLT.out; omega, by go_num, HJ4⟩, by have := HLT.out; simp [intOf]; omega⟩
      · have i1 : ¬ (k : Int) < 2 := by omega
        go_wp2_with fail
        refine (S1.out _ _ _ _ HJ.out HG3.out HT3.out).mono ?_
        rintro e w4 ⟨rfl, hJ4⟩
        have HJ4 : Hid (JIn (fun k => k < w3.heap.size ∧ ¬ (fp bd V1 k ∨ k = jb)) w3 jb bd s1 w4) := hJ4
        clear hJ4
        go_wp2_with fail
        refine (C4.out _ _ _ _ HJ4.out HG3.out HT3.out).mono ?_
        rintro e w5 ⟨rfl, hJ5⟩
        have HD5 : Hid (DIn (fun k => k < w3.heap.size ∧ ¬ (fp bd V1 k ∨ k = jb)) w3 bd d2 w5) := hJ5.din
        clear hJ5
        go_wp2_with fail
        refine (C5.out _ _ _ HD5.out HG3.out HT3.out).mono ?_
        rintro e w6 h6
        obtain ⟨jb2, v2, V2, rfl, hJ6, _, hrow6, _, _, _⟩ := h6.on HG3.out HT3.out
        obtain ⟨hb6, hr6⟩ := HUP.out _ hJ6.chg
        have HJ6 : Hid (JIn (fun k => k < w3.heap.size ∧ ¬ (fp bd V1 k ∨ k = jb)) w3 jb2 bd s2 w6) := hJ6
        have HR6 : Hid (SRow w6 (.slice a1 recs.length c1) recs) := hr6
        have HR7 : Hid (SRow w6 v2 recs) := hrow6
        obtain ⟨a2, c2, rfl, _, _⟩ := hrow6
        clear hJ6 hb6 hr6 h6
        go_wp2_with fail
        refine (same_true recs (by omega) _ _ w6 HR6.out HR7.out).mono ?_
        rintro e w7 ⟨rfl, q, hw7⟩
        have HJ7 : Hid (JIn (fun k => k < w3.heap.size ∧ ¬ (fp bd V1 k ∨ k = jb)) w3 jb2 bd s2 w7) := jin_drewN HJ6.out ⟨q, hw7⟩
        clear hw7
        go_wp2_with fail
        refine (S2.out _ _ _ _ HJ7.out HG3.out HT3.out).mono ?_
        rintro e w8 ⟨rfl, hJ8⟩
        have HB8 : Hid (Below w.heap.size w w8) := (HUP.out _ hJ8.chg).1
        clear hJ8
        go_wp2_with fail
        go_ret
        exact ⟨rfl, HB8.out⟩
end Go.Proofs.YtklgfapdgeoigaaDoor
