/- The walk of the laws' own 'does': a call on both disks of a pair. -/
import Derived.Test.YtnemnkmogbnjcaaPairW
import Derived.Test.YtnemnkmogbnjcaaSameW
import Derived.Deep.RegionHeld3
set_option linter.unusedVariables false
namespace Go.Proofs.Ytnemnkmogbnjcaa
open Go.RowKit
open DiskMath

theorem two_up {w w0 w1 : World} {bx br : Nat} {V : Nat → Value} {d e : DS} (hb : Below w.heap.size w w0) (h : Two w0 bx br V d e w1) : Two w bx br V d e w1 := by
  obtain ⟨V', h1, h2, h3, h4⟩ := h
  refine ⟨V', h1, h2, (chg_below (S := fun k => fp bx V k ∨ k = br) hb).trans h3 (fun k _ hk => hk), fun k hk => ?_⟩
  rcases h4 k hk with h | h
  · exact Or.inl h
  · right; have := hb.size; omega

set_option maxRecDepth 100000 in
set_option maxHeartbeats 2000000 in
theorem does_app (w : World) (bx br : Nat) (V : Nat → Value) (d : DS) (hP : PDisk w bx V d) (hR : RDisk w br d) (hbr : ¬ fp bx V br) (hk : Ok d) (C File N : Int) (S : ByteArray) (hN : -9223372036854775808 ≤ N ∧ N ≤ 9223372036854775807) (hS : S.size ≤ 140737488351232) :
    Calls Try.prog 16 #[.agg #[.pointer (some ⟨bx, 0, none⟩), .pointer (some ⟨br, 0, none⟩)], .agg #[.int .i64 0, .int .i64 C, .int .i64 File, .int .i64 N, .string S]] w fun e w' => e = .returned (.bool true) ∧ Two w bx br V (aApp d File S.data.toList).1 (aApp d File S.data.toList).1 w' := by
  obtain ⟨w0, hw0⟩ : ∃ w0, w0 = (w.alloc (.cells #[.pointer (some ⟨bx, 0, none⟩), .pointer (some ⟨br, 0, none⟩)] 31)).alloc (.cells #[.int .i64 0, .int .i64 C, .int .i64 File, .int .i64 N, .string S] 38) := ⟨_, rfl⟩
  have hb0 : Below w.heap.size w w0 := by rw [hw0]; exact ((Below.refl _ _).alloc (Nat.le_refl _) _).alloc (by simp) _
  have hs0 : w0.heap.size = w.heap.size + 2 := by rw [hw0]; simp
  have cz : w0.cell? ⟨w.heap.size + 1, 0, none⟩ = some (.int .i64 0) := by rw [hw0]; simp
  have c0 : w0.cell? ⟨w.heap.size, 0, none⟩ = some (.pointer (some ⟨bx, 0, none⟩)) := by rw [hw0]; simp
  have c1 : w0.cell? ⟨w.heap.size, 1, none⟩ = some (.pointer (some ⟨br, 0, none⟩)) := by rw [hw0]; simp
  have c2 : w0.cell? ⟨w.heap.size + 1, 2, none⟩ = some (.int .i64 File) := by rw [hw0]; simp
  have c3 : w0.cell? ⟨w.heap.size + 1, 3, none⟩ = some (.int .i64 N) := by rw [hw0]; simp
  have c4 : w0.cell? ⟨w.heap.size + 1, 4, none⟩ = some (.string S) := by rw [hw0]; simp
  have hlt : br < w0.heap.size := by have := hR.lt; omega
  have HT : Hid (Two w0 bx br V d d w0) := two_self (pdisk_below hP hb0) (rdisk_below hR hb0)
  have HC : Hid (∀ dx dr w', Two w0 bx br V dx dr w' → w'.cell? ⟨w.heap.size, 0, none⟩ = some (.pointer (some ⟨bx, 0, none⟩)) ∧ w'.cell? ⟨w.heap.size, 1, none⟩ = some (.pointer (some ⟨br, 0, none⟩)) ∧ w'.cell? ⟨w.heap.size + 1, 2, none⟩ = some (.int .i64 File) ∧ w'.cell? ⟨w.heap.size + 1, 3, none⟩ = some (.int .i64 N) ∧ w'.cell? ⟨w.heap.size + 1, 4, none⟩ = some (.string S)) := fun dx dr w' h => by
    obtain ⟨V', h1, h2, h3, h4⟩ := h
    have nb : ∀ j, w.heap.size ≤ j → j < w0.heap.size → w'.heap[j]? = w0.heap[j]? := fun j hj hj2 => h3.block j hj2 (fun hx => by
      rcases hx with hx | hx
      · have := fp_lt hP j hx; omega
      · have := hR.lt; omega)
    have n0 := nb w.heap.size (Nat.le_refl _) (by omega)
    have n1 := nb (w.heap.size + 1) (by omega) (by omega)
    exact ⟨(World.cell?_of_block (w := w0) (a := ⟨w.heap.size, 0, none⟩) n0).trans c0, (World.cell?_of_block (w := w0) (a := ⟨w.heap.size, 1, none⟩) n0).trans c1, (World.cell?_of_block (w := w0) (a := ⟨w.heap.size + 1, 2, none⟩) n1).trans c2, (World.cell?_of_block (w := w0) (a := ⟨w.heap.size + 1, 3, none⟩) n1).trans c3, (World.cell?_of_block (w := w0) (a := ⟨w.heap.size + 1, 4, none⟩) n1).trans c4⟩
  have HW0 : Hid (w0 = (w.alloc (.cells #[.pointer (some ⟨bx, 0, none⟩), .pointer (some ⟨br, 0, none⟩)] 31)).alloc (.cells #[.int .i64 0, .int .i64 C, .int .i64 File, .int .i64 N, .string S] 38)) := hw0
  have HUP : Hid (∀ dx dr w1, Two w0 bx br V dx dr w1 → Two w bx br V dx dr w1) := fun dx dr w1 h => two_up hb0 h
  have HOK : Hid (Ok d) := hk
  have HBR : Hid (¬ fp bx V br) := hbr
  have HLT : Hid (br < w0.heap.size) := hlt
  have HNN : Hid (-9223372036854775808 ≤ N ∧ N ≤ 9223372036854775807) := hN
  have HSS : Hid (S.size ≤ 140737488355328) := by show _ ≤ _; omega
  have HDR : Hid (∀ dx dr w1 q, Two w0 bx br V dx dr w1 → Two w0 bx br V dx dr (w1.drewN q)) := fun dx dr w1 q h => two_below h (below_drewN (Below.refl _ _) q)
  clear hP hR hw0 hs0 hb0 hlt hk hbr hN hS
  obtain ⟨E, hE⟩ : ∃ E, E = (aApp d File S.data.toList).2 := ⟨_, rfl⟩
  have C1 : Hid (∀ w1, Two w0 bx br V d d w1 → Calls Try.prog 22 #[.pointer (some ⟨bx, 0, none⟩), .int .i64 File, .string S] w1 fun en w' => en = .returned (.int .i64 E) ∧ w'.cell? ⟨w.heap.size, 0, none⟩ = some (.pointer (some ⟨bx, 0, none⟩)) ∧ w'.cell? ⟨w.heap.size, 1, none⟩ = some (.pointer (some ⟨br, 0, none⟩)) ∧ w'.cell? ⟨w.heap.size + 1, 2, none⟩ = some (.int .i64 File) ∧ w'.cell? ⟨w.heap.size + 1, 3, none⟩ = some (.int .i64 N) ∧ w'.cell? ⟨w.heap.size + 1, 4, none⟩ = some (.string S) ∧ Hid (Two w0 bx br V (aApp d File S.data.toList).1 d w')) := fun w1 h => by
    rw [hE]
    refine (two_append HBR.out HLT.out File S HSS.out HOK.out h).mono ?_
    rintro en w' ⟨k1, k2⟩
    obtain ⟨m0, m1, m2, m3, m4⟩ := HC.out _ _ _ k2
    exact ⟨k1, m0, m1, m2, m3, m4, k2⟩
  have C2 : Hid (∀ w1, Two w0 bx br V (aApp d File S.data.toList).1 d w1 → Calls Try.prog 32 #[.pointer (some ⟨br, 0, none⟩), .int .i64 File, .string S] w1 fun en w' => en = .returned (.int .i64 E) ∧ w'.cell? ⟨w.heap.size, 0, none⟩ = some (.pointer (some ⟨bx, 0, none⟩)) ∧ w'.cell? ⟨w.heap.size, 1, none⟩ = some (.pointer (some ⟨br, 0, none⟩)) ∧ w'.cell? ⟨w.heap.size + 1, 2, none⟩ = some (.int .i64 File) ∧ w'.cell? ⟨w.heap.size + 1, 3, none⟩ = some (.int .i64 N) ∧ w'.cell? ⟨w.heap.size + 1, 4, none⟩ = some (.string S) ∧ Hid (Two w0 bx br V (aApp d File S.data.toList).1 (aApp d File S.data.toList).1 w')) := fun w1 h => by
    rw [hE]
    refine (refAppend_all File S HSS.out (two_rdisk h) HOK.out).mono ?_
    rintro en w' ⟨k1, k2⟩
    have k3 := two_ref HBR.out HLT.out h k2
    obtain ⟨m0, m1, m2, m3, m4⟩ := HC.out _ _ _ k3
    exact ⟨k1, m0, m1, m2, m3, m4, k3⟩
  have HT1 : Hid (Two w0 bx br V d d w0.drew) := HDR.out _ _ _ 1 HT.out
  clear hE
  generalize hact : (aApp d File S.data.toList).1 = d2 at *
  clear hact
  go_enter Try.func16, Try.ntmps16
  go_wp2_with fail
  rw [← HW0.out]
  clear HW0
  go_region_held3 (fun w' => w'.cell? ⟨w.heap.size, 0, none⟩ = some (.pointer (some ⟨bx, 0, none⟩)) ∧ w'.cell? ⟨w.heap.size, 1, none⟩ = some (.pointer (some ⟨br, 0, none⟩)) ∧ w'.cell? ⟨w.heap.size + 1, 2, none⟩ = some (.int .i64 File) ∧ w'.cell? ⟨w.heap.size + 1, 3, none⟩ = some (.int .i64 N) ∧ w'.cell? ⟨w.heap.size + 1, 4, none⟩ = some (.string S)) (go_keep) (first | (go_at_call 22; refine (C1.out _ HT1.out).mono ?_; rintro e w1 ⟨rfl, m0, m1, m2, m3, m4, HT2⟩) | (go_at_call 32; refine (C2.out _ (by assumption)).mono ?_; rintro e w2 ⟨rfl, m5, m6, m7, m8, m9, HT3⟩))
  all_goals go_wp2
  all_goals go_ret
  all_goals exact ⟨rfl, HUP.out _ _ _ (by assumption)⟩

set_option maxRecDepth 100000 in
set_option maxHeartbeats 2000000 in
theorem does_syn (w : World) (bx br : Nat) (V : Nat → Value) (d : DS) (hP : PDisk w bx V d) (hR : RDisk w br d) (hbr : ¬ fp bx V br) (hk : Ok d) (C File N : Int) (S : ByteArray) (hN : -9223372036854775808 ≤ N ∧ N ≤ 9223372036854775807) (hS : S.size ≤ 140737488351232) :
    Calls Try.prog 16 #[.agg #[.pointer (some ⟨bx, 0, none⟩), .pointer (some ⟨br, 0, none⟩)], .agg #[.int .i64 1, .int .i64 C, .int .i64 File, .int .i64 N, .string S]] w fun e w' => e = .returned (.bool true) ∧ Two w bx br V (aSyn d File).1 (aSyn d File).1 w' := by
  obtain ⟨w0, hw0⟩ : ∃ w0, w0 = (w.alloc (.cells #[.pointer (some ⟨bx, 0, none⟩), .pointer (some ⟨br, 0, none⟩)] 31)).alloc (.cells #[.int .i64 1, .int .i64 C, .int .i64 File, .int .i64 N, .string S] 38) := ⟨_, rfl⟩
  have hb0 : Below w.heap.size w w0 := by rw [hw0]; exact ((Below.refl _ _).alloc (Nat.le_refl _) _).alloc (by simp) _
  have hs0 : w0.heap.size = w.heap.size + 2 := by rw [hw0]; simp
  have cz : w0.cell? ⟨w.heap.size + 1, 0, none⟩ = some (.int .i64 1) := by rw [hw0]; simp
  have c0 : w0.cell? ⟨w.heap.size, 0, none⟩ = some (.pointer (some ⟨bx, 0, none⟩)) := by rw [hw0]; simp
  have c1 : w0.cell? ⟨w.heap.size, 1, none⟩ = some (.pointer (some ⟨br, 0, none⟩)) := by rw [hw0]; simp
  have c2 : w0.cell? ⟨w.heap.size + 1, 2, none⟩ = some (.int .i64 File) := by rw [hw0]; simp
  have c3 : w0.cell? ⟨w.heap.size + 1, 3, none⟩ = some (.int .i64 N) := by rw [hw0]; simp
  have c4 : w0.cell? ⟨w.heap.size + 1, 4, none⟩ = some (.string S) := by rw [hw0]; simp
  have hlt : br < w0.heap.size := by have := hR.lt; omega
  have HT : Hid (Two w0 bx br V d d w0) := two_self (pdisk_below hP hb0) (rdisk_below hR hb0)
  have HC : Hid (∀ dx dr w', Two w0 bx br V dx dr w' → w'.cell? ⟨w.heap.size, 0, none⟩ = some (.pointer (some ⟨bx, 0, none⟩)) ∧ w'.cell? ⟨w.heap.size, 1, none⟩ = some (.pointer (some ⟨br, 0, none⟩)) ∧ w'.cell? ⟨w.heap.size + 1, 2, none⟩ = some (.int .i64 File) ∧ w'.cell? ⟨w.heap.size + 1, 3, none⟩ = some (.int .i64 N) ∧ w'.cell? ⟨w.heap.size + 1, 4, none⟩ = some (.string S)) := fun dx dr w' h => by
    obtain ⟨V', h1, h2, h3, h4⟩ := h
    have nb : ∀ j, w.heap.size ≤ j → j < w0.heap.size → w'.heap[j]? = w0.heap[j]? := fun j hj hj2 => h3.block j hj2 (fun hx => by
      rcases hx with hx | hx
      · have := fp_lt hP j hx; omega
      · have := hR.lt; omega)
    have n0 := nb w.heap.size (Nat.le_refl _) (by omega)
    have n1 := nb (w.heap.size + 1) (by omega) (by omega)
    exact ⟨(World.cell?_of_block (w := w0) (a := ⟨w.heap.size, 0, none⟩) n0).trans c0, (World.cell?_of_block (w := w0) (a := ⟨w.heap.size, 1, none⟩) n0).trans c1, (World.cell?_of_block (w := w0) (a := ⟨w.heap.size + 1, 2, none⟩) n1).trans c2, (World.cell?_of_block (w := w0) (a := ⟨w.heap.size + 1, 3, none⟩) n1).trans c3, (World.cell?_of_block (w := w0) (a := ⟨w.heap.size + 1, 4, none⟩) n1).trans c4⟩
  have HW0 : Hid (w0 = (w.alloc (.cells #[.pointer (some ⟨bx, 0, none⟩), .pointer (some ⟨br, 0, none⟩)] 31)).alloc (.cells #[.int .i64 1, .int .i64 C, .int .i64 File, .int .i64 N, .string S] 38)) := hw0
  have HUP : Hid (∀ dx dr w1, Two w0 bx br V dx dr w1 → Two w bx br V dx dr w1) := fun dx dr w1 h => two_up hb0 h
  have HOK : Hid (Ok d) := hk
  have HBR : Hid (¬ fp bx V br) := hbr
  have HLT : Hid (br < w0.heap.size) := hlt
  have HNN : Hid (-9223372036854775808 ≤ N ∧ N ≤ 9223372036854775807) := hN
  have HSS : Hid (S.size ≤ 140737488355328) := by show _ ≤ _; omega
  have HDR : Hid (∀ dx dr w1 q, Two w0 bx br V dx dr w1 → Two w0 bx br V dx dr (w1.drewN q)) := fun dx dr w1 q h => two_below h (below_drewN (Below.refl _ _) q)
  clear hP hR hw0 hs0 hb0 hlt hk hbr hN hS
  obtain ⟨E, hE⟩ : ∃ E, E = (aSyn d File).2 := ⟨_, rfl⟩
  have C1 : Hid (∀ w1, Two w0 bx br V d d w1 → Calls Try.prog 20 #[.pointer (some ⟨bx, 0, none⟩), .int .i64 File] w1 fun en w' => en = .returned (.int .i64 E) ∧ w'.cell? ⟨w.heap.size, 0, none⟩ = some (.pointer (some ⟨bx, 0, none⟩)) ∧ w'.cell? ⟨w.heap.size, 1, none⟩ = some (.pointer (some ⟨br, 0, none⟩)) ∧ w'.cell? ⟨w.heap.size + 1, 2, none⟩ = some (.int .i64 File) ∧ w'.cell? ⟨w.heap.size + 1, 3, none⟩ = some (.int .i64 N) ∧ w'.cell? ⟨w.heap.size + 1, 4, none⟩ = some (.string S) ∧ Hid (Two w0 bx br V (aSyn d File).1 d w')) := fun w1 h => by
    rw [hE]
    refine (two_sync HBR.out HLT.out File h).mono ?_
    rintro en w' ⟨k1, k2⟩
    obtain ⟨m0, m1, m2, m3, m4⟩ := HC.out _ _ _ k2
    exact ⟨k1, m0, m1, m2, m3, m4, k2⟩
  have C2 : Hid (∀ w1, Two w0 bx br V (aSyn d File).1 d w1 → Calls Try.prog 33 #[.pointer (some ⟨br, 0, none⟩), .int .i64 File] w1 fun en w' => en = .returned (.int .i64 E) ∧ w'.cell? ⟨w.heap.size, 0, none⟩ = some (.pointer (some ⟨bx, 0, none⟩)) ∧ w'.cell? ⟨w.heap.size, 1, none⟩ = some (.pointer (some ⟨br, 0, none⟩)) ∧ w'.cell? ⟨w.heap.size + 1, 2, none⟩ = some (.int .i64 File) ∧ w'.cell? ⟨w.heap.size + 1, 3, none⟩ = some (.int .i64 N) ∧ w'.cell? ⟨w.heap.size + 1, 4, none⟩ = some (.string S) ∧ Hid (Two w0 bx br V (aSyn d File).1 (aSyn d File).1 w')) := fun w1 h => by
    rw [hE]
    refine (refSync_all File (two_rdisk h)).mono ?_
    rintro en w' ⟨k1, k2⟩
    have k3 := two_ref HBR.out HLT.out h k2
    obtain ⟨m0, m1, m2, m3, m4⟩ := HC.out _ _ _ k3
    exact ⟨k1, m0, m1, m2, m3, m4, k3⟩
  have HT1 : Hid (Two w0 bx br V d d w0.drew) := HDR.out _ _ _ 1 HT.out
  clear hE
  generalize hact : (aSyn d File).1 = d2 at *
  clear hact
  go_enter Try.func16, Try.ntmps16
  go_wp2_with fail
  rw [← HW0.out]
  clear HW0
  go_region_held3 (fun w' => w'.cell? ⟨w.heap.size, 0, none⟩ = some (.pointer (some ⟨bx, 0, none⟩)) ∧ w'.cell? ⟨w.heap.size, 1, none⟩ = some (.pointer (some ⟨br, 0, none⟩)) ∧ w'.cell? ⟨w.heap.size + 1, 2, none⟩ = some (.int .i64 File) ∧ w'.cell? ⟨w.heap.size + 1, 3, none⟩ = some (.int .i64 N) ∧ w'.cell? ⟨w.heap.size + 1, 4, none⟩ = some (.string S)) (go_keep) (first | (go_at_call 20; refine (C1.out _ HT1.out).mono ?_; rintro e w1 ⟨rfl, m0, m1, m2, m3, m4, HT2⟩) | (go_at_call 33; refine (C2.out _ (by assumption)).mono ?_; rintro e w2 ⟨rfl, m5, m6, m7, m8, m9, HT3⟩))
  all_goals go_wp2
  all_goals go_ret
  all_goals exact ⟨rfl, HUP.out _ _ _ (by assumption)⟩

set_option maxRecDepth 100000 in
set_option maxHeartbeats 2000000 in
theorem does_cut (w : World) (bx br : Nat) (V : Nat → Value) (d : DS) (hP : PDisk w bx V d) (hR : RDisk w br d) (hbr : ¬ fp bx V br) (hk : Ok d) (C File N : Int) (S : ByteArray) (hN : -9223372036854775808 ≤ N ∧ N ≤ 9223372036854775807) (hS : S.size ≤ 140737488351232) :
    Calls Try.prog 16 #[.agg #[.pointer (some ⟨bx, 0, none⟩), .pointer (some ⟨br, 0, none⟩)], .agg #[.int .i64 2, .int .i64 C, .int .i64 File, .int .i64 N, .string S]] w fun e w' => e = .returned (.bool true) ∧ Two w bx br V (aCut d File N).1 (aCut d File N).1 w' := by
  obtain ⟨w0, hw0⟩ : ∃ w0, w0 = (w.alloc (.cells #[.pointer (some ⟨bx, 0, none⟩), .pointer (some ⟨br, 0, none⟩)] 31)).alloc (.cells #[.int .i64 2, .int .i64 C, .int .i64 File, .int .i64 N, .string S] 38) := ⟨_, rfl⟩
  have hb0 : Below w.heap.size w w0 := by rw [hw0]; exact ((Below.refl _ _).alloc (Nat.le_refl _) _).alloc (by simp) _
  have hs0 : w0.heap.size = w.heap.size + 2 := by rw [hw0]; simp
  have cz : w0.cell? ⟨w.heap.size + 1, 0, none⟩ = some (.int .i64 2) := by rw [hw0]; simp
  have c0 : w0.cell? ⟨w.heap.size, 0, none⟩ = some (.pointer (some ⟨bx, 0, none⟩)) := by rw [hw0]; simp
  have c1 : w0.cell? ⟨w.heap.size, 1, none⟩ = some (.pointer (some ⟨br, 0, none⟩)) := by rw [hw0]; simp
  have c2 : w0.cell? ⟨w.heap.size + 1, 2, none⟩ = some (.int .i64 File) := by rw [hw0]; simp
  have c3 : w0.cell? ⟨w.heap.size + 1, 3, none⟩ = some (.int .i64 N) := by rw [hw0]; simp
  have c4 : w0.cell? ⟨w.heap.size + 1, 4, none⟩ = some (.string S) := by rw [hw0]; simp
  have hlt : br < w0.heap.size := by have := hR.lt; omega
  have HT : Hid (Two w0 bx br V d d w0) := two_self (pdisk_below hP hb0) (rdisk_below hR hb0)
  have HC : Hid (∀ dx dr w', Two w0 bx br V dx dr w' → w'.cell? ⟨w.heap.size, 0, none⟩ = some (.pointer (some ⟨bx, 0, none⟩)) ∧ w'.cell? ⟨w.heap.size, 1, none⟩ = some (.pointer (some ⟨br, 0, none⟩)) ∧ w'.cell? ⟨w.heap.size + 1, 2, none⟩ = some (.int .i64 File) ∧ w'.cell? ⟨w.heap.size + 1, 3, none⟩ = some (.int .i64 N) ∧ w'.cell? ⟨w.heap.size + 1, 4, none⟩ = some (.string S)) := fun dx dr w' h => by
    obtain ⟨V', h1, h2, h3, h4⟩ := h
    have nb : ∀ j, w.heap.size ≤ j → j < w0.heap.size → w'.heap[j]? = w0.heap[j]? := fun j hj hj2 => h3.block j hj2 (fun hx => by
      rcases hx with hx | hx
      · have := fp_lt hP j hx; omega
      · have := hR.lt; omega)
    have n0 := nb w.heap.size (Nat.le_refl _) (by omega)
    have n1 := nb (w.heap.size + 1) (by omega) (by omega)
    exact ⟨(World.cell?_of_block (w := w0) (a := ⟨w.heap.size, 0, none⟩) n0).trans c0, (World.cell?_of_block (w := w0) (a := ⟨w.heap.size, 1, none⟩) n0).trans c1, (World.cell?_of_block (w := w0) (a := ⟨w.heap.size + 1, 2, none⟩) n1).trans c2, (World.cell?_of_block (w := w0) (a := ⟨w.heap.size + 1, 3, none⟩) n1).trans c3, (World.cell?_of_block (w := w0) (a := ⟨w.heap.size + 1, 4, none⟩) n1).trans c4⟩
  have HW0 : Hid (w0 = (w.alloc (.cells #[.pointer (some ⟨bx, 0, none⟩), .pointer (some ⟨br, 0, none⟩)] 31)).alloc (.cells #[.int .i64 2, .int .i64 C, .int .i64 File, .int .i64 N, .string S] 38)) := hw0
  have HUP : Hid (∀ dx dr w1, Two w0 bx br V dx dr w1 → Two w bx br V dx dr w1) := fun dx dr w1 h => two_up hb0 h
  have HOK : Hid (Ok d) := hk
  have HBR : Hid (¬ fp bx V br) := hbr
  have HLT : Hid (br < w0.heap.size) := hlt
  have HNN : Hid (-9223372036854775808 ≤ N ∧ N ≤ 9223372036854775807) := hN
  have HSS : Hid (S.size ≤ 140737488355328) := by show _ ≤ _; omega
  have HDR : Hid (∀ dx dr w1 q, Two w0 bx br V dx dr w1 → Two w0 bx br V dx dr (w1.drewN q)) := fun dx dr w1 q h => two_below h (below_drewN (Below.refl _ _) q)
  clear hP hR hw0 hs0 hb0 hlt hk hbr hN hS
  obtain ⟨E, hE⟩ : ∃ E, E = (aCut d File N).2 := ⟨_, rfl⟩
  have C1 : Hid (∀ w1, Two w0 bx br V d d w1 → Calls Try.prog 25 #[.pointer (some ⟨bx, 0, none⟩), .int .i64 File, .int .i64 N] w1 fun en w' => en = .returned (.int .i64 E) ∧ w'.cell? ⟨w.heap.size, 0, none⟩ = some (.pointer (some ⟨bx, 0, none⟩)) ∧ w'.cell? ⟨w.heap.size, 1, none⟩ = some (.pointer (some ⟨br, 0, none⟩)) ∧ w'.cell? ⟨w.heap.size + 1, 2, none⟩ = some (.int .i64 File) ∧ w'.cell? ⟨w.heap.size + 1, 3, none⟩ = some (.int .i64 N) ∧ w'.cell? ⟨w.heap.size + 1, 4, none⟩ = some (.string S) ∧ Hid (Two w0 bx br V (aCut d File N).1 d w')) := fun w1 h => by
    rw [hE]
    refine (two_cut HBR.out HLT.out File N HOK.out h).mono ?_
    rintro en w' ⟨k1, k2⟩
    obtain ⟨m0, m1, m2, m3, m4⟩ := HC.out _ _ _ k2
    exact ⟨k1, m0, m1, m2, m3, m4, k2⟩
  have C2 : Hid (∀ w1, Two w0 bx br V (aCut d File N).1 d w1 → Calls Try.prog 34 #[.pointer (some ⟨br, 0, none⟩), .int .i64 File, .int .i64 N] w1 fun en w' => en = .returned (.int .i64 E) ∧ w'.cell? ⟨w.heap.size, 0, none⟩ = some (.pointer (some ⟨bx, 0, none⟩)) ∧ w'.cell? ⟨w.heap.size, 1, none⟩ = some (.pointer (some ⟨br, 0, none⟩)) ∧ w'.cell? ⟨w.heap.size + 1, 2, none⟩ = some (.int .i64 File) ∧ w'.cell? ⟨w.heap.size + 1, 3, none⟩ = some (.int .i64 N) ∧ w'.cell? ⟨w.heap.size + 1, 4, none⟩ = some (.string S) ∧ Hid (Two w0 bx br V (aCut d File N).1 (aCut d File N).1 w')) := fun w1 h => by
    rw [hE]
    refine (refCut_all File N (two_rdisk h) HOK.out).mono ?_
    rintro en w' ⟨k1, k2⟩
    have k3 := two_ref HBR.out HLT.out h k2
    obtain ⟨m0, m1, m2, m3, m4⟩ := HC.out _ _ _ k3
    exact ⟨k1, m0, m1, m2, m3, m4, k3⟩
  have HT1 : Hid (Two w0 bx br V d d w0.drew) := HDR.out _ _ _ 1 HT.out
  clear hE
  generalize hact : (aCut d File N).1 = d2 at *
  clear hact
  go_enter Try.func16, Try.ntmps16
  go_wp2_with fail
  rw [← HW0.out]
  clear HW0
  go_region_held3 (fun w' => w'.cell? ⟨w.heap.size, 0, none⟩ = some (.pointer (some ⟨bx, 0, none⟩)) ∧ w'.cell? ⟨w.heap.size, 1, none⟩ = some (.pointer (some ⟨br, 0, none⟩)) ∧ w'.cell? ⟨w.heap.size + 1, 2, none⟩ = some (.int .i64 File) ∧ w'.cell? ⟨w.heap.size + 1, 3, none⟩ = some (.int .i64 N) ∧ w'.cell? ⟨w.heap.size + 1, 4, none⟩ = some (.string S)) (go_keep) (first | (go_at_call 25; refine (C1.out _ HT1.out).mono ?_; rintro e w1 ⟨rfl, m0, m1, m2, m3, m4, HT2⟩) | (go_at_call 34; refine (C2.out _ (by assumption)).mono ?_; rintro e w2 ⟨rfl, m5, m6, m7, m8, m9, HT3⟩))
  all_goals go_wp2
  all_goals go_ret
  all_goals exact ⟨rfl, HUP.out _ _ _ (by assumption)⟩

set_option maxRecDepth 100000 in
set_option maxHeartbeats 2000000 in
theorem does_read (w : World) (bx br : Nat) (V : Nat → Value) (d : DS) (hP : PDisk w bx V d) (hR : RDisk w br d) (hbr : ¬ fp bx V br) (hk : Ok d) (C File N : Int) (S : ByteArray) (hN : -9223372036854775808 ≤ N ∧ N ≤ 9223372036854775807) (hS : S.size ≤ 140737488351232) :
    Calls Try.prog 16 #[.agg #[.pointer (some ⟨bx, 0, none⟩), .pointer (some ⟨br, 0, none⟩)], .agg #[.int .i64 3, .int .i64 C, .int .i64 File, .int .i64 N, .string S]] w fun e w' => e = .returned (.bool true) ∧ Two w bx br V d d w' := by
  obtain ⟨w0, hw0⟩ : ∃ w0, w0 = (w.alloc (.cells #[.pointer (some ⟨bx, 0, none⟩), .pointer (some ⟨br, 0, none⟩)] 31)).alloc (.cells #[.int .i64 3, .int .i64 C, .int .i64 File, .int .i64 N, .string S] 38) := ⟨_, rfl⟩
  have hb0 : Below w.heap.size w w0 := by rw [hw0]; exact ((Below.refl _ _).alloc (Nat.le_refl _) _).alloc (by simp) _
  have hs0 : w0.heap.size = w.heap.size + 2 := by rw [hw0]; simp
  have cz : w0.cell? ⟨w.heap.size + 1, 0, none⟩ = some (.int .i64 3) := by rw [hw0]; simp
  have c0 : w0.cell? ⟨w.heap.size, 0, none⟩ = some (.pointer (some ⟨bx, 0, none⟩)) := by rw [hw0]; simp
  have c1 : w0.cell? ⟨w.heap.size, 1, none⟩ = some (.pointer (some ⟨br, 0, none⟩)) := by rw [hw0]; simp
  have c2 : w0.cell? ⟨w.heap.size + 1, 2, none⟩ = some (.int .i64 File) := by rw [hw0]; simp
  have c3 : w0.cell? ⟨w.heap.size + 1, 3, none⟩ = some (.int .i64 N) := by rw [hw0]; simp
  have c4 : w0.cell? ⟨w.heap.size + 1, 4, none⟩ = some (.string S) := by rw [hw0]; simp
  have hlt : br < w0.heap.size := by have := hR.lt; omega
  have HT : Hid (Two w0 bx br V d d w0) := two_self (pdisk_below hP hb0) (rdisk_below hR hb0)
  have HC : Hid (∀ dx dr w', Two w0 bx br V dx dr w' → w'.cell? ⟨w.heap.size, 0, none⟩ = some (.pointer (some ⟨bx, 0, none⟩)) ∧ w'.cell? ⟨w.heap.size, 1, none⟩ = some (.pointer (some ⟨br, 0, none⟩)) ∧ w'.cell? ⟨w.heap.size + 1, 2, none⟩ = some (.int .i64 File) ∧ w'.cell? ⟨w.heap.size + 1, 3, none⟩ = some (.int .i64 N) ∧ w'.cell? ⟨w.heap.size + 1, 4, none⟩ = some (.string S)) := fun dx dr w' h => by
    obtain ⟨V', h1, h2, h3, h4⟩ := h
    have nb : ∀ j, w.heap.size ≤ j → j < w0.heap.size → w'.heap[j]? = w0.heap[j]? := fun j hj hj2 => h3.block j hj2 (fun hx => by
      rcases hx with hx | hx
      · have := fp_lt hP j hx; omega
      · have := hR.lt; omega)
    have n0 := nb w.heap.size (Nat.le_refl _) (by omega)
    have n1 := nb (w.heap.size + 1) (by omega) (by omega)
    exact ⟨(World.cell?_of_block (w := w0) (a := ⟨w.heap.size, 0, none⟩) n0).trans c0, (World.cell?_of_block (w := w0) (a := ⟨w.heap.size, 1, none⟩) n0).trans c1, (World.cell?_of_block (w := w0) (a := ⟨w.heap.size + 1, 2, none⟩) n1).trans c2, (World.cell?_of_block (w := w0) (a := ⟨w.heap.size + 1, 3, none⟩) n1).trans c3, (World.cell?_of_block (w := w0) (a := ⟨w.heap.size + 1, 4, none⟩) n1).trans c4⟩
  have HW0 : Hid (w0 = (w.alloc (.cells #[.pointer (some ⟨bx, 0, none⟩), .pointer (some ⟨br, 0, none⟩)] 31)).alloc (.cells #[.int .i64 3, .int .i64 C, .int .i64 File, .int .i64 N, .string S] 38)) := hw0
  have HUP : Hid (∀ dx dr w1, Two w0 bx br V dx dr w1 → Two w bx br V dx dr w1) := fun dx dr w1 h => two_up hb0 h
  have HOK : Hid (Ok d) := hk
  have HBR : Hid (¬ fp bx V br) := hbr
  have HLT : Hid (br < w0.heap.size) := hlt
  have HNN : Hid (-9223372036854775808 ≤ N ∧ N ≤ 9223372036854775807) := hN
  have HSS : Hid (S.size ≤ 140737488355328) := by show _ ≤ _; omega
  have HDR : Hid (∀ dx dr w1 q, Two w0 bx br V dx dr w1 → Two w0 bx br V dx dr (w1.drewN q)) := fun dx dr w1 q h => two_below h (below_drewN (Below.refl _ _) q)
  obtain ⟨s, e0, r1, r2⟩ := reads_all w bx br V d hP hR hk File
  have HBL : Hid (∀ w1, Below w.heap.size w w1 → Two w bx br V d d w1) := fun w1 h => two_below (two_self hP hR) h
  have HCB : Hid (∀ w', Below w0.heap.size w0 w' → w'.cell? ⟨w.heap.size, 0, none⟩ = some (.pointer (some ⟨bx, 0, none⟩)) ∧ w'.cell? ⟨w.heap.size, 1, none⟩ = some (.pointer (some ⟨br, 0, none⟩)) ∧ w'.cell? ⟨w.heap.size + 1, 2, none⟩ = some (.int .i64 File) ∧ w'.cell? ⟨w.heap.size + 1, 3, none⟩ = some (.int .i64 N) ∧ w'.cell? ⟨w.heap.size + 1, 4, none⟩ = some (.string S)) := fun w' h => HC.out _ _ _ (two_below HT.out h)
  have R1 : Hid (∀ w1, Below w0.heap.size w0 w1 → Calls Try.prog 21 #[.pointer (some ⟨bx, 0, none⟩), .int .i64 File] w1 fun en w' => en = .returned (.tuple #[.string s, .int .i64 e0]) ∧ Below w0.heap.size w0 w') := fun w1 h => (r1 w1 (hb0.trans (h.mono hb0.size))).mono fun en w' ⟨k1, k2⟩ => ⟨k1, h.trans (k2.mono h.size)⟩
  have R2 : Hid (∀ w1, Below w0.heap.size w0 w1 → Calls Try.prog 29 #[.pointer (some ⟨br, 0, none⟩), .int .i64 File] w1 fun en w' => en = .returned (.tuple #[.string s, .int .i64 e0]) ∧ Below w0.heap.size w0 w') := fun w1 h => (r2 w1 (hb0.trans (h.mono hb0.size))).mono fun en w' ⟨k1, k2⟩ => ⟨k1, h.trans (k2.mono h.size)⟩
  have HB0 : Hid (Below w.heap.size w w0) := hb0
  clear r1 r2 hP hR hw0 hs0 hb0 hlt hk hbr hN hS HT HC HUP HBR HLT HDR HOK
  go_enter Try.func16, Try.ntmps16
  go_wp2_with fail
  rw [← HW0.out]
  clear HW0
  refine (R1.out _ (Below.refl _ _)).mono ?_
  rintro en w1 ⟨rfl, hb1⟩
  obtain ⟨m0, m1, m2, m3, m4⟩ := HCB.out _ hb1
  clear c0 c1 c2 c3 c4 cz
  go_wp2_with fail
  refine (R2.out _ hb1).mono ?_
  rintro en w2 ⟨rfl, hb2⟩
  have HF := HBL.out _ (HB0.out.trans (hb2.mono HB0.out.size))
  have HFF : Hid (Two w bx br V d d w2) := HF
  clear HF hb1 hb2 m0 m1 m2 m3 m4 R1 R2
  go_wp2
  go_ret
  exact ⟨rfl, HFF.out⟩

set_option maxRecDepth 100000 in
set_option maxHeartbeats 2000000 in
theorem does_size (w : World) (bx br : Nat) (V : Nat → Value) (d : DS) (hP : PDisk w bx V d) (hR : RDisk w br d) (hbr : ¬ fp bx V br) (hk : Ok d) (C File N : Int) (S : ByteArray) (hN : -9223372036854775808 ≤ N ∧ N ≤ 9223372036854775807) (hS : S.size ≤ 140737488351232) :
    Calls Try.prog 16 #[.agg #[.pointer (some ⟨bx, 0, none⟩), .pointer (some ⟨br, 0, none⟩)], .agg #[.int .i64 4, .int .i64 C, .int .i64 File, .int .i64 N, .string S]] w fun e w' => e = .returned (.bool true) ∧ Two w bx br V d d w' := by
  obtain ⟨w0, hw0⟩ : ∃ w0, w0 = (w.alloc (.cells #[.pointer (some ⟨bx, 0, none⟩), .pointer (some ⟨br, 0, none⟩)] 31)).alloc (.cells #[.int .i64 4, .int .i64 C, .int .i64 File, .int .i64 N, .string S] 38) := ⟨_, rfl⟩
  have hb0 : Below w.heap.size w w0 := by rw [hw0]; exact ((Below.refl _ _).alloc (Nat.le_refl _) _).alloc (by simp) _
  have hs0 : w0.heap.size = w.heap.size + 2 := by rw [hw0]; simp
  have cz : w0.cell? ⟨w.heap.size + 1, 0, none⟩ = some (.int .i64 4) := by rw [hw0]; simp
  have c0 : w0.cell? ⟨w.heap.size, 0, none⟩ = some (.pointer (some ⟨bx, 0, none⟩)) := by rw [hw0]; simp
  have c1 : w0.cell? ⟨w.heap.size, 1, none⟩ = some (.pointer (some ⟨br, 0, none⟩)) := by rw [hw0]; simp
  have c2 : w0.cell? ⟨w.heap.size + 1, 2, none⟩ = some (.int .i64 File) := by rw [hw0]; simp
  have c3 : w0.cell? ⟨w.heap.size + 1, 3, none⟩ = some (.int .i64 N) := by rw [hw0]; simp
  have c4 : w0.cell? ⟨w.heap.size + 1, 4, none⟩ = some (.string S) := by rw [hw0]; simp
  have hlt : br < w0.heap.size := by have := hR.lt; omega
  have HT : Hid (Two w0 bx br V d d w0) := two_self (pdisk_below hP hb0) (rdisk_below hR hb0)
  have HC : Hid (∀ dx dr w', Two w0 bx br V dx dr w' → w'.cell? ⟨w.heap.size, 0, none⟩ = some (.pointer (some ⟨bx, 0, none⟩)) ∧ w'.cell? ⟨w.heap.size, 1, none⟩ = some (.pointer (some ⟨br, 0, none⟩)) ∧ w'.cell? ⟨w.heap.size + 1, 2, none⟩ = some (.int .i64 File) ∧ w'.cell? ⟨w.heap.size + 1, 3, none⟩ = some (.int .i64 N) ∧ w'.cell? ⟨w.heap.size + 1, 4, none⟩ = some (.string S)) := fun dx dr w' h => by
    obtain ⟨V', h1, h2, h3, h4⟩ := h
    have nb : ∀ j, w.heap.size ≤ j → j < w0.heap.size → w'.heap[j]? = w0.heap[j]? := fun j hj hj2 => h3.block j hj2 (fun hx => by
      rcases hx with hx | hx
      · have := fp_lt hP j hx; omega
      · have := hR.lt; omega)
    have n0 := nb w.heap.size (Nat.le_refl _) (by omega)
    have n1 := nb (w.heap.size + 1) (by omega) (by omega)
    exact ⟨(World.cell?_of_block (w := w0) (a := ⟨w.heap.size, 0, none⟩) n0).trans c0, (World.cell?_of_block (w := w0) (a := ⟨w.heap.size, 1, none⟩) n0).trans c1, (World.cell?_of_block (w := w0) (a := ⟨w.heap.size + 1, 2, none⟩) n1).trans c2, (World.cell?_of_block (w := w0) (a := ⟨w.heap.size + 1, 3, none⟩) n1).trans c3, (World.cell?_of_block (w := w0) (a := ⟨w.heap.size + 1, 4, none⟩) n1).trans c4⟩
  have HW0 : Hid (w0 = (w.alloc (.cells #[.pointer (some ⟨bx, 0, none⟩), .pointer (some ⟨br, 0, none⟩)] 31)).alloc (.cells #[.int .i64 4, .int .i64 C, .int .i64 File, .int .i64 N, .string S] 38)) := hw0
  have HUP : Hid (∀ dx dr w1, Two w0 bx br V dx dr w1 → Two w bx br V dx dr w1) := fun dx dr w1 h => two_up hb0 h
  have HOK : Hid (Ok d) := hk
  have HBR : Hid (¬ fp bx V br) := hbr
  have HLT : Hid (br < w0.heap.size) := hlt
  have HNN : Hid (-9223372036854775808 ≤ N ∧ N ≤ 9223372036854775807) := hN
  have HSS : Hid (S.size ≤ 140737488355328) := by show _ ≤ _; omega
  have HDR : Hid (∀ dx dr w1 q, Two w0 bx br V dx dr w1 → Two w0 bx br V dx dr (w1.drewN q)) := fun dx dr w1 q h => two_below h (below_drewN (Below.refl _ _) q)
  obtain ⟨n0, m0', e0, r1, r2⟩ := sizes_all w bx br V d hP hR File
  have HBL : Hid (∀ w1, Below w.heap.size w w1 → Two w bx br V d d w1) := fun w1 h => two_below (two_self hP hR) h
  have HCB : Hid (∀ w', Below w0.heap.size w0 w' → w'.cell? ⟨w.heap.size, 0, none⟩ = some (.pointer (some ⟨bx, 0, none⟩)) ∧ w'.cell? ⟨w.heap.size, 1, none⟩ = some (.pointer (some ⟨br, 0, none⟩)) ∧ w'.cell? ⟨w.heap.size + 1, 2, none⟩ = some (.int .i64 File) ∧ w'.cell? ⟨w.heap.size + 1, 3, none⟩ = some (.int .i64 N) ∧ w'.cell? ⟨w.heap.size + 1, 4, none⟩ = some (.string S)) := fun w' h => HC.out _ _ _ (two_below HT.out h)
  have R1 : Hid (∀ w1, Below w0.heap.size w0 w1 → Calls Try.prog 26 #[.pointer (some ⟨bx, 0, none⟩), .int .i64 File] w1 fun en w' => en = .returned (.tuple #[.int .i64 n0, .int .i64 m0', .int .i64 e0]) ∧ Below w0.heap.size w0 w') := fun w1 h => (r1 w1 (hb0.trans (h.mono hb0.size))).mono fun en w' ⟨k1, k2⟩ => ⟨k1, h.trans (k2.mono h.size)⟩
  have R2 : Hid (∀ w1, Below w0.heap.size w0 w1 → Calls Try.prog 30 #[.pointer (some ⟨br, 0, none⟩), .int .i64 File] w1 fun en w' => en = .returned (.tuple #[.int .i64 n0, .int .i64 m0', .int .i64 e0]) ∧ Below w0.heap.size w0 w') := fun w1 h => (r2 w1 (hb0.trans (h.mono hb0.size))).mono fun en w' ⟨k1, k2⟩ => ⟨k1, h.trans (k2.mono h.size)⟩
  have HB0 : Hid (Below w.heap.size w w0) := hb0
  clear r1 r2 hP hR hw0 hs0 hb0 hlt hk hbr hN hS HT HC HUP HBR HLT HDR HOK
  go_enter Try.func16, Try.ntmps16
  go_wp2_with fail
  rw [← HW0.out]
  clear HW0
  refine (R1.out _ (Below.refl _ _)).mono ?_
  rintro en w1 ⟨rfl, hb1⟩
  obtain ⟨m0, m1, m2, m3, m4⟩ := HCB.out _ hb1
  clear c0 c1 c2 c3 c4 cz
  go_wp2_with fail
  refine (R2.out _ hb1).mono ?_
  rintro en w2 ⟨rfl, hb2⟩
  have HF := HBL.out _ (HB0.out.trans (hb2.mono HB0.out.size))
  have HFF : Hid (Two w bx br V d d w2) := HF
  clear HF hb1 hb2 m0 m1 m2 m3 m4 R1 R2
  go_wp2
  go_ret
  exact ⟨rfl, HFF.out⟩

set_option maxRecDepth 100000 in
set_option maxHeartbeats 2000000 in
theorem does_crash (w : World) (bx br : Nat) (V : Nat → Value) (d : DS) (hP : PDisk w bx V d) (hR : RDisk w br d) (hbr : ¬ fp bx V br) (hk : Ok d) (C File N : Int) (S : ByteArray) (hN : -9223372036854775808 ≤ N ∧ N ≤ 9223372036854775807) (hS : S.size ≤ 140737488351232) :
    Calls Try.prog 16 #[.agg #[.pointer (some ⟨bx, 0, none⟩), .pointer (some ⟨br, 0, none⟩)], .agg #[.int .i64 5, .int .i64 C, .int .i64 File, .int .i64 N, .string S]] w fun e w' => e = .returned (.bool true) ∧ Two w bx br V (crash d N.toNat) (crash d N.toNat) w' := by
  obtain ⟨w0, hw0⟩ : ∃ w0, w0 = (w.alloc (.cells #[.pointer (some ⟨bx, 0, none⟩), .pointer (some ⟨br, 0, none⟩)] 31)).alloc (.cells #[.int .i64 5, .int .i64 C, .int .i64 File, .int .i64 N, .string S] 38) := ⟨_, rfl⟩
  have hb0 : Below w.heap.size w w0 := by rw [hw0]; exact ((Below.refl _ _).alloc (Nat.le_refl _) _).alloc (by simp) _
  have hs0 : w0.heap.size = w.heap.size + 2 := by rw [hw0]; simp
  have cz : w0.cell? ⟨w.heap.size + 1, 0, none⟩ = some (.int .i64 5) := by rw [hw0]; simp
  have c0 : w0.cell? ⟨w.heap.size, 0, none⟩ = some (.pointer (some ⟨bx, 0, none⟩)) := by rw [hw0]; simp
  have c1 : w0.cell? ⟨w.heap.size, 1, none⟩ = some (.pointer (some ⟨br, 0, none⟩)) := by rw [hw0]; simp
  have c2 : w0.cell? ⟨w.heap.size + 1, 2, none⟩ = some (.int .i64 File) := by rw [hw0]; simp
  have c3 : w0.cell? ⟨w.heap.size + 1, 3, none⟩ = some (.int .i64 N) := by rw [hw0]; simp
  have c4 : w0.cell? ⟨w.heap.size + 1, 4, none⟩ = some (.string S) := by rw [hw0]; simp
  have hlt : br < w0.heap.size := by have := hR.lt; omega
  have HT : Hid (Two w0 bx br V d d w0) := two_self (pdisk_below hP hb0) (rdisk_below hR hb0)
  have HC : Hid (∀ dx dr w', Two w0 bx br V dx dr w' → w'.cell? ⟨w.heap.size, 0, none⟩ = some (.pointer (some ⟨bx, 0, none⟩)) ∧ w'.cell? ⟨w.heap.size, 1, none⟩ = some (.pointer (some ⟨br, 0, none⟩)) ∧ w'.cell? ⟨w.heap.size + 1, 2, none⟩ = some (.int .i64 File) ∧ w'.cell? ⟨w.heap.size + 1, 3, none⟩ = some (.int .i64 N) ∧ w'.cell? ⟨w.heap.size + 1, 4, none⟩ = some (.string S)) := fun dx dr w' h => by
    obtain ⟨V', h1, h2, h3, h4⟩ := h
    have nb : ∀ j, w.heap.size ≤ j → j < w0.heap.size → w'.heap[j]? = w0.heap[j]? := fun j hj hj2 => h3.block j hj2 (fun hx => by
      rcases hx with hx | hx
      · have := fp_lt hP j hx; omega
      · have := hR.lt; omega)
    have n0 := nb w.heap.size (Nat.le_refl _) (by omega)
    have n1 := nb (w.heap.size + 1) (by omega) (by omega)
    exact ⟨(World.cell?_of_block (w := w0) (a := ⟨w.heap.size, 0, none⟩) n0).trans c0, (World.cell?_of_block (w := w0) (a := ⟨w.heap.size, 1, none⟩) n0).trans c1, (World.cell?_of_block (w := w0) (a := ⟨w.heap.size + 1, 2, none⟩) n1).trans c2, (World.cell?_of_block (w := w0) (a := ⟨w.heap.size + 1, 3, none⟩) n1).trans c3, (World.cell?_of_block (w := w0) (a := ⟨w.heap.size + 1, 4, none⟩) n1).trans c4⟩
  have HW0 : Hid (w0 = (w.alloc (.cells #[.pointer (some ⟨bx, 0, none⟩), .pointer (some ⟨br, 0, none⟩)] 31)).alloc (.cells #[.int .i64 5, .int .i64 C, .int .i64 File, .int .i64 N, .string S] 38)) := hw0
  have HUP : Hid (∀ dx dr w1, Two w0 bx br V dx dr w1 → Two w bx br V dx dr w1) := fun dx dr w1 h => two_up hb0 h
  have HOK : Hid (Ok d) := hk
  have HBR : Hid (¬ fp bx V br) := hbr
  have HLT : Hid (br < w0.heap.size) := hlt
  have HNN : Hid (-9223372036854775808 ≤ N ∧ N ≤ 9223372036854775807) := hN
  have HSS : Hid (S.size ≤ 140737488355328) := by show _ ≤ _; omega
  have HDR : Hid (∀ dx dr w1 q, Two w0 bx br V dx dr w1 → Two w0 bx br V dx dr (w1.drewN q)) := fun dx dr w1 q h => two_below h (below_drewN (Below.refl _ _) q)
  have C1 : Hid (∀ w1, Two w0 bx br V d d w1 → Calls Try.prog 19 #[.pointer (some ⟨bx, 0, none⟩), .int .i64 N] w1 fun en w' => en = .returned (.tuple #[]) ∧ Hid (Two w0 bx br V (crash d N.toNat) d w')) := fun w1 h => two_crash HBR.out HLT.out N HNN.out HOK.out h
  have C2 : Hid (∀ w1, Two w0 bx br V (crash d N.toNat) d w1 → Calls Try.prog 35 #[.pointer (some ⟨br, 0, none⟩), .int .i64 N] w1 fun en w' => en = .returned (.tuple #[]) ∧ Hid (Two w0 bx br V (crash d N.toNat) (crash d N.toNat) w')) := fun w1 h =>
    (refCrash_any w1 br d N (two_rdisk h) HOK.out HNN.out).mono fun en w' ⟨k1, k2⟩ => ⟨k1, two_ref HBR.out HLT.out h k2⟩
  clear hP hR hw0 hs0 hb0 hlt hk hbr hN hS
  generalize crash d N.toNat = d2 at *
  go_enter Try.func16, Try.ntmps16
  go_wp2_with fail
  rw [← HW0.out]
  clear HW0
  refine (C1.out _ HT.out).mono ?_
  rintro en w1 ⟨rfl, HT1⟩
  obtain ⟨m0, m1, m2, m3, m4⟩ := HC.out _ _ _ HT1.out
  clear c0 c1 c2 c3 c4 cz
  go_wp2_with fail
  refine (C2.out _ HT1.out).mono ?_
  rintro en w2 ⟨rfl, HT2⟩
  have HF : Hid (Two w bx br V d2 d2 w2) := HUP.out _ _ _ HT2.out
  clear m0 m1 m2 m3 m4 C1 C2 HT1 HT2 HC HUP HDR HT
  go_wp2
  go_ret
  exact ⟨rfl, HF.out⟩

set_option maxRecDepth 100000 in
set_option maxHeartbeats 2000000 in
theorem does_used (w : World) (bx br : Nat) (V : Nat → Value) (d : DS) (hP : PDisk w bx V d) (hR : RDisk w br d) (hbr : ¬ fp bx V br) (hk : Ok d) (C File N : Int) (S : ByteArray) (hN : -9223372036854775808 ≤ N ∧ N ≤ 9223372036854775807) (hS : S.size ≤ 140737488351232) :
    Calls Try.prog 16 #[.agg #[.pointer (some ⟨bx, 0, none⟩), .pointer (some ⟨br, 0, none⟩)], .agg #[.int .i64 6, .int .i64 C, .int .i64 File, .int .i64 N, .string S]] w fun e w' => e = .returned (.bool true) ∧ Two w bx br V d d w' := by
  obtain ⟨w0, hw0⟩ : ∃ w0, w0 = (w.alloc (.cells #[.pointer (some ⟨bx, 0, none⟩), .pointer (some ⟨br, 0, none⟩)] 31)).alloc (.cells #[.int .i64 6, .int .i64 C, .int .i64 File, .int .i64 N, .string S] 38) := ⟨_, rfl⟩
  have hb0 : Below w.heap.size w w0 := by rw [hw0]; exact ((Below.refl _ _).alloc (Nat.le_refl _) _).alloc (by simp) _
  have hs0 : w0.heap.size = w.heap.size + 2 := by rw [hw0]; simp
  have cz : w0.cell? ⟨w.heap.size + 1, 0, none⟩ = some (.int .i64 6) := by rw [hw0]; simp
  have c0 : w0.cell? ⟨w.heap.size, 0, none⟩ = some (.pointer (some ⟨bx, 0, none⟩)) := by rw [hw0]; simp
  have c1 : w0.cell? ⟨w.heap.size, 1, none⟩ = some (.pointer (some ⟨br, 0, none⟩)) := by rw [hw0]; simp
  have c2 : w0.cell? ⟨w.heap.size + 1, 2, none⟩ = some (.int .i64 File) := by rw [hw0]; simp
  have c3 : w0.cell? ⟨w.heap.size + 1, 3, none⟩ = some (.int .i64 N) := by rw [hw0]; simp
  have c4 : w0.cell? ⟨w.heap.size + 1, 4, none⟩ = some (.string S) := by rw [hw0]; simp
  have hlt : br < w0.heap.size := by have := hR.lt; omega
  have HT : Hid (Two w0 bx br V d d w0) := two_self (pdisk_below hP hb0) (rdisk_below hR hb0)
  have HC : Hid (∀ dx dr w', Two w0 bx br V dx dr w' → w'.cell? ⟨w.heap.size, 0, none⟩ = some (.pointer (some ⟨bx, 0, none⟩)) ∧ w'.cell? ⟨w.heap.size, 1, none⟩ = some (.pointer (some ⟨br, 0, none⟩)) ∧ w'.cell? ⟨w.heap.size + 1, 2, none⟩ = some (.int .i64 File) ∧ w'.cell? ⟨w.heap.size + 1, 3, none⟩ = some (.int .i64 N) ∧ w'.cell? ⟨w.heap.size + 1, 4, none⟩ = some (.string S)) := fun dx dr w' h => by
    obtain ⟨V', h1, h2, h3, h4⟩ := h
    have nb : ∀ j, w.heap.size ≤ j → j < w0.heap.size → w'.heap[j]? = w0.heap[j]? := fun j hj hj2 => h3.block j hj2 (fun hx => by
      rcases hx with hx | hx
      · have := fp_lt hP j hx; omega
      · have := hR.lt; omega)
    have n0 := nb w.heap.size (Nat.le_refl _) (by omega)
    have n1 := nb (w.heap.size + 1) (by omega) (by omega)
    exact ⟨(World.cell?_of_block (w := w0) (a := ⟨w.heap.size, 0, none⟩) n0).trans c0, (World.cell?_of_block (w := w0) (a := ⟨w.heap.size, 1, none⟩) n0).trans c1, (World.cell?_of_block (w := w0) (a := ⟨w.heap.size + 1, 2, none⟩) n1).trans c2, (World.cell?_of_block (w := w0) (a := ⟨w.heap.size + 1, 3, none⟩) n1).trans c3, (World.cell?_of_block (w := w0) (a := ⟨w.heap.size + 1, 4, none⟩) n1).trans c4⟩
  have HW0 : Hid (w0 = (w.alloc (.cells #[.pointer (some ⟨bx, 0, none⟩), .pointer (some ⟨br, 0, none⟩)] 31)).alloc (.cells #[.int .i64 6, .int .i64 C, .int .i64 File, .int .i64 N, .string S] 38)) := hw0
  have HUP : Hid (∀ dx dr w1, Two w0 bx br V dx dr w1 → Two w bx br V dx dr w1) := fun dx dr w1 h => two_up hb0 h
  have HOK : Hid (Ok d) := hk
  have HBR : Hid (¬ fp bx V br) := hbr
  have HLT : Hid (br < w0.heap.size) := hlt
  have HNN : Hid (-9223372036854775808 ≤ N ∧ N ≤ 9223372036854775807) := hN
  have HSS : Hid (S.size ≤ 140737488355328) := by show _ ≤ _; omega
  have HDR : Hid (∀ dx dr w1 q, Two w0 bx br V dx dr w1 → Two w0 bx br V dx dr (w1.drewN q)) := fun dx dr w1 q h => two_below h (below_drewN (Below.refl _ _) q)
  have U1 : Hid (∀ n, Calls Try.prog 23 #[.pointer (some ⟨bx, 0, none⟩)] (w0.drewN n) fun e w' => e = .returned (.int .i64 (used d : Int)) ∧ w' = w0.drewN n) := fun n => used_any (w0.drewN n) bx V d (pdisk_drewN (pdisk_below hP hb0) n) hk
  have U2 : Hid (∀ n, Calls Try.prog 27 #[.pointer (some ⟨br, 0, none⟩)] (w0.drewN n) fun e w' => e = .returned (.int .i64 (used d : Int)) ∧ w' = w0.drewN n) := fun n => refUsed_any (w0.drewN n) br d (rdisk_drewN (rdisk_below hR hb0) n) hk
  have U3 : Hid (∀ n, Calls Try.prog 24 #[.pointer (some ⟨bx, 0, none⟩)] (w0.drewN n) fun e w' => e = .returned (.int .i64 (d.R : Int)) ∧ w' = w0.drewN n) := fun n => room_any (w0.drewN n) bx V d (pdisk_drewN (pdisk_below hP hb0) n)
  have U4 : Hid (∀ n, Calls Try.prog 28 #[.pointer (some ⟨br, 0, none⟩)] (w0.drewN n) fun e w' => e = .returned (.int .i64 (d.R : Int)) ∧ w' = w0.drewN n) := fun n => refRoom_any (w0.drewN n) br d (rdisk_drewN (rdisk_below hR hb0) n)
  have HF : Hid (∀ q, Two w bx br V d d (w0.drewN q)) := fun q => HUP.out _ _ _ (HDR.out _ _ _ q HT.out)
  clear hP hR hw0 hs0 hb0 hlt hk hbr hN hS HC HUP HDR HT HOK HBR HLT
  generalize used d = ud at *
  generalize d.R = rr at *
  go_enter Try.func16, Try.ntmps16
  go_wp2_with fail
  rw [← HW0.out]
  clear HW0
  go_quiet (first | (go_at_call 23; exact Calls.quiet_of_same (U1.out _)) | (go_at_call 27; exact Calls.quiet_of_same (U2.out _)) | (go_at_call 24; exact Calls.quiet_of_same (U3.out _)) | (go_at_call 28; exact Calls.quiet_of_same (U4.out _)))
  go_wp2
  go_ret
  exact ⟨rfl, HF.out _⟩

set_option maxRecDepth 100000 in
set_option maxHeartbeats 2000000 in
theorem does_none (w : World) (bx br : Nat) (V : Nat → Value) (d : DS) (hP : PDisk w bx V d) (hR : RDisk w br d) (hbr : ¬ fp bx V br) (hk : Ok d) (Do C File N : Int) (z0 : ¬ Do = 0) (z1 : ¬ Do = 1) (z2 : ¬ Do = 2) (z3 : ¬ Do = 3) (z4 : ¬ Do = 4) (z5 : ¬ Do = 5) (z6 : ¬ Do = 6) (S : ByteArray) (hN : -9223372036854775808 ≤ N ∧ N ≤ 9223372036854775807) (hS : S.size ≤ 140737488351232) :
    Calls Try.prog 16 #[.agg #[.pointer (some ⟨bx, 0, none⟩), .pointer (some ⟨br, 0, none⟩)], .agg #[.int .i64 Do, .int .i64 C, .int .i64 File, .int .i64 N, .string S]] w fun e w' => e = .returned (.bool true) ∧ Two w bx br V d d w' := by
  obtain ⟨w0, hw0⟩ : ∃ w0, w0 = (w.alloc (.cells #[.pointer (some ⟨bx, 0, none⟩), .pointer (some ⟨br, 0, none⟩)] 31)).alloc (.cells #[.int .i64 Do, .int .i64 C, .int .i64 File, .int .i64 N, .string S] 38) := ⟨_, rfl⟩
  have hb0 : Below w.heap.size w w0 := by rw [hw0]; exact ((Below.refl _ _).alloc (Nat.le_refl _) _).alloc (by simp) _
  have hs0 : w0.heap.size = w.heap.size + 2 := by rw [hw0]; simp
  have cz : w0.cell? ⟨w.heap.size + 1, 0, none⟩ = some (.int .i64 Do) := by rw [hw0]; simp
  have c0 : w0.cell? ⟨w.heap.size, 0, none⟩ = some (.pointer (some ⟨bx, 0, none⟩)) := by rw [hw0]; simp
  have c1 : w0.cell? ⟨w.heap.size, 1, none⟩ = some (.pointer (some ⟨br, 0, none⟩)) := by rw [hw0]; simp
  have c2 : w0.cell? ⟨w.heap.size + 1, 2, none⟩ = some (.int .i64 File) := by rw [hw0]; simp
  have c3 : w0.cell? ⟨w.heap.size + 1, 3, none⟩ = some (.int .i64 N) := by rw [hw0]; simp
  have c4 : w0.cell? ⟨w.heap.size + 1, 4, none⟩ = some (.string S) := by rw [hw0]; simp
  have hlt : br < w0.heap.size := by have := hR.lt; omega
  have HT : Hid (Two w0 bx br V d d w0) := two_self (pdisk_below hP hb0) (rdisk_below hR hb0)
  have HC : Hid (∀ dx dr w', Two w0 bx br V dx dr w' → w'.cell? ⟨w.heap.size, 0, none⟩ = some (.pointer (some ⟨bx, 0, none⟩)) ∧ w'.cell? ⟨w.heap.size, 1, none⟩ = some (.pointer (some ⟨br, 0, none⟩)) ∧ w'.cell? ⟨w.heap.size + 1, 2, none⟩ = some (.int .i64 File) ∧ w'.cell? ⟨w.heap.size + 1, 3, none⟩ = some (.int .i64 N) ∧ w'.cell? ⟨w.heap.size + 1, 4, none⟩ = some (.string S)) := fun dx dr w' h => by
    obtain ⟨V', h1, h2, h3, h4⟩ := h
    have nb : ∀ j, w.heap.size ≤ j → j < w0.heap.size → w'.heap[j]? = w0.heap[j]? := fun j hj hj2 => h3.block j hj2 (fun hx => by
      rcases hx with hx | hx
      · have := fp_lt hP j hx; omega
      · have := hR.lt; omega)
    have n0 := nb w.heap.size (Nat.le_refl _) (by omega)
    have n1 := nb (w.heap.size + 1) (by omega) (by omega)
    exact ⟨(World.cell?_of_block (w := w0) (a := ⟨w.heap.size, 0, none⟩) n0).trans c0, (World.cell?_of_block (w := w0) (a := ⟨w.heap.size, 1, none⟩) n0).trans c1, (World.cell?_of_block (w := w0) (a := ⟨w.heap.size + 1, 2, none⟩) n1).trans c2, (World.cell?_of_block (w := w0) (a := ⟨w.heap.size + 1, 3, none⟩) n1).trans c3, (World.cell?_of_block (w := w0) (a := ⟨w.heap.size + 1, 4, none⟩) n1).trans c4⟩
  have HW0 : Hid (w0 = (w.alloc (.cells #[.pointer (some ⟨bx, 0, none⟩), .pointer (some ⟨br, 0, none⟩)] 31)).alloc (.cells #[.int .i64 Do, .int .i64 C, .int .i64 File, .int .i64 N, .string S] 38)) := hw0
  have HUP : Hid (∀ dx dr w1, Two w0 bx br V dx dr w1 → Two w bx br V dx dr w1) := fun dx dr w1 h => two_up hb0 h
  have HOK : Hid (Ok d) := hk
  have HBR : Hid (¬ fp bx V br) := hbr
  have HLT : Hid (br < w0.heap.size) := hlt
  have HNN : Hid (-9223372036854775808 ≤ N ∧ N ≤ 9223372036854775807) := hN
  have HSS : Hid (S.size ≤ 140737488355328) := by show _ ≤ _; omega
  have HDR : Hid (∀ dx dr w1 q, Two w0 bx br V dx dr w1 → Two w0 bx br V dx dr (w1.drewN q)) := fun dx dr w1 q h => two_below h (below_drewN (Below.refl _ _) q)
  have HF : Hid (Two w bx br V d d ((w.alloc (.cells #[.pointer (some ⟨bx, 0, none⟩), .pointer (some ⟨br, 0, none⟩)] 31)).alloc (.cells #[.int .i64 Do, .int .i64 C, .int .i64 File, .int .i64 N, .string S] 38))) := by rw [← hw0]; exact HUP.out _ _ _ HT.out
  clear hP hR hw0 hs0 hb0 hlt hk hbr hN hS HC HUP HDR HT HOK HBR HLT HW0 c0 c1 c2 c3 c4 cz
  go_enter Try.func16, Try.ntmps16
  go_wp2
  go_ret
  exact ⟨rfl, HF.out⟩

theorem does_true (w : World) (bx br : Nat) (V : Nat → Value) (d : DS) (hP : PDisk w bx V d) (hR : RDisk w br d) (hbr : ¬ fp bx V br) (hk : Ok d) (o : DiskMath.Op) (hN : -9223372036854775808 ≤ o.N ∧ o.N ≤ 9223372036854775807) (hS : o.S.size ≤ 140737488351232) :
    Calls Try.prog 16 #[.agg #[.pointer (some ⟨bx, 0, none⟩), .pointer (some ⟨br, 0, none⟩)], .agg #[.int .i64 o.Do, .int .i64 o.C, .int .i64 o.File, .int .i64 o.N, .string o.S]] w fun e w' => e = .returned (.bool true) ∧ Two w bx br V (act d o) (act d o) w' := by
  obtain ⟨Do, C, File, N, S⟩ := o
  simp only at hN hS ⊢
  by_cases z0 : Do = 0
  · subst z0; exact does_app w bx br V d hP hR hbr hk C File N S hN hS
  by_cases z1 : Do = 1
  · subst z1; exact does_syn w bx br V d hP hR hbr hk C File N S hN hS
  by_cases z2 : Do = 2
  · subst z2; exact does_cut w bx br V d hP hR hbr hk C File N S hN hS
  by_cases z5 : Do = 5
  · subst z5; exact does_crash w bx br V d hP hR hbr hk C File N S hN hS
  have e : act d ⟨Do, C, File, N, S⟩ = d := by unfold act; rw [if_neg z0, if_neg z1, if_neg z2, if_neg z5]
  rw [e]
  by_cases z3 : Do = 3
  · subst z3; exact does_read w bx br V d hP hR hbr hk C File N S hN hS
  by_cases z4 : Do = 4
  · subst z4; exact does_size w bx br V d hP hR hbr hk C File N S hN hS
  by_cases z6 : Do = 6
  · subst z6; exact does_used w bx br V d hP hR hbr hk C File N S hN hS
  exact does_none w bx br V d hP hR hbr hk Do C File N z0 z1 z2 z3 z4 z5 z6 S hN hS
end Go.Proofs.Ytnemnkmogbnjcaa

