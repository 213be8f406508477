/- The texts TrioW, JDoesW, LaidDW, MakesW, AgainW, OpenAnyW, ScriptsW, OpensNW, JOpensW, one behind the other. -/
import Derived.Test.YtahkecdlibkokaaDoorScrA
/- The pair beside the operation that came in, laid in a block of its own. -/
set_option linter.unusedVariables false
set_option maxRecDepth 100000
namespace Go.Proofs.YtahkecdlibkokaaDoor
open Go.RowKit
open JournalMath DiskMath
open Fr (Tab tab_below tab_drewN)
open Dk (PDisk RDisk ROk DIn Chg fp fp_lt rdisk_below rdisk_chg chg_below pdisk_below pdisk_chg)

/-- The operation's own cells. -/
structure OB (w : World) (ob : Nat) (a b : Int) (S : ByteArray) : Prop where
  c0 : w.cell? ⟨ob, 0, none⟩ = some (.int .i64 a)
  c1 : w.cell? ⟨ob, 1, none⟩ = some (.int .i64 b)
  c2 : w.cell? ⟨ob, 2, none⟩ = some (.string S)
theorem OB.block {w w' : World} {ob : Nat} {a b : Int} {S : ByteArray} (h : OB w ob a b S) (hb : w'.heap[ob]? = w.heap[ob]?) : OB w' ob a b S :=
  ⟨(World.cell?_of_block (w := w) (a := ⟨ob, 0, none⟩) hb).trans h.c0, (World.cell?_of_block (w := w) (a := ⟨ob, 1, none⟩) hb).trans h.c1, (World.cell?_of_block (w := w) (a := ⟨ob, 2, none⟩) hb).trans h.c2⟩

structure Trio (B : Nat) (w : World) (pb bd bj bx by_ ob : Nat) (a b : Int) (S : ByteArray) (s t : JS) (wr : World) : Prop where
  sole : Sole B w bj bd s (fun k => k = bx ∨ k = by_ ∨ k = pb ∨ k = ob) wr
  rj : RJ wr bx by_ t
  pair : PB wr pb bd bj bx by_
  box : OB wr ob a b S
  nx : pb ≠ bx
  ny : pb ≠ by_
  ox : ob ≠ bx
  oy : ob ≠ by_
  lx : B ≤ bx
  ly : B ≤ by_
  lp : B ≤ pb
  lo : B ≤ ob
  lw : B ≤ wr.heap.size

theorem Trio.both {B : Nat} {w wr : World} {pb bd bj bx by_ ob : Nat} {a b : Int} {S : ByteArray} {s t : JS} (h : Trio B w pb bd bj bx by_ ob a b S s t wr) : Both B w pb bd bj bx by_ s t wr := by
  have hp : pb < wr.heap.size := block_lt_of_cell h.pair.c0
  have hx : bx < wr.heap.size := h.rj.1.lt
  have hy : by_ < wr.heap.size := h.rj.2.1.lt
  refine ⟨h.sole.own h.lw (Chg.refl _ _) ?_ (fun k hk => ?_), h.rj, h.pair, h.nx, h.ny, h.lx, h.ly, h.lp, h.lw⟩
  · rintro k (rfl | rfl | rfl | rfl)
    · exact h.lx
    · exact h.ly
    · exact h.lp
    · exact h.lo
  · rcases hk with rfl | rfl | rfl
    · exact ⟨Or.inl (Or.inl rfl), hx⟩
    · exact ⟨Or.inl (Or.inr (Or.inl rfl)), hy⟩
    · exact ⟨Or.inl (Or.inr (Or.inr (Or.inl rfl))), hp⟩

theorem Both.trio {B : Nat} {w wr : World} {pb bd bj bx by_ : Nat} (a b : Int) (S : ByteArray) {s t : JS} (h : Both B w pb bd bj bx by_ s t wr) : Trio B w pb bd bj bx by_ wr.heap.size a b S s t (wr.alloc (.cells #[.int .i64 a, .int .i64 b, .string S] 36)) := by
  have hp : pb < wr.heap.size := block_lt_of_cell h.pair.c0
  have hx : bx < wr.heap.size := h.rj.1.lt
  have hy : by_ < wr.heap.size := h.rj.2.1.lt
  have hb : Below wr.heap.size wr (wr.alloc (.cells #[.int .i64 a, .int .i64 b, .string S] 36)) := (Below.refl _ _).alloc (Nat.le_refl _) _
  have hz := World.size_alloc wr (.cells #[.int .i64 a, .int .i64 b, .string S] 36)
  have hlw := h.lw
  refine ⟨h.sole.own hlw (chg_below hb) ?_ (fun k hk => ?_), h.rj.below hb, h.pair.block (hb.block _ hp), ⟨by simp, by simp, by simp⟩, h.nx, h.ny, by omega, by omega, h.lx, h.ly, h.lp, hlw, by omega⟩
  · rintro k (rfl | rfl | rfl)
    · exact h.lx
    · exact h.ly
    · exact h.lp
  · rcases hk with rfl | rfl | rfl | rfl
    · exact ⟨Or.inl (Or.inl rfl), by omega⟩
    · exact ⟨Or.inl (Or.inr (Or.inl rfl)), by omega⟩
    · exact ⟨Or.inl (Or.inr (Or.inr rfl)), by omega⟩
    · exact ⟨Or.inr (Nat.le_refl _), by omega⟩

theorem Trio.prog {B : Nat} {w wr : World} {pb bd bj bx by_ ob : Nat} {a b : Int} {S : ByteArray} {s t s' : JS} {f : FuncId} {args : Array Value} {r : Value} (h : Trio B w pb bd bj bx by_ ob a b S s t wr) (hT : Tab w) (hBw : w.heap.size ≤ B)
    (hc : ∀ (T : Nat → Prop), JIn T wr bj bd s wr → T 0 → Tab wr → Calls Tryd.prog f args wr fun e w' => e = .returned r ∧ JIn T wr bj bd s' w') :
    Calls Tryd.prog f args wr fun e w' => e = .returned r ∧ Trio B w pb bd bj bx by_ ob a b S s' t w' := by
  refine (h.sole.call h.lw hT hBw hc).mono ?_
  rintro e w' ⟨k1, k2, k3, k4⟩
  have hb1 := h.sole.bel
  have hb2 := k2.bel
  have hchg : Chg (fun k => ¬ (k = bx ∨ k = by_ ∨ k = pb ∨ k = ob)) wr w' := ⟨hb2.os.trans hb1.os.symm, hb2.tape.trans hb1.tape.symm, hb2.output.trans hb1.output.symm, k4, fun k _ hn => k3 k (Classical.byContradiction hn)⟩
  exact ⟨k1, k2, ⟨rdisk_chg h.rj.1 hchg (fun hn => hn (Or.inl rfl)), h.rj.2.1.block (k3 by_ (Or.inr (Or.inl rfl))) k4, h.rj.2.2⟩, h.pair.block (k3 pb (Or.inr (Or.inr (Or.inl rfl)))), h.box.block (k3 ob (Or.inr (Or.inr (Or.inr rfl)))), h.nx, h.ny, h.ox, h.oy, h.lx, h.ly, h.lp, h.lo, Nat.le_trans h.lw k4⟩

theorem Trio.ref {B : Nat} {w wr w' : World} {pb bd bj bx by_ ob : Nat} {a b : Int} {S : ByteArray} {s t t' : JS} (h : Trio B w pb bd bj bx by_ ob a b S s t wr) (hr : RJOk wr bx by_ t' w') : Trio B w pb bd bj bx by_ ob a b S s t' w' := by
  have hp : pb < wr.heap.size := block_lt_of_cell h.pair.c0
  have ho : ob < wr.heap.size := block_lt_of_cell h.box.c0
  have hx : bx < wr.heap.size := h.rj.1.lt
  have hy : by_ < wr.heap.size := h.rj.2.1.lt
  have hz := hr.2.2.size
  refine ⟨h.sole.own h.lw (hr.2.2.mono (T := fun k => k = bx ∨ k = by_ ∨ k = pb ∨ k = ob) (fun k _ hk => hk.elim Or.inl (fun e => Or.inr (Or.inl e)))) ?_ (fun k hk => ⟨Or.inl hk, ?_⟩), hr.rj h.rj.2.2, h.pair.block (hr.2.2.block pb hp ?_), h.box.block (hr.2.2.block ob ho ?_), h.nx, h.ny, h.ox, h.oy, h.lx, h.ly, h.lp, h.lo, Nat.le_trans h.lw hz⟩
  · rintro k (rfl | rfl | rfl | rfl)
    · exact h.lx
    · exact h.ly
    · exact h.lp
    · exact h.lo
  · rcases hk with rfl | rfl | rfl | rfl <;> omega
  · rintro (e | e)
    · exact h.nx e
    · exact h.ny e
  · rintro (e | e)
    · exact h.ox e
    · exact h.oy e
theorem Trio.below {B : Nat} {w wr w' : World} {pb bd bj bx by_ ob : Nat} {a b : Int} {S : ByteArray} {s t : JS} (h : Trio B w pb bd bj bx by_ ob a b S s t wr) (hb : Below wr.heap.size wr w') : Trio B w pb bd bj bx by_ ob a b S s t w' :=
  h.ref (RJOk.below (RJOk.self h.rj) hb)
end Go.Proofs.YtahkecdlibkokaaDoor

/- The walks of the laws' 'does': a call on both journals, then all that stands. Written by wip/tools/gen_jdoes.py. -/
set_option linter.unusedVariables false
set_option maxRecDepth 100000
namespace Go.Proofs.YtahkecdlibkokaaDoor
open Go.RowKit
open JournalMath DiskMath
open Fr (Tab tab_below tab_drewN)
open Dk (PDisk RDisk ROk DIn Chg fp fp_lt rdisk_below rdisk_chg chg_below pdisk_below pdisk_chg)

theorem Both.alike {B : Nat} {w wr : World} {pb bd bj bx by_ : Nat} {s : JS} (h : Both B w pb bd bj bx by_ s s wr) (hk : JOk s) :
    Calls Tryd.prog 13 #[.pointer (some ⟨bd, 0, none⟩), .pointer (some ⟨bx, 0, none⟩)] wr fun e w' => e = .returned (.bool true) ∧ Both B w pb bd bj bx by_ s s w' := by
  obtain ⟨V2, hP, _⟩ := h.sole
  exact (alike_any wr bd bx V2 s.d hP h.rj.1 hk.ok).mono fun e w' ⟨k1, k2⟩ => ⟨k1, h.below k2⟩

set_option maxHeartbeats 4000000 in
theorem does_add {B : Nat} {w wr : World} {pb bd bj bx by_ : Nat} {s : JS} (h : Both B w pb bd bj bx by_ s s wr) (hk : JOk s) (hT : Tab w) (hBw : w.heap.size ≤ B) (N : Int) (S : ByteArray) (hS : S.size ≤ 140737488355328) :
    Calls Tryd.prog 14 #[.pointer (some ⟨pb, 0, none⟩), .agg #[.int .i64 0, .int .i64 N, .string S]] wr fun e w' => e = .returned (.bool true) ∧ Both B w pb bd bj bx by_ (jAdd s S.data.toList).1 (jAdd s S.data.toList).1 w' := by
  have h0 := h.trio 0 N S
  obtain ⟨ob, hob⟩ : ∃ ob, ob = wr.heap.size := ⟨_, rfl⟩
  obtain ⟨w0, hw0⟩ : ∃ w0, w0 = wr.alloc (.cells #[.int .i64 0, .int .i64 N, .string S] 36) := ⟨_, rfl⟩
  have hk2 : JOk (jAdd s S.data.toList).1 := jok_add s _ hk
  rw [← hob, ← hw0] at h0
  have HT : Hid (Trio B w pb bd bj bx by_ ob 0 N S s s w0.drew) := h0.below ((Below.refl _ _).drew)
  have C1 : Hid (∀ wa, Hid (Trio B w pb bd bj bx by_ ob 0 N S s s wa) → Calls Tryd.prog 30 #[.pointer (some ⟨bj, 0, none⟩), .string S] wa fun e w' => e = .returned (.int .i64 (jAdd s S.data.toList).2) ∧ w'.cell? ⟨pb, 1, none⟩ = some (.pointer (some ⟨bj, 0, none⟩)) ∧ w'.cell? ⟨pb, 3, none⟩ = some (.pointer (some ⟨by_, 0, none⟩)) ∧ w'.cell? ⟨ob, 2, none⟩ = some (.string S) ∧ Hid (Trio B w pb bd bj bx by_ ob 0 N S (jAdd s S.data.toList).1 s w')) := fun wa hA =>
    (hA.out.prog hT hBw (fun T hJ hG hT' => add_any S hS hJ hk hG hT')).mono fun e w' ⟨k1, k2⟩ => ⟨k1, k2.pair.c1, k2.pair.c3, k2.box.c2, k2⟩
  have C2 : Hid (∀ wa, Hid (Trio B w pb bd bj bx by_ ob 0 N S (jAdd s S.data.toList).1 s wa) → Calls Tryd.prog 36 #[.pointer (some ⟨by_, 0, none⟩), .string S] wa fun e w' => e = .returned (.int .i64 (jAdd s S.data.toList).2) ∧ w'.cell? ⟨pb, 1, none⟩ = some (.pointer (some ⟨bj, 0, none⟩)) ∧ w'.cell? ⟨pb, 3, none⟩ = some (.pointer (some ⟨by_, 0, none⟩)) ∧ w'.cell? ⟨ob, 2, none⟩ = some (.string S) ∧ w'.cell? ⟨pb, 0, none⟩ = some (.pointer (some ⟨bd, 0, none⟩)) ∧ w'.cell? ⟨pb, 2, none⟩ = some (.pointer (some ⟨bx, 0, none⟩)) ∧ Hid (Both B w pb bd bj bx by_ (jAdd s S.data.toList).1 (jAdd s S.data.toList).1 w'.drew)) := fun wa hA =>
    (refAdd_any S hS hA.out.rj hk).mono fun e w' ⟨k1, k2⟩ => by
      have k3 := hA.out.ref k2
      exact ⟨k1, k3.pair.c1, k3.pair.c3, k3.box.c2, k3.pair.c0, k3.pair.c2, k3.both.below ((Below.refl _ _).drew)⟩
  generalize (jAdd s S.data.toList).1 = s2 at *
  generalize (jAdd s S.data.toList).2 = r at *
  have C3 : Hid (∀ wa, Hid (Both B w pb bd bj bx by_ s2 s2 wa) → Calls Tryd.prog 12 #[.pointer (some ⟨pb, 0, none⟩)] wa fun e w' => e = .returned (.bool true) ∧ w'.cell? ⟨pb, 0, none⟩ = some (.pointer (some ⟨bd, 0, none⟩)) ∧ w'.cell? ⟨pb, 2, none⟩ = some (.pointer (some ⟨bx, 0, none⟩)) ∧ Hid (Both B w pb bd bj bx by_ s2 s2 w')) := fun wa hA =>
    (statp_any hA.out hk2 hT hBw).mono fun e w' ⟨k1, k2⟩ => ⟨k1, k2.pair.c0, k2.pair.c2, k2⟩
  have C4 : Hid (∀ wa, Hid (Both B w pb bd bj bx by_ s2 s2 wa) → Calls Tryd.prog 13 #[.pointer (some ⟨bd, 0, none⟩), .pointer (some ⟨bx, 0, none⟩)] wa fun e w' => e = .returned (.bool true) ∧ w'.cell? ⟨pb, 0, none⟩ = some (.pointer (some ⟨bd, 0, none⟩)) ∧ w'.cell? ⟨pb, 2, none⟩ = some (.pointer (some ⟨bx, 0, none⟩)) ∧ Hid (Both B w pb bd bj bx by_ s2 s2 w')) := fun wa hA =>
    (hA.out.alike hk2).mono fun e w' ⟨k1, k2⟩ => ⟨k1, k2.pair.c0, k2.pair.c2, k2⟩
  have HW0 : Hid (w0 = wr.alloc (.cells #[.int .i64 0, .int .i64 N, .string S] 36)) := hw0
  have HOB : Hid (ob = wr.heap.size) := hob
  have p1 := h0.pair.c1
  have p3 := h0.pair.c3
  have o0 := h0.box.c0
  have o2 := h0.box.c2
  clear h h0 hw0 hob
  go_enter Tryd.func14, Tryd.ntmps14
  go_wp2_with fail
  rw [← HW0.out, ← HOB.out]
  clear HW0
  go_region_held3 (fun w' => w'.cell? ⟨pb, 1, none⟩ = some (.pointer (some ⟨bj, 0, none⟩)) ∧ w'.cell? ⟨pb, 3, none⟩ = some (.pointer (some ⟨by_, 0, none⟩)) ∧ w'.cell? ⟨ob, 2, none⟩ = some (.string S)) (go_keep) (first | (go_at_call 30; refine (C1.out _ HT).mono ?_; rintro e w1 ⟨rfl, m0, m1, m2, HT2⟩) | (go_at_call 36; refine (C2.out _ HT2).mono ?_; rintro e w2 ⟨rfl, n0, n1, n2, n3, n4, HB2⟩))
  clear C1 C2
  go_wp2_with fail
  go_region_held3 (fun w' => w'.cell? ⟨pb, 0, none⟩ = some (.pointer (some ⟨bd, 0, none⟩)) ∧ w'.cell? ⟨pb, 2, none⟩ = some (.pointer (some ⟨bx, 0, none⟩))) (go_keep) (first | (go_at_call 12; refine (C3.out _ HB2).mono ?_; rintro e w3 ⟨rfl, q0, q2, HB3⟩) | (go_at_call 13; refine (C4.out _ HB3).mono ?_; rintro e w4 ⟨rfl, r0, r2, HB4⟩))
  go_wp2_with fail
  go_ret
  exact ⟨rfl, HB4.out⟩

set_option maxHeartbeats 4000000 in
theorem does_syn {B : Nat} {w wr : World} {pb bd bj bx by_ : Nat} {s : JS} (h : Both B w pb bd bj bx by_ s s wr) (hk : JOk s) (hT : Tab w) (hBw : w.heap.size ≤ B) (N : Int) (S : ByteArray) (hS : S.size ≤ 140737488355328) :
    Calls Tryd.prog 14 #[.pointer (some ⟨pb, 0, none⟩), .agg #[.int .i64 1, .int .i64 N, .string S]] wr fun e w' => e = .returned (.bool true) ∧ Both B w pb bd bj bx by_ (jSyn s) (jSyn s) w' := by
  have h0 := h.trio 1 N S
  obtain ⟨ob, hob⟩ : ∃ ob, ob = wr.heap.size := ⟨_, rfl⟩
  obtain ⟨w0, hw0⟩ : ∃ w0, w0 = wr.alloc (.cells #[.int .i64 1, .int .i64 N, .string S] 36) := ⟨_, rfl⟩
  have hk2 : JOk (jSyn s) := jok_syn s hk
  rw [← hob, ← hw0] at h0
  have HT : Hid (Trio B w pb bd bj bx by_ ob 1 N S s s w0.drew) := h0.below ((Below.refl _ _).drew)
  have C1 : Hid (∀ wa, Hid (Trio B w pb bd bj bx by_ ob 1 N S s s wa) → Calls Tryd.prog 31 #[.pointer (some ⟨bj, 0, none⟩)] wa fun e w' => e = .returned (.int .i64 0) ∧ w'.cell? ⟨pb, 1, none⟩ = some (.pointer (some ⟨bj, 0, none⟩)) ∧ w'.cell? ⟨pb, 3, none⟩ = some (.pointer (some ⟨by_, 0, none⟩)) ∧ w'.cell? ⟨ob, 2, none⟩ = some (.string S) ∧ Hid (Trio B w pb bd bj bx by_ ob 1 N S (jSyn s) s w')) := fun wa hA =>
    (hA.out.prog hT hBw (fun T hJ hG hT' => jsync_any hJ hk hG hT')).mono fun e w' ⟨k1, k2⟩ => ⟨k1, k2.pair.c1, k2.pair.c3, k2.box.c2, k2⟩
  have C2 : Hid (∀ wa, Hid (Trio B w pb bd bj bx by_ ob 1 N S (jSyn s) s wa) → Calls Tryd.prog 37 #[.pointer (some ⟨by_, 0, none⟩)] wa fun e w' => e = .returned (.int .i64 0) ∧ w'.cell? ⟨pb, 1, none⟩ = some (.pointer (some ⟨bj, 0, none⟩)) ∧ w'.cell? ⟨pb, 3, none⟩ = some (.pointer (some ⟨by_, 0, none⟩)) ∧ w'.cell? ⟨ob, 2, none⟩ = some (.string S) ∧ w'.cell? ⟨pb, 0, none⟩ = some (.pointer (some ⟨bd, 0, none⟩)) ∧ w'.cell? ⟨pb, 2, none⟩ = some (.pointer (some ⟨bx, 0, none⟩)) ∧ Hid (Both B w pb bd bj bx by_ (jSyn s) (jSyn s) w'.drew)) := fun wa hA =>
    (refJSync_any hA.out.rj hk).mono fun e w' ⟨k1, k2⟩ => by
      have k3 := hA.out.ref k2
      exact ⟨k1, k3.pair.c1, k3.pair.c3, k3.box.c2, k3.pair.c0, k3.pair.c2, k3.both.below ((Below.refl _ _).drew)⟩
  generalize (jSyn s) = s2 at *
  have C3 : Hid (∀ wa, Hid (Both B w pb bd bj bx by_ s2 s2 wa) → Calls Tryd.prog 12 #[.pointer (some ⟨pb, 0, none⟩)] wa fun e w' => e = .returned (.bool true) ∧ w'.cell? ⟨pb, 0, none⟩ = some (.pointer (some ⟨bd, 0, none⟩)) ∧ w'.cell? ⟨pb, 2, none⟩ = some (.pointer (some ⟨bx, 0, none⟩)) ∧ Hid (Both B w pb bd bj bx by_ s2 s2 w')) := fun wa hA =>
    (statp_any hA.out hk2 hT hBw).mono fun e w' ⟨k1, k2⟩ => ⟨k1, k2.pair.c0, k2.pair.c2, k2⟩
  have C4 : Hid (∀ wa, Hid (Both B w pb bd bj bx by_ s2 s2 wa) → Calls Tryd.prog 13 #[.pointer (some ⟨bd, 0, none⟩), .pointer (some ⟨bx, 0, none⟩)] wa fun e w' => e = .returned (.bool true) ∧ w'.cell? ⟨pb, 0, none⟩ = some (.pointer (some ⟨bd, 0, none⟩)) ∧ w'.cell? ⟨pb, 2, none⟩ = some (.pointer (some ⟨bx, 0, none⟩)) ∧ Hid (Both B w pb bd bj bx by_ s2 s2 w')) := fun wa hA =>
    (hA.out.alike hk2).mono fun e w' ⟨k1, k2⟩ => ⟨k1, k2.pair.c0, k2.pair.c2, k2⟩
  have HW0 : Hid (w0 = wr.alloc (.cells #[.int .i64 1, .int .i64 N, .string S] 36)) := hw0
  have HOB : Hid (ob = wr.heap.size) := hob
  have p1 := h0.pair.c1
  have p3 := h0.pair.c3
  have o0 := h0.box.c0
  have o2 := h0.box.c2
  clear h h0 hw0 hob
  go_enter Tryd.func14, Tryd.ntmps14
  go_wp2_with fail
  rw [← HW0.out, ← HOB.out]
  clear HW0
  go_region_held3 (fun w' => w'.cell? ⟨pb, 1, none⟩ = some (.pointer (some ⟨bj, 0, none⟩)) ∧ w'.cell? ⟨pb, 3, none⟩ = some (.pointer (some ⟨by_, 0, none⟩)) ∧ w'.cell? ⟨ob, 2, none⟩ = some (.string S)) (go_keep) (first | (go_at_call 31; refine (C1.out _ HT).mono ?_; rintro e w1 ⟨rfl, m0, m1, m2, HT2⟩) | (go_at_call 37; refine (C2.out _ HT2).mono ?_; rintro e w2 ⟨rfl, n0, n1, n2, n3, n4, HB2⟩))
  clear C1 C2
  go_wp2_with fail
  go_region_held3 (fun w' => w'.cell? ⟨pb, 0, none⟩ = some (.pointer (some ⟨bd, 0, none⟩)) ∧ w'.cell? ⟨pb, 2, none⟩ = some (.pointer (some ⟨bx, 0, none⟩))) (go_keep) (first | (go_at_call 12; refine (C3.out _ HB2).mono ?_; rintro e w3 ⟨rfl, q0, q2, HB3⟩) | (go_at_call 13; refine (C4.out _ HB3).mono ?_; rintro e w4 ⟨rfl, r0, r2, HB4⟩))
  go_wp2_with fail
  go_ret
  exact ⟨rfl, HB4.out⟩

set_option maxHeartbeats 4000000 in
theorem does_cmp {B : Nat} {w wr : World} {pb bd bj bx by_ : Nat} {s : JS} (h : Both B w pb bd bj bx by_ s s wr) (hk : JOk s) (hT : Tab w) (hBw : w.heap.size ≤ B) (N : Int) (S : ByteArray) (hS : S.size ≤ 140737488355328) :
    Calls Tryd.prog 14 #[.pointer (some ⟨pb, 0, none⟩), .agg #[.int .i64 2, .int .i64 N, .string S]] wr fun e w' => e = .returned (.bool true) ∧ Both B w pb bd bj bx by_ (jCmp s S.data.toList).1 (jCmp s S.data.toList).1 w' := by
  have h0 := h.trio 2 N S
  obtain ⟨ob, hob⟩ : ∃ ob, ob = wr.heap.size := ⟨_, rfl⟩
  obtain ⟨w0, hw0⟩ : ∃ w0, w0 = wr.alloc (.cells #[.int .i64 2, .int .i64 N, .string S] 36) := ⟨_, rfl⟩
  have hk2 : JOk (jCmp s S.data.toList).1 := jok_cmp s _ hk
  rw [← hob, ← hw0] at h0
  have HT : Hid (Trio B w pb bd bj bx by_ ob 2 N S s s w0.drew) := h0.below ((Below.refl _ _).drew)
  have C1 : Hid (∀ wa, Hid (Trio B w pb bd bj bx by_ ob 2 N S s s wa) → Calls Tryd.prog 26 #[.pointer (some ⟨bj, 0, none⟩), .string S] wa fun e w' => e = .returned (.int .i64 (jCmp s S.data.toList).2) ∧ w'.cell? ⟨pb, 1, none⟩ = some (.pointer (some ⟨bj, 0, none⟩)) ∧ w'.cell? ⟨pb, 3, none⟩ = some (.pointer (some ⟨by_, 0, none⟩)) ∧ w'.cell? ⟨ob, 2, none⟩ = some (.string S) ∧ Hid (Trio B w pb bd bj bx by_ ob 2 N S (jCmp s S.data.toList).1 s w')) := fun wa hA =>
    (hA.out.prog hT hBw (fun T hJ hG hT' => compact_any S hS hJ hk hG hT')).mono fun e w' ⟨k1, k2⟩ => ⟨k1, k2.pair.c1, k2.pair.c3, k2.box.c2, k2⟩
  have C2 : Hid (∀ wa, Hid (Trio B w pb bd bj bx by_ ob 2 N S (jCmp s S.data.toList).1 s wa) → Calls Tryd.prog 38 #[.pointer (some ⟨by_, 0, none⟩), .string S] wa fun e w' => e = .returned (.int .i64 (jCmp s S.data.toList).2) ∧ w'.cell? ⟨pb, 1, none⟩ = some (.pointer (some ⟨bj, 0, none⟩)) ∧ w'.cell? ⟨pb, 3, none⟩ = some (.pointer (some ⟨by_, 0, none⟩)) ∧ w'.cell? ⟨ob, 2, none⟩ = some (.string S) ∧ w'.cell? ⟨pb, 0, none⟩ = some (.pointer (some ⟨bd, 0, none⟩)) ∧ w'.cell? ⟨pb, 2, none⟩ = some (.pointer (some ⟨bx, 0, none⟩)) ∧ Hid (Both B w pb bd bj bx by_ (jCmp s S.data.toList).1 (jCmp s S.data.toList).1 w'.drew)) := fun wa hA =>
    (refCompact_any S hS hA.out.rj hk).mono fun e w' ⟨k1, k2⟩ => by
      have k3 := hA.out.ref k2
      exact ⟨k1, k3.pair.c1, k3.pair.c3, k3.box.c2, k3.pair.c0, k3.pair.c2, k3.both.below ((Below.refl _ _).drew)⟩
  generalize (jCmp s S.data.toList).1 = s2 at *
  generalize (jCmp s S.data.toList).2 = r at *
  have C3 : Hid (∀ wa, Hid (Both B w pb bd bj bx by_ s2 s2 wa) → Calls Tryd.prog 12 #[.pointer (some ⟨pb, 0, none⟩)] wa fun e w' => e = .returned (.bool true) ∧ w'.cell? ⟨pb, 0, none⟩ = some (.pointer (some ⟨bd, 0, none⟩)) ∧ w'.cell? ⟨pb, 2, none⟩ = some (.pointer (some ⟨bx, 0, none⟩)) ∧ Hid (Both B w pb bd bj bx by_ s2 s2 w')) := fun wa hA =>
    (statp_any hA.out hk2 hT hBw).mono fun e w' ⟨k1, k2⟩ => ⟨k1, k2.pair.c0, k2.pair.c2, k2⟩
  have C4 : Hid (∀ wa, Hid (Both B w pb bd bj bx by_ s2 s2 wa) → Calls Tryd.prog 13 #[.pointer (some ⟨bd, 0, none⟩), .pointer (some ⟨bx, 0, none⟩)] wa fun e w' => e = .returned (.bool true) ∧ w'.cell? ⟨pb, 0, none⟩ = some (.pointer (some ⟨bd, 0, none⟩)) ∧ w'.cell? ⟨pb, 2, none⟩ = some (.pointer (some ⟨bx, 0, none⟩)) ∧ Hid (Both B w pb bd bj bx by_ s2 s2 w')) := fun wa hA =>
    (hA.out.alike hk2).mono fun e w' ⟨k1, k2⟩ => ⟨k1, k2.pair.c0, k2.pair.c2, k2⟩
  have HW0 : Hid (w0 = wr.alloc (.cells #[.int .i64 2, .int .i64 N, .string S] 36)) := hw0
  have HOB : Hid (ob = wr.heap.size) := hob
  have p1 := h0.pair.c1
  have p3 := h0.pair.c3
  have o0 := h0.box.c0
  have o2 := h0.box.c2
  clear h h0 hw0 hob
  go_enter Tryd.func14, Tryd.ntmps14
  go_wp2_with fail
  rw [← HW0.out, ← HOB.out]
  clear HW0
  go_region_held3 (fun w' => w'.cell? ⟨pb, 1, none⟩ = some (.pointer (some ⟨bj, 0, none⟩)) ∧ w'.cell? ⟨pb, 3, none⟩ = some (.pointer (some ⟨by_, 0, none⟩)) ∧ w'.cell? ⟨ob, 2, none⟩ = some (.string S)) (go_keep) (first | (go_at_call 26; refine (C1.out _ HT).mono ?_; rintro e w1 ⟨rfl, m0, m1, m2, HT2⟩) | (go_at_call 38; refine (C2.out _ HT2).mono ?_; rintro e w2 ⟨rfl, n0, n1, n2, n3, n4, HB2⟩))
  clear C1 C2
  go_wp2_with fail
  go_region_held3 (fun w' => w'.cell? ⟨pb, 0, none⟩ = some (.pointer (some ⟨bd, 0, none⟩)) ∧ w'.cell? ⟨pb, 2, none⟩ = some (.pointer (some ⟨bx, 0, none⟩))) (go_keep) (first | (go_at_call 12; refine (C3.out _ HB2).mono ?_; rintro e w3 ⟨rfl, q0, q2, HB3⟩) | (go_at_call 13; refine (C4.out _ HB3).mono ?_; rintro e w4 ⟨rfl, r0, r2, HB4⟩))
  go_wp2_with fail
  go_ret
  exact ⟨rfl, HB4.out⟩
end Go.Proofs.YtahkecdlibkokaaDoor

/- The walk of the laws' own 'laid'. -/
set_option linter.unusedVariables false
set_option maxRecDepth 100000
namespace Go.Proofs.YtahkecdlibkokaaDoor
open Go.RowKit
open JournalMath DiskMath
open Fr (Tab tab_below tab_drewN)
open Dk (PDisk RDisk ROk DIn Chg fp fp_lt rdisk_below rdisk_chg chg_below pdisk_below pdisk_chg)

/-- How laid ends: two disks of the same bytes. -/
def LaidOk (w : World) (e : Ending) (w' : World) : Prop := ∃ bd bx d, e = .returned (.tuple #[.pointer (some ⟨bd, 0, none⟩), .pointer (some ⟨bx, 0, none⟩), .bool true]) ∧ Ok d ∧ Duo w.heap.size w bd bx d d w' ∧ w.heap.size ≤ w'.heap.size
set_option maxHeartbeats 1000000 in
theorem laid_any (room : Int) (hroom : -9223372036854775808 ≤ room ∧ room ≤ 9223372036854775807) (l : List Im) (hl : ∀ x ∈ l, x.Safe.size ≤ 140737488351232 ∧ x.More.size ≤ 140737488351232) (hll : l.length ≤ 140737488355328) (v : Value) (w : World) (hv : IRow w v l) :
    Calls Tryd.prog 15 #[.int .i64 room, v] w fun e w' => LaidOk w e w' := by
  obtain ⟨q, hq⟩ : ∃ q, q = pick room 1048576 := ⟨_, rfl⟩
  have hql : q < 1048576 := by rw [hq]; exact pick_lt room 1048576 (by decide)
  have C0 : Hid (Calls Tryd.prog 10 #[.int .i64 room, .int .i64 1048576] w fun e w' => e = .returned (.int .i64 (q : Int)) ∧ w' = w) := by rw [hq]; exact pick_any room 1048576 (by decide) (by decide) hroom w
  have hok : Ok (new (1 + q)) := ok_new (1 + q) (by omega) (by omega)
  have C1 : Hid (∀ w, Calls Tryd.prog 28 #[.int .i64 (1 + (q : Int))] w fun e w' => e = .returned (.tuple #[.pointer (some ⟨w.heap.size, 0, none⟩), .int .i64 0]) ∧ PDisk w' w.heap.size (fun _ => .slice none 0 0) (new (1 + q)) ∧ Below w.heap.size w w') := by
    intro w
    have := Dk.new_any (1 + q) (by omega) (by omega) w
    rw [Int.natCast_add] at this
    exact this
  have C2 : Hid (∀ w, Calls Tryd.prog 29 #[.int .i64 (1 + (q : Int))] w fun e w' => e = .returned (.tuple #[.pointer (some ⟨w.heap.size, 0, none⟩), .int .i64 0]) ∧ RDisk w' w.heap.size (new (1 + q)) ∧ w.heap.size < w'.heap.size ∧ Below w.heap.size w w') := by
    intro w
    have := Dk.refNew_any (1 + q) (by omega) (by omega) w
    rw [Int.natCast_add] at this
    exact this
  have HV : Hid (IRow w v l) := hv
  have HL : Hid (∀ x ∈ l, x.Safe.size ≤ 140737488351232 ∧ x.More.size ≤ 140737488351232) := hl
  have HOK : Hid (Ok (new (1 + q))) := hok
  obtain ⟨ao, cap, rfl, _⟩ := hv
  clear hq hok hl
  go_enter Tryd.func15, Tryd.ntmps15
  go_wp2_with fail
  refine C0.out.mono ?_
  rintro e w0 ⟨rfl, hw0⟩
  rw [hw0]
  clear hw0 C0
  go_wp2_with fail
  refine (C1.out _).mono ?_
  rintro e w1 ⟨rfl, hP1, hb1⟩
  go_wp2_with fail
  refine (C2.out _).mono ?_
  rintro e w2 ⟨rfl, hR2, hlt2, hb2⟩
  have hlt1 := hP1.lt
  have HD2 : Hid (Duo w.heap.size w w.heap.size w1.heap.size (new (1 + q)) (new (1 + q)) w2) := by
    have hfp : ∀ k, fp w.heap.size (fun _ => Value.slice none 0 0) k → k = w.heap.size := by
      rintro k (h | ⟨i, _, h⟩)
      · exact h
      · cases h
    exact ⟨_, pdisk_below hP1 hb2, hR2, fun k hk => by
      rcases hk with hk | hk
      · have := hfp k hk; omega
      · omega, fun hf => by have := hfp _ hf; omega, hb1.trans (hb2.mono hb1.size)⟩
  have HSZ2 : Hid (w.heap.size ≤ w2.heap.size) := by show _ ≤ _; omega
  generalize hd0 : new (1 + q) = d0 at *
  obtain ⟨bx, hbx⟩ : ∃ bx, bx = w1.heap.size := ⟨_, rfl⟩
  rw [← hbx] at HD2
  rw [← hbx]
  clear hP1 hb1 hR2 hlt2 hb2 hlt1 hd0 hbx
  go_wp2_with fail
  go_loopw [11] (fun i wr => ∃ (k : Nat) (d : DS), k ≤ 4 ∧ i = .int .i64 (k : Int) ∧ Hid (Ok d) ∧ Hid (Duo w.heap.size w w.heap.size bx d d wr) ∧ Hid (w.heap.size ≤ wr.heap.size)) (fun i _ => 4 - (intOf i).toNat)
  case atStart => exact ⟨0, d0, by decide, rfl, HOK, HD2, HSZ2⟩
  case round =>
    obtain ⟨k, d, hk4, rfl, HK, HD, HS⟩ := hrel
    clear HOK HD2 HSZ2
    by_cases hl1 : k < l.length
    · have i1 : (k : Int) < (l.length : Int) := by omega
      by_cases hl4 : k < 4
      · have i2 : (k : Int) < 4 := by omega
        have HV' := irow_below HV.out HD.out.bel
        obtain ⟨_, _, he, hrow⟩ := HV'
        obtain ⟨rfl, rfl⟩ : ao = _ ∧ cap = _ := by simpa using he
        obtain ⟨g, o, rfl, hg, m0, m1⟩ := hrow k hl1
        obtain ⟨hz0, hz1⟩ := HL.out l[k] (List.getElem_mem hl1)
        have hgw : g < w.heap.size := by
          obtain ⟨_, _, he2, hrow2⟩ := HV.out
          obtain ⟨rfl, rfl⟩ : some (⟨g, o, none⟩ : Addr) = _ ∧ cap = _ := by simpa using he2
          obtain ⟨g2, o2, e2, hg2, _⟩ := hrow2 k hl1
          obtain ⟨rfl, rfl⟩ : g = g2 ∧ o = o2 := by simpa using e2
          exact hg2
        have HCELL : Hid (∀ w', Below w.heap.size w w' → w'.cell? ⟨g, o + k * 2, none⟩ = some (.string l[k].Safe) ∧ w'.cell? ⟨g, o + k * 2 + 1, none⟩ = some (.string l[k].More)) := by
          intro w' hb
          have e0 := HD.out.bel.cell (p := ⟨g, o + k * 2, none⟩) hgw
          have e1 := HD.out.bel.cell (p := ⟨g, o + k * 2 + 1, none⟩) hgw
          exact ⟨(hb.cell (p := ⟨g, o + k * 2, none⟩) hgw).trans (e0.symm.trans m0), (hb.cell (p := ⟨g, o + k * 2 + 1, none⟩) hgw).trans (e1.symm.trans m1)⟩
        generalize l[k].Safe = sf at *
        generalize l[k].More = mo at *
        obtain ⟨d1, hd1⟩ : ∃ d1, d1 = (aApp d (k : Int) sf.data.toList).1 := ⟨_, rfl⟩
        obtain ⟨d2, hd2⟩ : ∃ d2, d2 = (aSyn d1 (k : Int)).1 := ⟨_, rfl⟩
        obtain ⟨d3, hd3⟩ : ∃ d3, d3 = (aApp d2 (k : Int) mo.data.toList).1 := ⟨_, rfl⟩
        have hk1 : Ok d1 := by rw [hd1]; exact ok_aApp _ _ _ HK.out
        have hk2 : Ok d2 := by rw [hd2]; exact ok_aSyn _ _ hk1
        have HK3 : Hid (Ok d3) := by show Ok d3; rw [hd3]; exact ok_aApp _ _ _ hk2
        have P1 : Hid (∀ w1, Duo w.heap.size w w.heap.size bx d d w1 → w.heap.size ≤ w1.heap.size → Calls Tryd.prog 40 #[.pointer (some ⟨w.heap.size, 0, none⟩), .int .i64 (k : Int), .string sf] w1 fun en w' => en = .returned (.int .i64 (aApp d (k : Int) sf.data.toList).2) ∧ Duo w.heap.size w w.heap.size bx d1 d w' ∧ w1.heap.size ≤ w'.heap.size) := fun w1 h hB => h.prog hB (fun T hD => by rw [hd1]; exact Dk.append_all (k : Int) sf (by omega) hD HK.out)
        have P2 : Hid (∀ w1, Duo w.heap.size w w.heap.size bx d1 d w1 → w.heap.size ≤ w1.heap.size → Calls Tryd.prog 41 #[.pointer (some ⟨w.heap.size, 0, none⟩), .int .i64 (k : Int)] w1 fun en w' => en = .returned (.int .i64 (aSyn d1 (k : Int)).2) ∧ Duo w.heap.size w w.heap.size bx d2 d w' ∧ w1.heap.size ≤ w'.heap.size) := fun w1 h hB => h.prog hB (fun T hD => by rw [hd2]; exact Dk.sync_all (k : Int) hD)
        have P3 : Hid (∀ w1, Duo w.heap.size w w.heap.size bx d2 d w1 → w.heap.size ≤ w1.heap.size → Calls Tryd.prog 40 #[.pointer (some ⟨w.heap.size, 0, none⟩), .int .i64 (k : Int), .string mo] w1 fun en w' => en = .returned (.int .i64 (aApp d2 (k : Int) mo.data.toList).2) ∧ Duo w.heap.size w w.heap.size bx d3 d w' ∧ w1.heap.size ≤ w'.heap.size) := fun w1 h hB => h.prog hB (fun T hD => by rw [hd3]; exact Dk.append_all (k : Int) mo (by omega) hD hk2)
        have R1 : Hid (∀ w1, Duo w.heap.size w w.heap.size bx d3 d w1 → w.heap.size ≤ w1.heap.size → Calls Tryd.prog 42 #[.pointer (some ⟨bx, 0, none⟩), .int .i64 (k : Int), .string sf] w1 fun en w' => en = .returned (.int .i64 (aApp d (k : Int) sf.data.toList).2) ∧ Duo w.heap.size w w.heap.size bx d3 d1 w' ∧ w1.heap.size ≤ w'.heap.size) := fun w1 h hB => h.ref hB (fun hR => by rw [hd1]; exact Dk.refAppend_all (k : Int) sf (by omega) hR HK.out)
        have R2 : Hid (∀ w1, Duo w.heap.size w w.heap.size bx d3 d1 w1 → w.heap.size ≤ w1.heap.size → Calls Tryd.prog 43 #[.pointer (some ⟨bx, 0, none⟩), .int .i64 (k : Int)] w1 fun en w' => en = .returned (.int .i64 (aSyn d1 (k : Int)).2) ∧ Duo w.heap.size w w.heap.size bx d3 d2 w' ∧ w1.heap.size ≤ w'.heap.size) := fun w1 h hB => h.ref hB (fun hR => by rw [hd2]; exact Dk.refSync_all (k : Int) hR)
        have R3 : Hid (∀ w1, Duo w.heap.size w w.heap.size bx d3 d2 w1 → w.heap.size ≤ w1.heap.size → Calls Tryd.prog 42 #[.pointer (some ⟨bx, 0, none⟩), .int .i64 (k : Int), .string mo] w1 fun en w' => en = .returned (.int .i64 (aApp d2 (k : Int) mo.data.toList).2) ∧ Duo w.heap.size w w.heap.size bx d3 d3 w' ∧ w1.heap.size ≤ w'.heap.size) := fun w1 h hB => h.ref hB (fun hR => by rw [hd3]; exact Dk.refAppend_all (k : Int) mo (by omega) hR hk2)
        have HL4 : Hid (k < 4) := hl4
        generalize (aApp d (k : Int) sf.data.toList).2 = e1 at *
        generalize (aSyn d1 (k : Int)).2 = e2 at *
        generalize (aApp d2 (k : Int) mo.data.toList).2 = e3 at *
        clear hd1 hd2 hd3 hk1 hk2 hrow he hgw hg
        go_wp2_with fail
        refine (P1.out _ HD.out HS.out).mono ?_
        rintro e x1 ⟨rfl, hD1, hS1⟩
        have HD1 : Hid (Duo w.heap.size w w.heap.size bx d1 d x1) := hD1
        have HS1 : Hid (w.heap.size ≤ x1.heap.size) := Nat.le_trans HS.out hS1
        obtain ⟨n0, n1⟩ := HCELL.out _ hD1.bel
        clear hD1 hS1 m0 m1
        go_wp2_with fail
        refine (P2.out _ HD1.out HS1.out).mono ?_
        rintro e x2 ⟨rfl, hD2, hS2⟩
        have HD2 : Hid (Duo w.heap.size w w.heap.size bx d2 d x2) := hD2
        have HS2 : Hid (w.heap.size ≤ x2.heap.size) := Nat.le_trans HS1.out hS2
        obtain ⟨m0, m1⟩ := HCELL.out _ hD2.bel
        clear hD2 hS2 n0 n1
        go_wp2_with fail
        refine (P3.out _ HD2.out HS2.out).mono ?_
        rintro e x3 ⟨rfl, hD3, hS3⟩
        have HD3 : Hid (Duo w.heap.size w w.heap.size bx d3 d x3) := hD3
        have HS3 : Hid (w.heap.size ≤ x3.heap.size) := Nat.le_trans HS2.out hS3
        obtain ⟨n0, n1⟩ := HCELL.out _ hD3.bel
        clear hD3 hS3 m0 m1
        go_wp2_with fail
        refine (R1.out _ HD3.out HS3.out).mono ?_
        rintro e x4 ⟨rfl, hD4, hS4⟩
        have HD4 : Hid (Duo w.heap.size w w.heap.size bx d3 d1 x4) := hD4
        have HS4 : Hid (w.heap.size ≤ x4.heap.size) := Nat.le_trans HS3.out hS4
        obtain ⟨m0, m1⟩ := HCELL.out _ hD4.bel
        clear hD4 hS4 n0 n1
        go_wp2_with fail
        refine (R2.out _ HD4.out HS4.out).mono ?_
        rintro e x5 ⟨rfl, hD5, hS5⟩
        have HD5 : Hid (Duo w.heap.size w w.heap.size bx d3 d2 x5) := hD5
        have HS5 : Hid (w.heap.size ≤ x5.heap.size) := Nat.le_trans HS4.out hS5
        obtain ⟨n0, n1⟩ := HCELL.out _ hD5.bel
        clear hD5 hS5 m0 m1
        go_wp2_with fail
        refine (R3.out _ HD5.out HS5.out).mono ?_
        rintro e x6 ⟨rfl, hD6, hS6⟩
        have HD6 : Hid (Duo w.heap.size w w.heap.size bx d3 d3 x6) := hD6
        have HS6 : Hid (w.heap.size ≤ x6.heap.size) := Nat.le_trans HS5.out hS6
        clear hD6 hS6 n0 n1
        go_wp2
        exact ⟨⟨k + 1, d3, by have := HL4.out; omega, by go_num, HK3, HD6, HS6⟩, by have := HL4.out; simp [intOf]; omega⟩
      · have i2 : ¬ (k : Int) < 4 := by omega
        go_wp2_with fail
        go_ret3
        exact ⟨_, _, d, rfl, HK.out, HD.out, HS.out⟩
    · have i1 : ¬ (k : Int) < (l.length : Int) := by omega
      go_wp2_with fail
      go_ret3
      exact ⟨_, _, d, rfl, HK.out, HD.out, HS.out⟩
end Go.Proofs.YtahkecdlibkokaaDoor

/- The walk of the law JournalMakes. -/
set_option linter.unusedVariables false
set_option maxRecDepth 100000
namespace Go.Proofs.YtahkecdlibkokaaDoor
open Go.RowKit
open JournalMath DiskMath
open Fr (Tab tab_below tab_drewN)
open Dk (PDisk RDisk ROk DIn Chg fp fp_lt rdisk_below rdisk_chg chg_below pdisk_below pdisk_chg)

/-- The set of blocks that a call on the program's disk leaves alone, from a pair of disks on. -/
theorem Duo.set {B : Nat} {w w1 : World} {bd bx : Nat} {d e : DS} (h : Duo B w bd bx d e w1) (hB : B ≤ w1.heap.size) (hT : Tab w) (hBw : w.heap.size ≤ B) : ∃ V, PDisk w1 bd V d ∧ DIn (fun k => k < w1.heap.size ∧ ¬ fp bd V k) w1 bd d w1 ∧ (0 < w1.heap.size ∧ ¬ fp bd V 0) ∧ Tab w1 ∧ RDisk w1 bx e ∧ (bx < w1.heap.size ∧ ¬ fp bd V bx) ∧
    ∀ w2, Chg (fun k => ¬ (k < w1.heap.size ∧ ¬ fp bd V k)) w1 w2 → Below B w w2 := by
  obtain ⟨V, h1, h2, h3, h4, h5⟩ := h
  have hT1 : Tab w1 := fun i hi => by
    have h0 := hT i hi
    have hlt := block_lt_of_cell h0
    rw [h5.cell (p := ⟨0, i, none⟩) (by simp only at hlt ⊢; omega)]
    exact h0
  refine ⟨V, h1, ⟨V, h1, fun k hk _ ht => ht.2 hk, Chg.refl _ _⟩, ⟨tab_lt hT1, fun hf => ?_⟩, hT1, h2, ⟨h2.lt, h4⟩, fun w2 hc => h5.trans ⟨hc.os, hc.tape, hc.output, hc.size, fun k hk => hc.block k (by omega) (fun hn => hn ⟨by omega, fun hf => by have := h3 k (Or.inl hf); omega⟩)⟩⟩
  have := h3 _ (Or.inl hf)
  have := tab_lt hT
  omega
/-- Both News done: what is told of them, and two disks that are the same. -/
def BothNew (w : World) (bd bx : Nat) (er : Int) (pj py : Option Addr) (w' : World) : Prop := (pj = none ↔ py = none) ∧ ∃ V d, PDisk w' bd V d ∧ RDisk w' bx d ∧ Ok d ∧ Below w.heap.size w w'
theorem new_both {w w1 : World} {bd bx : Nat} {d : DS} (h : Duo w.heap.size w bd bx d d w1) (hB : w.heap.size ≤ w1.heap.size) (hk : Ok d) (hT : Tab w) :
    ∃ er : Int, Calls Tryd.prog 16 #[.pointer (some ⟨bd, 0, none⟩)] w1 fun e w' => ∃ pj, e = .returned (.tuple #[.pointer pj, .int .i64 er]) ∧
      Calls Tryd.prog 17 #[.pointer (some ⟨bx, 0, none⟩)] w' fun e2 w2 => ∃ py, e2 = .returned (.tuple #[.pointer py, .int .i64 er]) ∧ BothNew w bd bx er pj py w2 := by
  have hDuo := h
  obtain ⟨V, hP, hD, hG, hT1, hR, hx, hbel⟩ := h.set hB hT (Nat.le_refl _)
  by_cases hu : 0 < (d.F 0).length ∨ 0 < (d.F 1).length
  · refine ⟨60, (new_used hD hu).mono ?_⟩
    rintro e w' ⟨k1, hD'⟩
    obtain ⟨V2, g1, g2, g3⟩ := hD'
    have hR' := rdisk_chg hR g3 (fun hn => hn hx)
    refine ⟨none, k1, (refNew_used hR' hk hu).mono ?_⟩
    rintro e2 w2 ⟨k2, rfl⟩
    exact ⟨none, k2, Iff.rfl, V2, d, g1, hR', hk, hbel _ g3⟩
  · have h0 : d.F 0 = [] := List.eq_nil_of_length_eq_zero (by omega)
    have h1 : d.F 1 = [] := List.eq_nil_of_length_eq_zero (by omega)
    have hjok : JOk (jBegin ⟨d, 1, 0, 0⟩ []).1 := jok_begin ⟨d, 1, 0, 0⟩ [] ⟨hk, Nat.le_refl _, Nat.zero_le _, Nat.zero_le _⟩ (by show 0 < _; omega)
    refine ⟨(jBegin ⟨d, 1, 0, 0⟩ []).2, (new_fresh hD hk h0 h1 hG hT1).mono ?_⟩
    rintro e w' h
    rcases h with ⟨e0, bj, k1, hJ⟩ | ⟨e0, k1, hD'⟩
    · obtain ⟨V2, g1, g2, g3, g4, g5⟩ := hJ
      have hR' := rdisk_chg hR g5 (fun hn => hn hx)
      have hxf : ¬ fp bd V2 bx := fun hf => g3 bx (Or.inl hf) hx.1 hx
      refine ⟨some ⟨bj, 0, none⟩, by rw [e0]; exact k1, (refNew_fresh hR' hk h0 h1).mono ?_⟩
      rintro e2 w2 h2
      rcases h2 with ⟨_, by_, hby, k2, hR2, hJ2, hC2⟩ | ⟨e1, _⟩
      · refine ⟨some ⟨by_, 0, none⟩, by rw [e0]; exact k2, ⟨fun h => (by cases h), fun h => (by cases h)⟩, V2, _, pdisk_chg g1 hC2 (fun k hk e => hxf (by have e2 : k = bx := e; rw [← e2]; exact hk)), hR2, hjok.ok, (hbel _ g5).trans ⟨hC2.os, hC2.tape, hC2.output, hC2.size, fun k hk => hC2.block k (by have := g5.size; omega) (fun e => ?_)⟩⟩
        have e2 : k = bx := e
        obtain ⟨V0, _, _, q3, _, _⟩ := hDuo
        have := q3 bx (Or.inr rfl)
        omega
      · rw [e0] at e1; exact absurd e1 (by decide)
    · obtain ⟨V2, g1, g2, g3⟩ := hD'
      have hR' := rdisk_chg hR g3 (fun hn => hn hx)
      have hxf : ¬ fp bd V2 bx := fun hf => g2 bx hf hx.1 hx
      refine ⟨none, by rw [e0]; exact k1, (refNew_fresh hR' hk h0 h1).mono ?_⟩
      rintro e2 w2 h2
      rcases h2 with ⟨e1, _⟩ | ⟨_, k2, hR2, hC2⟩
      · rw [e0] at e1; exact absurd e1 (by decide)
      · refine ⟨none, by rw [e0]; exact k2, Iff.rfl, V2, d, pdisk_chg g1 hC2 (fun k hk e => hxf (by have e2 : k = bx := e; rw [← e2]; exact hk)), hR2, hk, (hbel _ g3).trans ⟨hC2.os, hC2.tape, hC2.output, hC2.size, fun k hk => hC2.block k (by have := g3.size; omega) (fun e => ?_)⟩⟩
        have e2 : k = bx := e
        obtain ⟨V0, _, _, q3, _, _⟩ := hDuo
        have := q3 bx (Or.inr rfl)
        omega

set_option maxHeartbeats 1000000 in
theorem journalMakes_walk (room : Int) (hroom : -9223372036854775808 ≤ room ∧ room ≤ 9223372036854775807) (l : List Im) (hl : ∀ x ∈ l, x.Safe.size ≤ 140737488351232 ∧ x.More.size ≤ 140737488351232) (hll : l.length ≤ 140737488355328) (v : Value) (w : World) (hv : IRow w v l) (hT : Tab w) :
    Calls Tryd.prog 4 #[.int .i64 room, v] w fun e w' => e = .returned (.bool true) ∧ Below w.heap.size w w' := by
  have C1 : Hid (Calls Tryd.prog 15 #[.int .i64 room, v] w fun e w' => LaidOk w e w') := laid_any room hroom l hl hll v w hv
  have HT : Hid (Tab w) := hT
  obtain ⟨ao, cap, rfl, _⟩ := hv
  clear hl hT
  go_enter Tryd.func4, Tryd.ntmps4
  go_wp2_with fail
  refine C1.out.mono ?_
  rintro e w1 ⟨bd, bx, d, rfl, hk, hD, hsz⟩
  have C2 : Hid (Calls Tryd.prog 11 #[] w1 fun e w' => e = .returned (.bool true) ∧ Below w1.heap.size w1 w') := begun_any w1 (tab_below HT.out hD.bel)
  have HD : Hid (Duo w.heap.size w bd bx d d w1) := hD
  have HK : Hid (Ok d) := hk
  have HS : Hid (w.heap.size ≤ w1.heap.size) := hsz
  clear hD hk hsz C1
  go_wp2_with fail
  refine C2.out.mono ?_
  rintro e w2 ⟨rfl, hb2⟩
  obtain ⟨er, hN⟩ := new_both (HD.out.below hb2 HS.out) (Nat.le_trans HS.out hb2.size) HK.out HT.out
  have C3 : Hid (Calls Tryd.prog 16 #[.pointer (some ⟨bd, 0, none⟩)] w2 fun e w' => ∃ pj, e = .returned (.tuple #[.pointer pj, .int .i64 er]) ∧ Calls Tryd.prog 17 #[.pointer (some ⟨bx, 0, none⟩)] w' fun e2 w2 => ∃ py, e2 = .returned (.tuple #[.pointer py, .int .i64 er]) ∧ BothNew w bd bx er pj py w2) := hN
  clear hb2 hN C2 HD HK HS
  go_wp2_with fail
  refine C3.out.mono ?_
  rintro e w3 ⟨pj, rfl, c4⟩
  have C4 : Hid (Calls Tryd.prog 17 #[.pointer (some ⟨bx, 0, none⟩)] w3 fun e2 w2 => ∃ py, e2 = .returned (.tuple #[.pointer py, .int .i64 er]) ∧ BothNew w bd bx er pj py w2) := c4
  clear c4 C3
  go_wp2_with fail
  refine C4.out.mono ?_
  rintro e w4 ⟨py, rfl, hiff, V, d', hP, hR, hk', hb4⟩
  have HB4 : Hid (Below w.heap.size w w4) := hb4
  have C5 : Hid (Calls Tryd.prog 13 #[.pointer (some ⟨bd, 0, none⟩), .pointer (some ⟨bx, 0, none⟩)] w4 fun e w' => e = .returned (.bool true) ∧ Below w4.heap.size w4 w') := alike_any w4 bd bx V d' hP hR hk'
  have C6 : Hid (∀ w, Calls Tryd.prog 16 #[.pointer none] w fun e w' => e = .returned (.tuple #[.pointer none, .int .i64 1]) ∧ w' = w) := new_nil
  clear hP hR hk' hb4 C4
  have hcase : (pj = none ∧ py = none) ∨ ∃ a b, pj = some a ∧ py = some b := by
    cases pj with
    | none => exact Or.inl ⟨rfl, hiff.1 rfl⟩
    | some a =>
      cases py with
      | none => exact absurd (hiff.2 rfl) (by simp)
      | some b => exact Or.inr ⟨a, b, rfl, rfl⟩
  clear hiff
  rcases hcase with ⟨rfl, rfl⟩ | ⟨a, b, rfl, rfl⟩
  all_goals
    go_wp2_with fail
    refine (C6.out _).mono ?_
    rintro e w5 ⟨rfl, hw5⟩
    rw [hw5]
    clear hw5
    go_wp2_with fail
    refine C5.out.mono ?_
    rintro e w6 ⟨rfl, hb6⟩
    have HB6 : Hid (Below w.heap.size w w6) := HB4.out.trans (hb6.mono HB4.out.size)
    clear hb6
    go_wp2_with fail
    go_ret
    exact ⟨rfl, HB6.out⟩
end Go.Proofs.YtahkecdlibkokaaDoor

/- The walk of the law JournalAgain. -/
set_option linter.unusedVariables false
set_option maxRecDepth 100000
namespace Go.Proofs.YtahkecdlibkokaaDoor
open Go.RowKit
open JournalMath DiskMath
open Fr (Tab tab_below tab_drewN)
open Dk (PDisk RDisk ROk DIn Chg fp fp_lt rdisk_below rdisk_chg chg_below pdisk_below pdisk_chg)

/-- From the end of an Open on: the journal, its row of records, and what is left alone. -/
theorem OpenOk.on {T : Nat → Prop} {w w1 w' : World} {b : Nat} {s : JS} {snap : List UInt8} {recs : List (List UInt8)} {e : Ending} (h : OpenOk T w w1 b s snap recs e w') (hG : T 0) (hT : Tab w) :
    ∃ jb v V, e = .returned (.tuple #[.pointer (some ⟨jb, 0, none⟩), .string ⟨snap.toArray⟩, v, .int .i64 0]) ∧ JIn T w jb b s w' ∧ JIn (fun k => k < w'.heap.size ∧ ¬ (fp b V k ∨ k = jb)) w' jb b s w' ∧ SRow w' v recs ∧ (0 < w'.heap.size ∧ ¬ (fp b V 0 ∨ 0 = jb)) ∧ Tab w' ∧
      (∀ w2, Chg (fun k => ¬ (k < w'.heap.size ∧ ¬ (fp b V k ∨ k = jb))) w' w2 → Chg (fun k => ¬ T k) w w2 ∧ SRow w2 v recs) := by
  obtain ⟨jb, v, V, h1, h2, h3, h4, h5, h6, h7, h8⟩ := h
  have hT' : Tab w' := tab_chg h6 hG hT
  refine ⟨jb, v, V, h1, ⟨V, h2, h3, h4, h5, h6⟩, ⟨V, h2, h3, fun k hk _ ht => ht.2 hk, h5, Chg.refl _ _⟩, srow_own h7, ⟨tab_lt hT', fun hf => h4 _ hf (tab_lt hT) hG⟩, hT', fun w2 hc => ⟨h6.trans hc (fun k hk hn => ?_), srow_own (own_chg h7 hc (fun g hg hn => hn ⟨(h7.lt g hg).2, fun hf => ?_⟩))⟩⟩
  · by_cases hf : fp b V k ∨ k = jb
    · exact h4 k hf hk
    · exact absurd ⟨by have := h6.size; omega, hf⟩ hn
  · rcases hf with hf | hf
    · exact (h8 g hg).1 hf
    · exact (h8 g hg).2 hf
theorem size_jin {T : Nat → Prop} {w w1 : World} {bj bd : Nat} {s : JS} (i : Nat) (hi : i < 4) (hJ : JIn T w bj bd s w1) :
    Calls Tryd.prog 20 #[.pointer (some ⟨bd, 0, none⟩), .int .i64 (i : Int)] w1 fun e w' => e = .returned (.tuple #[.int .i64 ((s.d.F i).length : Int), .int .i64 (s.d.S i : Int), .int .i64 0]) ∧ JIn T w bj bd s w' := by
  obtain ⟨V, h1, _⟩ := id hJ
  exact (Dk.size_any w1 bd V s.d i hi h1).mono fun e w' ⟨k1, k2⟩ => ⟨k1, jin_drewN hJ k2⟩
theorem crash_jin {T : Nat → Prop} {w w1 : World} {bj bd : Nat} {s : JS} (n : Int) (hn : -9223372036854775808 ≤ n ∧ n ≤ 9223372036854775807) (hJ : JIn T w bj bd s w1) (hk : Ok s.d) (hG : T 0) (hT : Tab w) :
    Calls Tryd.prog 22 #[.pointer (some ⟨bd, 0, none⟩), .int .i64 n] w1 fun e w' => e = .returned (.tuple #[]) ∧ JIn T w bj bd ⟨crash s.d n.toNat, s.f, s.g, s.n⟩ w' := by
  obtain ⟨T', hD, hG', hT', hnext⟩ := jin_disk hJ hG hT
  exact (Dk.crash_all n hn hD hk).mono fun e w' ⟨k1, k2⟩ => ⟨k1, hnext _ _ k2⟩

set_option maxHeartbeats 2000000 in
theorem journalAgain_walk (room : Int) (hroom : -9223372036854775808 ≤ room ∧ room ≤ 9223372036854775807) (l : List Im) (hl : ∀ x ∈ l, x.Safe.size ≤ 140737488351232 ∧ x.More.size ≤ 140737488351232) (hll : l.length ≤ 140737488355328) (v : Value) (keep : Int) (hkeep : -9223372036854775808 ≤ keep ∧ keep ≤ 9223372036854775807) (w : World) (hv : IRow w v l) (hT : Tab w) :
    Calls Tryd.prog 6 #[.int .i64 room, v, .int .i64 keep] w fun e w' => e = .returned (.bool true) ∧ Below w.heap.size w w' := by
  have C1 : Hid (Calls Tryd.prog 15 #[.int .i64 room, v] w fun e w' => LaidOk w e w') := laid_any room hroom l hl hll v w hv
  have HT : Hid (Tab w) := hT
  have HKE : Hid (-9223372036854775808 ≤ keep ∧ keep ≤ 9223372036854775807) := hkeep
  obtain ⟨ao, cap, rfl, _⟩ := hv
  clear hl hT hkeep
  go_enter Tryd.func6, Tryd.ntmps6
  go_wp2_with fail
  refine C1.out.mono ?_
  rintro e w1 ⟨bd, bx, d, rfl, hk, hD, hsz⟩
  have C2 : Hid (Calls Tryd.prog 11 #[] w1 fun e w' => e = .returned (.bool true) ∧ Below w1.heap.size w1 w') := begun_any w1 (tab_below HT.out hD.bel)
  have HD : Hid (Duo w.heap.size w bd bx d d w1) := hD
  have HK : Hid (Ok d) := hk
  have HS : Hid (w.heap.size ≤ w1.heap.size) := hsz
  clear hD hk hsz C1
  go_wp2_with fail
  refine C2.out.mono ?_
  rintro e w2 ⟨rfl, hb2⟩
  obtain ⟨V, hP, hDI, hG, hT2, hR, hx, hbel⟩ := (HD.out.below hb2 HS.out).set (Nat.le_trans HS.out hb2.size) HT.out (Nat.le_refl _)
  by_cases hnone : (found (d.F 0)).gen = 0 ∧ (found (d.F 1)).gen = 0
  · have C3 : Hid (Calls Tryd.prog 18 #[.pointer (some ⟨bd, 0, none⟩)] w2 fun e w' => e = .returned (.tuple #[.pointer none, .string ⟨#[]⟩, .slice none 0 0, .int .i64 61]) ∧ Below w.heap.size w w') := (open_none hDI HK.out hG hT2 hnone.1 hnone.2).mono fun e w' ⟨k1, k2⟩ => ⟨k1, (hbel w2 (Chg.refl _ _)).trans (k2.mono (by have := HS.out; have := hb2.size; omega))⟩
    clear hP hDI hG hT2 hR hx hbel hnone hb2
    go_wp2_with fail
    refine C3.out.mono ?_
    rintro e w3 ⟨rfl, hb3⟩
    have HB3 : Hid (Below w.heap.size w w3) := hb3
    clear hb3
    go_wp2_with fail
    go_ret
    exact ⟨rfl, HB3.out⟩
  · obtain ⟨f, hf, hg1, hO⟩ : ∃ f, f ≤ 1 ∧ (found (d.F f)).gen ≠ 0 ∧ Calls Tryd.prog 18 #[.pointer (some ⟨bd, 0, none⟩)] w2 fun e w' => OpenOk (fun k => k < w2.heap.size ∧ ¬ fp bd V k) w2 w2 bd (opened d f (found (d.F f))) (found (d.F f)).snap (found (d.F f)).recs e w' := by
      by_cases hlt : (found (d.F 0)).gen < (found (d.F 1)).gen
      · exact ⟨1, Nat.le_refl _, by omega, open_second hDI HK.out hG hT2 hlt⟩
      · exact ⟨0, Nat.zero_le _, by omega, open_first hDI HK.out hG hT2 (by omega) hlt⟩
    have hfl := found_le (d.F f)
    have hof := opened_files d f hf (found (d.F f)) HK.out hfl.1
    have hjok := jok_opened d f HK.out hf
    have hag := found_again (d.F f) hg1
    have hfs : (opened d f (found (d.F f))).f = f := rfl
    have hgs : (opened d f (found (d.F f))).g = (found (d.F f)).gen := rfl
    have hns : (opened d f (found (d.F f))).n = (found (d.F f)).recs.length := rfl
    generalize found (d.F f) = x at *
    generalize opened d f x = s1 at *
    have C3 : Hid (Calls Tryd.prog 18 #[.pointer (some ⟨bd, 0, none⟩)] w2 fun e w' => OpenOk (fun k => k < w2.heap.size ∧ ¬ fp bd V k) w2 w2 bd s1 x.snap x.recs e w') := hO
    have HGG : Hid ((fun k => k < w2.heap.size ∧ ¬ fp bd V k) 0) := hG
    have HT2 : Hid (Tab w2) := hT2
    have HBEL : Hid (∀ w3, Chg (fun k => ¬ (k < w2.heap.size ∧ ¬ fp bd V k)) w2 w3 → Below w.heap.size w w3) := hbel
    -- sizes
    have hlen : (s1.d.F f).length = x.size := by rw [hof.1, List.length_take]; omega
    have hsafe : ∀ i, i < 2 → s1.d.S i = (s1.d.F i).length := fun i hi => by
      by_cases e : i = f
      · rw [e, hof.2.2.1, hlen]
      · have e2 : i = 1 - f := by omega
        rw [e2, hof.2.2.2, hof.2.1]; rfl
    have HSAFE : Hid (∀ i, i < 2 → s1.d.S i = (s1.d.F i).length) := hsafe
    have HJOK : Hid (JOk s1) := hjok
    obtain ⟨d2, hd2⟩ : ∃ d2, d2 = crash s1.d keep.toNat := ⟨_, rfl⟩
    have hk2 : Ok d2 := by rw [hd2]; exact ok_crash _ _ hjok.ok
    have hF2 : d2.F f = s1.d.F f := by rw [hd2]; exact crash_safe _ f _ (by omega) (hsafe f (by omega))
    have hE2 : d2.F (1 - f) = [] := by rw [hd2, crash_safe _ (1 - f) _ (by omega) (hsafe (1 - f) (by omega)), hof.2.1]
    have hfo2 : found (d2.F f) = x := by rw [hF2, hof.1, hag]
    have hof2 := opened_files d2 f hf x hk2 (by rw [hF2]; omega)
    have hjok2 : JOk (opened d2 f x) := by have := jok_opened d2 f hk2 hf; rwa [hfo2] at this
    have hlen2 : ((opened d2 f x).d.F f).length = x.size := by rw [hof2.1, List.length_take, hF2]; omega
    have C5 : Hid (∀ (T : Nat → Prop) (w w1 : World), DIn T w bd d2 w1 → T 0 → Tab w → Calls Tryd.prog 18 #[.pointer (some ⟨bd, 0, none⟩)] w1 fun e w' => OpenOk T w w1 bd (opened d2 f x) x.snap x.recs e w') := by
      intro T w w1 hD hG hT
      have := open_any f hf hD hk2 hG hT (by rw [hfo2]; exact hg1) (by rw [hE2, found_nil])
      rw [hfo2] at this
      exact this
    have C4 : Hid (∀ (T : Nat → Prop) (w w1 : World) jb, JIn T w jb bd s1 w1 → T 0 → Tab w → Calls Tryd.prog 22 #[.pointer (some ⟨bd, 0, none⟩), .int .i64 keep] w1 fun e w' => e = .returned (.tuple #[]) ∧ JIn T w jb bd ⟨d2, s1.f, s1.g, s1.n⟩ w') := by
      intro T w w1 jb hJ hG hT
      rw [hd2]
      exact crash_jin keep HKE.out hJ hjok.ok hG hT
    have S1 : Hid (∀ (T : Nat → Prop) (w w1 : World) jb, JIn T w jb bd s1 w1 → T 0 → Tab w → Calls Tryd.prog 21 #[.pointer (some ⟨jb, 0, none⟩)] w1 fun e w' => e = .returned (.tuple #[.int .i64 (x.gen : Int), .int .i64 (x.recs.length : Int), .int .i64 (x.size : Int)]) ∧ JIn T w jb bd s1 w') := by
      intro T w w1 jb hJ hG hT
      have := stat_any hJ hjok hG hT
      rw [hfs, hlen, hgs, hns] at this
      exact this
    have hf2s : (opened d2 f x).f = f := rfl
    have hg2s : (opened d2 f x).g = x.gen := rfl
    have hn2s : (opened d2 f x).n = x.recs.length := rfl
    generalize opened d2 f x = s2 at *
    have S2 : Hid (∀ (T : Nat → Prop) (w w1 : World) jb, JIn T w jb bd s2 w1 → T 0 → Tab w → Calls Tryd.prog 21 #[.pointer (some ⟨jb, 0, none⟩)] w1 fun e w' => e = .returned (.tuple #[.int .i64 (x.gen : Int), .int .i64 (x.recs.length : Int), .int .i64 (x.size : Int)]) ∧ JIn T w jb bd s2 w') := by
      intro T w w1 jb hJ hG hT
      have := stat_any hJ hjok2 hG hT
      rw [hf2s, hlen2, hg2s, hn2s] at this
      exact this
    have hrl : x.recs.length ≤ 1048576 := by
      have h1 := file_le d f (by omega)
      have h2 := HK.out.room
      have h3 := HK.out.most
      omega
    obtain ⟨gen, snap, recs, size⟩ := x
    simp only at *
    clear hP hDI hG hT2 hR hx hbel hnone hb2 hO hfl hof hjok hag hfs hgs hns hlen hsafe hd2 hk2 hF2 hE2 hfo2 hof2 hjok2 hlen2 hf2s hg2s hn2s hg1
    go_wp2_with fail
    refine C3.out.mono ?_
    rintro e w3 h3
    obtain ⟨jb, v1, V1, rfl, _, hJ3, hrow3, hG3, hT3, hup⟩ := h3.on HGG.out HT2.out
    have HJ3 : Hid (JIn (fun k => k < w3.heap.size ∧ ¬ (fp bd V1 k ∨ k = jb)) w3 jb bd s1 w3) := hJ3
    have HG3 : Hid ((fun k => k < w3.heap.size ∧ ¬ (fp bd V1 k ∨ k = jb)) 0) := hG3
    have HT3 : Hid (Tab w3) := hT3
    have HUP : Hid (∀ w2', Chg (fun k => ¬ (k < w3.heap.size ∧ ¬ (fp bd V1 k ∨ k = jb))) w3 w2' → Below w.heap.size w w2' ∧ SRow w2' v1 recs) := fun w2' hc => ⟨HBEL.out _ (hup w2' hc).1, (hup w2' hc).2⟩
    obtain ⟨a1, c1, rfl, _, _⟩ := hrow3
    clear hJ3 hG3 hT3 hup h3 C3 HGG HT2 HBEL
    go_wp2_with fail
    go_loopw [14] (fun i wr => ∃ k : Nat, k ≤ 2 ∧ i = .int .i64 (k : Int) ∧ Hid (JIn (fun k => k < w3.heap.size ∧ ¬ (fp bd V1 k ∨ k = jb)) w3 jb bd s1 wr)) (fun i _ => 2 - (intOf i).toNat)
    case atStart => exact ⟨0, by decide, rfl, HJ3⟩
    case round =>
      obtain ⟨k, hk2, rfl, HJ⟩ := hrel
      clear HJ3
      by_cases hlt : k < 2
      · have i1 : (k : Int) < 2 := by omega
        have HLT : Hid (k < 2) := hlt
        have SZ : Hid (Calls Tryd.prog 20 #[.pointer (some ⟨bd, 0, none⟩), .int .i64 (k : Int)] wr fun e w' => e = .returned (.tuple #[.int .i64 ((s1.d.F k).length : Int), .int .i64 ((s1.d.F k).length : Int), .int .i64 0]) ∧ JIn (fun k => k < w3.heap.size ∧ ¬ (fp bd V1 k ∨ k = jb)) w3 jb bd s1 w') := by
          have := size_jin k (by omega) HJ.out
          rw [HSAFE.out k hlt] at this
          exact this
        generalize (s1.d.F k).length = m at *
        go_wp2_with fail
        refine SZ.out.mono ?_
        rintro e w4 ⟨rfl, hJ4⟩
        have HJ4 : Hid (JIn (fun k => k < w3.heap.size ∧ ¬ (fp bd V1 k ∨ k = jb)) w3 jb bd s1 w4) := hJ4
        clear hJ4
        go_wp2
        exact ⟨⟨k + 1, by have := HLT.out; omega, by go_num, HJ4⟩, by have := HLT.out; simp [intOf]; omega⟩
      · have i1 : ¬ (k : Int) < 2 := by omega
        go_wp2_with fail
        refine (S1.out _ _ _ _ HJ.out HG3.out HT3.out).mono ?_
        rintro e w4 ⟨rfl, hJ4⟩
        have HJ4 : Hid (JIn (fun k => k < w3.heap.size ∧ ¬ (fp bd V1 k ∨ k = jb)) w3 jb bd s1 w4) := hJ4
        clear hJ4
        go_wp2_with fail
        refine (C4.out _ _ _ _ HJ4.out HG3.out HT3.out).mono ?_
        rintro e w5 ⟨rfl, hJ5⟩
        have HD5 : Hid (DIn (fun k => k < w3.heap.size ∧ ¬ (fp bd V1 k ∨ k = jb)) w3 bd d2 w5) := hJ5.din
        clear hJ5
        go_wp2_with fail
        refine (C5.out _ _ _ HD5.out HG3.out HT3.out).mono ?_
        rintro e w6 h6
        obtain ⟨jb2, v2, V2, rfl, hJ6, _, hrow6, _, _, _⟩ := h6.on HG3.out HT3.out
        obtain ⟨hb6, hr6⟩ := HUP.out _ hJ6.chg
        have HJ6 : Hid (JIn (fun k => k < w3.heap.size ∧ ¬ (fp bd V1 k ∨ k = jb)) w3 jb2 bd s2 w6) := hJ6
        have HR6 : Hid (SRow w6 (.slice a1 recs.length c1) recs) := hr6
        have HR7 : Hid (SRow w6 v2 recs) := hrow6
        obtain ⟨a2, c2, rfl, _, _⟩ := hrow6
        clear hJ6 hb6 hr6 h6
        go_wp2_with fail
        refine (same_true recs (by omega) _ _ w6 HR6.out HR7.out).mono ?_
        rintro e w7 ⟨rfl, q, hw7⟩
        have HJ7 : Hid (JIn (fun k => k < w3.heap.size ∧ ¬ (fp bd V1 k ∨ k = jb)) w3 jb2 bd s2 w7) := jin_drewN HJ6.out ⟨q, hw7⟩
        clear hw7
        go_wp2_with fail
        refine (S2.out _ _ _ _ HJ7.out HG3.out HT3.out).mono ?_
        rintro e w8 ⟨rfl, hJ8⟩
        have HB8 : Hid (Below w.heap.size w w8) := (HUP.out _ hJ8.chg).1
        clear hJ8
        go_wp2_with fail
        go_ret
        exact ⟨rfl, HB8.out⟩
end Go.Proofs.YtahkecdlibkokaaDoor

/- 'opens' of any pair whose disks have a journal. -/
set_option linter.unusedVariables false
set_option maxRecDepth 100000
namespace Go.Proofs.YtahkecdlibkokaaDoor
open Go.RowKit
open JournalMath DiskMath
open Fr (Tab tab_below tab_drewN)
open Dk (PDisk RDisk ROk DIn Chg fp fp_lt rdisk_below rdisk_chg chg_below pdisk_below pdisk_chg)

theorem opens_half {B : Nat} {w wr : World} {pb bd bx : Nat} {V : Nat → Value} {d : DS} (h : Half B w pb bd bx V d wr) (hk : Ok d) (hT : Tab w) (hBw : w.heap.size ≤ B) (f : Nat)
    (hc : (f = 0 ∧ (found (d.F 0)).gen ≠ 0 ∧ ¬ (found (d.F 0)).gen < (found (d.F 1)).gen) ∨ (f = 1 ∧ (found (d.F 0)).gen < (found (d.F 1)).gen)) :
    Calls Tryd.prog 19 #[.pointer (some ⟨pb, 0, none⟩)] wr fun e w' => e = .returned (.bool true) ∧ ∃ jb by_, Both B w pb bd jb bx by_ (opened d f (found (d.F f))) (opened d f (found (d.F f))) w' := by
  have hf : f ≤ 1 := by rcases hc with hc | hc <;> omega
  have hT1 : Tab wr := fun i hi => by
    have h0 := hT i hi
    have hlt := block_lt_of_cell h0
    rw [h.bel.cell (p := ⟨0, i, none⟩) (by simp only at hlt ⊢; omega)]
    exact h0
  have hG : 0 < wr.heap.size ∧ ¬ fp bd V 0 := ⟨tab_lt hT1, fun hf => by have := h.fl _ hf; have := tab_lt hT; omega⟩
  have hD : DIn (fun k => k < wr.heap.size ∧ ¬ fp bd V k) wr bd d wr := ⟨V, h.pd, fun k hk _ ht => ht.2 hk, Chg.refl _ _⟩
  have hlen : (found (d.F f)).recs.length ≤ 4194304 := by
    have h1 := (found_le (d.F f)).2.1
    have h0 := (found_le (d.F f)).1
    have h2 := file_le d f (by omega)
    have h3 := hk.room
    have h4 := hk.most
    omega
  refine opens_ok h (jok_opened d f hk hf) hlen hT hBw (snap := (found (d.F f)).snap) ?_ ?_
  · rcases hc with ⟨rfl, h0, h1⟩ | ⟨rfl, h1⟩
    · exact open_first hD hk hG hT1 h0 h1
    · exact open_second hD hk hG hT1 h1
  · intro w1 hR
    rcases hc with ⟨rfl, h0, h1⟩ | ⟨rfl, h1⟩
    · exact refOpen_first hR hk h0 h1
    · exact refOpen_second hR hk h1

theorem Both.half {B : Nat} {w wr : World} {pb bd bj bx by_ : Nat} {s : JS} (h : Both B w pb bd bj bx by_ s s wr) : ∃ V, Half B w pb bd bx V s.d wr := by
  obtain ⟨V, h1, h2, h3, h4, h5, h6⟩ := h.sole
  exact ⟨V, h1, h.rj.1, h.pair.half, fun k hk => h4 k (Or.inl hk), fun hf => (h5 bx (Or.inl rfl)).2 (Or.inl hf), fun hf => (h5 pb (Or.inr (Or.inr rfl))).2 (Or.inl hf), h.nx, h.lx, h.lp, h.lw, h6⟩

theorem opens_any {B : Nat} {w wr : World} {pb bd bj bx by_ : Nat} {s : JS} (h : Both B w pb bd bj bx by_ s s wr) (hk : Ok s.d) (hT : Tab w) (hBw : w.heap.size ≤ B) (f : Nat) (hf : f ≤ 1) (h0 : (found (s.d.F f)).gen ≠ 0) (h1 : (found (s.d.F (1 - f))).gen = 0) :
    Calls Tryd.prog 19 #[.pointer (some ⟨pb, 0, none⟩)] wr fun e w' => e = .returned (.bool true) ∧ ∃ jb by_, Both B w pb bd jb bx by_ (opened s.d f (found (s.d.F f))) (opened s.d f (found (s.d.F f))) w' := by
  obtain ⟨V, hH⟩ := h.half
  refine opens_half hH hk hT hBw f ?_
  rcases (show f = 0 ∨ f = 1 by omega) with rfl | rfl
  · rw [show (1 - 0 : Nat) = 1 from rfl] at h1
    exact Or.inl ⟨rfl, h0, by omega⟩
  · rw [show (1 - 1 : Nat) = 0 from rfl] at h1
    exact Or.inr ⟨rfl, by omega⟩

/-- The document's disk is worked on. -/
theorem Trio.disk {B : Nat} {w wr w' : World} {pb bd bj bx by_ ob : Nat} {a b : Int} {S : ByteArray} {s t : JS} {d' : DS} (h : Trio B w pb bd bj bx by_ ob a b S s t wr) (hr : ROk wr bx d' w') : Trio B w pb bd bj bx by_ ob a b S s ⟨d', t.f, t.g, t.n⟩ w' :=
  h.ref (RJOk.disk (RJOk.self h.rj) h.rj.2.2 hr)

set_option maxHeartbeats 2000000 in
theorem does_open {B : Nat} {w wr : World} {pb bd bj bx by_ : Nat} {s : JS} (h : Both B w pb bd bj bx by_ s s wr) (hk : Ok s.d) (hT : Tab w) (hBw : w.heap.size ≤ B) (N : Int) (S : ByteArray) (f : Nat) (hf : f ≤ 1) (h0 : (found (s.d.F f)).gen ≠ 0) (h1 : (found (s.d.F (1 - f))).gen = 0) :
    Calls Tryd.prog 14 #[.pointer (some ⟨pb, 0, none⟩), .agg #[.int .i64 4, .int .i64 N, .string S]] wr fun e w' => e = .returned (.bool true) ∧ ∃ jb by_, Both B w pb bd jb bx by_ (opened s.d f (found (s.d.F f))) (opened s.d f (found (s.d.F f))) w' := by
  have C1 : Hid (Calls Tryd.prog 19 #[.pointer (some ⟨pb, 0, none⟩)] (wr.alloc (.cells #[.int .i64 4, .int .i64 N, .string S] 36)) fun e w' => e = .returned (.bool true) ∧ Hid (∃ jb by_, Both B w pb bd jb bx by_ (opened s.d f (found (s.d.F f))) (opened s.d f (found (s.d.F f))) w')) := opens_any (h.trio 4 N S).both hk hT hBw f hf h0 h1
  clear h h0 h1
  go_enter Tryd.func14, Tryd.ntmps14
  go_wp2_with (go_at_call 19; refine C1.out.mono ?_; rintro e w1 ⟨rfl, HB⟩)
  go_ret
  exact ⟨rfl, HB.out⟩

set_option maxHeartbeats 4000000 in
theorem does_crash {B : Nat} {w wr : World} {pb bd bj bx by_ : Nat} {s : JS} (h : Both B w pb bd bj bx by_ s s wr) (hk : Ok s.d) (hT : Tab w) (hBw : w.heap.size ≤ B) (N : Int) (hN : -9223372036854775808 ≤ N ∧ N ≤ 9223372036854775807) (S : ByteArray) (f : Nat) (hf : f ≤ 1)
    (h0 : (found ((crash s.d N.toNat).F f)).gen ≠ 0) (h1 : (found ((crash s.d N.toNat).F (1 - f))).gen = 0) :
    Calls Tryd.prog 14 #[.pointer (some ⟨pb, 0, none⟩), .agg #[.int .i64 3, .int .i64 N, .string S]] wr fun e w' => e = .returned (.bool true) ∧ ∃ jb by_, Both B w pb bd jb bx by_ (opened (crash s.d N.toNat) f (found ((crash s.d N.toNat).F f))) (opened (crash s.d N.toNat) f (found ((crash s.d N.toNat).F f))) w' := by
  have hc := h.trio 3 N S
  obtain ⟨ob, hob⟩ : ∃ ob, ob = wr.heap.size := ⟨_, rfl⟩
  obtain ⟨w0, hw0⟩ : ∃ w0, w0 = wr.alloc (.cells #[.int .i64 3, .int .i64 N, .string S] 36) := ⟨_, rfl⟩
  rw [← hob, ← hw0] at hc
  obtain ⟨s2, hs2⟩ : ∃ s2 : JS, s2 = ⟨crash s.d N.toNat, s.f, s.g, s.n⟩ := ⟨_, rfl⟩
  have HT : Hid (Trio B w pb bd bj bx by_ ob 3 N S s s w0.drew) := hc.below ((Below.refl _ _).drew)
  have C1 : Hid (∀ wa, Hid (Trio B w pb bd bj bx by_ ob 3 N S s s wa) → Calls Tryd.prog 22 #[.pointer (some ⟨bd, 0, none⟩), .int .i64 N] wa fun e w' => e = .returned (.tuple #[]) ∧ w'.cell? ⟨pb, 0, none⟩ = some (.pointer (some ⟨bd, 0, none⟩)) ∧ w'.cell? ⟨pb, 2, none⟩ = some (.pointer (some ⟨bx, 0, none⟩)) ∧ w'.cell? ⟨ob, 1, none⟩ = some (.int .i64 N) ∧ Hid (Trio B w pb bd bj bx by_ ob 3 N S s2 s w'.drew)) := fun wa hA =>
    (hA.out.prog hT hBw (s' := s2) (fun T hJ hG hT' => by rw [hs2]; exact crash_jin N hN hJ hk hG hT')).mono fun e w' ⟨k1, k2⟩ => ⟨k1, k2.pair.c0, k2.pair.c2, k2.box.c1, k2.below ((Below.refl _ _).drew)⟩
  have C2 : Hid (∀ wa, Hid (Trio B w pb bd bj bx by_ ob 3 N S s2 s wa) → Calls Tryd.prog 39 #[.pointer (some ⟨bx, 0, none⟩), .int .i64 N] wa fun e w' => e = .returned (.tuple #[]) ∧ w'.cell? ⟨pb, 0, none⟩ = some (.pointer (some ⟨bd, 0, none⟩)) ∧ w'.cell? ⟨pb, 2, none⟩ = some (.pointer (some ⟨bx, 0, none⟩)) ∧ w'.cell? ⟨ob, 1, none⟩ = some (.int .i64 N) ∧ Hid (Both B w pb bd bj bx by_ s2 s2 w')) := fun wa hA =>
    (Dk.refCrash_any wa bx s.d N hA.out.rj.1 hk hN).mono fun e w' ⟨k1, k2⟩ => by
      have k3 := hA.out.disk k2
      rw [← hs2] at k3
      exact ⟨k1, k3.pair.c0, k3.pair.c2, k3.box.c1, k3.both⟩
  have hd2 : s2.d = crash s.d N.toNat := by rw [hs2]
  rw [← hd2] at h0 h1 ⊢
  have hk2 : Ok s2.d := by rw [hd2]; exact ok_crash _ _ hk
  have C3 : Hid (∀ wa, Hid (Both B w pb bd bj bx by_ s2 s2 wa) → Calls Tryd.prog 19 #[.pointer (some ⟨pb, 0, none⟩)] wa fun e w' => e = .returned (.bool true) ∧ Hid (∃ jb by_, Both B w pb bd jb bx by_ (opened s2.d f (found (s2.d.F f))) (opened s2.d f (found (s2.d.F f))) w')) := fun wa hA => opens_any hA.out hk2 hT hBw f hf h0 h1
  have HW0 : Hid (w0 = wr.alloc (.cells #[.int .i64 3, .int .i64 N, .string S] 36)) := hw0
  have HOB : Hid (ob = wr.heap.size) := hob
  have p0 := hc.pair.c0
  have p2 := hc.pair.c2
  have o0 := hc.box.c0
  have o1 := hc.box.c1
  clear h hc hw0 hob h0 h1 hs2 hd2
  go_enter Tryd.func14, Tryd.ntmps14
  go_wp2_with fail
  rw [← HW0.out, ← HOB.out]
  clear HW0
  go_region_held3 (fun w' => w'.cell? ⟨pb, 0, none⟩ = some (.pointer (some ⟨bd, 0, none⟩)) ∧ w'.cell? ⟨pb, 2, none⟩ = some (.pointer (some ⟨bx, 0, none⟩)) ∧ w'.cell? ⟨ob, 1, none⟩ = some (.int .i64 N)) (go_keep) (first | (go_at_call 22; refine (C1.out _ HT).mono ?_; rintro e w1 ⟨rfl, m0, m1, m2, HT2⟩))
  clear C1
  go_wp2_with fail
  go_region_held3 (fun w' => w'.cell? ⟨pb, 0, none⟩ = some (.pointer (some ⟨bd, 0, none⟩)) ∧ w'.cell? ⟨pb, 2, none⟩ = some (.pointer (some ⟨bx, 0, none⟩)) ∧ w'.cell? ⟨ob, 1, none⟩ = some (.int .i64 N)) (go_keep) (first | (go_at_call 39; refine (C2.out _ HT2).mono ?_; rintro e w2 ⟨rfl, n0, n1, n2, HB2⟩))
  clear C2
  go_wp2_with (go_at_call 19; refine (C3.out _ HB2).mono ?_; rintro e w3 ⟨rfl, HB⟩)
  go_ret
  exact ⟨rfl, HB.out⟩

set_option maxHeartbeats 4000000 in
theorem does_none {B : Nat} {w wr : World} {pb bd bj bx by_ : Nat} {s : JS} (h : Both B w pb bd bj bx by_ s s wr) (hk : JOk s) (hT : Tab w) (hBw : w.heap.size ≤ B) (D N : Int) (S : ByteArray) (hD : D ≠ 0 ∧ D ≠ 1 ∧ D ≠ 2 ∧ D ≠ 3 ∧ D ≠ 4) :
    Calls Tryd.prog 14 #[.pointer (some ⟨pb, 0, none⟩), .agg #[.int .i64 D, .int .i64 N, .string S]] wr fun e w' => e = .returned (.bool true) ∧ Both B w pb bd bj bx by_ s s w' := by
  have hc := (h.trio D N S).both
  obtain ⟨w0, hw0⟩ : ∃ w0, w0 = wr.alloc (.cells #[.int .i64 D, .int .i64 N, .string S] 36) := ⟨_, rfl⟩
  rw [← hw0] at hc
  have HB0 : Hid (Both B w pb bd bj bx by_ s s w0.drew) := hc.below ((Below.refl _ _).drew)
  have C3 : Hid (∀ wa, Hid (Both B w pb bd bj bx by_ s s wa) → Calls Tryd.prog 12 #[.pointer (some ⟨pb, 0, none⟩)] wa fun e w' => e = .returned (.bool true) ∧ w'.cell? ⟨pb, 0, none⟩ = some (.pointer (some ⟨bd, 0, none⟩)) ∧ w'.cell? ⟨pb, 2, none⟩ = some (.pointer (some ⟨bx, 0, none⟩)) ∧ Hid (Both B w pb bd bj bx by_ s s w')) := fun wa hA =>
    (statp_any hA.out hk hT hBw).mono fun e w' ⟨k1, k2⟩ => ⟨k1, k2.pair.c0, k2.pair.c2, k2⟩
  have C4 : Hid (∀ wa, Hid (Both B w pb bd bj bx by_ s s wa) → Calls Tryd.prog 13 #[.pointer (some ⟨bd, 0, none⟩), .pointer (some ⟨bx, 0, none⟩)] wa fun e w' => e = .returned (.bool true) ∧ w'.cell? ⟨pb, 0, none⟩ = some (.pointer (some ⟨bd, 0, none⟩)) ∧ w'.cell? ⟨pb, 2, none⟩ = some (.pointer (some ⟨bx, 0, none⟩)) ∧ Hid (Both B w pb bd bj bx by_ s s w')) := fun wa hA =>
    (hA.out.alike hk).mono fun e w' ⟨k1, k2⟩ => ⟨k1, k2.pair.c0, k2.pair.c2, k2⟩
  have HW0 : Hid (w0 = wr.alloc (.cells #[.int .i64 D, .int .i64 N, .string S] 36)) := hw0
  have p0 := hc.pair.c0
  have p2 := hc.pair.c2
  have d0 : (D == 0) = false := by rw [beq_eq_false_iff_ne]; omega
  have d1 : (D == 1) = false := by rw [beq_eq_false_iff_ne]; omega
  have d2 : (D == 2) = false := by rw [beq_eq_false_iff_ne]; omega
  have d3 : (D == 3) = false := by rw [beq_eq_false_iff_ne]; omega
  have d4 : (D == 4) = false := by rw [beq_eq_false_iff_ne]; omega
  clear h hc hw0
  go_enter Tryd.func14, Tryd.ntmps14
  go_wp2_with fail
  rw [← HW0.out]
  clear HW0
  go_region_held3 (fun w' => w'.cell? ⟨pb, 0, none⟩ = some (.pointer (some ⟨bd, 0, none⟩)) ∧ w'.cell? ⟨pb, 2, none⟩ = some (.pointer (some ⟨bx, 0, none⟩))) (go_keep) (first | (go_at_call 12; refine (C3.out _ HB0).mono ?_; rintro e w3 ⟨rfl, q0, q2, HB3⟩) | (go_at_call 13; refine (C4.out _ HB3).mono ?_; rintro e w4 ⟨rfl, r0, r2, HB4⟩))
  go_wp2_with fail
  go_ret
  exact ⟨rfl, HB4.out⟩
end Go.Proofs.YtahkecdlibkokaaDoor

/- The walk of the law JournalScripts. -/
set_option linter.unusedVariables false
set_option maxRecDepth 100000
namespace Go.Proofs.YtahkecdlibkokaaDoor
open Go.RowKit
open JournalMath DiskMath
open Fr (Tab tab_below tab_drewN)
open Dk (PDisk RDisk ROk DIn Chg fp fp_lt rdisk_below rdisk_chg chg_below pdisk_below pdisk_chg)

/-- A pair in good order. -/
def Fine (B : Nat) (w : World) (pb bd bx : Nat) (wr : World) : Prop := ∃ bj by_ s, Both B w pb bd bj bx by_ s s wr ∧ JOk s ∧ ∃ sn rs, Good s sn rs

theorem does_any {B : Nat} {w wr : World} {pb bd bx : Nat} (h : Fine B w pb bd bx wr) (hT : Tab w) (hBw : w.heap.size ≤ B) (o : JOp) (ho : OpOk o) :
    Calls Tryd.prog 14 #[.pointer (some ⟨pb, 0, none⟩), .agg #[.int .i64 o.Do, .int .i64 o.N, .string o.S]] wr fun e w' => e = .returned (.bool true) ∧ Fine B w pb bd bx w' := by
  obtain ⟨bj, by_, s, hB, hk, sn, rs, hg⟩ := h
  obtain ⟨_, hN, hS⟩ := ho
  have hS' : o.S.size ≤ 140737488355328 := by omega
  by_cases d0 : o.Do = 0
  · rw [d0]
    exact (does_add hB hk hT hBw o.N o.S hS').mono fun e w' ⟨k1, k2⟩ => ⟨k1, bj, by_, _, k2, jok_add s _ hk, sn, good_add s sn _ rs hg hk⟩
  by_cases d1 : o.Do = 1
  · rw [d1]
    exact (does_syn hB hk hT hBw o.N o.S hS').mono fun e w' ⟨k1, k2⟩ => ⟨k1, bj, by_, _, k2, jok_syn s hk, sn, rs, good_syn s sn rs hg⟩
  by_cases d2 : o.Do = 2
  · rw [d2]
    exact (does_cmp hB hk hT hBw o.N o.S hS').mono fun e w' ⟨k1, k2⟩ => ⟨k1, bj, by_, _, k2, jok_cmp s _ hk, good_cmp s sn _ rs hg hk⟩
  by_cases d3 : o.Do = 3
  · rw [d3]
    obtain ⟨g0, g1⟩ := good_crash s sn rs hg hk o.N.toNat
    have hok := ok_crash s.d o.N.toNat hk.ok
    exact (does_crash hB hk.ok hT hBw o.N hN o.S s.f hk.file g0 g1).mono fun e w' ⟨k1, jb, by', k2⟩ => ⟨k1, jb, by', _, k2, jok_opened _ s.f hok hk.file, _, _, good_opened _ s.f hk.file hok g0⟩
  by_cases d4 : o.Do = 4
  · rw [d4]
    obtain ⟨g0, g1⟩ := good_found s sn rs hg hk
    exact (does_open hB hk.ok hT hBw o.N o.S s.f hk.file g0 g1).mono fun e w' ⟨k1, jb, by', k2⟩ => ⟨k1, jb, by', _, k2, jok_opened _ s.f hk.ok hk.file, _, _, good_opened _ s.f hk.file hk.ok g0⟩
  exact (does_none hB hk hT hBw o.Do o.N o.S ⟨d0, d1, d2, d3, d4⟩).mono fun e w' ⟨k1, k2⟩ => ⟨k1, bj, by_, s, k2, hk, sn, rs, hg⟩

theorem Quad.both {B : Nat} {w w1 : World} {bd bj bx by_ : Nat} {s : JS} (h : Quad B w bd bj bx by_ s w1) (hB : B ≤ w1.heap.size) :
    Both B w w1.heap.size bd bj bx by_ s s (w1.alloc (.cells #[.pointer (some ⟨bd, 0, none⟩), .pointer (some ⟨bj, 0, none⟩), .pointer (some ⟨bx, 0, none⟩), .pointer (some ⟨by_, 0, none⟩)] 28)) := by
  have hb : Below w1.heap.size w1 (w1.alloc (.cells #[.pointer (some ⟨bd, 0, none⟩), .pointer (some ⟨bj, 0, none⟩), .pointer (some ⟨bx, 0, none⟩), .pointer (some ⟨by_, 0, none⟩)] 28)) := (Below.refl _ _).alloc (Nat.le_refl _) _
  have hz := World.size_alloc w1 (.cells #[.pointer (some ⟨bd, 0, none⟩), .pointer (some ⟨bj, 0, none⟩), .pointer (some ⟨bx, 0, none⟩), .pointer (some ⟨by_, 0, none⟩)] 28)
  have hP : PB (w1.alloc (.cells #[.pointer (some ⟨bd, 0, none⟩), .pointer (some ⟨bj, 0, none⟩), .pointer (some ⟨bx, 0, none⟩), .pointer (some ⟨by_, 0, none⟩)] 28)) w1.heap.size bd bj bx by_ := ⟨by simp, by simp, by simp, by simp, fun j => by rw [World.frozen?, heap_alloc_new w1 _]; simp⟩
  obtain ⟨V, g1, g2, g3, g4, g5, g6, g7, g8, g9, g10, g11, g12⟩ := h.below hb hB
  obtain ⟨V', i1, i2, i3, i4, i5, i6, i7, i8, i9, i10, i11, i12⟩ := h
  have q1 : bx < w1.heap.size := i3.lt
  have q2 : by_ < w1.heap.size := i4.lt
  have q3 : bj < w1.heap.size := i2.lt
  refine ⟨⟨V', pdisk_below i1 hb, g2, i6, fun k hk => i5 k (hk.elim Or.inl (fun e => Or.inr (Or.inl e))), fun k hk => ?_, g12⟩, ⟨g3, g4, g11⟩, hP, by omega, by omega, i5 bx (Or.inr (Or.inr (Or.inl rfl))), i5 by_ (Or.inr (Or.inr (Or.inr rfl))), hB, by omega⟩
  rcases hk with rfl | rfl | rfl
  · exact ⟨by omega, fun e => e.elim i7 (fun e => i9 e.symm)⟩
  · exact ⟨by omega, fun e => e.elim i8 (fun e => i10 e.symm)⟩
  · exact ⟨by omega, fun e => e.elim (fun e => by have := fp_lt i1 _ e; omega) (fun e => by omega)⟩

set_option maxHeartbeats 4000000 in
theorem journalScripts_walk (room : Int) (hroom : -9223372036854775808 ≤ room ∧ room ≤ 9223372036854775807) (l : List JOp) (hl : ∀ o ∈ l, OpOk o) (hll : l.length ≤ 140737488355328) (v : Value) (w : World) (hv : ORow w v l) (hT : Tab w) :
    Calls Tryd.prog 3 #[.int .i64 room, v] w fun e w' => e = .returned (.bool true) ∧ Below w.heap.size w w' := by
  obtain ⟨q, hq⟩ : ∃ q, q = pick room 6000 := ⟨_, rfl⟩
  have hql : q < 6000 := by rw [hq]; exact pick_lt room 6000 (by decide)
  have C0 : Hid (Calls Tryd.prog 10 #[.int .i64 room, .int .i64 6000] w fun e w' => e = .returned (.int .i64 (q : Int)) ∧ w' = w) := by
    show Calls _ _ _ _ _
    rw [hq]; exact pick_any room 6000 (by decide) (by decide) hroom w
  have C1 : Hid (Calls Tryd.prog 9 #[.int .i64 (20 + (q : Int))] w fun e w' => ∃ bd bj bx by_, e = .returned (.tuple #[.agg #[.pointer (some ⟨bd, 0, none⟩), .pointer (some ⟨bj, 0, none⟩), .pointer (some ⟨bx, 0, none⟩), .pointer (some ⟨by_, 0, none⟩)], .bool true]) ∧ Hid (Fine w.heap.size w w'.heap.size bd bx (w'.alloc (.cells #[.pointer (some ⟨bd, 0, none⟩), .pointer (some ⟨bj, 0, none⟩), .pointer (some ⟨bx, 0, none⟩), .pointer (some ⟨by_, 0, none⟩)] 28)))) := by
    have h9 := made_any (20 + q) (by omega) (by omega) w hT
    rw [Int.natCast_add] at h9
    exact h9.mono fun e w' ⟨bd, bj, bx, by_, k1, k2, k3⟩ => ⟨bd, bj, bx, by_, k1, bj, by_, _, k2.both k3, jok_begun _ (by omega) (by omega), _, _, good_begun _⟩
  have C2 : Hid (∀ pb bd bx wa, Hid (Fine w.heap.size w pb bd bx wa) → Calls Tryd.prog 11 #[] wa fun e w' => e = .returned (.bool true) ∧ Hid (Fine w.heap.size w pb bd bx w')) := fun pb bd bx wa hA => by
    obtain ⟨bj, by_, s, hB, hr⟩ := hA.out
    exact (begun_any wa (tab_below hT hB.sole.bel)).mono fun e w' ⟨k1, k2⟩ => ⟨k1, bj, by_, s, hB.below k2, hr⟩
  have C3 : Hid (∀ pb bd bx wa, Hid (Fine w.heap.size w pb bd bx wa) → Calls Tryd.prog 12 #[.pointer (some ⟨pb, 0, none⟩)] wa fun e w' => e = .returned (.bool true) ∧ w'.cell? ⟨pb, 0, none⟩ = some (.pointer (some ⟨bd, 0, none⟩)) ∧ w'.cell? ⟨pb, 2, none⟩ = some (.pointer (some ⟨bx, 0, none⟩)) ∧ Hid (Fine w.heap.size w pb bd bx w')) := fun pb bd bx wa hA => by
    obtain ⟨bj, by_, s, hB, hk, hr⟩ := hA.out
    exact (statp_any hB hk hT (Nat.le_refl _)).mono fun e w' ⟨k1, k2⟩ => ⟨k1, k2.pair.c0, k2.pair.c2, bj, by_, s, k2, hk, hr⟩
  have C4 : Hid (∀ pb bd bx wa, Hid (Fine w.heap.size w pb bd bx wa) → Calls Tryd.prog 13 #[.pointer (some ⟨bd, 0, none⟩), .pointer (some ⟨bx, 0, none⟩)] wa fun e w' => e = .returned (.bool true) ∧ Hid (Fine w.heap.size w pb bd bx w')) := fun pb bd bx wa hA => by
    obtain ⟨bj, by_, s, hB, hk, hr⟩ := hA.out
    exact (hB.alike hk).mono fun e w' ⟨k1, k2⟩ => ⟨k1, bj, by_, s, k2, hk, hr⟩
  have C5 : Hid (∀ pb bd bx wa, Hid (Fine w.heap.size w pb bd bx wa) → ∀ o : JOp, OpOk o → Calls Tryd.prog 14 #[.pointer (some ⟨pb, 0, none⟩), .agg #[.int .i64 o.Do, .int .i64 o.N, .string o.S]] wa fun e w' => e = .returned (.bool true) ∧ Hid (Fine w.heap.size w pb bd bx w')) := fun pb bd bx wa hA o ho => does_any hA.out hT (Nat.le_refl _) o ho
  have HV : Hid (ORow w v l) := hv
  have HL : Hid (∀ o ∈ l, OpOk o) := hl
  obtain ⟨ao, cap, rfl, _⟩ := hv
  clear hq hl hT
  go_enter Tryd.func3, Tryd.ntmps3
  go_wp2_with fail
  refine C0.out.mono ?_
  rintro e w0 ⟨rfl, hw0⟩
  rw [hw0]
  clear hw0 C0 w0
  go_wp2_with fail
  refine C1.out.mono ?_
  rintro e w1 ⟨bd, bj, bx, by_, rfl, HF⟩
  clear C1
  go_wp2_with (first | (go_at_call 11; refine (C2.out _ _ _ _ HF).mono ?_; rintro e w2 ⟨rfl, HF2⟩) | (go_at_call 12; refine (C3.out _ _ _ _ HF2).mono ?_; rintro e w3 ⟨rfl, m0, m2, HF3⟩) | (go_at_call 13; refine (C4.out _ _ _ _ HF3).mono ?_; rintro e w4 ⟨rfl, HF4⟩))
  clear C2 C3 C4 HF HF2 HF3
  go_loopw [7] (fun i wr => ∃ k : Nat, k ≤ l.length ∧ i = .int .i64 k ∧ Hid (Fine w.heap.size w w1.heap.size bd bx wr)) (fun i _ => l.length - (intOf i).toNat)
  case atStart => exact ⟨0, Nat.zero_le _, rfl, HF4⟩
  case round =>
    obtain ⟨k, hk, rfl, HR⟩ := hrel
    by_cases hlt : k < l.length
    · obtain ⟨ao', cap', hv', hrow⟩ := HV.out
      obtain ⟨rfl, rfl⟩ : ao = ao' ∧ cap = cap' := by simpa using hv'
      obtain ⟨g, o, rfl, hg, c0, c1, c2⟩ := hrow k hlt
      have hbel : Below w.heap.size w wr := by
        obtain ⟨_, _, _, hB, _⟩ := HR.out
        exact hB.sole.bel
      have e0 := (hbel.cell (p := ⟨g, o + k * 3, none⟩) hg).trans c0
      have e1 := (hbel.cell (p := ⟨g, o + k * 3 + 1, none⟩) hg).trans c1
      have e2 := (hbel.cell (p := ⟨g, o + k * 3 + 2, none⟩) hg).trans c2
      have C6 := C5.out _ _ _ _ HR l[k] (HL.out _ (List.getElem_mem hlt))
      generalize l[k] = x at *
      obtain ⟨D, N, S⟩ := x
      have HC6 : Hid (Calls Tryd.prog 14 #[.pointer (some ⟨w1.heap.size, 0, none⟩), .agg #[.int .i64 D, .int .i64 N, .string S]] wr fun e w' => e = .returned (.bool true) ∧ Hid (Fine w.heap.size w w1.heap.size bd bx w')) := C6
      have i1 : (k : Int) < (l.length : Int) := by omega
      clear C5 C6 hrow hv' c0 c1 c2 hbel
      go_wp2_with (go_at_call 14; refine HC6.out.mono ?_; rintro e w5 ⟨rfl, HF5⟩)
      exact ⟨⟨k + 1, by omega, by go_num, HF5⟩, by simp [intOf]; omega⟩
    · clear C5
      go_wp2
      go_ret
      obtain ⟨_, _, _, hB, _⟩ := HR.out
      exact ⟨rfl, hB.sole.bel⟩
end Go.Proofs.YtahkecdlibkokaaDoor

/- The walk of the laws' 'opens' where there is no journal. -/
set_option linter.unusedVariables false
set_option maxRecDepth 100000
namespace Go.Proofs.YtahkecdlibkokaaDoor
open Go.RowKit
open JournalMath DiskMath
open Fr (Tab tab_below tab_drewN)
open Dk (PDisk RDisk ROk DIn Chg fp fp_lt rdisk_below rdisk_chg chg_below pdisk_below pdisk_chg)

theorem Half.below {B : Nat} {w wr w' : World} {pb bd bx : Nat} {V : Nat → Value} {d : DS} (h : Half B w pb bd bx V d wr) (hb : Below wr.heap.size wr w') : Half B w pb bd bx V d w' :=
  ⟨pdisk_below h.pd hb, rdisk_below h.rd hb, h.pair.block (hb.block _ (block_lt_of_cell h.pair.c0)), h.fl, h.fx, h.fpb, h.nx, h.lx, h.lp, Nat.le_trans h.lw hb.size, h.bel.trans (hb.mono h.lw)⟩

set_option maxHeartbeats 4000000 in
theorem opens_none {B : Nat} {w wr : World} {pb bd bx : Nat} {V : Nat → Value} {d : DS} (h : Half B w pb bd bx V d wr) (hk : Ok d) (hT : Tab w) (hBw : w.heap.size ≤ B) (h0 : (found (d.F 0)).gen = 0) (h1 : (found (d.F 1)).gen = 0) :
    Calls Tryd.prog 19 #[.pointer (some ⟨pb, 0, none⟩)] wr fun e w' => e = .returned (.bool true) ∧ w'.cell? ⟨pb, 3, none⟩ = some (.pointer none) ∧ Below B w w' := by
  have hT1 : Tab wr := fun i hi => by
    have h0 := hT i hi
    have hlt := block_lt_of_cell h0
    rw [h.bel.cell (p := ⟨0, i, none⟩) (by simp only at hlt ⊢; omega)]
    exact h0
  have hG : 0 < wr.heap.size ∧ ¬ fp bd V 0 := ⟨tab_lt hT1, fun hf => by have := h.fl _ hf; have := tab_lt hT; omega⟩
  have hD : DIn (fun k => k < wr.heap.size ∧ ¬ fp bd V k) wr bd d wr := ⟨V, h.pd, fun k hk _ ht => ht.2 hk, Chg.refl _ _⟩
  have C1 : Hid (Calls Tryd.prog 18 #[.pointer (some ⟨bd, 0, none⟩)] wr fun e w' => e = .returned (.tuple #[.pointer none, .string ⟨#[]⟩, .slice none 0 0, .int .i64 61]) ∧ w'.cell? ⟨pb, 2, none⟩ = some (.pointer (some ⟨bx, 0, none⟩)) ∧ Hid (Half B w pb bd bx V d w')) := (open_none hD hk hG hT1 h0 h1).mono fun e w' ⟨k1, k2⟩ => ⟨k1, (h.below k2).pair.c2, h.below k2⟩
  have C2 : Hid (∀ w1, Hid (Half B w pb bd bx V d w1) → Calls Tryd.prog 49 #[.pointer (some ⟨bx, 0, none⟩)] w1 fun e w' => e = .returned (.tuple #[.pointer none, .string ⟨#[]⟩, .slice none 0 0, .int .i64 61]) ∧ Hid (Half B w pb bd bx V d w')) := fun w1 hA =>
    (refOpen_none hA.out.rd hk h0 h1).mono fun e w' ⟨k1, k2⟩ => ⟨k1, hA.out.below k2⟩
  have C3 : Hid (∀ w2, Hid (Half B w pb bd bx V d w2) → Calls Tryd.prog 23 #[.slice none 0 0, .slice none 0 0] w2.drew fun e w' => e = .returned (.bool true) ∧ w'.cell? ⟨pb, 0, none⟩ = some (.pointer (some ⟨bd, 0, none⟩)) ∧ w'.cell? ⟨pb, 2, none⟩ = some (.pointer (some ⟨bx, 0, none⟩)) ∧ Hid (Half B w pb bd bx V d w')) := fun w2 hM =>
    (same_true [] (by simp) (.slice none 0 0) (.slice none 0 0) w2.drew (srow_own (World.ownsRow_nil _ 0 9 1)) (srow_own (World.ownsRow_nil _ 0 9 1))).mono fun e w' ⟨k1, q, k2⟩ => by
      subst k2
      have := hM.out.below (below_drewN ((Below.refl _ _).drew) q)
      exact ⟨k1, this.pair.c0, this.pair.c2, this⟩
  have C4 : Hid (∀ w2, Hid (Half B w pb bd bx V d w2) → Calls Tryd.prog 13 #[.pointer (some ⟨bd, 0, none⟩), .pointer (some ⟨bx, 0, none⟩)] w2 fun e w' => e = .returned (.bool true) ∧ w'.cell? ⟨pb, 0, none⟩ = some (.pointer (some ⟨bd, 0, none⟩)) ∧ w'.cell? ⟨pb, 2, none⟩ = some (.pointer (some ⟨bx, 0, none⟩)) ∧ Hid (Half B w pb bd bx V d w')) := fun w2 hM =>
    (alike_any w2 bd bx V d hM.out.pd hM.out.rd hk).mono fun e w' ⟨k1, k2⟩ => ⟨k1, (hM.out.below k2).pair.c0, (hM.out.below k2).pair.c2, hM.out.below k2⟩
  have C5 : Hid (∀ w2, Hid (Half B w pb bd bx V d w2) → Calls Tryd.prog 50 #[.slice none 0 0] w2 fun e w' => e = .returned (.tuple #[]) ∧ (∃ u, w'.cell? ⟨pb, 1, none⟩ = some u) ∧ (∃ u, w'.cell? ⟨pb, 3, none⟩ = some u) ∧ w'.frozen? ⟨pb, 1, none⟩ = false ∧ w'.frozen? ⟨pb, 3, none⟩ = false ∧
      Hid (((w'.setCell ⟨pb, 1, none⟩ (.pointer none)).setCell ⟨pb, 3, none⟩ (.pointer none)).cell? ⟨pb, 3, none⟩ = some (.pointer none) ∧ Below B w ((w'.setCell ⟨pb, 1, none⟩ (.pointer none)).setCell ⟨pb, 3, none⟩ (.pointer none)))) := fun w2 hM =>
    (filled_any w2 B 0 (.slice none 0 0) [] (World.ownsRow_nil _ _ _ _) (by decide)).mono fun e w' ⟨k1, k2⟩ => by
      have hb : Below w2.heap.size w2 w' := ⟨k2.os, k2.tape, k2.output, k2.size, fun k hk => k2.block k hk (fun e => by cases e)⟩
      have hh := hM.out.below hb
      obtain ⟨u3, c3⟩ := hh.pair.c3
      exact ⟨k1, hh.pair.c1, hh.pair.c3, hh.pair.free 1, hh.pair.free 3, World.cell?_setCell_same _ _ _ (by rw [World.cell?_setCell_other _ _ _ _ (by simp)]; exact c3), (hh.bel.setCell (p := ⟨pb, 1, none⟩) hh.lp _).setCell (p := ⟨pb, 3, none⟩) hh.lp _⟩
  have c0 := h.pair.c0
  clear h h0 h1 hD hG hT1
  go_enter Tryd.func19, Tryd.ntmps19
  go_wp2_with (first | (go_at_call 18; refine C1.out.mono ?_; rintro e w1 ⟨rfl, m2, HA⟩) | (go_at_call 49; refine (C2.out _ (by assumption)).mono ?_; rintro e w2 ⟨rfl, HM⟩))
  have c0' := HM.out.pair.c0
  have c2' := HM.out.pair.c2
  clear C1 C2 HA
  go_region_held3 (fun w' => w'.cell? ⟨pb, 0, none⟩ = some (.pointer (some ⟨bd, 0, none⟩)) ∧ w'.cell? ⟨pb, 2, none⟩ = some (.pointer (some ⟨bx, 0, none⟩))) (go_keep) (first | (go_at_call 23; refine (C3.out _ HM).mono ?_; rintro e w3 ⟨rfl, m0, m2, HM3⟩) | (go_at_call 13; refine (C4.out _ HM3).mono ?_; rintro e w4 ⟨rfl, n0, n2, HM4⟩))
  clear C3 C4
  go_wp2_with (first | (go_at_call 50; refine (C5.out _ HM4).mono ?_; rintro e w5 ⟨rfl, ⟨u1, p1⟩, ⟨u3, p3⟩, f1, f3, HB⟩))
  go_ret
  exact ⟨rfl, HB.out⟩
end Go.Proofs.YtahkecdlibkokaaDoor

/- The walk of the law JournalOpens. -/
set_option linter.unusedVariables false
set_option maxRecDepth 100000
namespace Go.Proofs.YtahkecdlibkokaaDoor
open Go.RowKit
open JournalMath DiskMath
open Fr (Tab tab_below tab_drewN)
open Dk (PDisk RDisk ROk DIn Chg fp fp_lt rdisk_below rdisk_chg chg_below pdisk_below pdisk_chg)

/-- Both disks, and a new pair of them. -/
theorem Duo.half {B : Nat} {w w1 : World} {bd bx : Nat} {d : DS} (h : Duo B w bd bx d d w1) (hB : B ≤ w1.heap.size) :
    ∃ V, Half B w w1.heap.size bd bx V d (w1.alloc (.cells #[.pointer (some ⟨bd, 0, none⟩), .pointer none, .pointer (some ⟨bx, 0, none⟩), .pointer none] 28)) := by
  have hb : Below w1.heap.size w1 (w1.alloc (.cells #[.pointer (some ⟨bd, 0, none⟩), .pointer none, .pointer (some ⟨bx, 0, none⟩), .pointer none] 28)) := (Below.refl _ _).alloc (Nat.le_refl _) _
  obtain ⟨V, h1, h2, h3, h4, h5⟩ := h
  have q1 : bx < w1.heap.size := h2.lt
  refine ⟨V, pdisk_below h1 hb, rdisk_below h2 hb, ⟨by simp, ⟨.pointer none, by simp⟩, by simp, ⟨.pointer none, by simp⟩, fun j => by rw [World.frozen?, heap_alloc_new w1 _]; simp⟩, fun k hk => h3 k (Or.inl hk), h4, fun hf => by have := fp_lt h1 _ hf; omega, by omega, h3 bx (Or.inr rfl), hB, ?_, h5.trans (hb.mono hB)⟩
  rw [World.size_alloc]
  omega

set_option maxHeartbeats 4000000 in
theorem journalOpens_walk (room : Int) (hroom : -9223372036854775808 ≤ room ∧ room ≤ 9223372036854775807) (im : List Im) (him : ∀ x ∈ im, x.Safe.size ≤ 140737488351232 ∧ x.More.size ≤ 140737488351232) (himl : im.length ≤ 140737488355328) (vi : Value)
    (l : List JOp) (hl : ∀ o ∈ l, OpOk o) (hll : l.length ≤ 140737488355328) (v : Value) (w : World) (hi : IRow w vi im) (hv : ORow w v l) (hT : Tab w) :
    Calls Tryd.prog 5 #[.int .i64 room, vi, v] w fun e w' => e = .returned (.bool true) ∧ Below w.heap.size w w' := by
  have C0 : Hid (Calls Tryd.prog 15 #[.int .i64 room, vi] w fun e w' => LaidOk w e w') := laid_any room hroom im him himl vi w hi
  have CB : Hid (∀ wa, Below w.heap.size w wa → Calls Tryd.prog 11 #[] wa fun e w' => e = .returned (.bool true) ∧ Below wa.heap.size wa w') := fun wa hb => begun_any wa (tab_below hT hb)
  have HV : Hid (ORow w v l) := hv
  have HL : Hid (∀ o ∈ l, OpOk o) := hl
  have HT : Hid (Tab w) := hT
  obtain ⟨ao, cap, rfl, _⟩ := hv
  obtain ⟨io, ic, rfl, _⟩ := hi
  clear hl hT him
  go_enter Tryd.func5, Tryd.ntmps5
  go_wp2_with fail
  refine C0.out.mono ?_
  rintro e w1 ⟨bd, bx, d, rfl, hk, hD, hs⟩
  have HD : Hid (Duo w.heap.size w bd bx d d w1) := hD
  have HK : Hid (Ok d) := hk
  have HS : Hid (w.heap.size ≤ w1.heap.size) := hs
  clear C0 hD hk hs
  go_wp2_with fail
  refine (CB.out _ HD.out.bel).mono ?_
  rintro e w2 ⟨rfl, hb2⟩
  have HD2 : Hid (Duo w.heap.size w bd bx d d w2) := HD.out.below hb2 HS.out
  have HS2 : Hid (w.heap.size ≤ w2.heap.size) := Nat.le_trans HS.out hb2.size
  clear hb2 HD HS CB
  go_wp2_with fail
  refine (open_nil _).mono ?_
  rintro e w3 ⟨rfl, hw⟩
  rw [hw]
  clear hw w3
  obtain ⟨V, hH⟩ := HD2.out.half HS2.out
  obtain ⟨pb, hpb⟩ : ∃ pb, pb = w2.heap.size := ⟨_, rfl⟩
  obtain ⟨w3, hw3⟩ : ∃ w3, w3 = w2.alloc (.cells #[.pointer (some ⟨bd, 0, none⟩), .pointer none, .pointer (some ⟨bx, 0, none⟩), .pointer none] 28) := ⟨_, rfl⟩
  rw [← hpb, ← hw3] at hH
  have HW3 : Hid (w3 = w2.alloc (.cells #[.pointer (some ⟨bd, 0, none⟩), .pointer none, .pointer (some ⟨bx, 0, none⟩), .pointer none] 28)) := hw3
  have HPB : Hid (pb = w2.heap.size) := hpb
  have HH : Hid (Half w.heap.size w pb bd bx V d w3) := hH
  clear hH hpb hw3 HD2 HS2
  by_cases hn : (found (d.F 0)).gen = 0 ∧ (found (d.F 1)).gen = 0
  · have C6 : Hid (Calls Tryd.prog 19 #[.pointer (some ⟨pb, 0, none⟩)] w3 fun e w' => e = .returned (.bool true) ∧ w'.cell? ⟨pb, 3, none⟩ = some (.pointer none) ∧ Below w.heap.size w w') := opens_none HH.out HK.out HT.out (Nat.le_refl _) hn.1 hn.2
    clear hn HH HK HT HL
    go_wp2_with fail
    rw [← HW3.out, ← HPB.out]
    refine C6.out.mono ?_
    rintro e w4 ⟨rfl, c3, hb4⟩
    have HB4 : Hid (Below w.heap.size w w4) := hb4
    clear C6 hb4 HW3 HPB HV
    go_wp2_with fail
    go_loop [15] (fun i => i = .int .i64 0) (fun _ => 0)
    case atStart => rfl
    case round =>
      subst hrel
      by_cases hz : 0 < l.length
      · have z1 : (0 : Int) < (l.length : Int) := by omega
        go_wp2
        go_ret
        exact ⟨rfl, HB4.out⟩
      · have z1 : ¬ (0 : Int) < (l.length : Int) := by omega
        have z2 : decide ((0 : Int) < (l.length : Int)) = false := by simpa using z1
        go_wp2
        go_ret
        exact ⟨rfl, HB4.out⟩
  · have C6 : Hid (Calls Tryd.prog 19 #[.pointer (some ⟨pb, 0, none⟩)] w3 fun e w' => e = .returned (.bool true) ∧ Hid (Fine w.heap.size w pb bd bx w')) := by
      by_cases hlt : (found (d.F 0)).gen < (found (d.F 1)).gen
      · have h0 : (found (d.F 1)).gen ≠ 0 := by omega
        exact (opens_half HH.out HK.out HT.out (Nat.le_refl _) 1 (Or.inr ⟨rfl, hlt⟩)).mono fun e w' ⟨k1, jb, by_, k2⟩ => ⟨k1, jb, by_, _, k2, jok_opened d 1 HK.out (by decide), _, _, good_opened d 1 (by decide) HK.out h0⟩
      · have h0 : (found (d.F 0)).gen ≠ 0 := by omega
        exact (opens_half HH.out HK.out HT.out (Nat.le_refl _) 0 (Or.inl ⟨rfl, h0, hlt⟩)).mono fun e w' ⟨k1, jb, by_, k2⟩ => ⟨k1, jb, by_, _, k2, jok_opened d 0 HK.out (by decide), _, _, good_opened d 0 (by decide) HK.out h0⟩
    have C5 : Hid (∀ wa, Hid (Fine w.heap.size w pb bd bx wa) → ∀ o : JOp, OpOk o → Calls Tryd.prog 14 #[.pointer (some ⟨pb, 0, none⟩), .agg #[.int .i64 o.Do, .int .i64 o.N, .string o.S]] wa fun e w' => e = .returned (.bool true) ∧ Hid (Fine w.heap.size w pb bd bx w')) := fun wa hA o ho => does_any hA.out HT.out (Nat.le_refl _) o ho
    clear hn HH HK HT
    go_wp2_with fail
    rw [← HW3.out, ← HPB.out]
    refine C6.out.mono ?_
    rintro e w4 ⟨rfl, HF⟩
    clear C6 HW3 HPB
    go_wp2_with fail
    go_loopw [15] (fun i wr => ∃ k : Nat, k ≤ l.length ∧ i = .int .i64 k ∧ Hid (Fine w.heap.size w pb bd bx wr)) (fun i _ => l.length - (intOf i).toNat)
    case atStart => exact ⟨0, Nat.zero_le _, rfl, HF⟩
    case round =>
      obtain ⟨k, hk, rfl, HR⟩ := hrel
      have hbel : Below w.heap.size w wr := by
        obtain ⟨_, _, _, hB, _⟩ := HR.out
        exact hB.sole.bel
      have HBEL : Hid (Below w.heap.size w wr) := hbel
      obtain ⟨by_, c3⟩ : ∃ by_, wr.cell? ⟨pb, 3, none⟩ = some (.pointer (some ⟨by_, 0, none⟩)) := by
        obtain ⟨_, by_, _, hB, _⟩ := HR.out
        exact ⟨by_, hB.pair.c3⟩
      by_cases hlt : k < l.length
      · obtain ⟨ao', cap', hv', hrow⟩ := HV.out
        obtain ⟨rfl, rfl⟩ : ao = ao' ∧ cap = cap' := by simpa using hv'
        obtain ⟨g, o, rfl, hg, c0, c1, c2⟩ := hrow k hlt
        have e0 := (hbel.cell (p := ⟨g, o + k * 3, none⟩) hg).trans c0
        have e1 := (hbel.cell (p := ⟨g, o + k * 3 + 1, none⟩) hg).trans c1
        have e2 := (hbel.cell (p := ⟨g, o + k * 3 + 2, none⟩) hg).trans c2
        have C6 := C5.out _ HR l[k] (HL.out _ (List.getElem_mem hlt))
        generalize l[k] = x at *
        obtain ⟨D, N, S⟩ := x
        have HC6 : Hid (Calls Tryd.prog 14 #[.pointer (some ⟨pb, 0, none⟩), .agg #[.int .i64 D, .int .i64 N, .string S]] wr fun e w' => e = .returned (.bool true) ∧ Hid (Fine w.heap.size w pb bd bx w')) := C6
        have i1 : (k : Int) < (l.length : Int) := by omega
        clear C5 C6 hrow hv' c0 c1 c2 hbel
        go_wp2_with (go_at_call 14; refine HC6.out.mono ?_; rintro e w5 ⟨rfl, HF5⟩)
        exact ⟨⟨k + 1, by omega, by go_num, HF5⟩, by simp [intOf]; omega⟩
      · have i1 : ¬ (k : Int) < (l.length : Int) := by omega
        have i2 : decide ((k : Int) < (l.length : Int)) = false := by simpa using i1
        clear C5 hbel
        go_wp2
        go_ret
        exact ⟨rfl, HBEL.out⟩
end Go.Proofs.YtahkecdlibkokaaDoor
