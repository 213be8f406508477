/- The walks of the laws' own 'laid' and 'alike'. -/
import Derived.Test.YtklgfapdgeoigaaDoorBegunW
set_option linter.unusedVariables false
set_option maxRecDepth 100000
namespace Go.Proofs.YtklgfapdgeoigaaDoor
open Go.RowKit
open JournalMath DiskMath
open Fr (Tab tab_below tab_drewN)
open Dk (PDisk RDisk ROk DIn Chg fp fp_lt rdisk_below rdisk_chg chg_below pdisk_below pdisk_chg)

/-- The program's disk and the document's, from block B on. -/
def Duo (B : Nat) (w : World) (bd bx : Nat) (d e : DS) (w1 : World) : Prop :=
  ∃ V, PDisk w1 bd V d ∧ RDisk w1 bx e ∧ (∀ k, fp bd V k ∨ k = bx → B ≤ k) ∧ ¬ fp bd V bx ∧ Below B w w1
theorem Duo.bel {B : Nat} {w w1 : World} {bd bx : Nat} {d e : DS} (h : Duo B w bd bx d e w1) : Below B w w1 := h.choose_spec.2.2.2.2
theorem Duo.below {B : Nat} {w w1 w2 : World} {bd bx : Nat} {d e : DS} (h : Duo B w bd bx d e w1) (hb : Below w1.heap.size w1 w2) (hB : B ≤ w1.heap.size) : Duo B w bd bx d e w2 := by
  obtain ⟨V, h1, h2, h3, h4, h5⟩ := h
  exact ⟨V, pdisk_below h1 hb, rdisk_below h2 hb, h3, h4, h5.trans (hb.mono hB)⟩
theorem Duo.prog {B : Nat} {w w1 : World} {bd bx : Nat} {d d' e : DS} {f : FuncId} {args : Array Value} {r : Value} (h : Duo B w bd bx d e w1) (hB : B ≤ w1.heap.size)
    (hc : ∀ (T : Nat → Prop), DIn T w1 bd d w1 → Calls Tryd.prog f args w1 fun en w' => en = .returned r ∧ DIn T w1 bd d' w') : Calls Tryd.prog f args w1 fun en w' => en = .returned r ∧ Duo B w bd bx d' e w' ∧ w1.heap.size ≤ w'.heap.size := by
  obtain ⟨V, h1, h2, h3, h4, h5⟩ := h
  refine (hc (fun k => k < w1.heap.size ∧ ¬ fp bd V k) ⟨V, h1, fun k hk _ ht => ht.2 hk, Chg.refl _ _⟩).mono ?_
  rintro en w' ⟨k1, V2, k2, k3, k4⟩
  have hV : ∀ k, fp bd V2 k → k < w1.heap.size → fp bd V k := fun k hk hlt => Classical.byContradiction fun hn => k3 k hk hlt ⟨hlt, hn⟩
  refine ⟨k1, ⟨V2, k2, rdisk_chg h2 k4 (fun hn => hn ⟨h2.lt, h4⟩), fun k hk => ?_, fun hf => h4 (hV bx hf h2.lt), h5.trans ⟨k4.os, k4.tape, k4.output, k4.size, fun k hk => k4.block k (by omega) (fun hn => hn ⟨by omega, fun hf => by have := h3 k (Or.inl hf); omega⟩)⟩⟩, k4.size⟩
  rcases hk with hk | hk
  · by_cases hlt : k < w1.heap.size
    · exact h3 k (Or.inl (hV k hk hlt))
    · omega
  · exact h3 k (Or.inr hk)
theorem Duo.ref {B : Nat} {w w1 : World} {bd bx : Nat} {d e e' : DS} {f : FuncId} {args : Array Value} {r : Value} (h : Duo B w bd bx d e w1) (hB : B ≤ w1.heap.size)
    (hc : RDisk w1 bx e → Calls Tryd.prog f args w1 fun en w' => en = .returned r ∧ ROk w1 bx e' w') : Calls Tryd.prog f args w1 fun en w' => en = .returned r ∧ Duo B w bd bx d e' w' ∧ w1.heap.size ≤ w'.heap.size := by
  obtain ⟨V, h1, h2, h3, h4, h5⟩ := h
  refine (hc h2).mono ?_
  rintro en w' ⟨k1, k2, k3⟩
  exact ⟨k1, ⟨V, pdisk_chg h1 k3 (fun k hk e => h4 (by have e2 : k = bx := e; rw [← e2]; exact hk)), k2, h3, h4, h5.trans ⟨k3.os, k3.tape, k3.output, k3.size, fun k hk => k3.block k (by omega) (fun e => by have e2 : k = bx := e; have := h3 bx (Or.inr rfl); omega)⟩⟩, k3.size⟩

/-- The bytes of a file, safe and others. -/
structure Im where
  Safe : ByteArray
  More : ByteArray
def IRow (w : World) (v : Value) (l : List Im) : Prop := ∃ ao cap, v = .slice ao l.length cap ∧ ∀ j, (h : j < l.length) → ∃ g o, ao = some ⟨g, o, none⟩ ∧ g < w.heap.size ∧
  w.cell? ⟨g, o + j * 2, none⟩ = some (.string l[j].Safe) ∧ w.cell? ⟨g, o + j * 2 + 1, none⟩ = some (.string l[j].More)
theorem irow_below {w w' : World} {v : Value} {l : List Im} (h : IRow w v l) (hb : Below w.heap.size w w') : IRow w' v l := by
  obtain ⟨ao, cap, rfl, hrow⟩ := h
  refine ⟨ao, cap, rfl, fun j hj => ?_⟩
  obtain ⟨g, o, h1, h2, h3, h4⟩ := hrow j hj
  exact ⟨g, o, h1, by have := hb.size; omega, (hb.cell (p := ⟨g, o + j * 2, none⟩) h2).trans h3, (hb.cell (p := ⟨g, o + j * 2 + 1, none⟩) h2).trans h4⟩
/-- What laid makes of a disk with one image. -/
def lay1 (d : DS) (i : Nat) (x : Im) : DS := (aApp (aSyn (aApp d i x.Safe.data.toList).1 i).1 i x.More.data.toList).1
theorem ok_lay1 (d : DS) (i : Nat) (x : Im) (h : Ok d) : Ok (lay1 d i x) := ok_aApp _ _ _ (ok_aSyn _ _ (ok_aApp _ _ _ h))

set_option maxHeartbeats 600000 in
theorem alike_any (w : World) (bd bx : Nat) (V : Nat → Value) (d : DS) (hP : PDisk w bd V d) (hR : RDisk w bx d) (hk : Ok d) :
    Calls Tryd.prog 13 #[.pointer (some ⟨bd, 0, none⟩), .pointer (some ⟨bx, 0, none⟩)] w fun e w' => e = .returned (.bool true) ∧ Below w.heap.size w w' := by
  have C1 : Hid (∀ w1, Below w.heap.size w w1 → ∀ i : Nat, i < 4 → Calls Tryd.prog 33 #[.pointer (some ⟨bd, 0, none⟩), .int .i64 (i : Int)] w1 fun e w' => e = .returned (.tuple #[.string ⟨(d.F i).toArray⟩, .int .i64 0]) ∧ Below w.heap.size w w') := fun w1 hb i hi => (Dk.read_any w1 bd V d i hi (pdisk_below hP hb) hk).mono fun e w' ⟨k1, k2⟩ => ⟨k1, hb.trans (k2.mono hb.size)⟩
  have C2 : Hid (∀ w1, Below w.heap.size w w1 → ∀ i : Nat, i < 4 → Calls Tryd.prog 34 #[.pointer (some ⟨bx, 0, none⟩), .int .i64 (i : Int)] w1 fun e w' => e = .returned (.tuple #[.string ⟨(d.F i).toArray⟩, .int .i64 0]) ∧ Below w.heap.size w w') := fun w1 hb i hi => (Dk.refRead_any w1 bx d i hi (rdisk_below hR hb)).mono fun e w' h => by
    obtain ⟨k1, rfl⟩ := h
    exact ⟨k1, hb⟩
  have C3 : Hid (∀ w1, Below w.heap.size w w1 → ∀ i : Nat, i < 4 → Calls Tryd.prog 20 #[.pointer (some ⟨bd, 0, none⟩), .int .i64 (i : Int)] w1 fun e w' => e = .returned (.tuple #[.int .i64 ((d.F i).length : Int), .int .i64 (d.S i : Int), .int .i64 0]) ∧ Below w.heap.size w w') := fun w1 hb i hi => (Dk.size_any w1 bd V d i hi (pdisk_below hP hb)).mono fun e w' h => by
    obtain ⟨k1, q, rfl⟩ := h
    exact ⟨k1, below_drewN hb q⟩
  have C4 : Hid (∀ w1, Below w.heap.size w w1 → ∀ i : Nat, i < 4 → Calls Tryd.prog 35 #[.pointer (some ⟨bx, 0, none⟩), .int .i64 (i : Int)] w1 fun e w' => e = .returned (.tuple #[.int .i64 ((d.F i).length : Int), .int .i64 (d.S i : Int), .int .i64 0]) ∧ Below w.heap.size w w') := fun w1 hb i hi => (Dk.refSize_any w1 bx d i hi (rdisk_below hR hb)).mono fun e w' h => by
    obtain ⟨k1, q, rfl⟩ := h
    exact ⟨k1, below_drewN hb q⟩
  clear hP hR hk
  go_enter Tryd.func13, Tryd.ntmps13
  go_wp2_with fail
  go_loopw [5] (fun i wr => ∃ k : Nat, k ≤ 4 ∧ i = .int .i64 (k : Int) ∧ Hid (Below w.heap.size w wr)) (fun i _ => 4 - (intOf i).toNat)
  case atStart => exact ⟨0, by decide, rfl, Below.refl _ _⟩
  case round =>
    obtain ⟨k, hk, rfl, HB⟩ := hrel
    by_cases hlt : k < 4
    · have i1 : (k : Int) < 4 := by omega
      have HLT : Hid (k < 4) := hlt
      have C1' : Hid (∀ w1, Below w.heap.size w w1 → Calls Tryd.prog 33 #[.pointer (some ⟨bd, 0, none⟩), .int .i64 (k : Int)] w1 fun e w' => e = .returned (.tuple #[.string ⟨(d.F k).toArray⟩, .int .i64 0]) ∧ Below w.heap.size w w') := fun w1 hb => C1.out w1 hb k hlt
      have C2' : Hid (∀ w1, Below w.heap.size w w1 → Calls Tryd.prog 34 #[.pointer (some ⟨bx, 0, none⟩), .int .i64 (k : Int)] w1 fun e w' => e = .returned (.tuple #[.string ⟨(d.F k).toArray⟩, .int .i64 0]) ∧ Below w.heap.size w w') := fun w1 hb => C2.out w1 hb k hlt
      have C3' : Hid (∀ w1, Below w.heap.size w w1 → Calls Tryd.prog 20 #[.pointer (some ⟨bd, 0, none⟩), .int .i64 (k : Int)] w1 fun e w' => e = .returned (.tuple #[.int .i64 ((d.F k).length : Int), .int .i64 (d.S k : Int), .int .i64 0]) ∧ Below w.heap.size w w') := fun w1 hb => C3.out w1 hb k hlt
      have C4' : Hid (∀ w1, Below w.heap.size w w1 → Calls Tryd.prog 35 #[.pointer (some ⟨bx, 0, none⟩), .int .i64 (k : Int)] w1 fun e w' => e = .returned (.tuple #[.int .i64 ((d.F k).length : Int), .int .i64 (d.S k : Int), .int .i64 0]) ∧ Below w.heap.size w w') := fun w1 hb => C4.out w1 hb k hlt
      generalize ByteArray.mk (d.F k).toArray = s at *
      generalize (d.F k).length = n at *
      generalize d.S k = m at *
      go_wp2_with fail
      refine (C1'.out _ HB.out).mono ?_
      rintro e w1 ⟨rfl, hb1⟩
      have HB1 : Hid (Below w.heap.size w w1) := hb1
      clear hb1
      go_wp2_with fail
      refine (C2'.out _ HB1.out).mono ?_
      rintro e w2 ⟨rfl, hb2⟩
      have HB2 : Hid (Below w.heap.size w w2) := hb2
      clear hb2
      go_wp2_with fail
      refine (C3'.out _ HB2.out).mono ?_
      rintro e w3 ⟨rfl, hb3⟩
      have HB3 : Hid (Below w.heap.size w w3) := hb3
      clear hb3
      go_wp2_with fail
      refine (C4'.out _ HB3.out).mono ?_
      rintro e w4 ⟨rfl, hb4⟩
      have HB4 : Hid (Below w.heap.size w w4) := hb4
      clear hb4
      go_wp2
      exact ⟨⟨k + 1, by have := HLT.out; omega, by go_num, HB4⟩, by have := HLT.out; simp [intOf]; omega⟩
    · have i1 : ¬ (k : Int) < 4 := by omega
      go_wp2_with fail
      go_ret
      exact ⟨rfl, HB.out⟩
end Go.Proofs.YtklgfapdgeoigaaDoor
