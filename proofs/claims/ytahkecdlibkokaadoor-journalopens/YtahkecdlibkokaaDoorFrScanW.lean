/- The walk of Scan, in package frame: its closure by a contract of its own. -/
import Derived.Test.YtahkecdlibkokaaDoorFrFirstW
import Derived.OneCell
set_option linter.unusedVariables false
set_option maxRecDepth 100000
namespace Go.Proofs.YtahkecdlibkokaaDoor.Fr
open Go.RowKit
open FrameMath (first scan used)

/-- What stands in the three variables of a scan: the text in block B, the records in B + 1, the place in B + 2. -/
structure ScanAt (s : ByteArray) (B p : Nat) (v : Value) (acc : List (List UInt8)) (wr : World) : Prop where
  cs : wr.cell? ⟨B, 0, none⟩ = some (.string s)
  cr : wr.cell? ⟨B + 1, 0, none⟩ = some v
  fr : wr.frozen? ⟨B + 1, 0, none⟩ = false
  ca : wr.cell? ⟨B + 2, 0, none⟩ = some (.int .i64 (p : Int))
  fa : wr.frozen? ⟨B + 2, 0, none⟩ = false
  own : wr.ownsRow (B + 3) 9 1 v acc.length (acc.map strV)

theorem ScanAt.below {s : ByteArray} {B p : Nat} {v : Value} {acc : List (List UInt8)} {wr w' : World} (h : ScanAt s B p v acc wr) (hb : Below wr.heap.size wr w') : ScanAt s B p v acc w' := by
  have k1 := block_lt_of_cell h.cr
  have k2 := block_lt_of_cell h.ca
  exact ⟨(hb.cell (p := ⟨B, 0, none⟩) (block_lt_of_cell h.cs)).trans h.cs, (hb.cell (p := ⟨B + 1, 0, none⟩) k1).trans h.cr, (hb.frozen (p := ⟨B + 1, 0, none⟩) k1).trans h.fr,
    (hb.cell (p := ⟨B + 2, 0, none⟩) k2).trans h.ca, (hb.frozen (p := ⟨B + 2, 0, none⟩) k2).trans h.fa, own_below h.own hb⟩

theorem ScanAt.push {s : ByteArray} {B p m : Nat} {v v' : Value} {acc : List (List UInt8)} {r : List UInt8} {wr w1 : World} {o : Obj} (h : ScanAt s B p v acc wr)
    (hown' : w1.ownsRow (B + 3) 9 1 v' (acc.length + 1) (acc.map strV ++ [strV r])) (hg : (wr.alloc o).grownBy w1 v.ownBlock) :
    (w1.cell? ⟨B + 1, 0, none⟩ = some v ∧ w1.frozen? ⟨B + 1, 0, none⟩ = false ∧ w1.cell? ⟨B + 2, 0, none⟩ = some (.int .i64 (p : Int)) ∧ w1.frozen? ⟨B + 2, 0, none⟩ = false) ∧
    ScanAt s B m v' (acc ++ [r]) ((w1.setCell ⟨B + 1, 0, none⟩ v').setCell ⟨B + 2, 0, none⟩ (.int .i64 (m : Int))) ∧
    ∀ a, Below B a wr → Below B a ((w1.setCell ⟨B + 1, 0, none⟩ v').setCell ⟨B + 2, 0, none⟩ (.int .i64 (m : Int))) := by
  have k0 := block_lt_of_cell h.cs
  have k1 := block_lt_of_cell h.cr
  have k2 := block_lt_of_cell h.ca
  simp only at k0 k1 k2
  have hb : Below (B + 3) wr w1 := ((Below.refl _ wr).alloc (by omega) o).grown hg (by simp; omega) (fun k hk => (h.own.lt k hk).1)
  have hne : ∀ k, v'.ownBlock = some k → B + 3 ≤ k := fun k hk => (hown'.lt k hk).1
  have d0 : w1.cell? ⟨B, 0, none⟩ = some (.string s) := (hb.cell (p := ⟨B, 0, none⟩) (by simp)).trans h.cs
  have d1 : w1.cell? ⟨B + 1, 0, none⟩ = some v := (hb.cell (p := ⟨B + 1, 0, none⟩) (by simp)).trans h.cr
  have d2 : w1.cell? ⟨B + 2, 0, none⟩ = some (.int .i64 (p : Int)) := (hb.cell (p := ⟨B + 2, 0, none⟩) (by simp)).trans h.ca
  have g1 : w1.frozen? ⟨B + 1, 0, none⟩ = false := (hb.frozen (p := ⟨B + 1, 0, none⟩) (by simp)).trans h.fr
  have g2 : w1.frozen? ⟨B + 2, 0, none⟩ = false := (hb.frozen (p := ⟨B + 2, 0, none⟩) (by simp)).trans h.fa
  refine ⟨⟨d1, g1, d2, g2⟩, ⟨?_, ?_, ?_, ?_, ?_, ?_⟩, fun a ha => ?_⟩
  · rw [World.cell?_setCell_other _ _ _ _ (by simp), World.cell?_setCell_other _ _ _ _ (by simp)]; exact d0
  · rw [World.cell?_setCell_other _ _ _ _ (by simp), World.cell?_setCell_same' w1 _ _ (by rw [d1]; rfl)]
  · rw [World.frozen?_setCell, World.frozen?_setCell]; exact g1
  · rw [World.cell?_setCell_same' _ _ _ (by rw [World.cell?_setCell_other _ _ _ _ (by simp), d2]; rfl)]
  · rw [World.frozen?_setCell, World.frozen?_setCell]; exact g2
  · have h1 := ownsRow_setCell_other hown' (a := ⟨B + 1, 0, none⟩) (fun e => by have : B + 3 ≤ B + 1 := hne _ e; omega) v'
    have h2 := ownsRow_setCell_other h1 (a := ⟨B + 2, 0, none⟩) (fun e => by have : B + 3 ≤ B + 2 := hne _ e; omega) (.int .i64 (m : Int))
    exact own_cast (by simp) (by simp) h2
  · exact ((((ha.alloc (by omega) o).grown hg (by simp; omega) (fun k hk => by have := (h.own.lt k hk).1; omega)).setCell (p := ⟨B + 1, 0, none⟩) (by simp) _).setCell (p := ⟨B + 2, 0, none⟩) (by simp) _)

theorem drop_data (s : ByteArray) (p : Nat) : (s.extract p s.size).data.toList = s.data.toList.drop p := by
  rw [extract_data, List.take_of_length_le (by rw [List.length_drop, size_data]; omega)]

set_option maxHeartbeats 1000000 in
theorem next_none (s : ByteArray) (hs : s.size ≤ 140737488351232) (B p : Nat) (v : Value) (acc : List (List UInt8)) (wr : World) (hp : p ≤ s.size) (h : ScanAt s B p v acc wr) (hT : Tab wr)
    (hf : first (s.data.toList.drop p) = none) :
    Calls Tryd.prog 67 #[.pointer (some ⟨B, 0, none⟩), .pointer (some ⟨B + 2, 0, none⟩), .pointer (some ⟨B + 1, 0, none⟩)] wr fun e w' => e = .returned (.bool false) ∧ Below wr.heap.size wr w' := by
  have C1 : Hid (Calls Tryd.prog 68 #[.string (s.extract p s.size)] wr fun e w' => e = .returned (.tuple #[.string ⟨#[]⟩, .bool false]) ∧ Below wr.heap.size wr w') := by
    have := first_any (s.extract p s.size) (by rw [ByteArray.size_extract]; omega) wr hT
    rw [drop_data, firstV_none hf] at this
    exact this
  obtain ⟨cs, cr, fr, ca, fa, own⟩ := h
  have hp' : (p : Int) ≤ (s.size : Int) := by omega
  clear cr fr fa own hf
  go_enter Tryd.func67, Tryd.ntmps67
  go_wp2_with fail
  refine C1.out.mono ?_
  rintro e w1 ⟨rfl, hb1⟩
  go_wp2_with fail
  go_ret
  exact ⟨rfl, hb1⟩

set_option maxHeartbeats 2000000 in
theorem next_some (s : ByteArray) (hs : s.size ≤ 70368744177664) (B p : Nat) (v : Value) (acc : List (List UInt8)) (wr : World) (hp : p ≤ s.size) (hacc : 8 * acc.length ≤ p) (h : ScanAt s B p v acc wr) (hT : Tab wr) (r : List UInt8)
    (hf : first (s.data.toList.drop p) = some r) :
    Calls Tryd.prog 67 #[.pointer (some ⟨B, 0, none⟩), .pointer (some ⟨B + 2, 0, none⟩), .pointer (some ⟨B + 1, 0, none⟩)] wr fun e w' => e = .returned (.bool true) ∧
      (∃ v', ScanAt s B (p + (r.length + 8)) v' (acc ++ [r]) w') ∧ ∀ a, Below B a wr → Below B a w' := by
  obtain ⟨i0, hi, hz0, hz1, hz2⟩ := info_parts infoS
  have hlen := FrameMath.first_some _ _ hf
  rw [List.length_drop, size_data] at hlen
  have hr1 := hlen.1
  have hr2 := hlen.2.1
  obtain ⟨rb, hrb⟩ : ∃ rb, rb = ByteArray.mk r.toArray := ⟨_, rfl⟩
  have hrz : rb.size = r.length := by rw [hrb]; exact strV_size r
  have HRB : Hid (rb = ByteArray.mk r.toArray) := hrb
  have C1 : Hid (Calls Tryd.prog 68 #[.string (s.extract p s.size)] wr fun e w' => e = .returned (.tuple #[.string rb, .bool true]) ∧ Below wr.heap.size wr w') := by
    have := first_any (s.extract p s.size) (by rw [ByteArray.size_extract]; omega) wr hT
    rw [drop_data, firstV_some hf] at this
    unfold strV at this
    rw [hrb]
    exact this
  have cs := h.cs
  have ca := h.ca
  have hp' : (p : Int) ≤ (s.size : Int) := by omega
  have HS : Hid (ScanAt s B p v acc wr) := h
  clear hf hlen hrb h
  go_enter Tryd.func67, Tryd.ntmps67
  go_wp2_with fail
  refine C1.out.mono ?_
  rintro e w1 ⟨rfl, hb1⟩
  have h1 := HS.out.below hb1
  have k2 := block_lt_of_cell h1.ca
  simp only at k2
  have HB : Hid (∀ a, Below B a wr → Below B a w1) := fun a ha => ha.trans (hb1.mono (by have := block_lt_of_cell HS.out.cs; simp only at this; omega))
  have HS1 : Hid (ScanAt s B p v acc w1) := h1
  have cr1 := h1.cr
  have fr1 := h1.fr
  have hown1 := h1.own
  clear h1 hb1 cs ca HS C1
  go_wp2_with (at_builtin; refine wpList_append_own _ rfl _ _ 47 rfl (B + 3) 9 i0 (.string ⟨#[]⟩) 1 16 Tryd.underlying47 hi hz0 hz1 hz2 rfl (by decide) _ _ _ rfl (hown1.alloc _) ⟨_, 0, none⟩ 1 1 [.string rb] rfl rfl (one_new _ _ _) (one_cell _) (by unfold maxLen; omega) (by omega) (by simp; omega) ?_)
  intro v' w2 hown' hgrow hnn
  have hown'' : w2.ownsRow (B + 3) 9 1 v' (acc.length + 1) (acc.map strV ++ [strV r]) := by
    unfold strV
    rw [← HRB.out]
    exact hown'
  obtain ⟨ao, cap, rfl, _, _⟩ := own_row hown''
  obtain ⟨⟨d1, g1, d2, g2⟩, hnew, hbel⟩ := HS1.out.push (m := p + (r.length + 8)) hown'' hgrow
  have HN : Hid (ScanAt s B (p + (r.length + 8)) (.slice ao (acc.length + 1) cap) (acc ++ [r]) ((w2.setCell ⟨B + 1, 0, none⟩ (.slice ao (acc.length + 1) cap)).setCell ⟨B + 2, 0, none⟩ (.int .i64 ((p + (r.length + 8) : Nat) : Int)))) := hnew
  have HBE : Hid (∀ a, Below B a w1 → Below B a ((w2.setCell ⟨B + 1, 0, none⟩ (.slice ao (acc.length + 1) cap)).setCell ⟨B + 2, 0, none⟩ (.int .i64 ((p + (r.length + 8) : Nat) : Int)))) := hbel
  have HM : Hid ((p : Int) + (8 + (r.length : Int)) = ((p + (r.length + 8) : Nat) : Int)) := by show _ = _; omega
  clear hnew hbel hown' hown'' hgrow hnn cr1 fr1 hown1 HS1
  go_wp2
  go_ret
  rw [HM.out]
  exact ⟨rfl, ⟨_, HN.out⟩, fun a ha => HBE.out a (HB.out a ha)⟩

/-- The place that a scan has come to. -/
def placeOf (wr : World) (b : Nat) : Nat := match wr.cell? ⟨b, 0, none⟩ with
  | some (.int _ n) => n.toNat
  | _ => 0
theorem ScanAt.place {s : ByteArray} {B p : Nat} {v : Value} {acc : List (List UInt8)} {wr : World} (h : ScanAt s B p v acc wr) : placeOf wr (B + 2) = p := by
  unfold placeOf; rw [h.ca]; simp
theorem tab_under {B : Nat} {w w' : World} (h : Tab w) (hB : B = w.heap.size) (hb : Below B w w') : Tab w' := by subst hB; exact tab_below h hb

/-- What Scan leaves: the row of records, and how many bytes they have. -/
def ScanV (w w' : World) (l : List UInt8) (e : Ending) : Prop := ∃ v, e = .returned (.tuple #[v, .int .i64 ((used (scan l) : Nat) : Int)]) ∧ w'.ownsRow (w.heap.size + 3) 9 1 v (scan l).length ((scan l).map strV) ∧ Below w.heap.size w w'

theorem scan_begins (s : ByteArray) (w : World) : ScanAt s w.heap.size 0 (.slice none 0 0) [] (((w.alloc (.cells #[.string s] 9)).alloc (.cells #[.slice none 0 0] 47)).alloc (.cells #[.int .i64 0] 3)) ∧
    Below w.heap.size w (((w.alloc (.cells #[.string s] 9)).alloc (.cells #[.slice none 0 0] 47)).alloc (.cells #[.int .i64 0] 3)) := by
  refine ⟨⟨?_, ?_, ?_, ?_, ?_, World.ownsRow_nil _ _ _ _⟩, ?_⟩
  · rw [World.cell?_alloc_past _ _ _ (by simp; omega), World.cell?_alloc_past _ _ _ (by simp), World.cell?_alloc_at _ _ _ _ rfl]; rfl
  · rw [World.cell?_alloc_past _ _ _ (by simp), World.cell?_alloc_at _ _ _ _ (by simp)]; rfl
  · rw [World.frozen?_alloc_past _ _ _ (by simp), World.frozen?_alloc_at _ _ _ _ (by simp)]
  · rw [World.cell?_alloc_at _ _ _ _ (by simp)]; rfl
  · rw [World.frozen?_alloc_at _ _ _ _ (by simp)]
  · exact (((Below.refl _ w).alloc (Nat.le_refl _) _).alloc (by simp) _).alloc (by simp; omega) _

set_option maxHeartbeats 2000000 in
theorem scan_any (s : ByteArray) (hs : s.size ≤ 70368744177664) (w : World) (hT : Tab w) :
    Calls Tryd.prog 60 #[.string s] w fun e w' => ScanV w w' s.data.toList e := by
  have H0 := scan_begins s w
  obtain ⟨w0, hw0⟩ : ∃ w0, w0 = ((w.alloc (.cells #[.string s] 9)).alloc (.cells #[.slice none 0 0] 47)).alloc (.cells #[.int .i64 0] 3) := ⟨_, rfl⟩
  rw [← hw0] at H0
  have H0' : Hid (ScanAt s w.heap.size 0 (.slice none 0 0) [] w0 ∧ Below w.heap.size w w0) := H0
  have HW : Hid (w0 = ((w.alloc (.cells #[.string s] 9)).alloc (.cells #[.slice none 0 0] 47)).alloc (.cells #[.int .i64 0] 3)) := hw0
  have HT : Hid (Tab w) := hT
  clear hw0 hT H0
  go_enter Tryd.func60, Tryd.ntmps60
  go_wp2_with fail
  rw [← HW.out]
  clear HW
  go_loopw [9] (fun _ wr => ∃ (p : Nat) (v : Value) (acc : List (List UInt8)), Hid (ScanAt s w.heap.size p v acc wr) ∧ Hid (Below w.heap.size w wr) ∧ p ≤ s.size ∧ 8 * acc.length ≤ p ∧ Hid (scan s.data.toList = acc ++ scan (s.data.toList.drop p)) ∧ Hid (used acc = p)) (fun _ wr => s.size - placeOf wr (w.heap.size + 2))
  case atStart => exact ⟨0, _, [], H0'.out.1, H0'.out.2, Nat.zero_le _, Nat.le_refl _, rfl, rfl⟩
  case round =>
    obtain ⟨p, v, acc, HS, HB, hp, hacc, HI, HU⟩ := hrel
    have HT1 : Hid (Tab wr) := tab_below HT.out HB.out
    have hme := HS.out.place
    have HME : Hid (placeOf wr (w.heap.size + 2) = p) := hme
    clear hme H0'
    cases hf : first (s.data.toList.drop p) with
    | none =>
      have HC : Hid (Calls Tryd.prog 67 #[.pointer (some ⟨w.heap.size, 0, none⟩), .pointer (some ⟨w.heap.size + 1 + 1, 0, none⟩), .pointer (some ⟨w.heap.size + 1, 0, none⟩)] wr fun e w' => e = .returned (.bool false) ∧ Below wr.heap.size wr w') := next_none s (by omega) _ p v acc wr hp HS.out HT1.out hf
      have HE : Hid (scan s.data.toList = acc) := by
        show _ = _
        rw [HI.out, FrameMath.scan_none _ hf, List.append_nil]
      clear hf HI
      go_wp2_with fail
      refine HC.out.mono ?_
      rintro e w1 ⟨rfl, hb1⟩
      have h1 := HS.out.below hb1
      have HB1 : Hid (Below w.heap.size w w1) := HB.out.trans (hb1.mono HB.out.size)
      have HO : Hid (w1.ownsRow (w.heap.size + 3) 9 1 v acc.length (acc.map strV)) := h1.own
      have c1 := h1.cr
      have c2 : w1.cell? ⟨w.heap.size + 1 + 1, 0, none⟩ = some (.int .i64 (p : Int)) := h1.ca
      obtain ⟨ao, cap, hv, _, _⟩ := own_row h1.own
      rw [hv] at c1 HO
      clear hb1 h1 HC HS HB hv
      go_wp2_with fail
      go_quiet (fail)
      rename_i nq
      go_wp2
      go_ret2
      refine ⟨_, by rw [HE.out, HU.out]; rfl, ?_, below_drewN HB1.out nq⟩
      rw [HE.out]
      exact own_below HO.out (below_drewN (Below.refl _ _) nq)
    | some r =>
      have hlen := FrameMath.first_len _ _ hf
      rw [List.length_drop, size_data] at hlen
      have HC : Hid (Calls Tryd.prog 67 #[.pointer (some ⟨w.heap.size, 0, none⟩), .pointer (some ⟨w.heap.size + 1 + 1, 0, none⟩), .pointer (some ⟨w.heap.size + 1, 0, none⟩)] wr fun e w' => e = .returned (.bool true) ∧
        (∃ v', ScanAt s w.heap.size (p + (r.length + 8)) v' (acc ++ [r]) w') ∧ ∀ a, Below w.heap.size a wr → Below w.heap.size a w') := next_some s hs _ p v acc wr hp hacc HS.out HT1.out r hf
      have HE : Hid (scan s.data.toList = (acc ++ [r]) ++ scan (s.data.toList.drop (p + (r.length + 8)))) := by
        show _ = _
        rw [HI.out, FrameMath.scan_some _ _ hf, List.drop_drop, List.append_assoc]
        rfl
      have HU' : Hid (used (acc ++ [r]) = p + (r.length + 8)) := by
        show _ = _
        rw [FrameMath.used_append, HU.out]
        rfl
      clear hf HI
      go_wp2_with fail
      refine HC.out.mono ?_
      rintro e w1 ⟨rfl, ⟨v', hs1⟩, hb1⟩
      have HS1 : Hid (ScanAt s w.heap.size (p + (r.length + 8)) v' (acc ++ [r]) w1) := hs1
      have HB1 : Hid (Below w.heap.size w w1) := hb1 w HB.out
      have HM1 : Hid (placeOf w1 (w.heap.size + 2) = p + (r.length + 8)) := hs1.place
      clear hs1 hb1 HC HS HB
      go_wp2
      exact ⟨⟨p + (r.length + 8), v', acc ++ [r], HS1, HB1, by omega, by simp; omega, HE, HU'⟩, by rw [HM1.out, HME.out]; omega⟩
end Go.Proofs.YtahkecdlibkokaaDoor.Fr