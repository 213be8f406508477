/- The walks of the document's journal: Head, New. -/
import Derived.Test.YtahkecdlibkokaaDoorOpen1W
import Derived.Test.YtahkecdlibkokaaDoorFrRefWrapW
import Derived.Test.YtahkecdlibkokaaDoorPkRefNumW
import Derived.Test.YtahkecdlibkokaaDoorDkPairW
set_option linter.unusedVariables false
set_option maxRecDepth 100000
namespace Go.Proofs.YtahkecdlibkokaaDoor
open Go.RowKit
open JournalMath DiskMath
open FrameMath (scan wrap)
open Dk (PDisk RDisk ROk Chg fp rdisk_below rdisk_chg chg_below)

theorem refHead_any (g : Nat) (hg : g ≤ 1125899906842624) (snap : ByteArray) (hs : snap.size ≤ 190000) (w : World) :
    Calls Tryd.prog 46 #[.int .i64 (g : Int), .string snap] w fun e w' => e = .returned (.string ⟨(wrap (head g snap.data.toList)).toArray⟩) ∧ Below w.heap.size w w' := by
  have hhl := head_length g snap.data.toList hg
  rw [size_data] at hhl
  have C1 : Hid (∀ w, Calls Tryd.prog 59 #[.int .i64 (g : Int)] w fun e w' => e = .returned (.tuple #[.string ⟨(PackMath.num g).toArray⟩, .int .i64 0]) ∧ Below w.heap.size w w') := fun w => Pk.refNum_any g hg w
  have C2 : Hid (∀ w, Calls Tryd.prog 55 #[.string ⟨(head g snap.data.toList).toArray⟩] w fun e w' => e = .returned (.tuple #[.string ⟨(wrap (head g snap.data.toList)).toArray⟩, .int .i64 0]) ∧ Below w.heap.size w w') := by
    intro w
    have := Fr.refWrap_any ⟨(head g snap.data.toList).toArray⟩ (by rw [strV_size]; omega) w
    rw [mk_data] at this
    exact this
  have HX : Hid (ByteArray.mk #[72] ++ ByteArray.mk (PackMath.num g).toArray ++ snap = ByteArray.mk (head g snap.data.toList).toArray) := head_text _ _
  have hnl := PackMath.num_len8 g hg
  have hnz : (ByteArray.mk (PackMath.num g).toArray).size ≤ 8 := by rw [strV_size]; exact hnl
  generalize ByteArray.mk (wrap (head g snap.data.toList)).toArray = fb at *
  generalize ByteArray.mk (head g snap.data.toList).toArray = hb at *
  generalize ByteArray.mk (PackMath.num g).toArray = nb at *
  clear hhl hnl
  go_enter Tryd.func46, Tryd.ntmps46
  go_wp2_with fail
  refine (C1.out _).mono ?_
  rintro e w1 ⟨rfl, hb1⟩
  go_wp2_with fail
  rw [HX.out]
  refine (C2.out _).mono ?_
  rintro e w2 ⟨rfl, hb2⟩
  go_wp2_with fail
  go_ret
  exact ⟨rfl, hb1.trans (hb2.mono hb1.size)⟩

/-- The document's journal behind calls on it. -/
def RJOk (w : World) (bx by_ : Nat) (s : JS) (w' : World) : Prop := RDisk w' bx s.d ∧ JCells w' by_ bx s.f s.g s.n ∧ Chg (fun k => k = bx ∨ k = by_) w w'
theorem rok_trans {w w1 w2 : World} {b : Nat} {d1 d2 : DS} (h1 : ROk w b d1 w1) (h2 : ROk w1 b d2 w2) : ROk w b d2 w2 := ⟨h2.1, h1.2.trans h2.2 (fun _ _ h => h)⟩

theorem refNew_used {w : World} {b : Nat} {d : DS} (hR : RDisk w b d) (hk : Ok d) (hu : 0 < (d.F 0).length ∨ 0 < (d.F 1).length) :
    Calls Tryd.prog 17 #[.pointer (some ⟨b, 0, none⟩)] w fun e w' => e = .returned (.tuple #[.pointer none, .int .i64 60]) ∧ w' = w := by
  have c0 := hR.bytes 0 (by decide)
  have c1 := hR.bytes 1 (by decide)
  have z0 := strV_size (d.F 0)
  have z1 := strV_size (d.F 1)
  have h2 := file_le d 0 (by decide)
  have h3 := file_le d 1 (by decide)
  have h4 := hk.room
  have h5 := hk.most
  unfold strV at c0 c1
  generalize ByteArray.mk (d.F 0).toArray = s0 at *
  generalize ByteArray.mk (d.F 1).toArray = s1 at *
  rw [← z0, ← z1] at hu
  have y0 : s0.size ≤ 1048576 := by omega
  have y1 : s1.size ≤ 1048576 := by omega
  clear z0 z1 hR hk h2 h3 h4 h5
  simp only [Nat.zero_mul, Nat.one_mul] at c0 c1
  by_cases h0 : 0 < s0.size
  · have i0 : (0 : Int) < (s0.size : Int) := by omega
    clear hu
    go_enter Tryd.func17, Tryd.ntmps17
    go_wp2_with fail
    go_ret2
    exact ⟨rfl, rfl⟩
  · have i0 : ¬ (0 : Int) < (s0.size : Int) := by omega
    have i1 : (0 : Int) < (s1.size : Int) := by omega
    clear hu
    go_enter Tryd.func17, Tryd.ntmps17
    go_wp2_with fail
    go_ret2
    exact ⟨rfl, rfl⟩

theorem begins_new (d : DS) (hk : Ok d) (h1 : d.F 1 = []) : begins d 1 0 [] = syn (app d 0 (wrap (head 1 []))) 0 := by
  have hs : d.S 1 = 0 := by have := hk.safe 1 (by decide); rw [h1] at this; simpa using this
  unfold begins cut syn app
  congr 1
  · funext j
    unfold upd
    by_cases e : j = 1
    · subst e; simp [h1]
    · simp [e]
  · funext j
    unfold upd
    by_cases e : j = 1
    · subst e; simp [hs]
    · simp [e]
theorem jBegin_new (d : DS) : jBegin ⟨d, 1, 0, 0⟩ [] = if d.R < used d + (wrap (head 1 [])).length then (⟨d, 1, 0, 0⟩, 41) else (⟨begins d 1 0 [], 0, 1, 0⟩, 0) := rfl
/-- How the document's New ends on a disk whose files 0 and 1 are empty. -/
def RNewOk (w : World) (b : Nat) (d : DS) (s2 : JS) (er : Int) (e : Ending) (w' : World) : Prop :=
  (er = 0 ∧ ∃ by_, w.heap.size ≤ by_ ∧ e = .returned (.tuple #[.pointer (some ⟨by_, 0, none⟩), .int .i64 0]) ∧ RDisk w' b s2.d ∧ JCells w' by_ b s2.f s2.g s2.n ∧ Chg (fun k => k = b) w w') ∨ (er = 41 ∧ e = .returned (.tuple #[.pointer none, .int .i64 41]) ∧ ROk w b d w')
set_option maxHeartbeats 1000000 in
theorem refNew_fresh {w : World} {b : Nat} {d : DS} (hR : RDisk w b d) (hk : Ok d) (h0 : d.F 0 = []) (h1 : d.F 1 = []) :
    Calls Tryd.prog 17 #[.pointer (some ⟨b, 0, none⟩)] w fun e w' => RNewOk w b d (jBegin ⟨d, 1, 0, 0⟩ []).1 (jBegin ⟨d, 1, 0, 0⟩ []).2 e w' := by
  have hbn := begins_new d hk h1
  have c0 := hR.bytes 0 (by decide)
  have c1 := hR.bytes 1 (by decide)
  rw [h0] at c0
  rw [h1] at c1
  unfold strV at c0 c1
  simp only [Nat.zero_mul, Nat.one_mul] at c0 c1
  have hlen := head_length 1 [] (by decide)
  have hwl : (wrap (head 1 [])).length = (head 1 []).length + 8 := FrameMath.wrap_length _
  have C1 : Hid (∀ w, Calls Tryd.prog 46 #[.int .i64 1, .string ⟨#[]⟩] w fun e w' => e = .returned (.string ⟨(wrap (head 1 [])).toArray⟩) ∧ Below w.heap.size w w') := fun w => refHead_any 1 (by decide) ⟨#[]⟩ (by decide) w
  have C2 : Hid (∀ w1, RDisk w1 b d → Calls Tryd.prog 42 #[.pointer (some ⟨b, 0, none⟩), .int .i64 0, .string ⟨(wrap (head 1 [])).toArray⟩] w1 fun e w' => e = .returned (.int .i64 (jBegin ⟨d, 1, 0, 0⟩ []).2) ∧ ROk w1 b (if d.R < used d + (wrap (head 1 [])).length then d else app d 0 (wrap (head 1 []))) w') := by
    intro w1 h
    have := Dk.refAppend_all ((0 : Nat) : Int) ⟨(wrap (head 1 [])).toArray⟩ (by rw [strV_size, hwl]; have := hlen.1; simp at this; omega) h hk
    rw [mk_data, aApp_file _ _ (by decide)] at this
    refine this.mono ?_
    rintro e w' ⟨k1, k2⟩
    rw [jBegin_new]
    by_cases hc : d.R < used d + (wrap (head 1 [])).length
    · rw [if_pos hc] at k1 k2 ⊢
      rw [if_pos hc]
      exact ⟨k1, k2⟩
    · rw [if_neg hc] at k1 k2 ⊢
      rw [if_neg hc]
      exact ⟨k1, k2⟩
  have hr0 := rdisk_below hR (Below.refl _ _)
  by_cases hfull : d.R < used d + (wrap (head 1 [])).length
  · have e1 : jBegin ⟨d, 1, 0, 0⟩ [] = (⟨d, 1, 0, 0⟩, 41) := by rw [jBegin_new, if_pos hfull]
    rw [e1, if_pos hfull] at C2
    rw [e1]
    generalize ByteArray.mk (wrap (head 1 [])).toArray = fb at *
    have HR : Hid (RDisk w b d) := hR
    clear hR hr0 e1 hbn hlen hwl
    go_enter Tryd.func17, Tryd.ntmps17
    go_wp2_with fail
    refine (C1.out _).mono ?_
    rintro e w1 ⟨rfl, hb1⟩
    have HB1 : Hid (Below w.heap.size w w1) := hb1
    clear hb1
    go_wp2_with fail
    refine (C2.out _ (rdisk_below HR.out HB1.out)).mono ?_
    rintro e w2 ⟨rfl, hr2⟩
    have HR2 : Hid (ROk w1 b d w2) := hr2
    clear hr2
    go_wp2_with fail
    go_ret2
    exact Or.inr ⟨rfl, rfl, HR2.out.1, (chg_below (S := fun k => k = b) HB1.out).trans HR2.out.2 (fun _ _ h => h)⟩
  · have e1 : jBegin ⟨d, 1, 0, 0⟩ [] = (⟨begins d 1 0 [], 0, 1, 0⟩, 0) := by rw [jBegin_new, if_neg hfull]
    rw [e1, if_neg hfull] at C2
    rw [e1, hbn]
    have C3 : Hid (∀ w1, RDisk w1 b (app d 0 (wrap (head 1 []))) → Calls Tryd.prog 43 #[.pointer (some ⟨b, 0, none⟩), .int .i64 0] w1 fun e w' => e = .returned (.int .i64 0) ∧ ROk w1 b (syn (app d 0 (wrap (head 1 []))) 0) w') := by
      intro w1 h
      have := Dk.refSync_all ((0 : Nat) : Int) h
      rw [aSyn_file _ _ (by decide)] at this
      exact this
    generalize syn (app d 0 (wrap (head 1 []))) 0 = d2 at *
    generalize app d 0 (wrap (head 1 [])) = d1 at *
    generalize ByteArray.mk (wrap (head 1 [])).toArray = fb at *
    have HR : Hid (RDisk w b d) := hR
    clear hR hr0 e1 hbn hlen hwl
    go_enter Tryd.func17, Tryd.ntmps17
    go_wp2_with fail
    refine (C1.out _).mono ?_
    rintro e w1 ⟨rfl, hb1⟩
    have HB1 : Hid (Below w.heap.size w w1) := hb1
    clear hb1
    go_wp2_with fail
    refine (C2.out _ (rdisk_below HR.out HB1.out)).mono ?_
    rintro e w2 ⟨rfl, hr2⟩
    have HR2 : Hid (ROk w1 b d1 w2) := hr2
    clear hr2
    go_wp2_with fail
    refine (C3.out _ HR2.out.1).mono ?_
    rintro e w3 ⟨rfl, hr3⟩
    have HC3 : Hid (Chg (fun k => k = b) w w3) := (chg_below (S := fun k => k = b) HB1.out).trans (rok_trans HR2.out hr3).2 (fun _ _ h => h)
    have HR3 : Hid (RDisk w3 b d2) := hr3.1
    clear hr3
    have hba : Below w3.heap.size w3 (w3.alloc (.cells #[.pointer (some ⟨b, 0, none⟩), .int .i64 0, .int .i64 1, .int .i64 0] 89)) := (Below.refl _ _).alloc (Nat.le_refl _) _
    have HBA : Hid (Below w3.heap.size w3 (w3.alloc (.cells #[.pointer (some ⟨b, 0, none⟩), .int .i64 0, .int .i64 1, .int .i64 0] 89))) := hba
    clear hba
    go_wp2_with fail
    go_ret2
    refine Or.inl ⟨rfl, w3.heap.size, HC3.out.size, rfl, rdisk_below HR3.out HBA.out, ⟨by simp, by simp, by simp, by simp, by simp, fun j => ?_⟩, HC3.out.trans (chg_below (S := fun _ => False) HBA.out) (fun _ _ h => h.elim)⟩
    rw [World.frozen?, heap_alloc_new w3 _]
    simp
end Go.Proofs.YtahkecdlibkokaaDoor
