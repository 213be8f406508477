/- A file's bytes cut down to its first ones, as Crash and Cut do it. -/
import Derived.Test.YtahkecdlibkokaaDoorDkPutW
set_option linter.unusedVariables false
set_option maxRecDepth 100000
namespace Go.Proofs.YtahkecdlibkokaaDoor.Dk
open Go.RowKit
open DiskMath

theorem POk.step {w w1 w2 : World} {b : Nat} {V V' : Nat → Value} {d2 : DS} (hC : Chg (fp b V) w w1) (hf : ∀ k, fp b V' k → fp b V k ∨ w.heap.size ≤ k) (h : POk w1 b V' d2 w2) : POk w b V d2 w2 := by
  obtain ⟨V2, hP, hc, hff⟩ := h
  refine ⟨V2, hP, hC.trans hc (fun j hj hfj => ?_), fun j hj => ?_⟩
  · rcases hf j hfj with h1 | h1
    · exact h1
    · omega
  · rcases hff j hj with h1 | h1
    · exact hf j h1
    · right; have := hC.size; omega
theorem POk.below {w w1 w2 : World} {b : Nat} {V : Nat → Value} {d2 : DS} (hb : Below w.heap.size w w1) (h : POk w1 b V d2 w2) : POk w b V d2 w2 := POk.step (chg_below hb) (fun k hk => Or.inl hk) h

theorem first_put (w1 : World) (b : Nat) (V : Nat → Value) (d : DS) (k N : Nat) (hP : PDisk w1 b V d) (hok : Ok d) (hk : k < 4) (hN : N ≤ (d.F k).length) :
    Calls Tryd.prog 52 #[V k, .int .i64 (N : Int)] w1 fun e w'' => ∃ ao' cap', e = .returned (.slice ao' N cap') ∧ w''.cell? ⟨b, k * 2, none⟩ = some (V k) ∧ w''.frozen? ⟨b, k * 2, none⟩ = false ∧
      (w''.setCell ⟨b, k * 2, none⟩ (.slice ao' N cap')).cell? ⟨b, k * 2 + 1, none⟩ = some (.int .i64 (d.S k : Int)) ∧ (w''.setCell ⟨b, k * 2, none⟩ (.slice ao' N cap')).frozen? ⟨b, k * 2 + 1, none⟩ = false ∧
      (w''.setCell ⟨b, k * 2, none⟩ (.slice ao' N cap')).cell? ⟨b, k * 2, none⟩ = some (.slice ao' N cap') ∧
      POk w1 b V ⟨upd d.F k ((d.F k).take N), upd d.S k N, d.R⟩ ((w''.setCell ⟨b, k * 2, none⟩ (.slice ao' N cap')).setCell ⟨b, k * 2 + 1, none⟩ (.int .i64 (N : Int))) := by
  have hle := file_le d k hk
  have hrm := hok.room
  have hmo := hok.most
  refine (first_any w1 _ (d.F k) N hN (by omega) (hP.rows k hk)).mono ?_
  rintro e w'' ⟨v', rfl, h2, h3⟩
  have hlen : N = ((d.F k).take N).length := by rw [List.length_take]; omega
  have hv0 : w''.ownsRow 0 5 1 v' ((d.F k).take N).length (cells8 ((d.F k).take N)) := own_cast hlen rfl (own_zero h2)
  obtain ⟨p1, p2, p3⟩ := pdisk_row hP k hk ⟨h3.os, h3.tape, h3.output, h3.size, fun k hk _ => h3.block k hk⟩ v' _ hv0 (fun g hg => Or.inr (h2.lt g hg).1)
  have p4 := pdisk_safe p1 k N hk
  obtain ⟨ao', cap', rfl, _, _⟩ := own_row h2
  have hbk := h3.block b hP.lt
  refine ⟨ao', cap', rfl, ?_, ?_, p1.safe k hk, p1.free _, ?_, ?_⟩
  · rw [World.cell?_of_block (w := w1) (a := ⟨b, k * 2, none⟩) hbk]; exact hP.bytes k hk
  · rw [World.frozen?_of_block (w := w1) (a := ⟨b, k * 2, none⟩) hbk]; exact hP.free _
  · have := p1.bytes k hk
    rw [upd_same] at this
    exact this
  · exact ⟨_, p4, p2.trans (chg_set _ _ _) (fun j _ e => Or.inl e), p3⟩

/-- A disk that lies above block B, in a world that is as w was below it. -/
def DAt (B : Nat) (w : World) (b : Nat) (d : DS) (w' : World) : Prop := ∃ V, PDisk w' b V d ∧ (∀ k, fp b V k → B ≤ k) ∧ Below B w w'
theorem pok_dat {B : Nat} {w w1 w2 : World} {b : Nat} {V : Nat → Value} {d' : DS} (hBw : B ≤ w.heap.size) (hB : ∀ k, fp b V k → B ≤ k) (hb : Below B w w1) (h : POk w1 b V d' w2) : DAt B w b d' w2 := by
  obtain ⟨V', hP, hc, hf⟩ := h
  refine ⟨V', hP, fun k hk => ?_, hb.trans (below_chg hc (Nat.le_trans hBw hb.size) (fun k hk hfk => by have := hB k hfk; omega))⟩
  rcases hf k hk with h1 | h1
  · exact hB k h1
  · have := hb.size; omega
theorem dat_below {B : Nat} {w w1 w2 : World} {b : Nat} {d : DS} (h : DAt B w b d w1) (hBw : B ≤ w.heap.size) (hb : Below w1.heap.size w1 w2) : DAt B w b d w2 := by
  obtain ⟨V, hP, hB, h1⟩ := h
  exact ⟨V, pdisk_below hP hb, hB, h1.trans (hb.mono (Nat.le_trans hBw h1.size))⟩
theorem dat_drewN {B : Nat} {w w1 w2 : World} {b : Nat} {d : DS} (h : DAt B w b d w1) (hBw : B ≤ w.heap.size) (hb : ∃ q, w2 = w1.drewN q) : DAt B w b d w2 := by
  obtain ⟨q, rfl⟩ := hb
  exact dat_below h hBw (below_drewN (Below.refl _ _) q)
end Go.Proofs.YtahkecdlibkokaaDoor.Dk