/- Both quotas held together; the law QuotaScripts where New refuses. -/
import Derived.Test.YtgffcgigjiedpaaQOps
set_option linter.unusedVariables false
set_option maxRecDepth 100000
namespace Go.Proofs.Ytgffcgigjiedpaa
open Go.RowKit

abbrev p4 (f : Five) : List Value := [.int .i64 (f 0), .int .i64 (f 1), .int .i64 (f 2), .int .i64 (f 3)]
theorem Has.fore {B : Nat} {w wr : World} {xs : List Res} : ∀ {ys : List Res}, Has B w (xs ++ ys) wr → Has B w xs wr
  | [], h => by simpa using h
  | y :: ys, h => by
    have k := (h.perm (List.perm_middle (l₁ := xs) (a := y) (l₂ := ys))).drop
    exact Has.fore k
/-- A quota, the document's, another one, and the budgets. -/
def QSt (w : World) (q k o pb : Nat) (m : Int) (f : Five) (n : Int) (g : Five) (n2 : Int) (g2 : Five) (X : List Res) (wr : World) : Prop :=
  Has w.heap.size w (BlockR q (q7 m n g) :: BlockR k (r7 m n2 g2) :: BlockR o (q7 m 0 f) :: BlockR pb (p4 f) :: X) wr
theorem QSt.box {w wr : World} {q k o pb : Nat} {m n n2 : Int} {f g g2 : Five} {X : List Res} (h : QSt w q k o pb m f n g n2 g2 X wr) (vs : List Value) (t : TypeId) : QSt w q k o pb m f n g n2 g2 (BlockR wr.heap.size vs :: X) (wr.alloc (.cells vs.toArray t)) := by
  have x := Has.box h vs t
  exact x.perm (List.perm_middle (l₁ := [_, _, _, _])).symm
theorem QSt.cells {w wr : World} {q k o pb : Nat} {m n n2 : Int} {f g g2 : Five} {X : List Res} (h : QSt w q k o pb m f n g n2 g2 X wr) {b : Nat} {vs : List Value} (hm : BlockR b vs ∈ X) : ∀ j v, vs[j]? = some v → wr.cell? ⟨b, j, none⟩ = some v :=
  Has.cells h (by simp [hm])
theorem QSt.drop {w wr : World} {q k o pb : Nat} {m n n2 : Int} {f g g2 : Five} {X : List Res} (h : QSt w q k o pb m f n g n2 g2 X wr) : QSt w q k o pb m f n g n2 g2 [] wr := Has.fore (xs := [_, _, _, _]) h
theorem QSt.left1 {w wr : World} {q k o pb : Nat} {m n n2 : Int} {f g g2 : Five} {X : List Res} (h : QSt w q k o pb m f n g n2 g2 X wr) :
    Calls Try.prog 9 #[.pointer (some ⟨q, 0, none⟩)] wr fun e w' => e = .returned (.tuple #[.int .i64 n, .agg #[.int .i64 (g 4), .int .i64 (g 0), .int .i64 (g 1), .int .i64 (g 2), .int .i64 (g 3)]]) ∧ QSt w q k o pb m f n g n2 g2 X w' := left_any q m n g h (by simp)
theorem QSt.left2 {w wr : World} {q k o pb : Nat} {m n n2 : Int} {f g g2 : Five} {X : List Res} (h : QSt w q k o pb m f n g n2 g2 X wr) :
    Calls Try.prog 14 #[.pointer (some ⟨k, 0, none⟩)] wr fun e w' => e = .returned (.tuple #[.int .i64 n2, .agg #[.int .i64 (g2 4), .int .i64 (g2 0), .int .i64 (g2 1), .int .i64 (g2 2), .int .i64 (g2 3)]]) ∧ QSt w q k o pb m f n g n2 g2 X w' := rleft_any k m n2 g2 h (by simp)
theorem QSt.left3 {w wr : World} {q k o pb : Nat} {m n n2 : Int} {f g g2 : Five} {X : List Res} (h : QSt w q k o pb m f n g n2 g2 X wr) :
    Calls Try.prog 9 #[.pointer (some ⟨o, 0, none⟩)] wr fun e w' => e = .returned (.tuple #[.int .i64 0, .agg #[.int .i64 (f 4), .int .i64 (f 0), .int .i64 (f 1), .int .i64 (f 2), .int .i64 (f 3)]]) ∧ QSt w q k o pb m f n g n2 g2 X w' := left_any o m 0 f h (by simp)
theorem QSt.close1 {w wr : World} {q k o pb : Nat} {m n n2 : Int} {f g g2 : Five} {X : List Res} (h : QSt w q k o pb m f n g n2 g2 X wr) (hn : 0 ≤ n ∧ n ≤ 12) :
    Calls Try.prog 12 #[.pointer (some ⟨q, 0, none⟩)] wr fun e w' => e = .returned (.int .i64 (if n < 1 then 1 else 0)) ∧ QSt w q k o pb m f (if n < 1 then n else n - 1) g n2 g2 X w' := close_any q m n g h hn
theorem QSt.close2 {w wr : World} {q k o pb : Nat} {m n n2 : Int} {f g g2 : Five} {X : List Res} (h : QSt w q k o pb m f n g n2 g2 X wr) (hn : 0 ≤ n2 ∧ n2 ≤ 12) :
    Calls Try.prog 13 #[.pointer (some ⟨k, 0, none⟩)] wr fun e w' => e = .returned (.int .i64 (if n2 < 1 then 1 else 0)) ∧ QSt w q k o pb m f n g (if n2 < 1 then n2 else n2 - 1) g2 X w' :=
  (rclose_any k m n2 g2 (Has.perm h (List.Perm.swap _ _ _)) hn).mono (fun e w' ⟨he, hh⟩ => ⟨he, hh.perm (List.Perm.swap _ _ _)⟩)
/-- An Admit of both. -/
theorem QSt.admits (w : World) (q k o pb : Nat) (m : Int) (f : Five) (n : Int) (g c : Five) (hg : ∀ j : Nat, j < 5 → 0 ≤ g j ∧ g j ≤ 100000) (hn : 0 ≤ n ∧ n ≤ m) (hm : m ≤ 12) : ∃ (code n' : Int) (g' : Five), (∀ j : Nat, j < 5 → 0 ≤ g' j ∧ g' j ≤ 100000) ∧ 0 ≤ n' ∧ n' ≤ m ∧
    (∀ X wr, QSt w q k o pb m f n g n g X wr → Calls Try.prog 10 #[.pointer (some ⟨q, 0, none⟩), .agg #[.int .i64 (c 4), .int .i64 (c 0), .int .i64 (c 1), .int .i64 (c 2), .int .i64 (c 3)]] wr fun e w' => e = .returned (.int .i64 code) ∧ QSt w q k o pb m f n' g' n g X w') ∧
    (∀ X wr, QSt w q k o pb m f n' g' n g X wr → Calls Try.prog 11 #[.pointer (some ⟨k, 0, none⟩), .agg #[.int .i64 (c 4), .int .i64 (c 0), .int .i64 (c 1), .int .i64 (c 2), .int .i64 (c 3)]] wr fun e w' => e = .returned (.int .i64 code) ∧ QSt w q k o pb m f n' g' n' g' X w') := by
  obtain ⟨code, n', g', hA, h1, h2⟩ := admit_any m n g c hg ⟨hn.1, by omega⟩
  obtain ⟨b1, b2, b3⟩ := hA.bounds hg hn
  refine ⟨code, n', g', b1, b2, b3, fun X wr h => h1 _ _ _ _ _ h, fun X wr h => ?_⟩
  exact (h2 _ _ _ _ _ (Has.perm h (List.Perm.swap _ _ _))).mono (fun e w' ⟨he, hh⟩ => ⟨he, hh.perm (List.Perm.swap _ _ _)⟩)
set_option maxHeartbeats 8000000 in
theorem scripts_no (w : World) (m : Int) (f : Five) (sv : Value) (l : List QOp) (hl : l.length * 48 ≤ 140737488351232) (hr : ORow w sv l) (hok : ¬ NewOk m f) :
    Calls Try.prog 4 #[.agg #[.int .i64 m, .int .i64 (f 4), .int .i64 (f 0), .int .i64 (f 1), .int .i64 (f 2), .int .i64 (f 3), sv]] w fun e w' => e = .returned (.bool true) ∧ Below w.heap.size w w' := by
  obtain ⟨ao, cap, rfl, hcap, h0, hrow⟩ := hr
  have HR : Hid (∀ j, j < l.length → ∃ g o, ao = some ⟨g, o, none⟩ ∧ g < w.heap.size ∧ ∀ i x, (ocell (onth l j))[i]? = some x → w.cell? ⟨g, o + j * 6 + i, none⟩ = some x) := hrow
  have HL : Hid (∀ wq rs, Has w.heap.size w rs wq → Calls Try.prog 8 #[] wq fun e w' => e = .returned (.bool true) ∧ Below w.heap.size w w') := fun wq rs h => (live_any h).mono (fun e w' ⟨he, hh⟩ => ⟨he, hh.bel⟩)
  have HS0 : Hid (Has w.heap.size w [BlockR (w.heap.size + 1) (p4 f)] ((w.alloc (.cells #[.int .i64 m, .int .i64 (f 4), .int .i64 (f 0), .int .i64 (f 1), .int .i64 (f 2), .int .i64 (f 3), .slice ao l.length cap] 38)).alloc (.cells #[.int .i64 (f 0), .int .i64 (f 1), .int .i64 (f 2), .int .i64 (f 3)] 22)).drew) := by
    have k := ((((Has.start w).box [.int .i64 m, .int .i64 (f 4), .int .i64 (f 0), .int .i64 (f 1), .int .i64 (f 2), .int .i64 (f 3), .slice ao l.length cap] 38).drop).box (p4 f) 22).below (Below.refl _ _).drew
    rw [World.size_alloc] at k
    exact k
  clear hrow h0
  have C1 : Hid (∀ wq, Has w.heap.size w [BlockR (w.heap.size + 1) (p4 f)] wq → Calls Try.prog 6 #[.int .i64 m, .int .i64 (f 4), .agg #[.int .i64 (f 0), .int .i64 (f 1), .int .i64 (f 2), .int .i64 (f 3)]] wq fun e w' => e = .returned (.tuple #[.pointer none, .int .i64 1]) ∧ Hid (Has w.heap.size w [BlockR (w.heap.size + 1) (p4 f)] w')) := fun wq h => new_no h m f hok
  have C2 : Hid (∀ wq, Has w.heap.size w [BlockR (w.heap.size + 1) (p4 f)] wq → Calls Try.prog 7 #[.int .i64 m, .int .i64 (f 4), .agg #[.int .i64 (f 0), .int .i64 (f 1), .int .i64 (f 2), .int .i64 (f 3)]] wq fun e w' => e = .returned (.tuple #[.pointer none, .int .i64 1]) ∧ Hid (Has w.heap.size w [BlockR (w.heap.size + 1) (p4 f)] w')) := fun wq h => rnew_no h m f hok
  have HC : Hid (∀ wq, Has w.heap.size w [BlockR (w.heap.size + 1) (p4 f)] wq → wq.cell? ⟨w.heap.size + 1, 0, none⟩ = some (.int .i64 (f 0)) ∧ wq.cell? ⟨w.heap.size + 1, 1, none⟩ = some (.int .i64 (f 1)) ∧ wq.cell? ⟨w.heap.size + 1, 2, none⟩ = some (.int .i64 (f 2)) ∧ wq.cell? ⟨w.heap.size + 1, 3, none⟩ = some (.int .i64 (f 3))) := fun wq h => by
    have k := h.cells List.mem_cons_self
    exact ⟨k 0 _ rfl, k 1 _ rfl, k 2 _ rfl, k 3 _ rfl⟩
  clear hok HR
  generalize f 0 = f0 at *
  generalize f 1 = f1 at *
  generalize f 2 = f2 at *
  generalize f 3 = f3 at *
  generalize f 4 = f4 at *
  go_enter Try.func4, Try.ntmps4
  go_wp2_with fail
  go_region
  generalize ((w.alloc (.cells #[.int .i64 m, .int .i64 f4, .int .i64 f0, .int .i64 f1, .int .i64 f2, .int .i64 f3, .slice ao l.length cap] 38)).alloc (.cells #[.int .i64 f0, .int .i64 f1, .int .i64 f2, .int .i64 f3] 22)).drew = w0 at *
  obtain ⟨p0, p1, p2, p3⟩ := HC.out _ HS0.out
  have D1 := C1.out _ HS0.out
  clear HS0
  go_wp2_with fail
  refine D1.mono ?_
  rintro e w1 ⟨rfl, h1⟩
  clear D1 p0 p1 p2 p3
  obtain ⟨p0, p1, p2, p3⟩ := HC.out _ h1.out
  have D2 := C1.out _ h1.out
  clear h1
  go_wp2_with fail
  refine D2.mono ?_
  rintro e w2 ⟨rfl, h2⟩
  clear D2 p0 p1 p2 p3 C1
  obtain ⟨p0, p1, p2, p3⟩ := HC.out _ h2.out
  have D3 := C2.out _ h2.out
  clear h2 HC C2
  go_wp2_with fail
  refine D3.mono ?_
  rintro e w3 ⟨rfl, h3⟩
  have D4 := HL.out _ _ h3.out
  clear D3 p0 p1 p2 p3 h3 HL
  go_wp2_with fail
  refine D4.mono ?_
  rintro e w4 ⟨rfl, h4⟩
  clear D4
  go_wp2_with fail
  go_ret
  exact ⟨rfl, h4⟩
end Go.Proofs.Ytgffcgigjiedpaa
