/- The walk of the law QuotaSums. -/
import Derived.Test.YtgffcgigjiedpaaScriptN
set_option linter.unusedVariables false
set_option maxRecDepth 100000
namespace Go.Proofs.Ytgffcgigjiedpaa
open Go.RowKit

/-- The first k participants' more, behind the orchestrator's. -/
def addK (u c : Five) (k : Nat) : Five := fun j => if j = 4 then u 4 + c 4 else if j < k then u j + c j else u j
theorem k5_congr {f g : Five} (h : ∀ j, j < 5 → f j = g j) : k5 f = k5 g := by
  unfold k5
  rw [h 0 (by omega), h 1 (by omega), h 2 (by omega), h 3 (by omega), h 4 (by omega)]
theorem addK_zero (u c : Five) : (k5 u).set 0 (.int .i64 (u 4 + c 4)) = k5 (addK u c 0) := by
  show k5 (upd u 4 (u 4 + c 4)) = _
  exact k5_congr (fun j hj => by unfold upd addK; by_cases e : j = 4 <;> simp [e])
theorem addK_step (u c : Five) (k : Nat) (hk : k < 4) : (k5 (addK u c k)).set (1 + k) (.int .i64 (u k + c k)) = k5 (addK u c (k + 1)) := by
  have e1 : (k5 (addK u c k)).set (1 + k) (.int .i64 (u k + c k)) = k5 (upd (addK u c k) k (u k + c k)) := by
    rcases lt4 hk with rfl | rfl | rfl | rfl <;> rfl
  rw [e1]
  refine k5_congr (fun j hj => ?_)
  unfold upd addK
  by_cases e : j = k
  · subst e; simp [show ¬ j = 4 by omega]
  · by_cases e4 : j = 4
    · subst e4; simp [e]
    · by_cases h : j < k
      · simp [e, e4, h, show j < k + 1 by omega]
      · simp [e, e4, h, show ¬ j < k + 1 by omega]
theorem addK_at (u c : Five) (k : Nat) (hk : k < 4) : addK u c k k = u k := by unfold addK; simp [show ¬ k = 4 by omega]
theorem addK_end (u c : Five) (j : Nat) (hj : j < 5) : addK u c 4 j = u j + c j := by
  unfold addK
  by_cases e : j = 4
  · subst e; simp
  · simp [e, show j < 4 by omega]
theorem ocell_at (D : Int) (c : Five) (j : Nat) (hj : j < 4) : ([.int .i64 D, .int .i64 (c 4), .int .i64 (c 0), .int .i64 (c 1), .int .i64 (c 2), .int .i64 (c 3)] : List Value)[2 + j]? = some (.int .i64 (c j)) := by
  rcases lt4 hj with rfl | rfl | rfl | rfl <;> rfl
/-- A quota, what was used, and the budgets. -/
def SSt (w : World) (q ub pb : Nat) (m : Int) (f : Five) (n : Int) (g u : Five) (X : List Res) (wr : World) : Prop :=
  Has w.heap.size w (BlockR q (q7 m n g) :: BlockR ub (k5 u) :: BlockR pb (p4 f) :: X) wr
theorem SSt.box {w wr : World} {q ub pb : Nat} {m n : Int} {f g u : Five} {X : List Res} (h : SSt w q ub pb m f n g u X wr) (vs : List Value) (t : TypeId) : SSt w q ub pb m f n g u (BlockR wr.heap.size vs :: X) (wr.alloc (.cells vs.toArray t)) := by
  have x := Has.box h vs t
  exact x.perm (List.perm_middle (l₁ := [_, _, _])).symm
theorem SSt.cells {w wr : World} {q ub pb : Nat} {m n : Int} {f g u : Five} {X : List Res} (h : SSt w q ub pb m f n g u X wr) {b : Nat} {vs : List Value} (hm : BlockR b vs ∈ X) : ∀ j v, vs[j]? = some v → wr.cell? ⟨b, j, none⟩ = some v :=
  Has.cells h (by simp [hm])
theorem SSt.drop {w wr : World} {q ub pb : Nat} {m n : Int} {f g u : Five} {X : List Res} (h : SSt w q ub pb m f n g u X wr) : SSt w q ub pb m f n g u [] wr := Has.fore (xs := [_, _, _]) h
theorem SSt.left {w wr : World} {q ub pb : Nat} {m n : Int} {f g u : Five} {X : List Res} (h : SSt w q ub pb m f n g u X wr) :
    Calls Try.prog 9 #[.pointer (some ⟨q, 0, none⟩)] wr fun e w' => e = .returned (.tuple #[.int .i64 n, .agg #[.int .i64 (g 4), .int .i64 (g 0), .int .i64 (g 1), .int .i64 (g 2), .int .i64 (g 3)]]) ∧ SSt w q ub pb m f n g u X w' := left_any q m n g h (by simp)
theorem SSt.close {w wr : World} {q ub pb : Nat} {m n : Int} {f g u : Five} {X : List Res} (h : SSt w q ub pb m f n g u X wr) (hn : 0 ≤ n ∧ n ≤ 12) :
    Calls Try.prog 12 #[.pointer (some ⟨q, 0, none⟩)] wr fun e w' => e = .returned (.int .i64 (if n < 1 then 1 else 0)) ∧ SSt w q ub pb m f (if n < 1 then n else n - 1) g u X w' := close_any q m n g h hn
theorem SSt.put {w wr : World} {q ub pb : Nat} {m n : Int} {f g u : Five} {X : List Res} (h : SSt w q ub pb m f n g u X wr) (j : Nat) (hj : j < 5) (v : Value) (u2 : Five) (e : (k5 u).set j v = k5 u2) : SSt w q ub pb m f n g u2 X (wr.setCell ⟨ub, j, none⟩ v) := by
  have x := (Has.perm h (List.Perm.swap _ _ _)).put j hj v
  rw [e] at x
  exact x.perm (List.Perm.swap _ _ _)
theorem SSt.ucell {w wr : World} {q ub pb : Nat} {m n : Int} {f g u : Five} {X : List Res} (h : SSt w q ub pb m f n g u X wr) (j : Nat) (v : Value) (hj : (k5 u)[j]? = some v) : wr.cell? ⟨ub, j, none⟩ = some v ∧ wr.frozen? ⟨ub, j, none⟩ = false := Has.cell h (by simp) j v hj
theorem SSt.pcell {w wr : World} {q ub pb : Nat} {m n : Int} {f g u : Five} {X : List Res} (h : SSt w q ub pb m f n g u X wr) (j : Nat) (hj : j < 4) : wr.cell? ⟨pb, j, none⟩ = some (.int .i64 (f j)) := by
  have x := Has.cells h (q := pb) (vs := p4 f) (by simp)
  rcases lt4 hj with rfl | rfl | rfl | rfl
  · exact x 0 _ rfl
  · exact x 1 _ rfl
  · exact x 2 _ rfl
  · exact x 3 _ rfl
theorem SSt.below {w wr w' : World} {q ub pb : Nat} {m n : Int} {f g u : Five} {X : List Res} (h : SSt w q ub pb m f n g u X wr) (hb : Below wr.heap.size wr w') : SSt w q ub pb m f n g u X w' := Has.below h hb
/-- What holds between the rounds. -/
def SumOk (m : Int) (f : Five) (n : Int) (g u : Five) : Prop := 0 ≤ n ∧ n ≤ m ∧ ∀ j : Nat, j < 5 → 0 ≤ g j ∧ 0 ≤ u j ∧ f j = g j + u j ∧ f j ≤ 100000
theorem SumOk.more {m : Int} {f : Five} {n : Int} {g u c : Five} (h : SumOk m f n g u) (hl : n < m) (hc : ∀ j : Nat, j < 5 → 0 ≤ c j ∧ c j ≤ g j) : SumOk m f (n + 1) (less g c 5) (addK u c 4) := by
  obtain ⟨h1, h2, h3⟩ := h
  refine ⟨by omega, by omega, fun j hj => ?_⟩
  obtain ⟨a, b, c1, d⟩ := h3 j hj
  obtain ⟨x, y⟩ := hc j hj
  rw [addK_end u c j hj]
  unfold less
  rw [if_pos hj]
  omega

set_option maxHeartbeats 8000000 in
theorem sums_no (w : World) (m : Int) (f : Five) (sv : Value) (l : List QOp) (hl : l.length * 48 ≤ 140737488351232) (hr : ORow w sv l) (hok : ¬ NewOk m f) :
    Calls Try.prog 5 #[.agg #[.int .i64 m, .int .i64 (f 4), .int .i64 (f 0), .int .i64 (f 1), .int .i64 (f 2), .int .i64 (f 3), sv]] w fun e w' => e = .returned (.bool true) ∧ Below w.heap.size w w' := by
  obtain ⟨ao, cap, rfl, hcap, h0, hrow⟩ := hr
  have HR : Hid (∀ j, j < l.length → ∃ g o, ao = some ⟨g, o, none⟩ ∧ g < w.heap.size ∧ ∀ i x, (ocell (onth l j))[i]? = some x → w.cell? ⟨g, o + j * 6 + i, none⟩ = some x) := hrow
  have HL : Hid (∀ wq rs, Has w.heap.size w rs wq → Calls Try.prog 8 #[] wq fun e w' => e = .returned (.bool true) ∧ Below w.heap.size w w') := fun wq rs h => (live_any h).mono (fun e w' ⟨he, hh⟩ => ⟨he, hh.bel⟩)
  have HS0 : Hid (Has w.heap.size w [BlockR (w.heap.size + 1) (p4 f)] ((w.alloc (.cells #[.int .i64 m, .int .i64 (f 4), .int .i64 (f 0), .int .i64 (f 1), .int .i64 (f 2), .int .i64 (f 3), .slice ao l.length cap] 38)).alloc (.cells #[.int .i64 (f 0), .int .i64 (f 1), .int .i64 (f 2), .int .i64 (f 3)] 22)).drew) := by
    have k := ((((Has.start w).box [.int .i64 m, .int .i64 (f 4), .int .i64 (f 0), .int .i64 (f 1), .int .i64 (f 2), .int .i64 (f 3), .slice ao l.length cap] 38).drop).box (p4 f) 22).below (Below.refl _ _).drew
    rw [World.size_alloc] at k
    exact k
  have HC : Hid (∀ rs wq, Has w.heap.size w rs wq → BlockR (w.heap.size + 1) (p4 f) ∈ rs → wq.cell? ⟨w.heap.size + 1, 0, none⟩ = some (.int .i64 (f 0)) ∧ wq.cell? ⟨w.heap.size + 1, 1, none⟩ = some (.int .i64 (f 1)) ∧ wq.cell? ⟨w.heap.size + 1, 2, none⟩ = some (.int .i64 (f 2)) ∧ wq.cell? ⟨w.heap.size + 1, 3, none⟩ = some (.int .i64 (f 3))) := fun rs wq h hm => by
    have k := h.cells hm
    exact ⟨k 0 _ rfl, k 1 _ rfl, k 2 _ rfl, k 3 _ rfl⟩
  clear hrow h0
  have C1 : Hid (∀ wq, Has w.heap.size w [BlockR (w.heap.size + 1) (p4 f)] wq → Calls Try.prog 6 #[.int .i64 m, .int .i64 (f 4), .agg #[.int .i64 (f 0), .int .i64 (f 1), .int .i64 (f 2), .int .i64 (f 3)]] wq fun e w' => e = .returned (.tuple #[.pointer none, .int .i64 1]) ∧ Hid (Has w.heap.size w [BlockR (w.heap.size + 1) (p4 f)] w')) := fun wq h => new_no h m f hok
  clear hok HR
  go_enter Try.func5, Try.ntmps5
  go_wp2_with fail
  go_region
  generalize ((w.alloc (.cells #[.int .i64 m, .int .i64 (f 4), .int .i64 (f 0), .int .i64 (f 1), .int .i64 (f 2), .int .i64 (f 3), .slice ao l.length cap] 38)).alloc (.cells #[.int .i64 (f 0), .int .i64 (f 1), .int .i64 (f 2), .int .i64 (f 3)] 22)).drew = w0 at *
  generalize hpb : w.heap.size + 1 = pb at *
  obtain ⟨p0, p1, p2, p3⟩ := HC.out _ _ HS0.out List.mem_cons_self
  have D1 := C1.out _ HS0.out
  clear HS0 hpb HC C1
  go_wp2_with fail
  refine D1.mono ?_
  rintro e w1 ⟨rfl, h1⟩
  have D4 := HL.out _ _ h1.out
  clear D1 p0 p1 p2 p3 h1 HL
  go_wp2_with fail
  refine D4.mono ?_
  rintro e w4 ⟨rfl, h4⟩
  clear D4
  go_wp2_with fail
  go_ret
  exact ⟨rfl, h4⟩
set_option maxHeartbeats 16000000 in
theorem sums_yes (w : World) (m : Int) (f : Five) (sv : Value) (l : List QOp) (hl : l.length * 48 ≤ 140737488351232) (hr : ORow w sv l) (hok : NewOk m f) :
    Calls Try.prog 5 #[.agg #[.int .i64 m, .int .i64 (f 4), .int .i64 (f 0), .int .i64 (f 1), .int .i64 (f 2), .int .i64 (f 3), sv]] w fun e w' => e = .returned (.bool true) ∧ Below w.heap.size w w' := by
  obtain ⟨ao, cap, rfl, hcap, h0, hrow⟩ := hr
  have HR : Hid (∀ j, j < l.length → ∃ g o, ao = some ⟨g, o, none⟩ ∧ g < w.heap.size ∧ ∀ i x, (ocell (onth l j))[i]? = some x → w.cell? ⟨g, o + j * 6 + i, none⟩ = some x) := hrow
  have HL : Hid (∀ wq rs, Has w.heap.size w rs wq → Calls Try.prog 8 #[] wq fun e w' => e = .returned (.bool true) ∧ Below w.heap.size w w') := fun wq rs h => (live_any h).mono (fun e w' ⟨he, hh⟩ => ⟨he, hh.bel⟩)
  have HS0 : Hid (Has w.heap.size w [BlockR (w.heap.size + 1) (p4 f)] ((w.alloc (.cells #[.int .i64 m, .int .i64 (f 4), .int .i64 (f 0), .int .i64 (f 1), .int .i64 (f 2), .int .i64 (f 3), .slice ao l.length cap] 38)).alloc (.cells #[.int .i64 (f 0), .int .i64 (f 1), .int .i64 (f 2), .int .i64 (f 3)] 22)).drew) := by
    have k := ((((Has.start w).box [.int .i64 m, .int .i64 (f 4), .int .i64 (f 0), .int .i64 (f 1), .int .i64 (f 2), .int .i64 (f 3), .slice ao l.length cap] 38).drop).box (p4 f) 22).below (Below.refl _ _).drew
    rw [World.size_alloc] at k
    exact k
  have HC : Hid (∀ rs wq, Has w.heap.size w rs wq → BlockR (w.heap.size + 1) (p4 f) ∈ rs → wq.cell? ⟨w.heap.size + 1, 0, none⟩ = some (.int .i64 (f 0)) ∧ wq.cell? ⟨w.heap.size + 1, 1, none⟩ = some (.int .i64 (f 1)) ∧ wq.cell? ⟨w.heap.size + 1, 2, none⟩ = some (.int .i64 (f 2)) ∧ wq.cell? ⟨w.heap.size + 1, 3, none⟩ = some (.int .i64 (f 3))) := fun rs wq h hm => by
    have k := h.cells hm
    exact ⟨k 0 _ rfl, k 1 _ rfl, k 2 _ rfl, k 3 _ rfl⟩
  clear hrow h0
  have hm12 : 1 ≤ m ∧ m ≤ 12 := ⟨hok.1, hok.2.1⟩
  have HF : Hid (SumOk m f 0 f (fun _ => 0)) := ⟨by omega, by omega, fun j hj => ⟨(hok.2.2 j hj).1, Int.le_refl _, by simp, (hok.2.2 j hj).2⟩⟩
  have C1 : Hid (∀ wq, Has w.heap.size w [BlockR (w.heap.size + 1) (p4 f)] wq → Calls Try.prog 6 #[.int .i64 m, .int .i64 (f 4), .agg #[.int .i64 (f 0), .int .i64 (f 1), .int .i64 (f 2), .int .i64 (f 3)]] wq fun e w' => ∃ q, e = .returned (.tuple #[.pointer (some ⟨q, 0, none⟩), .int .i64 0]) ∧ Hid (Has w.heap.size w [BlockR q (q7 m 0 f), BlockR (w.heap.size + 1) (p4 f)] w')) := fun wq h => new_yes h m f hok
  clear hok
  go_enter Try.func5, Try.ntmps5
  go_wp2_with fail
  go_region
  generalize ((w.alloc (.cells #[.int .i64 m, .int .i64 (f 4), .int .i64 (f 0), .int .i64 (f 1), .int .i64 (f 2), .int .i64 (f 3), .slice ao l.length cap] 38)).alloc (.cells #[.int .i64 (f 0), .int .i64 (f 1), .int .i64 (f 2), .int .i64 (f 3)] 22)).drew = w0 at *
  generalize hpb : w.heap.size + 1 = pb at *
  obtain ⟨p0, p1, p2, p3⟩ := HC.out _ _ HS0.out List.mem_cons_self
  have D1 := C1.out _ HS0.out
  clear HS0 hpb HC C1
  go_wp2_with fail
  refine D1.mono ?_
  rintro e w1 ⟨q, rfl, h1⟩
  have HS : SSt w q w1.heap.size pb m f 0 f (fun _ => 0) [] (w1.alloc (.cells #[.int .i64 0, .int .i64 0, .int .i64 0, .int .i64 0, .int .i64 0] 32)) := (h1.out.box (k5 (fun _ => 0)) 32).perm (List.Perm.swap _ _ _)
  clear D1 p0 p1 p2 p3 h1
  go_wp2_with fail
  go_loopw [8, 10, 11] (fun ev cv i wr => ∃ (j : Nat) (n : Int) (g u : Five) (x : Int), j ≤ l.length ∧ ev = .int .i64 x ∧ cv = .int .i64 n ∧ i = .int .i64 (j : Int) ∧ Hid (SumOk m f n g u) ∧ SSt w q w1.heap.size pb m f n g u [] wr) (fun _ _ i _ => l.length - (intOf i).toNat)
  case atStart => exact ⟨0, 0, f, (fun _ => 0), 0, Nat.zero_le _, rfl, rfl, rfl, HF, HS⟩
  case round =>
    as_aux_lemma =>
      obtain ⟨j, n, g, u, x, hj, rfl, rfl, rfl, HG, HQ⟩ := hrel
      clear HS HF
      generalize w1.heap.size = ub at *
      have hnm : 0 ≤ n ∧ n ≤ m := ⟨HG.out.1, HG.out.2.1⟩
      by_cases hlt : j < l.length
      · obtain ⟨gb, ob, rfl, hgl, hcell⟩ := HR.out j hlt
        have hcell2 : ∀ i x, (ocell (onth l j))[i]? = some x → wr.cell? ⟨gb, ob + j * 6 + i, none⟩ = some x := fun i x hx => (HQ.1.cell (p := ⟨gb, ob + j * 6 + i, none⟩) hgl).trans (hcell i x hx)
        have e0 : wr.cell? ⟨gb, ob + j * 6, none⟩ = some (.int .i64 (onth l j).Do) := hcell2 0 _ rfl
        have e1 := hcell2 1 _ rfl
        have e2 := hcell2 2 _ rfl
        have e3 := hcell2 3 _ rfl
        have e4 := hcell2 4 _ rfl
        have e5 := hcell2 5 _ rfl
        clear hcell hcell2
        generalize (onth l j).Do = D at *
        generalize (onth l j).c = c at *
        have hltI : (j : Int) < (l.length : Int) := by omega
        have HQ1 : SSt w q ub pb m f n g u [BlockR wr.heap.size [.int .i64 D, .int .i64 (c 4), .int .i64 (c 0), .int .i64 (c 1), .int .i64 (c 2), .int .i64 (c 3)]] (wr.alloc (.cells #[.int .i64 D, .int .i64 (c 4), .int .i64 (c 0), .int .i64 (c 1), .int .i64 (c 2), .int .i64 (c 3)] 40)) := HQ.box _ _
        have L0 := HQ1.left
        obtain ⟨tb, htb⟩ : ∃ tb, wr.heap.size = tb := ⟨_, rfl⟩
        rw [htb] at L0
        clear HQ HQ1
        go_wp2_with fail
        refine L0.mono ?_
        rintro e w3 ⟨rfl, hq3⟩
        have HQ4 := hq3.box [.int .i64 (g 4), .int .i64 (g 0), .int .i64 (g 1), .int .i64 (g 2), .int .i64 (g 3)] 32
        obtain ⟨bb, hbb⟩ : ∃ bb, w3.heap.size = bb := ⟨_, rfl⟩
        rw [hbb] at HQ4
        have hcl := HQ4.cells (b := tb) (vs := [.int .i64 D, .int .i64 (c 4), .int .i64 (c 0), .int .i64 (c 1), .int .i64 (c 2), .int .i64 (c 3)]) (by simp)
        have y0 := hcl 0 _ rfl
        have y1 := hcl 1 _ rfl
        have y2 := hcl 2 _ rfl
        have y3 := hcl 3 _ rfl
        have y4 := hcl 4 _ rfl
        have y5 := hcl 5 _ rfl
        clear L0 hq3 hcl e0 e1 e2 e3 e4 e5 htb
        generalize hw4 : (w3.alloc (.cells #[.int .i64 (g 4), .int .i64 (g 0), .int .i64 (g 1), .int .i64 (g 2), .int .i64 (g 3)] 32)) = w4 at *
        by_cases hD : D = 0
        · have hD1 : (D == 0) = true := by simpa using hD
          obtain ⟨code, n', g', hA, A1, _⟩ := admit_any m n g c (fun j hj => by obtain ⟨a, b, c, d⟩ := HG.out.2.2 j hj; exact ⟨a, by omega⟩) ⟨hnm.1, by omega⟩
          have D1 : Hid (Calls Try.prog 10 #[.pointer (some ⟨q, 0, none⟩), .agg #[.int .i64 (c 4), .int .i64 (c 0), .int .i64 (c 1), .int .i64 (c 2), .int .i64 (c 3)]] w4 fun e w' => e = .returned (.int .i64 code) ∧ SSt w q ub pb m f n' g' u [BlockR bb [.int .i64 (g 4), .int .i64 (g 0), .int .i64 (g 1), .int .i64 (g 2), .int .i64 (g 3)], BlockR tb [.int .i64 D, .int .i64 (c 4), .int .i64 (c 0), .int .i64 (c 1), .int .i64 (c 2), .int .i64 (c 3)]] w') := A1 _ _ _ _ _ HQ4
          rcases hA with ⟨hcode, rfl, rfl⟩ | ⟨rfl, rfl, rfl, hnl, hc⟩
          · as_aux_lemma =>
            have hc1 : (code == 0) = false := by simpa using hcode
            have hc2 : (code != 0) = true := by simpa using hcode
            clear hD A1 HQ4 hcode
            go_wp2_with fail
            refine D1.out.mono ?_
            rintro e w5 ⟨rfl, HQ5⟩
            clear D1 y0 y1 y2 y3 y4 y5 hbb hw4
            have L1 := HQ5.left
            clear HQ5
            go_wp2_with fail
            refine L1.mono ?_
            rintro e w6 ⟨rfl, hq6⟩
            have HQ7 := hq6.box [.int .i64 (g' 4), .int .i64 (g' 0), .int .i64 (g' 1), .int .i64 (g' 2), .int .i64 (g' 3)] 32
            have hcl := HQ7.cells List.mem_cons_self
            have x0 := hcl 0 _ rfl
            have x1 := hcl 1 _ rfl
            have x2 := hcl 2 _ rfl
            have x3 := hcl 3 _ rfl
            have x4 := hcl 4 _ rfl
            have hcm := HQ7.cells (b := bb) (vs := [.int .i64 (g' 4), .int .i64 (g' 0), .int .i64 (g' 1), .int .i64 (g' 2), .int .i64 (g' 3)]) (by simp)
            have z0 := hcm 0 _ rfl
            have z1 := hcm 1 _ rfl
            have z2 := hcm 2 _ rfl
            have z3 := hcm 3 _ rfl
            have z4 := hcm 4 _ rfl
            have KN := fun wq => neqCost (g' 4) (g' 0) (g' 1) (g' 2) (g' 3) wq
            clear hcm
            obtain ⟨v0, _⟩ := HQ7.ucell 0 _ rfl
            obtain ⟨n2, n3, hS⟩ := HG.out
            have HSX : Hid (∀ j : Nat, j < 5 → 0 ≤ g' j ∧ 0 ≤ u j ∧ f j = g' j + u j ∧ f j ≤ 100000) := hS
            obtain ⟨s0, s1, s2, s3⟩ := hS 4 (by decide)
            have s4 : (g' 4 + u 4 != f 4) = false := by simp; omega
            have s5 : g' 4 + u 4 ≤ 100000 := by omega
            have s6 : decide (g' 4 < 0) = false := by simp; omega
            clear L1 hq6 hcl hS s2 s3
            go_upto_region 25 with fail
            generalize (w6.alloc (.cells #[.int .i64 (g' 4), .int .i64 (g' 0), .int .i64 (g' 1), .int .i64 (g' 2), .int .i64 (g' 3)] 32)) = w7 at *
            generalize w6.heap.size = b6 at *
            go_wp2_with fail
            clear x0 x1 x2 x3 x4 v0 s0 s1 s4 s5 s6 z0 z1 z2 z3 z4 KN
            go_loopw [18] (fun i wq => ∃ k : Nat, k ≤ 4 ∧ i = .int .i64 (k : Int) ∧ SSt w q ub pb m f n' g' u [BlockR b6 [.int .i64 (g' 4), .int .i64 (g' 0), .int .i64 (g' 1), .int .i64 (g' 2), .int .i64 (g' 3)], BlockR bb [.int .i64 (g' 4), .int .i64 (g' 0), .int .i64 (g' 1), .int .i64 (g' 2), .int .i64 (g' 3)], BlockR tb [.int .i64 D, .int .i64 (c 4), .int .i64 (c 0), .int .i64 (c 1), .int .i64 (c 2), .int .i64 (c 3)]] wq) (fun i _ => 4 - (intOf i).toNat)
            case atStart => exact ⟨0, Nat.zero_le _, rfl, HQ7⟩
            case round =>
              obtain ⟨k, hk, rfl, HQ8⟩ := hrel
              clear HQ7
              by_cases hlt : k < 4
              · have hltJ : (k : Int) < 4 := by omega
                have d0 := HQ8.cells (b := b6) (vs := [.int .i64 (g' 4), .int .i64 (g' 0), .int .i64 (g' 1), .int .i64 (g' 2), .int .i64 (g' 3)]) (by simp) (1 + k) _ (k5_at g' k hlt)
                obtain ⟨d1, _⟩ := HQ8.ucell (1 + k) _ (k5_at u k hlt)
                have d2 := HQ8.pcell k hlt
                obtain ⟨s0, s1, s2, s3⟩ := HSX.out k (by omega)
                have s4 : (g' k + u k != f k) = false := by simp; omega
                have s5 : g' k + u k ≤ 100000 := by omega
                have s6 : decide (g' k < 0) = false := by simp; omega
                have HN : Hid (∀ x, SSt w q ub pb m f n' g' u [BlockR b6 [.int .i64 (g' 4), .int .i64 (g' 0), .int .i64 (g' 1), .int .i64 (g' 2), .int .i64 (g' 3)], BlockR bb [.int .i64 (g' 4), .int .i64 (g' 0), .int .i64 (g' 1), .int .i64 (g' 2), .int .i64 (g' 3)], BlockR tb [.int .i64 D, .int .i64 (c 4), .int .i64 (c 0), .int .i64 (c 1), .int .i64 (c 2), .int .i64 (c 3)]] (wr.drewN x)) := fun x => HQ8.below (below_drewN (Below.refl _ _) x)
                clear s2 s3 HQ8 HSX
                generalize g' k = ga at *
                generalize u k = ua at *
                generalize f k = fa at *
                go_wp2
                go_quiet (fail)
                go_wp2
                exact ⟨⟨k + 1, by omega, by go_num, HN.out _⟩, by simp [intOf]; omega⟩
              · have hltJ : ¬ (k : Int) < 4 := by omega
                have HQ9 : SSt w q ub pb m f n' g' u [] wr := HQ8.drop
                clear HQ8 HSX
                go_wp2
                exact ⟨⟨j + 1, n', g', u, _, by omega, rfl, rfl, by go_num, HG, HQ9⟩, by simp [intOf]; omega⟩
          · as_aux_lemma =>
            have HG2 : Hid (SumOk m f (n + 1) (less g c 5) (addK u c 4)) := HG.out.more hnl hc
            have HCG : Hid (∀ j : Nat, j < 5 → 0 ≤ c j ∧ c j ≤ g j) := hc
            clear hD A1 HQ4 hc
            go_wp2_with fail
            refine D1.out.mono ?_
            rintro e w5 ⟨rfl, HQ5⟩
            clear D1 y0 y1 y2 y3 y4 y5 hbb hw4
            generalize less g c 5 = gN at *
            have hcl := HQ5.cells (b := tb) (vs := [.int .i64 D, .int .i64 (c 4), .int .i64 (c 0), .int .i64 (c 1), .int .i64 (c 2), .int .i64 (c 3)]) (by simp)
            have y1 := hcl 1 _ rfl
            obtain ⟨v0, v1⟩ := HQ5.ucell 0 _ rfl
            obtain ⟨s0, s1, s2, s3⟩ := HG.out.2.2 4 (by decide)
            obtain ⟨s4, s5⟩ := HCG.out 4 (by decide)
            have s6 : c 4 ≤ 100000 := by omega
            have s7 : u 4 ≤ 100000 := by omega
            have HQ6 : SSt w q ub pb m f (n + 1) gN (addK u c 0) [BlockR bb [.int .i64 (g 4), .int .i64 (g 0), .int .i64 (g 1), .int .i64 (g 2), .int .i64 (g 3)], BlockR tb [.int .i64 D, .int .i64 (c 4), .int .i64 (c 0), .int .i64 (c 1), .int .i64 (c 2), .int .i64 (c 3)]] (w5.setCell ⟨ub, 0, none⟩ (.int .i64 (u 4 + c 4))) := HQ5.put 0 (by decide) _ _ (addK_zero u c)
            clear hcl HQ5 s2 s3 s5 s0
            go_upto_region 16 with fail
            generalize (w5.setCell ⟨ub, 0, none⟩ (.int .i64 (u 4 + c 4))) = w9 at *
            clear v0 v1 y1 s1 s4 s6 s7
            go_wp2_with fail
            go_loopw [15] (fun i wq => ∃ k : Nat, k ≤ 4 ∧ i = .int .i64 (k : Int) ∧ SSt w q ub pb m f (n + 1) gN (addK u c k) [BlockR bb [.int .i64 (g 4), .int .i64 (g 0), .int .i64 (g 1), .int .i64 (g 2), .int .i64 (g 3)], BlockR tb [.int .i64 D, .int .i64 (c 4), .int .i64 (c 0), .int .i64 (c 1), .int .i64 (c 2), .int .i64 (c 3)]] wq) (fun i _ => 4 - (intOf i).toNat)
            case atStart => exact ⟨0, Nat.zero_le _, rfl, HQ6⟩
            case round =>
              obtain ⟨k, hk, rfl, HQ7⟩ := hrel
              clear HQ6
              by_cases hlt : k < 4
              · have hltJ : (k : Int) < 4 := by omega
                have d0 := HQ7.cells (b := tb) (vs := [.int .i64 D, .int .i64 (c 4), .int .i64 (c 0), .int .i64 (c 1), .int .i64 (c 2), .int .i64 (c 3)]) (by simp) (2 + k) _ (ocell_at D c k hlt)
                obtain ⟨d1, d2⟩ := HQ7.ucell (1 + k) _ (k5_at (addK u c k) k hlt)
                rw [addK_at u c k hlt] at d1
                obtain ⟨s0, s1, s2, s3⟩ := HG.out.2.2 k (by omega)
                obtain ⟨s4, s5⟩ := HCG.out k (by omega)
                have s6 : c k ≤ 100000 := by omega
                have s7 : u k ≤ 100000 := by omega
                have HN : SSt w q ub pb m f (n + 1) gN (addK u c (k + 1)) [BlockR bb [.int .i64 (g 4), .int .i64 (g 0), .int .i64 (g 1), .int .i64 (g 2), .int .i64 (g 3)], BlockR tb [.int .i64 D, .int .i64 (c 4), .int .i64 (c 0), .int .i64 (c 1), .int .i64 (c 2), .int .i64 (c 3)]] (wr.setCell ⟨ub, 1 + k, none⟩ (.int .i64 (u k + c k))).drew := (HQ7.put (1 + k) (by omega) _ _ (addK_step u c k hlt)).below (Below.refl _ _).drew
                clear HQ7 s2 s3 s5 s0
                generalize c k = ck at *
                generalize u k = uk at *
                go_wp2_with fail
                go_region
                all_goals (go_wp2; exact ⟨⟨k + 1, by omega, by go_num, HN⟩, by simp [intOf]; omega⟩)
              · have hltJ : ¬ (k : Int) < 4 := by omega
                have HQ5 : SSt w q ub pb m f (n + 1) gN (addK u c 4) [BlockR bb [.int .i64 (g 4), .int .i64 (g 0), .int .i64 (g 1), .int .i64 (g 2), .int .i64 (g 3)], BlockR tb [.int .i64 D, .int .i64 (c 4), .int .i64 (c 0), .int .i64 (c 1), .int .i64 (c 2), .int .i64 (c 3)]] wr := by
                  rw [show k = 4 by omega] at HQ7; exact HQ7
                clear HQ7 HCG
                generalize addK u c 4 = uN at *
                have L1 := HQ5.left
                clear HQ5
                go_wp2_with fail
                refine L1.mono ?_
                rintro e w6 ⟨rfl, hq6⟩
                have HQ7 := hq6.box [.int .i64 (gN 4), .int .i64 (gN 0), .int .i64 (gN 1), .int .i64 (gN 2), .int .i64 (gN 3)] 32
                have hcl := HQ7.cells List.mem_cons_self
                have x0 := hcl 0 _ rfl
                have x1 := hcl 1 _ rfl
                have x2 := hcl 2 _ rfl
                have x3 := hcl 3 _ rfl
                have x4 := hcl 4 _ rfl
                obtain ⟨v0, _⟩ := HQ7.ucell 0 _ rfl
                obtain ⟨n2, n3, hS⟩ := HG2.out
                have HSX : Hid (∀ j : Nat, j < 5 → 0 ≤ gN j ∧ 0 ≤ uN j ∧ f j = gN j + uN j ∧ f j ≤ 100000) := hS
                obtain ⟨s0, s1, s2, s3⟩ := hS 4 (by decide)
                have s4 : (gN 4 + uN 4 != f 4) = false := by simp; omega
                have s5 : gN 4 + uN 4 ≤ 100000 := by omega
                have s6 : decide (gN 4 < 0) = false := by simp; omega
                clear L1 hq6 hcl hS s2 s3
                go_upto_region 25 with fail
                generalize (w6.alloc (.cells #[.int .i64 (gN 4), .int .i64 (gN 0), .int .i64 (gN 1), .int .i64 (gN 2), .int .i64 (gN 3)] 32)) = w7 at *
                generalize w6.heap.size = b6 at *
                go_wp2_with fail
                clear x0 x1 x2 x3 x4 v0 s0 s1 s4 s5 s6 
                go_loopw [18] (fun i wq => ∃ k : Nat, k ≤ 4 ∧ i = .int .i64 (k : Int) ∧ SSt w q ub pb m f (n + 1) gN uN [BlockR b6 [.int .i64 (gN 4), .int .i64 (gN 0), .int .i64 (gN 1), .int .i64 (gN 2), .int .i64 (gN 3)], BlockR bb [.int .i64 (g 4), .int .i64 (g 0), .int .i64 (g 1), .int .i64 (g 2), .int .i64 (g 3)], BlockR tb [.int .i64 D, .int .i64 (c 4), .int .i64 (c 0), .int .i64 (c 1), .int .i64 (c 2), .int .i64 (c 3)]] wq) (fun i _ => 4 - (intOf i).toNat)
                case atStart => exact ⟨0, Nat.zero_le _, rfl, HQ7⟩
                case round =>
                  obtain ⟨k, hk, rfl, HQ8⟩ := hrel
                  clear HQ7
                  by_cases hlt : k < 4
                  · have hltJ : (k : Int) < 4 := by omega
                    have d0 := HQ8.cells (b := b6) (vs := [.int .i64 (gN 4), .int .i64 (gN 0), .int .i64 (gN 1), .int .i64 (gN 2), .int .i64 (gN 3)]) (by simp) (1 + k) _ (k5_at gN k hlt)
                    obtain ⟨d1, _⟩ := HQ8.ucell (1 + k) _ (k5_at uN k hlt)
                    have d2 := HQ8.pcell k hlt
                    obtain ⟨s0, s1, s2, s3⟩ := HSX.out k (by omega)
                    have s4 : (gN k + uN k != f k) = false := by simp; omega
                    have s5 : gN k + uN k ≤ 100000 := by omega
                    have s6 : decide (gN k < 0) = false := by simp; omega
                    have HN : Hid (∀ x, SSt w q ub pb m f (n + 1) gN uN [BlockR b6 [.int .i64 (gN 4), .int .i64 (gN 0), .int .i64 (gN 1), .int .i64 (gN 2), .int .i64 (gN 3)], BlockR bb [.int .i64 (g 4), .int .i64 (g 0), .int .i64 (g 1), .int .i64 (g 2), .int .i64 (g 3)], BlockR tb [.int .i64 D, .int .i64 (c 4), .int .i64 (c 0), .int .i64 (c 1), .int .i64 (c 2), .int .i64 (c 3)]] (wr.drewN x)) := fun x => HQ8.below (below_drewN (Below.refl _ _) x)
                    clear s2 s3 HQ8 HSX
                    generalize gN k = ga at *
                    generalize uN k = ua at *
                    generalize f k = fa at *
                    go_wp2
                    go_quiet (fail)
                    go_wp2
                    exact ⟨⟨k + 1, by omega, by go_num, HN.out _⟩, by simp [intOf]; omega⟩
                  · have hltJ : ¬ (k : Int) < 4 := by omega
                    have HQ9 : SSt w q ub pb m f (n + 1) gN uN [] wr := HQ8.drop
                    clear HQ8 HSX
                    go_wp2
                    exact ⟨⟨j + 1, (n + 1), gN, uN, _, by omega, rfl, rfl, by go_num, HG2, HQ9⟩, by simp [intOf]; omega⟩
        · have hD1 : (D == 0) = false := by simpa using hD
          by_cases hn : n < 1
          · as_aux_lemma =>
            have D1 : Hid (Calls Try.prog 12 #[.pointer (some ⟨q, 0, none⟩)] w4 fun e w' => e = .returned (.int .i64 1) ∧ SSt w q ub pb m f n g u [BlockR bb [.int .i64 (g 4), .int .i64 (g 0), .int .i64 (g 1), .int .i64 (g 2), .int .i64 (g 3)], BlockR tb [.int .i64 D, .int .i64 (c 4), .int .i64 (c 0), .int .i64 (c 1), .int .i64 (c 2), .int .i64 (c 3)]] w') := by
              have x := HQ4.close ⟨hnm.1, by omega⟩
              rw [if_pos hn, if_pos hn] at x
              exact x
            clear hD HQ4
            go_wp2_with fail
            refine D1.out.mono ?_
            rintro e w5 ⟨rfl, HQ5⟩
            clear D1 y0 y1 y2 y3 y4 y5 hbb hw4
            have L1 := HQ5.left
            clear HQ5
            go_wp2_with fail
            refine L1.mono ?_
            rintro e w6 ⟨rfl, hq6⟩
            have HQ7 := hq6.box [.int .i64 (g 4), .int .i64 (g 0), .int .i64 (g 1), .int .i64 (g 2), .int .i64 (g 3)] 32
            have hcl := HQ7.cells List.mem_cons_self
            have x0 := hcl 0 _ rfl
            have x1 := hcl 1 _ rfl
            have x2 := hcl 2 _ rfl
            have x3 := hcl 3 _ rfl
            have x4 := hcl 4 _ rfl
            have hcm := HQ7.cells (b := bb) (vs := [.int .i64 (g 4), .int .i64 (g 0), .int .i64 (g 1), .int .i64 (g 2), .int .i64 (g 3)]) (by simp)
            have z0 := hcm 0 _ rfl
            have z1 := hcm 1 _ rfl
            have z2 := hcm 2 _ rfl
            have z3 := hcm 3 _ rfl
            have z4 := hcm 4 _ rfl
            have KN := fun wq => neqCost (g 4) (g 0) (g 1) (g 2) (g 3) wq
            clear hcm
            obtain ⟨v0, _⟩ := HQ7.ucell 0 _ rfl
            obtain ⟨n2, n3, hS⟩ := HG.out
            have HSX : Hid (∀ j : Nat, j < 5 → 0 ≤ g j ∧ 0 ≤ u j ∧ f j = g j + u j ∧ f j ≤ 100000) := hS
            obtain ⟨s0, s1, s2, s3⟩ := hS 4 (by decide)
            have s4 : (g 4 + u 4 != f 4) = false := by simp; omega
            have s5 : g 4 + u 4 ≤ 100000 := by omega
            have s6 : decide (g 4 < 0) = false := by simp; omega
            clear L1 hq6 hcl hS s2 s3
            go_upto_region 25 with fail
            generalize (w6.alloc (.cells #[.int .i64 (g 4), .int .i64 (g 0), .int .i64 (g 1), .int .i64 (g 2), .int .i64 (g 3)] 32)) = w7 at *
            generalize w6.heap.size = b6 at *
            go_wp2_with fail
            clear x0 x1 x2 x3 x4 v0 s0 s1 s4 s5 s6 z0 z1 z2 z3 z4 KN
            go_loopw [18] (fun i wq => ∃ k : Nat, k ≤ 4 ∧ i = .int .i64 (k : Int) ∧ SSt w q ub pb m f n g u [BlockR b6 [.int .i64 (g 4), .int .i64 (g 0), .int .i64 (g 1), .int .i64 (g 2), .int .i64 (g 3)], BlockR bb [.int .i64 (g 4), .int .i64 (g 0), .int .i64 (g 1), .int .i64 (g 2), .int .i64 (g 3)], BlockR tb [.int .i64 D, .int .i64 (c 4), .int .i64 (c 0), .int .i64 (c 1), .int .i64 (c 2), .int .i64 (c 3)]] wq) (fun i _ => 4 - (intOf i).toNat)
            case atStart => exact ⟨0, Nat.zero_le _, rfl, HQ7⟩
            case round =>
              obtain ⟨k, hk, rfl, HQ8⟩ := hrel
              clear HQ7
              by_cases hlt : k < 4
              · have hltJ : (k : Int) < 4 := by omega
                have d0 := HQ8.cells (b := b6) (vs := [.int .i64 (g 4), .int .i64 (g 0), .int .i64 (g 1), .int .i64 (g 2), .int .i64 (g 3)]) (by simp) (1 + k) _ (k5_at g k hlt)
                obtain ⟨d1, _⟩ := HQ8.ucell (1 + k) _ (k5_at u k hlt)
                have d2 := HQ8.pcell k hlt
                obtain ⟨s0, s1, s2, s3⟩ := HSX.out k (by omega)
                have s4 : (g k + u k != f k) = false := by simp; omega
                have s5 : g k + u k ≤ 100000 := by omega
                have s6 : decide (g k < 0) = false := by simp; omega
                have HN : Hid (∀ x, SSt w q ub pb m f n g u [BlockR b6 [.int .i64 (g 4), .int .i64 (g 0), .int .i64 (g 1), .int .i64 (g 2), .int .i64 (g 3)], BlockR bb [.int .i64 (g 4), .int .i64 (g 0), .int .i64 (g 1), .int .i64 (g 2), .int .i64 (g 3)], BlockR tb [.int .i64 D, .int .i64 (c 4), .int .i64 (c 0), .int .i64 (c 1), .int .i64 (c 2), .int .i64 (c 3)]] (wr.drewN x)) := fun x => HQ8.below (below_drewN (Below.refl _ _) x)
                clear s2 s3 HQ8 HSX
                generalize g k = ga at *
                generalize u k = ua at *
                generalize f k = fa at *
                go_wp2
                go_quiet (fail)
                go_wp2
                exact ⟨⟨k + 1, by omega, by go_num, HN.out _⟩, by simp [intOf]; omega⟩
              · have hltJ : ¬ (k : Int) < 4 := by omega
                have HQ9 : SSt w q ub pb m f n g u [] wr := HQ8.drop
                clear HQ8 HSX
                go_wp2
                exact ⟨⟨j + 1, n, g, u, _, by omega, rfl, rfl, by go_num, HG, HQ9⟩, by simp [intOf]; omega⟩
          · as_aux_lemma =>
            have D1 : Hid (Calls Try.prog 12 #[.pointer (some ⟨q, 0, none⟩)] w4 fun e w' => e = .returned (.int .i64 0) ∧ SSt w q ub pb m f (n - 1) g u [BlockR bb [.int .i64 (g 4), .int .i64 (g 0), .int .i64 (g 1), .int .i64 (g 2), .int .i64 (g 3)], BlockR tb [.int .i64 D, .int .i64 (c 4), .int .i64 (c 0), .int .i64 (c 1), .int .i64 (c 2), .int .i64 (c 3)]] w') := by
              have x := HQ4.close ⟨hnm.1, by omega⟩
              rw [if_neg hn, if_neg hn] at x
              exact x
            have HG2 : Hid (SumOk m f (n - 1) g u) := ⟨by omega, by omega, HG.out.2.2⟩
            clear hD HQ4
            go_wp2_with fail
            refine D1.out.mono ?_
            rintro e w5 ⟨rfl, HQ5⟩
            clear D1 y0 y1 y2 y3 y4 y5 hbb hw4
            have L1 := HQ5.left
            clear HQ5
            go_wp2_with fail
            refine L1.mono ?_
            rintro e w6 ⟨rfl, hq6⟩
            have HQ7 := hq6.box [.int .i64 (g 4), .int .i64 (g 0), .int .i64 (g 1), .int .i64 (g 2), .int .i64 (g 3)] 32
            have hcl := HQ7.cells List.mem_cons_self
            have x0 := hcl 0 _ rfl
            have x1 := hcl 1 _ rfl
            have x2 := hcl 2 _ rfl
            have x3 := hcl 3 _ rfl
            have x4 := hcl 4 _ rfl
            obtain ⟨v0, _⟩ := HQ7.ucell 0 _ rfl
            obtain ⟨n2, n3, hS⟩ := HG2.out
            have HSX : Hid (∀ j : Nat, j < 5 → 0 ≤ g j ∧ 0 ≤ u j ∧ f j = g j + u j ∧ f j ≤ 100000) := hS
            obtain ⟨s0, s1, s2, s3⟩ := hS 4 (by decide)
            have s4 : (g 4 + u 4 != f 4) = false := by simp; omega
            have s5 : g 4 + u 4 ≤ 100000 := by omega
            have s6 : decide (g 4 < 0) = false := by simp; omega
            clear L1 hq6 hcl hS s2 s3
            go_upto_region 25 with fail
            generalize (w6.alloc (.cells #[.int .i64 (g 4), .int .i64 (g 0), .int .i64 (g 1), .int .i64 (g 2), .int .i64 (g 3)] 32)) = w7 at *
            generalize w6.heap.size = b6 at *
            go_wp2_with fail
            clear x0 x1 x2 x3 x4 v0 s0 s1 s4 s5 s6 
            go_loopw [18] (fun i wq => ∃ k : Nat, k ≤ 4 ∧ i = .int .i64 (k : Int) ∧ SSt w q ub pb m f (n - 1) g u [BlockR b6 [.int .i64 (g 4), .int .i64 (g 0), .int .i64 (g 1), .int .i64 (g 2), .int .i64 (g 3)], BlockR bb [.int .i64 (g 4), .int .i64 (g 0), .int .i64 (g 1), .int .i64 (g 2), .int .i64 (g 3)], BlockR tb [.int .i64 D, .int .i64 (c 4), .int .i64 (c 0), .int .i64 (c 1), .int .i64 (c 2), .int .i64 (c 3)]] wq) (fun i _ => 4 - (intOf i).toNat)
            case atStart => exact ⟨0, Nat.zero_le _, rfl, HQ7⟩
            case round =>
              obtain ⟨k, hk, rfl, HQ8⟩ := hrel
              clear HQ7
              by_cases hlt : k < 4
              · have hltJ : (k : Int) < 4 := by omega
                have d0 := HQ8.cells (b := b6) (vs := [.int .i64 (g 4), .int .i64 (g 0), .int .i64 (g 1), .int .i64 (g 2), .int .i64 (g 3)]) (by simp) (1 + k) _ (k5_at g k hlt)
                obtain ⟨d1, _⟩ := HQ8.ucell (1 + k) _ (k5_at u k hlt)
                have d2 := HQ8.pcell k hlt
                obtain ⟨s0, s1, s2, s3⟩ := HSX.out k (by omega)
                have s4 : (g k + u k != f k) = false := by simp; omega
                have s5 : g k + u k ≤ 100000 := by omega
                have s6 : decide (g k < 0) = false := by simp; omega
                have HN : Hid (∀ x, SSt w q ub pb m f (n - 1) g u [BlockR b6 [.int .i64 (g 4), .int .i64 (g 0), .int .i64 (g 1), .int .i64 (g 2), .int .i64 (g 3)], BlockR bb [.int .i64 (g 4), .int .i64 (g 0), .int .i64 (g 1), .int .i64 (g 2), .int .i64 (g 3)], BlockR tb [.int .i64 D, .int .i64 (c 4), .int .i64 (c 0), .int .i64 (c 1), .int .i64 (c 2), .int .i64 (c 3)]] (wr.drewN x)) := fun x => HQ8.below (below_drewN (Below.refl _ _) x)
                clear s2 s3 HQ8 HSX
                generalize g k = ga at *
                generalize u k = ua at *
                generalize f k = fa at *
                go_wp2
                go_quiet (fail)
                go_wp2
                exact ⟨⟨k + 1, by omega, by go_num, HN.out _⟩, by simp [intOf]; omega⟩
              · have hltJ : ¬ (k : Int) < 4 := by omega
                have HQ9 : SSt w q ub pb m f (n - 1) g u [] wr := HQ8.drop
                clear HQ8 HSX
                go_wp2
                exact ⟨⟨j + 1, (n - 1), g, u, _, by omega, rfl, rfl, by go_num, HG2, HQ9⟩, by simp [intOf]; omega⟩
      · have hltI : ¬ (j : Int) < (l.length : Int) := by omega
        have D4 := HL.out _ _ HQ
        clear HL HQ
        go_wp2_with fail
        refine D4.mono ?_
        rintro e w7 ⟨rfl, h7⟩
        clear D4
        go_wp2_with fail
        go_ret
        exact ⟨rfl, h7⟩
theorem sums_walk (w : World) (m : Int) (f : Five) (sv : Value) (l : List QOp) (hl : l.length * 48 ≤ 140737488351232) (hr : ORow w sv l) :
    Calls Try.prog 5 #[.agg #[.int .i64 m, .int .i64 (f 4), .int .i64 (f 0), .int .i64 (f 1), .int .i64 (f 2), .int .i64 (f 3), sv]] w fun e w' => e = .returned (.bool true) ∧ Below w.heap.size w w' := by
  by_cases hok : NewOk m f
  · exact sums_yes w m f sv l hl hr hok
  · exact sums_no w m f sv l hl hr hok
end Go.Proofs.Ytgffcgigjiedpaa
