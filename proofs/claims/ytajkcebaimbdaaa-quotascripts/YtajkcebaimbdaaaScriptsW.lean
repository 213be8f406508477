/- The walk of the law QuotaScripts. -/
import Derived.Test.YtajkcebaimbdaaaScriptN
set_option linter.unusedVariables false
set_option maxRecDepth 100000
namespace Go.Proofs.Ytajkcebaimbdaaa
open Go.RowKit

set_option maxHeartbeats 8000000 in
theorem scripts_yes (w : World) (m : Int) (f : Five) (sv : Value) (l : List QOp) (hl : l.length * 48 ≤ 140737488351232) (hr : ORow w sv l) (hok : NewOk m f) :
    Calls Try.prog 4 #[.agg #[.int .i64 m, .int .i64 (f 4), .int .i64 (f 0), .int .i64 (f 1), .int .i64 (f 2), .int .i64 (f 3), sv]] w fun e w' => e = .returned (.bool true) ∧ Below w.heap.size w w' := by
  obtain ⟨ao, cap, rfl, hcap, h0, hrow⟩ := hr
  have HR : Hid (∀ j, j < l.length → ∃ g o, ao = some ⟨g, o, none⟩ ∧ g < w.heap.size ∧ ∀ i x, (ocell (onth l j))[i]? = some x → w.cell? ⟨g, o + j * 6 + i, none⟩ = some x) := hrow
  have HL : Hid (∀ wq rs, Has w.heap.size w rs wq → Calls Try.prog 8 #[] wq fun e w' => e = .returned (.bool true) ∧ Below w.heap.size w w') := fun wq rs h => (live_any h).mono (fun e w' ⟨he, hh⟩ => ⟨he, hh.bel⟩)
  have HS0 : Hid (Has w.heap.size w [BlockR (w.heap.size + 1) (p4 f)] ((w.alloc (.cells #[.int .i64 m, .int .i64 (f 4), .int .i64 (f 0), .int .i64 (f 1), .int .i64 (f 2), .int .i64 (f 3), .slice ao l.length cap] 38)).alloc (.cells #[.int .i64 (f 0), .int .i64 (f 1), .int .i64 (f 2), .int .i64 (f 3)] 22)).drew) := by
    have k := ((((Has.start w).box [.int .i64 m, .int .i64 (f 4), .int .i64 (f 0), .int .i64 (f 1), .int .i64 (f 2), .int .i64 (f 3), .slice ao l.length cap] 38).drop).box (p4 f) 22).below (Below.refl _ _).drew
    rw [World.size_alloc] at k
    exact k
  clear hrow h0
  have hm12 : 1 ≤ m ∧ m ≤ 12 := ⟨hok.1, hok.2.1⟩
  have HF : Hid (∀ j : Nat, j < 5 → 0 ≤ f j ∧ f j ≤ 100000) := hok.2.2
  have C1 : Hid (∀ rs wq, Has w.heap.size w rs wq → Calls Try.prog 6 #[.int .i64 m, .int .i64 (f 4), .agg #[.int .i64 (f 0), .int .i64 (f 1), .int .i64 (f 2), .int .i64 (f 3)]] wq fun e w' => ∃ q, e = .returned (.tuple #[.pointer (some ⟨q, 0, none⟩), .int .i64 0]) ∧ Hid (Has w.heap.size w (BlockR q (q7 m 0 f) :: rs) w')) := fun rs wq h => new_yes h m f hok
  have C2 : Hid (∀ rs wq, Has w.heap.size w rs wq → Calls Try.prog 7 #[.int .i64 m, .int .i64 (f 4), .agg #[.int .i64 (f 0), .int .i64 (f 1), .int .i64 (f 2), .int .i64 (f 3)]] wq fun e w' => ∃ q, e = .returned (.tuple #[.pointer (some ⟨q, 0, none⟩), .int .i64 0]) ∧ Hid (Has w.heap.size w (BlockR q (r7 m 0 f) :: rs) w')) := fun rs wq h => rnew_yes h m f hok
  have HC : Hid (∀ rs wq, Has w.heap.size w rs wq → BlockR (w.heap.size + 1) (p4 f) ∈ rs → wq.cell? ⟨w.heap.size + 1, 0, none⟩ = some (.int .i64 (f 0)) ∧ wq.cell? ⟨w.heap.size + 1, 1, none⟩ = some (.int .i64 (f 1)) ∧ wq.cell? ⟨w.heap.size + 1, 2, none⟩ = some (.int .i64 (f 2)) ∧ wq.cell? ⟨w.heap.size + 1, 3, none⟩ = some (.int .i64 (f 3))) := fun rs wq h hm => by
    have k := h.cells hm
    exact ⟨k 0 _ rfl, k 1 _ rfl, k 2 _ rfl, k 3 _ rfl⟩
  clear hok
  go_enter Try.func4, Try.ntmps4
  go_wp2_with fail
  go_region
  generalize ((w.alloc (.cells #[.int .i64 m, .int .i64 (f 4), .int .i64 (f 0), .int .i64 (f 1), .int .i64 (f 2), .int .i64 (f 3), .slice ao l.length cap] 38)).alloc (.cells #[.int .i64 (f 0), .int .i64 (f 1), .int .i64 (f 2), .int .i64 (f 3)] 22)).drew = w0 at *
  generalize hpb : w.heap.size + 1 = pb at *
  obtain ⟨p0, p1, p2, p3⟩ := HC.out _ _ HS0.out List.mem_cons_self
  have D1 := C1.out _ _ HS0.out
  clear HS0 hpb
  go_wp2_with fail
  refine D1.mono ?_
  rintro e w1 ⟨q, rfl, h1⟩
  clear D1 p0 p1 p2 p3
  obtain ⟨p0, p1, p2, p3⟩ := HC.out _ _ h1.out (by simp)
  have D2 := C1.out _ _ h1.out
  clear h1
  go_wp2_with fail
  refine D2.mono ?_
  rintro e w2 ⟨o, rfl, h2⟩
  clear D2 p0 p1 p2 p3 C1
  obtain ⟨p0, p1, p2, p3⟩ := HC.out _ _ h2.out (by simp)
  have D3 := C2.out _ _ h2.out
  clear h2 C2 HC
  go_wp2_with fail
  refine D3.mono ?_
  rintro e w3 ⟨k, rfl, h3⟩
  have HS : QSt w q k o pb m f 0 f 0 f [] w3 := by
    have x := h3.out.perm (List.perm_middle (l₁ := [_, _]) (a := BlockR q (q7 m 0 f)) (l₂ := [_]))
    exact x
  clear D3 p0 p1 p2 p3 h3
  go_wp2_with fail
  go_loopw [13] (fun i wr => ∃ (j : Nat) (n : Int) (g : Five), j ≤ l.length ∧ i = .int .i64 (j : Int) ∧ 0 ≤ n ∧ n ≤ m ∧ Hid (∀ j : Nat, j < 5 → 0 ≤ g j ∧ g j ≤ 100000) ∧ QSt w q k o pb m f n g n g [] wr) (fun i _ => l.length - (intOf i).toNat)
  case atStart => exact ⟨0, 0, f, Nat.zero_le _, rfl, by omega, by omega, HF, HS⟩
  case round =>
    obtain ⟨j, n, g, hj, rfl, n0, n1, HG, HQ⟩ := hrel
    clear HS
    by_cases hlt : j < l.length
    · obtain ⟨gb, ob, rfl, hgl, hcell⟩ := HR.out j hlt
      have hcell2 : ∀ i x, (ocell (onth l j))[i]? = some x → wr.cell? ⟨gb, ob + j * 6 + i, none⟩ = some x := fun i x hx => (HQ.1.cell (p := ⟨gb, ob + j * 6 + i, none⟩) hgl).trans (hcell i x hx)
      have e0 : wr.cell? ⟨gb, ob + j * 6, none⟩ = some (.int .i64 (onth l j).Do) := hcell2 0 _ rfl
      have e1 := hcell2 1 _ rfl
      have e2 := hcell2 2 _ rfl
      have e3 := hcell2 3 _ rfl
      have e4 := hcell2 4 _ rfl
      have e5 := hcell2 5 _ rfl
      clear hcell hcell2
      generalize (onth l j).Do = D at *
      generalize (onth l j).c = c at *
      have hltI : (j : Int) < (l.length : Int) := by omega
      have HQ1 : QSt w q k o pb m f n g n g [BlockR wr.heap.size [.int .i64 D, .int .i64 (c 4), .int .i64 (c 0), .int .i64 (c 1), .int .i64 (c 2), .int .i64 (c 3)]] (wr.alloc (.cells #[.int .i64 D, .int .i64 (c 4), .int .i64 (c 0), .int .i64 (c 1), .int .i64 (c 2), .int .i64 (c 3)] 40)) := HQ.box _ _
      obtain ⟨tb, htb⟩ : ∃ tb, wr.heap.size = tb := ⟨_, rfl⟩
      rw [htb] at HQ1
      clear HQ
      by_cases hD : D = 0
      · have hD1 : (D == 0) = true := by simpa using hD
        obtain ⟨code, n', g', B1, B2, B3, A1, A2⟩ := QSt.admits w q k o pb m f n g c HG.out ⟨n0, n1⟩ hm12.2
        have HB : Hid (∀ j : Nat, j < 5 → 0 ≤ g' j ∧ g' j ≤ 100000) := B1
        have D1 := A1 _ _ HQ1
        have HA2 : Hid (∀ X wr, QSt w q k o pb m f n' g' n g X wr → Calls Try.prog 11 #[.pointer (some ⟨k, 0, none⟩), .agg #[.int .i64 (c 4), .int .i64 (c 0), .int .i64 (c 1), .int .i64 (c 2), .int .i64 (c 3)]] wr fun e w' => e = .returned (.int .i64 code) ∧ QSt w q k o pb m f n' g' n' g' X w') := A2
        clear B1 A1 A2 hD HQ1
        go_wp2_with fail
        refine D1.mono ?_
        rintro e w4 ⟨rfl, hq4⟩
        have hcl := hq4.cells List.mem_cons_self
        have y1 := hcl 1 _ rfl
        have y2 := hcl 2 _ rfl
        have y3 := hcl 3 _ rfl
        have y4 := hcl 4 _ rfl
        have y5 := hcl 5 _ rfl
        have D2 := HA2.out _ _ hq4
        clear D1 HA2 hcl hq4 hD1 e0 e1 e2 e3 e4 e5 htb
        go_wp2_with fail
        refine D2.mono ?_
        rintro e w5 ⟨rfl, HQ5⟩
        clear D2 y1 y2 y3 y4 y5
        have L1 := HQ5.left1
        clear HQ5
        go_wp2_with fail
        refine L1.mono ?_
        rintro e w6 ⟨rfl, hq6⟩
        have HQ7 := hq6.box [.int .i64 (g' 4), .int .i64 (g' 0), .int .i64 (g' 1), .int .i64 (g' 2), .int .i64 (g' 3)] 32
        have L2 := HQ7.left2
        clear L1 hq6 HQ7
        go_wp2_with fail
        refine L2.mono ?_
        rintro e w7 ⟨rfl, hq8⟩
        have hcl := hq8.cells List.mem_cons_self
        have x0 := hcl 0 _ rfl
        have x1 := hcl 1 _ rfl
        have x2 := hcl 2 _ rfl
        have x3 := hcl 3 _ rfl
        have x4 := hcl 4 _ rfl
        have hlt6 := block_lt_of_cell x0
        simp only at hlt6
        have hn1 : ¬ w6.heap.size = w7.heap.size := by omega
        have hn2 : ¬ w7.heap.size = w6.heap.size := by omega
        have HQ9 : QSt w q k o pb m f n' g' n' g' [] (w7.alloc (.cells #[.int .i64 (g' 4), .int .i64 (g' 0), .int .i64 (g' 1), .int .i64 (g' 2), .int .i64 (g' 3)] 32)) := (hq8.box [.int .i64 (g' 4), .int .i64 (g' 0), .int .i64 (g' 1), .int .i64 (g' 2), .int .i64 (g' 3)] 32).drop
        have KN := fun wq => neqCost (g' 4) (g' 0) (g' 1) (g' 2) (g' 3) wq
        clear L2 hcl hq8
        generalize w6.heap.size = b6 at *
        go_wp2_with fail
        exact ⟨⟨j + 1, n', g', by omega, by go_num, by omega, by omega, HB, HQ9⟩, by simp [intOf]; omega⟩
      · have hD1 : (D == 0) = false := by simpa using hD
        by_cases hn : n < 1
        · have D1 := HQ1.close1 ⟨n0, by omega⟩
          have HA2 : Hid (∀ X wr, QSt w q k o pb m f n g n g X wr → Calls Try.prog 13 #[.pointer (some ⟨k, 0, none⟩)] wr fun e w' => e = .returned (.int .i64 1) ∧ QSt w q k o pb m f n g n g X w') := fun X wr h => by
            have x := h.close2 ⟨n0, by omega⟩
            rw [if_pos hn, if_pos hn] at x
            exact x
          rw [if_pos hn, if_pos hn] at D1
          clear hD HQ1
          go_wp2_with fail
          refine D1.mono ?_
          rintro e w4 ⟨rfl, hq4⟩
          have D2 := HA2.out _ _ hq4
          clear D1 HA2 hq4 hD1 e0 e1 e2 e3 e4 e5 htb
          go_wp2_with fail
          refine D2.mono ?_
          rintro e w5 ⟨rfl, HQ5⟩
          clear D2
          have L1 := HQ5.left1
          clear HQ5
          go_wp2_with fail
          refine L1.mono ?_
          rintro e w6 ⟨rfl, hq6⟩
          have HQ7 := hq6.box [.int .i64 (g 4), .int .i64 (g 0), .int .i64 (g 1), .int .i64 (g 2), .int .i64 (g 3)] 32
          have L2 := HQ7.left2
          clear L1 hq6 HQ7
          go_wp2_with fail
          refine L2.mono ?_
          rintro e w7 ⟨rfl, hq8⟩
          have hcl := hq8.cells List.mem_cons_self
          have x0 := hcl 0 _ rfl
          have x1 := hcl 1 _ rfl
          have x2 := hcl 2 _ rfl
          have x3 := hcl 3 _ rfl
          have x4 := hcl 4 _ rfl
          have hlt6 := block_lt_of_cell x0
          simp only at hlt6
          have hn1 : ¬ w6.heap.size = w7.heap.size := by omega
          have hn2 : ¬ w7.heap.size = w6.heap.size := by omega
          have HQ9 : QSt w q k o pb m f n g n g [] (w7.alloc (.cells #[.int .i64 (g 4), .int .i64 (g 0), .int .i64 (g 1), .int .i64 (g 2), .int .i64 (g 3)] 32)) := (hq8.box [.int .i64 (g 4), .int .i64 (g 0), .int .i64 (g 1), .int .i64 (g 2), .int .i64 (g 3)] 32).drop
          have KN := fun wq => neqCost (g 4) (g 0) (g 1) (g 2) (g 3) wq
          clear L2 hcl hq8
          generalize w6.heap.size = b6 at *
          go_wp2_with fail
          exact ⟨⟨j + 1, n, g, by omega, by go_num, by omega, by omega, HG, HQ9⟩, by simp [intOf]; omega⟩
        · have D1 := HQ1.close1 ⟨n0, by omega⟩
          have HA2 : Hid (∀ X wr, QSt w q k o pb m f (n - 1) g n g X wr → Calls Try.prog 13 #[.pointer (some ⟨k, 0, none⟩)] wr fun e w' => e = .returned (.int .i64 0) ∧ QSt w q k o pb m f (n - 1) g (n - 1) g X w') := fun X wr h => by
            have x := h.close2 ⟨n0, by omega⟩
            rw [if_neg hn, if_neg hn] at x
            exact x
          rw [if_neg hn, if_neg hn] at D1
          clear hD HQ1
          go_wp2_with fail
          refine D1.mono ?_
          rintro e w4 ⟨rfl, hq4⟩
          have D2 := HA2.out _ _ hq4
          clear D1 HA2 hq4 hD1 e0 e1 e2 e3 e4 e5 htb
          go_wp2_with fail
          refine D2.mono ?_
          rintro e w5 ⟨rfl, HQ5⟩
          clear D2
          obtain ⟨n2, hn2⟩ : ∃ n2, n - 1 = n2 := ⟨_, rfl⟩
          rw [hn2] at HQ5
          have hb2 : 0 ≤ n2 ∧ n2 ≤ m := by omega
          clear hn2 hn n0 n1
          obtain ⟨n0, n1⟩ := hb2
          have L1 := HQ5.left1
          clear HQ5
          go_wp2_with fail
          refine L1.mono ?_
          rintro e w6 ⟨rfl, hq6⟩
          have HQ7 := hq6.box [.int .i64 (g 4), .int .i64 (g 0), .int .i64 (g 1), .int .i64 (g 2), .int .i64 (g 3)] 32
          have L2 := HQ7.left2
          clear L1 hq6 HQ7
          go_wp2_with fail
          refine L2.mono ?_
          rintro e w7 ⟨rfl, hq8⟩
          have hcl := hq8.cells List.mem_cons_self
          have x0 := hcl 0 _ rfl
          have x1 := hcl 1 _ rfl
          have x2 := hcl 2 _ rfl
          have x3 := hcl 3 _ rfl
          have x4 := hcl 4 _ rfl
          have hlt6 := block_lt_of_cell x0
          simp only at hlt6
          have hn1 : ¬ w6.heap.size = w7.heap.size := by omega
          have hn2 : ¬ w7.heap.size = w6.heap.size := by omega
          have HQ9 : QSt w q k o pb m f n2 g n2 g [] (w7.alloc (.cells #[.int .i64 (g 4), .int .i64 (g 0), .int .i64 (g 1), .int .i64 (g 2), .int .i64 (g 3)] 32)) := (hq8.box [.int .i64 (g 4), .int .i64 (g 0), .int .i64 (g 1), .int .i64 (g 2), .int .i64 (g 3)] 32).drop
          have KN := fun wq => neqCost (g 4) (g 0) (g 1) (g 2) (g 3) wq
          clear L2 hcl hq8
          generalize w6.heap.size = b6 at *
          go_wp2_with fail
          exact ⟨⟨j + 1, n2, g, by omega, by go_num, by omega, by omega, HG, HQ9⟩, by simp [intOf]; omega⟩
    · have hltI : ¬ (j : Int) < (l.length : Int) := by omega
      have L3 := HQ.left3
      have HPB : Hid (∀ wq X, QSt w q k o pb m f n g n g X wq → wq.cell? ⟨pb, 0, none⟩ = some (.int .i64 (f 0)) ∧ wq.cell? ⟨pb, 1, none⟩ = some (.int .i64 (f 1)) ∧ wq.cell? ⟨pb, 2, none⟩ = some (.int .i64 (f 2)) ∧ wq.cell? ⟨pb, 3, none⟩ = some (.int .i64 (f 3))) := fun wq X h => by
        have x := Has.cells h (q := pb) (vs := p4 f) (by simp)
        exact ⟨x 0 _ rfl, x 1 _ rfl, x 2 _ rfl, x 3 _ rfl⟩
      have KE := fun wq => eqSame (f 4) (f 0) (f 1) (f 2) (f 3) wq
      clear HQ
      go_wp2_with fail
      refine L3.mono ?_
      rintro e w6 ⟨rfl, hq6⟩
      obtain ⟨p0, p1, p2, p3⟩ := HPB.out _ _ hq6
      have D4 := HL.out _ _ (hq6.box [.int .i64 (f 4), .int .i64 (f 0), .int .i64 (f 1), .int .i64 (f 2), .int .i64 (f 3)] 32)
      have hlt6 := block_lt_of_cell p0
      simp only at hlt6
      have hn1 : ¬ pb = w6.heap.size := by omega
      have hn2 : ¬ w6.heap.size = pb := by omega
      clear L3 hq6 HPB HL
      go_wp2_with fail
      refine D4.mono ?_
      rintro e w7 ⟨rfl, h7⟩
      clear D4 KE p0 p1 p2 p3 hn1 hn2 hlt6
      go_wp2_with fail
      go_ret
      exact ⟨rfl, h7⟩
theorem scripts_walk (w : World) (m : Int) (f : Five) (sv : Value) (l : List QOp) (hl : l.length * 48 ≤ 140737488351232) (hr : ORow w sv l) :
    Calls Try.prog 4 #[.agg #[.int .i64 m, .int .i64 (f 4), .int .i64 (f 0), .int .i64 (f 1), .int .i64 (f 2), .int .i64 (f 3), sv]] w fun e w' => e = .returned (.bool true) ∧ Below w.heap.size w w' := by
  by_cases hok : NewOk m f
  · exact scripts_yes w m f sv l hl hr hok
  · exact scripts_no w m f sv l hl hr hok
end Go.Proofs.Ytajkcebaimbdaaa
