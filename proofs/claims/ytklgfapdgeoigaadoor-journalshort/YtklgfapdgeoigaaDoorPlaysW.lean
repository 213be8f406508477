/- The walk of the laws' own 'plays': a journal behind Adds, Syncs and Compacts. -/
import Derived.Test.YtklgfapdgeoigaaDoorSoleW
import Derived.BigRegion
import Derived.RegionTactic
set_option linter.unusedVariables false
set_option maxRecDepth 100000
namespace Go.Proofs.YtklgfapdgeoigaaDoor
open Go.RowKit
open JournalMath DiskMath
open Fr (Tab tab_below tab_drewN)
open Dk (PDisk RDisk ROk DIn Chg fp fp_lt rdisk_below rdisk_chg chg_below pdisk_below pdisk_chg)

/-- A call of a script. -/
structure JOp where
  Do : Int
  N : Int
  S : ByteArray
def ORow (w : World) (v : Value) (l : List JOp) : Prop := ∃ ao cap, v = .slice ao l.length cap ∧ ∀ j, (h : j < l.length) → ∃ g o, ao = some ⟨g, o, none⟩ ∧ g < w.heap.size ∧
  w.cell? ⟨g, o + j * 3, none⟩ = some (.int .i64 l[j].Do) ∧ w.cell? ⟨g, o + j * 3 + 1, none⟩ = some (.int .i64 l[j].N) ∧ w.cell? ⟨g, o + j * 3 + 2, none⟩ = some (.string l[j].S)
def OpOk (o : JOp) : Prop := (-9223372036854775808 ≤ o.Do ∧ o.Do ≤ 9223372036854775807) ∧ (-9223372036854775808 ≤ o.N ∧ o.N ≤ 9223372036854775807) ∧ o.S.size ≤ 140737488351232
theorem orow_below {w w' : World} {v : Value} {l : List JOp} (h : ORow w v l) (hb : Below w.heap.size w w') : ORow w' v l := by
  obtain ⟨ao, cap, rfl, hrow⟩ := h
  refine ⟨ao, cap, rfl, fun j hj => ?_⟩
  obtain ⟨g, o, h1, h2, h3, h4, h5⟩ := hrow j hj
  exact ⟨g, o, h1, by have := hb.size; omega, (hb.cell (p := ⟨g, o + j * 3, none⟩) h2).trans h3, (hb.cell (p := ⟨g, o + j * 3 + 1, none⟩) h2).trans h4, (hb.cell (p := ⟨g, o + j * 3 + 2, none⟩) h2).trans h5⟩
theorem orow_at {w : World} {ao : Option Addr} {n cap : Nat} {l : List JOp} (h : ORow w (.slice ao n cap) l) (j : Nat) (hj : j < l.length) : ∃ g o, ao = some ⟨g, o, none⟩ ∧ g < w.heap.size ∧
    w.cell? ⟨g, o + j * 3, none⟩ = some (.int .i64 l[j].Do) ∧ w.cell? ⟨g, o + j * 3 + 1, none⟩ = some (.int .i64 l[j].N) ∧ w.cell? ⟨g, o + j * 3 + 2, none⟩ = some (.string l[j].S) := by
  obtain ⟨ao', cap', hv, hrow⟩ := h
  obtain ⟨rfl, _, _⟩ : ao = ao' ∧ n = l.length ∧ cap = cap' := by simpa using hv
  exact hrow j hj
theorem Sole.base {B : Nat} {w0 w wr : World} {bj bd : Nat} {s : JS} {N : Nat → Prop} (h : Sole B w bj bd s N wr) (hb : Below w0.heap.size w0 w) (hB : w0.heap.size ≤ B) : Sole w0.heap.size w0 bj bd s N wr := by
  obtain ⟨V, h1, h2, h3, h4, h5, h6⟩ := h
  exact ⟨V, h1, h2, h3, fun k hk => Nat.le_trans hB (h4 k hk), h5, hb.trans (h6.mono hB)⟩
theorem Sole.base2 {B : Nat} {w0 w wr : World} {bj bd : Nat} {s : JS} {N : Nat → Prop} (h : Sole B w bj bd s N wr) (hb : Below w0.heap.size w0 w) (hB : w0.heap.size ≤ B) (hBr : B ≤ wr.heap.size) : Sole w0.heap.size w0 bj bd s (fun k => N k ∨ (w0.heap.size ≤ k ∧ k < B)) wr := by
  obtain ⟨V, h1, h2, h3, h4, h5, h6⟩ := h
  refine ⟨V, h1, h2, h3, fun k hk => Nat.le_trans hB (h4 k hk), fun k hk => ?_, hb.trans (h6.mono hB)⟩
  rcases hk with hk | hk
  · exact h5 k hk
  · exact ⟨by omega, fun hf => by have := h4 k hf; omega⟩
/-- A row of texts is no block of a journal or a disk. -/
theorem Sole.texts {B : Nat} {w wr w2 : World} {bj bd X n : Nat} {s : JS} {N N' : Nat → Prop} {v : Value} {xs : List Value} {sv : ByteArray} (h : Sole B w bj bd s N wr) (hB : B ≤ wr.heap.size) (hc : Chg N wr w2) (hNB : ∀ k, N k → B ≤ k) (hN : ∀ k, N' k → ((N k ∨ wr.heap.size ≤ k) ∧ k < w2.heap.size) ∨ v.ownBlock = some k)
    (hv : w2.ownsRow X 9 1 v n xs) (hx : xs[0]? = some (.string sv)) : Sole B w bj bd s N' w2 := by
  have h0 := h.own (N' := fun k => N' k ∧ ¬ v.ownBlock = some k) hB hc hNB (fun k hk => by
    rcases hN k hk.1 with h | h
    · exact h
    · exact absurd h hk.2)
  obtain ⟨V, h1, h2, h3, h4, h5, h6⟩ := h0
  refine ⟨V, h1, h2, h3, h4, fun k hk => ?_, h6⟩
  by_cases hvk : v.ownBlock = some k
  · have hn0 : 0 < n := by
      have h9 := (List.getElem?_eq_some_iff.1 hx).1
      have h8 : xs.length = n := hv.1.trans (Nat.mul_one n)
      omega
    obtain ⟨ao, cap, hva, _, hrow⟩ := own_row hv
    obtain ⟨g0, hao, _, _, hcell⟩ := hrow 0 hn0
    rw [hao] at hva
    rcases hv.2 with ⟨rfl, _⟩ | ⟨g, cap, cur, rfl, hb, hgg, _⟩
    · cases hvk
    · obtain rfl : g = k := by simpa [Value.ownBlock] using hvk
      obtain rfl : g = g0 := by have h9 := congrArg Value.ownBlock hva; simpa [Value.ownBlock] using h9
      have hc0 : w2.cell? ⟨g, 0, none⟩ = some (.string sv) := hcell.trans hx
      refine ⟨(Array.getElem?_eq_some_iff.1 hgg).1, fun hf => ?_⟩
      rcases hf with (hf | ⟨i, hi, hf⟩) | hf
      · have hb0 := h1.bytes 0 (by decide)
        obtain ⟨a, c, hva, _, _⟩ := own_row (h1.rows 0 (by decide))
        rw [hva, Nat.zero_mul, ← hf, hc0] at hb0
        cases hb0
      · rcases (h1.rows i hi).2 with ⟨e, _⟩ | ⟨g', cap', cur', e, _, hgg', _⟩
        · rw [e] at hf; cases hf
        · rw [e] at hf
          obtain rfl : g' = g := by simpa [Value.ownBlock] using hf
          rw [hgg] at hgg'
          have := Option.some.inj hgg'
          have h7 := (Obj.cells.inj this).2.1
          exact absurd h7 (by decide)
      · have := h2.disk
        rw [← hf, hc0] at this
        cases this
  · exact h5 k ⟨hk, hvk⟩
theorem set3 {w : World} {g : Nat} {x0 x1 x2 : Value} (a b c : Value) (h0 : w.cell? ⟨g, 0, none⟩ = some x0) (h1 : w.cell? ⟨g, 1, none⟩ = some x1) (h2 : w.cell? ⟨g, 2, none⟩ = some x2) :
    (((w.setCell ⟨g, 0, none⟩ a).setCell ⟨g, 1, none⟩ b).setCell ⟨g, 2, none⟩ c).cell? ⟨g, 0, none⟩ = some a ∧ (((w.setCell ⟨g, 0, none⟩ a).setCell ⟨g, 1, none⟩ b).setCell ⟨g, 2, none⟩ c).cell? ⟨g, 1, none⟩ = some b ∧ (((w.setCell ⟨g, 0, none⟩ a).setCell ⟨g, 1, none⟩ b).setCell ⟨g, 2, none⟩ c).cell? ⟨g, 2, none⟩ = some c := by
  have o : ∀ (w : World) (i j : Nat) (u : Value), i ≠ j → (w.setCell ⟨g, j, none⟩ u).cell? ⟨g, i, none⟩ = w.cell? ⟨g, i, none⟩ := fun w i j u h => World.cell?_setCell_other w _ _ _ (fun e => h (congrArg Addr.off e).symm)
  refine ⟨?_, ?_, ?_⟩
  · rw [o _ 0 2 _ (by decide), o _ 0 1 _ (by decide)]; exact World.cell?_setCell_same w _ _ h0
  · rw [o _ 1 2 _ (by decide)]; exact World.cell?_setCell_same _ _ _ ((o _ 1 0 _ (by decide)).trans h1)
  · exact World.cell?_setCell_same _ _ _ ((o _ 2 1 _ (by decide)).trans ((o _ 2 0 _ (by decide)).trans h2))
theorem results_plays {P : Program} {fn : Func} {p t u x : Tmp} {ty : TypeId} (h : fn.results = #[.tmp t, .tmp u, .cell p ty, .tmp x]) (tmps : Array Value) (w : World) (g : Nat) (c0 c1 c2 : Value) (d : TypeDesc)
    (hp : tmps.getD p undef = .pointer (some ⟨g, 0, none⟩)) (h0 : w.cell? ⟨g, 0, none⟩ = some c0) (h1 : w.cell? ⟨g, 1, none⟩ = some c1) (h2 : w.cell? ⟨g, 2, none⟩ = some c2)
    (hu : P.underlying ty = some d) (hd : d.isRow = true) (hi : (P.info? ty).map (·.size) = some 3) : (results fn tmps).run P w = .ok (.tuple #[tmps.getD t undef, tmps.getD u undef, .agg #[c0, c1, c2], tmps.getD x undef]) w := by
  have hp' : tmps[p]?.getD undef = .pointer (some ⟨g, 0, none⟩) := by simpa using hp
  have hr : w.rangeAt g 0 [c0, c1, c2] := by
    intro j v hj
    rw [Nat.zero_add]
    match j, hj with
    | 0, hj => cases hj; exact h0
    | 1, hj => cases hj; exact h1
    | 2, hj => cases hj; exact h2
  simp [results, h, hp', asAddr, run_loadVar_mid w g 0 ty [c0, c1, c2] d hr hu hd hi]
/-- How plays ends. -/
def PlaysOk (w : World) (e : Ending) (w' : World) : Prop := ∃ (bd bj : Nat) (s : JS) (sn : List UInt8) (rs : List (List UInt8)) (sf : Nat) (v : Value), e = .returned (.tuple #[.pointer (some ⟨bd, 0, none⟩), .pointer (some ⟨bj, 0, none⟩), .agg #[.string ⟨sn.toArray⟩, v, .int .i64 (sf : Int)], .bool true]) ∧ Play s sn rs sf ∧ JOk s ∧
  Sole w.heap.size w bj bd s (fun k => v.ownBlock = some k) w' ∧ w'.ownsRow w.heap.size 9 1 v rs.length (rs.map strV) ∧ w.heap.size ≤ w'.heap.size

set_option maxHeartbeats 2000000 in
theorem plays_any (room : Int) (hroom : -9223372036854775808 ≤ room ∧ room ≤ 9223372036854775807) (l : List JOp) (hl : ∀ o ∈ l, OpOk o) (hll : l.length ≤ 140737488355328) (v : Value) (w : World) (hv : ORow w v l) (hT : Tab w) :
    Calls Tryd.prog 24 #[.int .i64 room, v] w fun e w' => PlaysOk w e w' := by
  obtain ⟨i0, hi, hz0, hz1, hz2⟩ := info_parts infoS
  obtain ⟨q, hq⟩ : ∃ q, q = pick room 6000 := ⟨_, rfl⟩
  have hql : q < 6000 := by rw [hq]; exact pick_lt room 6000 (by decide)
  have C0 : Hid (∀ w, Calls Tryd.prog 10 #[.int .i64 room, .int .i64 6000] w fun e w' => e = .returned (.int .i64 (q : Int)) ∧ w' = w) := fun w => by rw [hq]; exact pick_any room 6000 (by decide) (by decide) hroom w
  obtain ⟨wa, hwa⟩ : ∃ wa, wa = w.alloc (.cells #[.string ⟨#[]⟩, .slice none 0 0, .int .i64 0] 59) := ⟨_, rfl⟩
  have HWA : Hid (wa = w.alloc (.cells #[.string ⟨#[]⟩, .slice none 0 0, .int .i64 0] 59)) := hwa
  have hba : Below w.heap.size w wa := by rw [hwa]; exact (Below.refl _ _).alloc (Nat.le_refl _) _
  have HBA : Hid (Below w.heap.size w wa) := hba
  have HSA : Hid (wa.heap.size = w.heap.size + 1) := by show _ = _; rw [hwa]; simp
  have HTA : Hid (Tab wa) := tab_below hT hba
  have C1 : Hid (Calls Tryd.prog 9 #[.int .i64 (20 + (q : Int))] wa fun e w' => ∃ bd bj bx by_, e = .returned (.tuple #[.agg #[.pointer (some ⟨bd, 0, none⟩), .pointer (some ⟨bj, 0, none⟩), .pointer (some ⟨bx, 0, none⟩), .pointer (some ⟨by_, 0, none⟩)], .bool true]) ∧ Quad wa.heap.size wa bd bj bx by_ (begun0 (20 + q)) w' ∧ wa.heap.size ≤ w'.heap.size) := by
    have := made_any (20 + q) (by omega) (by omega) wa HTA.out
    rw [Int.natCast_add] at this
    exact this
  have HP0 : Hid (Play (begun0 (20 + q)) [] [] 0) := play_begun _
  have HK0 : Hid (JOk (begun0 (20 + q))) := jok_begun _ (by omega) (by omega)
  generalize begun0 (20 + q) = s0 at *
  have HV : Hid (ORow w v l) := hv
  have HL : Hid (∀ o ∈ l, OpOk o) := hl
  obtain ⟨ao, cap, rfl, _⟩ := hv
  clear hq hl hwa hba hT
  go_enter Tryd.func24, Tryd.ntmps24
  go_wp2_with fail
  rw [← HWA.out]
  refine (C0.out _).mono ?_
  rintro e w0 ⟨rfl, hw0⟩
  rw [hw0]
  clear hw0 C0 w0
  go_wp2_with fail
  refine C1.out.mono ?_
  rintro e w1 ⟨bd, bj, bx, by_, rfl, hQ, hsz1⟩
  obtain ⟨w2, hw2⟩ : ∃ w2, (w1.alloc (.cells #[.pointer (some ⟨bd, 0, none⟩), .pointer (some ⟨bj, 0, none⟩), .pointer (some ⟨bx, 0, none⟩), .pointer (some ⟨by_, 0, none⟩)] 28)).alloc (.cells #[.string ⟨#[]⟩, .slice none 0 0, .int .i64 0] 59) = w2 := ⟨_, rfl⟩
  have HW2 : Hid ((w1.alloc (.cells #[.pointer (some ⟨bd, 0, none⟩), .pointer (some ⟨bj, 0, none⟩), .pointer (some ⟨bx, 0, none⟩), .pointer (some ⟨by_, 0, none⟩)] 28)).alloc (.cells #[.string ⟨#[]⟩, .slice none 0 0, .int .i64 0] 59) = w2) := hw2
  have hs2 : w2.heap.size = w1.heap.size + 2 := by rw [← hw2]; simp
  have hb12 : Below w1.heap.size w1 w2 := by rw [← hw2]; exact ((Below.refl _ _).alloc (Nat.le_refl _) _).alloc (by simp) _
  have p0 : w2.cell? ⟨w1.heap.size, 0, none⟩ = some (.pointer (some ⟨bd, 0, none⟩)) := by rw [← hw2]; simp
  have p1 : w2.cell? ⟨w1.heap.size, 1, none⟩ = some (.pointer (some ⟨bj, 0, none⟩)) := by rw [← hw2]; simp
  have hT2 : ToldAt (w1.heap.size + 1) ⟨#[]⟩ (.slice none 0 0) [] 0 w2 := by
    rw [← hw2]
    refine ⟨by simp, by simp, by simp, fun j => ?_, World.ownsRow_nil _ _ _ _⟩
    have := heap_alloc_new (w1.alloc (.cells #[.pointer (some ⟨bd, 0, none⟩), .pointer (some ⟨bj, 0, none⟩), .pointer (some ⟨bx, 0, none⟩), .pointer (some ⟨by_, 0, none⟩)] 28)) (.cells #[.string ⟨#[]⟩, .slice none 0 0, .int .i64 0] 59)
    rw [World.frozen?, show (w1.alloc (.cells #[.pointer (some ⟨bd, 0, none⟩), .pointer (some ⟨bj, 0, none⟩), .pointer (some ⟨bx, 0, none⟩), .pointer (some ⟨by_, 0, none⟩)] 28)).heap.size = w1.heap.size + 1 by simp] at *
    rw [this]
    simp
  have hS2 : Sole wa.heap.size wa bj bd s0 (fun k => k = w1.heap.size ∨ k = w1.heap.size + 1 ∨ (Value.slice none 0 0).ownBlock = some k) w2 :=
    hQ.sole.own hsz1 (chg_below hb12) (fun k hk => hk.elim) (fun k hk => by
      rcases hk with hk | hk | hk
      · exact ⟨Or.inr (by omega), by omega⟩
      · exact ⟨Or.inr (by omega), by omega⟩
      · cases hk)
  have HS2 : Hid (Sole wa.heap.size wa bj bd s0 (fun k => k = w1.heap.size ∨ k = w1.heap.size + 1 ∨ (Value.slice none 0 0).ownBlock = some k) w2) := hS2
  have HT2 : Hid (ToldAt (w1.heap.size + 1) ⟨#[]⟩ (.slice none 0 0) [] 0 w2) := hT2
  have C2 : Hid (Calls Tryd.prog 11 #[] w2 fun e w' => e = .returned (.bool true) ∧ Below w2.heap.size w2 w') := begun_any w2 (tab_below HTA.out hS2.bel)
  have HP2 : Hid (w2.cell? ⟨w1.heap.size, 0, none⟩ = some (.pointer (some ⟨bd, 0, none⟩)) ∧ w2.cell? ⟨w1.heap.size, 1, none⟩ = some (.pointer (some ⟨bj, 0, none⟩))) := ⟨p0, p1⟩
  have HSZ : Hid (wa.heap.size ≤ w1.heap.size ∧ w2.heap.size = w1.heap.size + 2) := ⟨hsz1, hs2⟩
  clear hQ hw2 hs2 hb12 p0 p1 hT2 hS2 C1 hsz1
  go_wp2_with fail
  rw [HW2.out]
  refine C2.out.mono ?_
  rintro e w3 ⟨rfl, hb3⟩
  have hz := HSZ.out
  have HS3 : Hid (Sole wa.heap.size wa bj bd s0 (fun k => k = w1.heap.size ∨ k = w1.heap.size + 1 ∨ (Value.slice none 0 0).ownBlock = some k) w3) := HS2.out.own (by omega) (chg_below hb3) (fun k hk => by
      rcases hk with hk | hk | hk
      · omega
      · omega
      · cases hk) (fun k hk => ⟨Or.inl hk, by
      have := hb3.size
      rcases hk with hk | hk | hk
      · omega
      · omega
      · cases hk⟩)
  have HT3 : Hid (ToldAt (w1.heap.size + 1) ⟨#[]⟩ (.slice none 0 0) [] 0 w3) := HT2.out.below hb3
  have HP3 : Hid (w3.cell? ⟨w1.heap.size, 0, none⟩ = some (.pointer (some ⟨bd, 0, none⟩)) ∧ w3.cell? ⟨w1.heap.size, 1, none⟩ = some (.pointer (some ⟨bj, 0, none⟩))) := ⟨(hb3.cell (p := ⟨w1.heap.size, 0, none⟩) (by simp; omega)).trans HP2.out.1, (hb3.cell (p := ⟨w1.heap.size, 1, none⟩) (by simp; omega)).trans HP2.out.2⟩
  have HZ3 : Hid (wa.heap.size ≤ w3.heap.size) := by have := hb3.size; show _ ≤ _; omega
  have HZ1 : Hid (wa.heap.size ≤ w1.heap.size) := hz.1
  generalize w1.heap.size = pb at *
  clear hb3 HS2 HT2 HP2 C2 hz HSZ HW2
  go_wp2_with fail
  go_loopw [11] (fun i wr => ∃ (k : Nat) (s : JS) (sn : List UInt8) (rs : List (List UInt8)) (sf : Nat) (v : Value), k ≤ l.length ∧ i = .int .i64 (k : Int) ∧ Hid (Play s sn rs sf) ∧ Hid (JOk s) ∧
      Hid (Sole wa.heap.size wa bj bd s (fun k => k = pb ∨ k = pb + 1 ∨ v.ownBlock = some k) wr) ∧ Hid (ToldAt (pb + 1) ⟨sn.toArray⟩ v rs sf wr) ∧
      Hid (wr.cell? ⟨pb, 0, none⟩ = some (.pointer (some ⟨bd, 0, none⟩)) ∧ wr.cell? ⟨pb, 1, none⟩ = some (.pointer (some ⟨bj, 0, none⟩))) ∧ Hid (wa.heap.size ≤ wr.heap.size)) (fun i _ => l.length - (intOf i).toNat)
  case atStart => exact ⟨0, s0, [], [], 0, _, Nat.zero_le _, rfl, HP0, HK0, HS3, HT3, HP3, HZ3⟩
  case round =>
    obtain ⟨k, s, sn, rs, sf, v, hkl, rfl, HP, HK, HS, HTo, HPB, HZ⟩ := hrel
    clear HP0 HK0 HS3 HT3 HP3 HZ3
    by_cases hlt : k < l.length
    · obtain ⟨g, o, rfl, hg, m0, m1, m2⟩ := orow_at (orow_below HV.out (HBA.out.trans (HS.out.bel.mono HBA.out.size))) k hlt
      obtain ⟨hD1, hN1, hS1⟩ := HL.out l[k] (List.getElem_mem hlt)
      have i1 : (k : Int) < (l.length : Int) := by omega
      have HLT : Hid (k < l.length) := hlt
      generalize l[k].Do = D at *
      generalize l[k].N = NN at *
      generalize l[k].S = S at *
      have hsz := HZ.out
      have hz1 := HZ1.out
      have hNB : ∀ k, (k = pb ∨ k = pb + 1 ∨ v.ownBlock = some k) → wa.heap.size ≤ k := fun k hk => by
        rcases hk with hk | hk | hk
        · omega
        · omega
        · have := (HTo.out.own.lt k hk).1; omega
      obtain ⟨w4, hw4⟩ : ∃ w4, (wr.alloc (.cells #[.int .i64 D, .int .i64 NN, .string S] 36)) = w4 := ⟨_, rfl⟩
      have HW4 : Hid ((wr.alloc (.cells #[.int .i64 D, .int .i64 NN, .string S] 36)) = w4) := hw4
      have hb4 : Below wr.heap.size wr w4 := by rw [← hw4]; exact (Below.refl _ _).alloc (Nat.le_refl _) _
      have hs4 : w4.heap.size = wr.heap.size + 1 := by rw [← hw4]; simp
      have hpl : pb < wr.heap.size := by have := block_lt_of_cell HPB.out.1; exact this
      have x0 : (wr.alloc (.cells #[.int .i64 D, .int .i64 NN, .string S] 36)).cell? ⟨pb, 0, none⟩ = some (.pointer (some ⟨bd, 0, none⟩)) := by rw [hw4]; exact (hb4.cell (p := ⟨pb, 0, none⟩) hpl).trans HPB.out.1
      have x1 : (wr.alloc (.cells #[.int .i64 D, .int .i64 NN, .string S] 36)).cell? ⟨pb, 1, none⟩ = some (.pointer (some ⟨bj, 0, none⟩)) := by rw [hw4]; exact (hb4.cell (p := ⟨pb, 1, none⟩) hpl).trans HPB.out.2
      have y2 : w4.cell? ⟨wr.heap.size, 2, none⟩ = some (.string S) := by rw [← hw4]; simp
      have HTo4 : Hid (ToldAt (pb + 1) ⟨sn.toArray⟩ v rs sf w4) := HTo.out.below hb4
      have HS4 : Hid (Sole wa.heap.size wa bj bd s (fun k => (k = pb ∨ k = pb + 1 ∨ v.ownBlock = some k) ∨ k = wr.heap.size) w4) := HS.out.own hsz (chg_below hb4) hNB (fun k hk => by
        rcases hk with hk | hk
        · exact ⟨Or.inl hk, by have := (HS.out.choose_spec.2.2.2.2.1 k hk).1; omega⟩
        · exact ⟨Or.inr (by omega), by omega⟩)
      have HZ4 : Hid (wa.heap.size ≤ w4.heap.size) := by show _ ≤ _; omega
      have HPB4 : Hid (w4.cell? ⟨pb, 0, none⟩ = some (.pointer (some ⟨bd, 0, none⟩)) ∧ w4.cell? ⟨pb, 1, none⟩ = some (.pointer (some ⟨bj, 0, none⟩))) := by rw [hw4] at x0 x1; exact ⟨x0, x1⟩
      have HOB : Hid (w4.cell? ⟨wr.heap.size, 2, none⟩ = some (.string S)) := y2
      have HNB : Hid (∀ k, (fun k => (k = pb ∨ k = pb + 1 ∨ v.ownBlock = some k) ∨ k = wr.heap.size) k → wa.heap.size ≤ k) := fun k hk => by
        rcases hk with hk | hk
        · exact hNB k hk
        · omega
      have HBLK : Hid (∀ w5 : World, (∀ k, (fun k => (k = pb ∨ k = pb + 1 ∨ v.ownBlock = some k) ∨ k = wr.heap.size) k → w5.heap[k]? = w4.heap[k]?) → (w5.cell? ⟨pb, 0, none⟩ = some (.pointer (some ⟨bd, 0, none⟩)) ∧ w5.cell? ⟨pb, 1, none⟩ = some (.pointer (some ⟨bj, 0, none⟩))) ∧ ToldAt (pb + 1) ⟨sn.toArray⟩ v rs sf w5 ∧ w5.cell? ⟨wr.heap.size, 2, none⟩ = some (.string S)) := fun w5 h => by
        have hp := h pb (Or.inl (Or.inl rfl))
        have ho := h wr.heap.size (Or.inr rfl)
        exact ⟨⟨(World.cell?_of_block (w := w4) (a := ⟨pb, 0, none⟩) hp).trans HPB4.out.1, (World.cell?_of_block (w := w4) (a := ⟨pb, 1, none⟩) hp).trans HPB4.out.2⟩, HTo4.out.blocks (h (pb + 1) (Or.inl (Or.inr (Or.inl rfl)))) (fun g hg => h g (Or.inl (Or.inr (Or.inr hg)))), (World.cell?_of_block (w := w4) (a := ⟨wr.heap.size, 2, none⟩) ho).trans HOB.out⟩
      have HSHR : Hid (∀ s' w5, Sole wa.heap.size wa bj bd s' (fun k => (k = pb ∨ k = pb + 1 ∨ v.ownBlock = some k) ∨ k = wr.heap.size) w5 → wa.heap.size ≤ w5.heap.size → Sole wa.heap.size wa bj bd s' (fun k => k = pb ∨ k = pb + 1 ∨ v.ownBlock = some k) w5) := fun s' w5 h hB => h.own hB (Chg.refl _ _) HNB.out (fun k hk => ⟨Or.inl (Or.inl hk), (h.choose_spec.2.2.2.2.1 k (Or.inl hk)).1⟩)
      have hrs : rs.length ≤ 1048576 := by
        have h1 := HK.out.count
        have h2 := file_le s.d s.f (by have := HK.out.file; omega)
        have h3 := HK.out.ok.room
        have h4 := HK.out.ok.most
        have h5 := HP.out.says.count
        omega
      clear hw4 hb4 hs4 hpl hsz hz1 hNB hg HTo HS HPB y2
      by_cases hD0 : D = 0
      · subst hD0
        have C5 := HS4.out.call (f := 30) (args := #[.pointer (some ⟨bj, 0, none⟩), .string S]) (r := .int .i64 (jAdd s S.data.toList).2) (s' := (jAdd s S.data.toList).1) HZ4.out HTA.out (Nat.le_refl _) (fun T hJ hG hT => add_any S (by omega) hJ HK.out hG hT)
        have A5 : Hid (Calls Tryd.prog 30 #[.pointer (some ⟨bj, 0, none⟩), .string S] w4 fun e w' => e = .returned (.int .i64 (jAdd s S.data.toList).2) ∧ Sole wa.heap.size wa bj bd (jAdd s S.data.toList).1 (fun k => (k = pb ∨ k = pb + 1 ∨ v.ownBlock = some k) ∨ k = wr.heap.size) w' ∧ (∀ k, (fun k => (k = pb ∨ k = pb + 1 ∨ v.ownBlock = some k) ∨ k = wr.heap.size) k → w'.heap[k]? = w4.heap[k]?) ∧ w4.heap.size ≤ w'.heap.size) := C5
        have hK5 := jok_add s S.data.toList HK.out
        by_cases he : (jAdd s S.data.toList).2 = 0
        · have hP5 := play_add s sn S.data.toList rs sf HP.out HK.out he
          rw [he] at A5
          have HK5 : Hid (JOk (jAdd s S.data.toList).1) := hK5
          have HP5 : Hid (Play (jAdd s S.data.toList).1 sn (rs ++ [S.data.toList]) sf) := hP5
          generalize (jAdd s S.data.toList).1 = s5 at *
          clear C5 hK5 hP5 he
          go_wp2_with fail
          rw [HW4.out]
          refine A5.out.mono ?_
          rintro e w5 ⟨rfl, hS5, hB5, hZ5⟩
          obtain ⟨hp5, hT5, ho5⟩ := HBLK.out _ hB5
          have t1 := hT5.cr
          have hown := hT5.own
          have hsz5 : wr.heap.size < w5.heap.size := block_lt_of_cell ho5
          have HS5 : Hid (Sole wa.heap.size wa bj bd s5 (fun k => (k = pb ∨ k = pb + 1 ∨ v.ownBlock = some k) ∨ k = wr.heap.size) w5) := hS5
          have HT5 : Hid (ToldAt (pb + 1) ⟨sn.toArray⟩ v rs sf w5) := hT5
          have HP5b : Hid (w5.cell? ⟨pb, 0, none⟩ = some (.pointer (some ⟨bd, 0, none⟩)) ∧ w5.cell? ⟨pb, 1, none⟩ = some (.pointer (some ⟨bj, 0, none⟩))) := hp5
          have HZ5 : Hid (wa.heap.size ≤ w5.heap.size) := Nat.le_trans HZ4.out hZ5
          have HSV : Hid (Value.string S = strV S.data.toList) := by show _ = _; unfold strV; rw [data_mk]
          obtain ⟨av, cv, hvv, _, _⟩ := own_row hown
          subst hvv
          have hpb5 : pb + 1 < w5.heap.size := block_lt_of_cell hT5.cs
          clear hS5 hT5 hp5 hB5 hZ5 m0 m1 m2 x0 x1
          go_wp2_with (at_builtin; refine wpList_append_own _ rfl _ _ 47 rfl (pb + 1 + 1) 9 i0 (.string ⟨#[]⟩) 1 16 Tryd.underlying47 hi hz0 hz1 hz2 rfl (by decide) _ _ _ rfl (hown.alloc _) ⟨_, 0, none⟩ 1 1 [.string S] rfl rfl (one_new _ _ _) (one_cell _) (by unfold maxLen; omega) (by omega) (by simp; omega) ?_)
          intro v' w6 hown' hgrow hnn
          have hown'' : w6.ownsRow (pb + 1 + 1) 9 1 v' (rs.length + 1) (rs.map strV ++ [strV S.data.toList]) := by
            rw [← HSV.out]
            exact hown'
          obtain ⟨av', cv', hv', _, _⟩ := own_row hown''
          subst hv'
          obtain ⟨d1, d2, hT6, hC6, hlt6⟩ := HT5.out.push hown'' hgrow
          have HT6 : Hid (ToldAt (pb + 1) ⟨sn.toArray⟩ (.slice av' (rs.length + 1) cv') (rs ++ [S.data.toList]) sf (w6.setCell ⟨pb + 1, 1, none⟩ (.slice av' (rs.length + 1) cv'))) := hT6
          have hpv : ¬ (pb = pb + 1 ∨ (Value.slice av rs.length cv).ownBlock = some pb) := by
            rintro (h | h)
            · omega
            · have := (HT5.out.own.lt pb h).1; omega
          have hblk6 : (w6.setCell ⟨pb + 1, 1, none⟩ (.slice av' (rs.length + 1) cv')).heap[pb]? = w5.heap[pb]? := hC6.block pb (by omega) hpv
          have HP6 : Hid ((w6.setCell ⟨pb + 1, 1, none⟩ (.slice av' (rs.length + 1) cv')).cell? ⟨pb, 0, none⟩ = some (.pointer (some ⟨bd, 0, none⟩)) ∧ (w6.setCell ⟨pb + 1, 1, none⟩ (.slice av' (rs.length + 1) cv')).cell? ⟨pb, 1, none⟩ = some (.pointer (some ⟨bj, 0, none⟩))) := ⟨(World.cell?_of_block (w := w5) (a := ⟨pb, 0, none⟩) hblk6).trans HP5b.out.1, (World.cell?_of_block (w := w5) (a := ⟨pb, 1, none⟩) hblk6).trans HP5b.out.2⟩
          have hsz6 := hC6.size
          have HZ6 : Hid (wa.heap.size ≤ (w6.setCell ⟨pb + 1, 1, none⟩ (.slice av' (rs.length + 1) cv')).heap.size) := Nat.le_trans HZ5.out hsz6
          have HS6 : Hid (Sole wa.heap.size wa bj bd s5 (fun k => k = pb ∨ k = pb + 1 ∨ (Value.slice av' (rs.length + 1) cv').ownBlock = some k) (w6.setCell ⟨pb + 1, 1, none⟩ (.slice av' (rs.length + 1) cv'))) := by
            obtain ⟨sv, hsv⟩ : ∃ sv, ((rs ++ [S.data.toList]).map strV)[0]? = some (.string sv) := by
              cases rs with
              | nil => exact ⟨_, rfl⟩
              | cons r rs => exact ⟨_, rfl⟩
            refine HS5.out.texts HZ5.out (hC6.mono (fun k _ hk => ?_)) HNB.out (fun k hk => ?_) HT6.out.own hsv
            · rcases hk with hk | hk
              · exact Or.inl (Or.inr (Or.inl hk))
              · exact Or.inl (Or.inr (Or.inr hk))
            · rcases hk with hk | hk | hk
              · exact Or.inl ⟨Or.inl (Or.inl (Or.inl hk)), by omega⟩
              · exact Or.inl ⟨Or.inl (Or.inl (Or.inr (Or.inl hk))), by omega⟩
              · exact Or.inr hk
          clear hown' hown'' hgrow hnn hT6 hC6 hlt6 hpv hblk6 HS5 HT5 HP5b hown t1 ho5
          go_wp2
          exact ⟨⟨k + 1, s5, sn, rs ++ [S.data.toList], sf, _, by have := HLT.out; omega, by go_num, HP5, HK5, HS6, HT6, HP6, HZ6⟩, by have := HLT.out; simp [intOf]; omega⟩
        · have hsame := add_same s S.data.toList he
          rw [hsame] at A5
          have j0 : ((jAdd s S.data.toList).2 == 0) = false := by rw [beq_eq_false_iff_ne]; exact he
          generalize (jAdd s S.data.toList).2 = er at *
          clear C5 hK5 he hsame
          go_wp2_with fail
          rw [HW4.out]
          refine A5.out.mono ?_
          rintro e w5 ⟨rfl, hS5, hB5, hZ5⟩
          obtain ⟨hp5, hT5, _⟩ := HBLK.out _ hB5
          have HZ5 : Hid (wa.heap.size ≤ w5.heap.size) := Nat.le_trans HZ4.out hZ5
          have HS5 : Hid (Sole wa.heap.size wa bj bd s (fun k => k = pb ∨ k = pb + 1 ∨ v.ownBlock = some k) w5) := HSHR.out _ _ hS5 HZ5.out
          have HT5 : Hid (ToldAt (pb + 1) ⟨sn.toArray⟩ v rs sf w5) := hT5
          have HP5 : Hid (w5.cell? ⟨pb, 0, none⟩ = some (.pointer (some ⟨bd, 0, none⟩)) ∧ w5.cell? ⟨pb, 1, none⟩ = some (.pointer (some ⟨bj, 0, none⟩))) := hp5
          clear hS5 hT5 hp5 hB5 hZ5
          go_wp2
          exact ⟨⟨k + 1, s, sn, rs, sf, v, by have := HLT.out; omega, by go_num, HP, HK, HS5, HT5, HP5, HZ5⟩, by have := HLT.out; simp [intOf]; omega⟩
      · by_cases hD1' : D = 1
        · subst hD1'
          have C5 := HS4.out.call (f := 31) (args := #[.pointer (some ⟨bj, 0, none⟩)]) (r := .int .i64 0) (s' := jSyn s) HZ4.out HTA.out (Nat.le_refl _) (fun T hJ hG hT => jsync_any hJ HK.out hG hT)
          have A5 : Hid (Calls Tryd.prog 31 #[.pointer (some ⟨bj, 0, none⟩)] w4 fun e w' => e = .returned (.int .i64 0) ∧ Sole wa.heap.size wa bj bd (jSyn s) (fun k => (k = pb ∨ k = pb + 1 ∨ v.ownBlock = some k) ∨ k = wr.heap.size) w' ∧ (∀ k, (fun k => (k = pb ∨ k = pb + 1 ∨ v.ownBlock = some k) ∨ k = wr.heap.size) k → w'.heap[k]? = w4.heap[k]?) ∧ w4.heap.size ≤ w'.heap.size) := C5
          have HK5 : Hid (JOk (jSyn s)) := jok_syn s HK.out
          have HP5 : Hid (Play (jSyn s) sn rs rs.length) := play_syn s sn rs sf HP.out
          generalize jSyn s = s5 at *
          clear C5 hD0
          go_wp2_with fail
          rw [HW4.out]
          refine A5.out.mono ?_
          rintro e w5 ⟨rfl, hS5, hB5, hZ5⟩
          obtain ⟨hp5, hT5, _⟩ := HBLK.out _ hB5
          have t1 := hT5.cr
          have t2 := hT5.cn
          have u2 := hT5.free 2
          obtain ⟨av, cv, hvv, _, _⟩ := own_row hT5.own
          subst hvv
          have HZ5 : Hid (wa.heap.size ≤ (w5.setCell ⟨pb + 1, 2, none⟩ (.int .i64 (rs.length : Int))).heap.size) := by show _ ≤ _; simp; exact Nat.le_trans HZ4.out hZ5
          have HT6 : Hid (ToldAt (pb + 1) ⟨sn.toArray⟩ (.slice av rs.length cv) rs rs.length (w5.setCell ⟨pb + 1, 2, none⟩ (.int .i64 (rs.length : Int)))) := hT5.safe rs.length
          have HP6 : Hid ((w5.setCell ⟨pb + 1, 2, none⟩ (.int .i64 (rs.length : Int))).cell? ⟨pb, 0, none⟩ = some (.pointer (some ⟨bd, 0, none⟩)) ∧ (w5.setCell ⟨pb + 1, 2, none⟩ (.int .i64 (rs.length : Int))).cell? ⟨pb, 1, none⟩ = some (.pointer (some ⟨bj, 0, none⟩))) := by
            refine ⟨?_, ?_⟩
            · rw [World.cell?_setCell_other _ _ _ _ (by simp)]; exact hp5.1
            · rw [World.cell?_setCell_other _ _ _ _ (by simp)]; exact hp5.2
          have HS6 : Hid (Sole wa.heap.size wa bj bd s5 (fun k => k = pb ∨ k = pb + 1 ∨ (Value.slice av rs.length cv).ownBlock = some k) (w5.setCell ⟨pb + 1, 2, none⟩ (.int .i64 (rs.length : Int)))) := hS5.own (Nat.le_trans HZ4.out hZ5) ((Dk.chg_set w5 ⟨pb + 1, 2, none⟩ (.int .i64 (rs.length : Int))).mono (fun k _ hk => Or.inl (Or.inr (Or.inl hk)))) HNB.out (fun k hk => ⟨Or.inl (Or.inl hk), by simpa using (hS5.choose_spec.2.2.2.2.1 k (Or.inl hk)).1⟩)
          clear hS5 hT5 hp5 hB5 hZ5 m0 m1 m2 x0 x1
          go_wp2
          exact ⟨⟨k + 1, s5, sn, rs, rs.length, _, by have := HLT.out; omega, by go_num, HP5, HK5, HS6, HT6, HP6, HZ5⟩, by have := HLT.out; simp [intOf]; omega⟩
        · by_cases hD2 : D = 2
          · subst hD2
            have C5 := HS4.out.call (f := 26) (args := #[.pointer (some ⟨bj, 0, none⟩), .string S]) (r := .int .i64 (jCmp s S.data.toList).2) (s' := (jCmp s S.data.toList).1) HZ4.out HTA.out (Nat.le_refl _) (fun T hJ hG hT => compact_any S (by omega) hJ HK.out hG hT)
            have A5 : Hid (Calls Tryd.prog 26 #[.pointer (some ⟨bj, 0, none⟩), .string S] w4 fun e w' => e = .returned (.int .i64 (jCmp s S.data.toList).2) ∧ Sole wa.heap.size wa bj bd (jCmp s S.data.toList).1 (fun k => (k = pb ∨ k = pb + 1 ∨ v.ownBlock = some k) ∨ k = wr.heap.size) w' ∧ (∀ k, (fun k => (k = pb ∨ k = pb + 1 ∨ v.ownBlock = some k) ∨ k = wr.heap.size) k → w'.heap[k]? = w4.heap[k]?) ∧ w4.heap.size ≤ w'.heap.size) := C5
            have hK5 := jok_cmp s S.data.toList HK.out
            by_cases he : (jCmp s S.data.toList).2 = 0
            · have hP5 := play_cmp s sn S.data.toList rs sf HP.out HK.out he
              rw [he] at A5
              have HK5 : Hid (JOk (jCmp s S.data.toList).1) := hK5
              have HP5 : Hid (Play (jCmp s S.data.toList).1 S.data.toList [] 0) := hP5
              generalize (jCmp s S.data.toList).1 = s5 at *
              clear C5 hK5 hP5 he hD0 hD1'
              go_wp2_with fail
              rw [HW4.out]
              refine A5.out.mono ?_
              rintro e w5 ⟨rfl, hS5, hB5, hZ5⟩
              obtain ⟨hp5, hT5, ho5⟩ := HBLK.out _ hB5
              have t0 := hT5.cs
              have t1 := hT5.cr
              have t2 := hT5.cn
              have u0 := hT5.free 0
              have u1 := hT5.free 1
              have u2 := hT5.free 2
              have hch : Chg (fun k => k = pb + 1) w5 (((w5.setCell ⟨pb + 1, 0, none⟩ (.string S)).setCell ⟨pb + 1, 1, none⟩ (.slice none 0 0)).setCell ⟨pb + 1, 2, none⟩ (.int .i64 0)) :=
                ((Dk.chg_set w5 ⟨pb + 1, 0, none⟩ (.string S)).trans (Dk.chg_set _ ⟨pb + 1, 1, none⟩ (.slice none 0 0)) (fun _ _ h => h)).trans (Dk.chg_set _ ⟨pb + 1, 2, none⟩ (.int .i64 0)) (fun _ _ h => h)
              have hpl5 : pb < w5.heap.size := block_lt_of_cell hp5.1
              have hblk : (((w5.setCell ⟨pb + 1, 0, none⟩ (.string S)).setCell ⟨pb + 1, 1, none⟩ (.slice none 0 0)).setCell ⟨pb + 1, 2, none⟩ (.int .i64 0)).heap[pb]? = w5.heap[pb]? := hch.block pb hpl5 (by omega)
              have HZ5 : Hid (wa.heap.size ≤ (((w5.setCell ⟨pb + 1, 0, none⟩ (.string S)).setCell ⟨pb + 1, 1, none⟩ (.slice none 0 0)).setCell ⟨pb + 1, 2, none⟩ (.int .i64 0)).heap.size) := Nat.le_trans (Nat.le_trans HZ4.out hZ5) hch.size
              have HT6 : Hid (ToldAt (pb + 1) ⟨S.data.toList.toArray⟩ (.slice none 0 0) [] 0 (((w5.setCell ⟨pb + 1, 0, none⟩ (.string S)).setCell ⟨pb + 1, 1, none⟩ (.slice none 0 0)).setCell ⟨pb + 1, 2, none⟩ (.int .i64 0))) := by
                show ToldAt _ _ _ _ _ _
                rw [data_mk]
                exact hT5.anew S
              have HP6 : Hid ((((w5.setCell ⟨pb + 1, 0, none⟩ (.string S)).setCell ⟨pb + 1, 1, none⟩ (.slice none 0 0)).setCell ⟨pb + 1, 2, none⟩ (.int .i64 0)).cell? ⟨pb, 0, none⟩ = some (.pointer (some ⟨bd, 0, none⟩)) ∧ (((w5.setCell ⟨pb + 1, 0, none⟩ (.string S)).setCell ⟨pb + 1, 1, none⟩ (.slice none 0 0)).setCell ⟨pb + 1, 2, none⟩ (.int .i64 0)).cell? ⟨pb, 1, none⟩ = some (.pointer (some ⟨bj, 0, none⟩))) := ⟨(World.cell?_of_block (w := w5) (a := ⟨pb, 0, none⟩) hblk).trans hp5.1, (World.cell?_of_block (w := w5) (a := ⟨pb, 1, none⟩) hblk).trans hp5.2⟩
              have HS6 : Hid (Sole wa.heap.size wa bj bd s5 (fun k => k = pb ∨ k = pb + 1 ∨ (Value.slice none 0 0).ownBlock = some k) (((w5.setCell ⟨pb + 1, 0, none⟩ (.string S)).setCell ⟨pb + 1, 1, none⟩ (.slice none 0 0)).setCell ⟨pb + 1, 2, none⟩ (.int .i64 0))) := hS5.own (Nat.le_trans HZ4.out hZ5) (hch.mono (fun k _ hk => Or.inl (Or.inr (Or.inl hk)))) HNB.out (fun k hk => by
                rcases hk with hk | hk | hk
                · exact ⟨Or.inl (Or.inl (Or.inl hk)), by have := hch.size; omega⟩
                · exact ⟨Or.inl (Or.inl (Or.inr (Or.inl hk))), by have := hch.size; have h9 := block_lt_of_cell t0; simp only at h9; omega⟩
                · cases hk)
              obtain ⟨av, cv, hvv, _, _⟩ := own_row hT5.own
              subst hvv
              clear hS5 hT5 hp5 hB5 hZ5 m0 m1 m2 x0 x1 hch hblk
              go_wp2
              exact ⟨⟨k + 1, s5, S.data.toList, [], 0, _, by have := HLT.out; omega, by go_num, HP5, HK5, HS6, HT6, HP6, HZ5⟩, by have := HLT.out; simp [intOf]; omega⟩
            · have hsame := cmp_same s S.data.toList he
              rw [hsame] at A5
              have j0 : ((jCmp s S.data.toList).2 == 0) = false := by rw [beq_eq_false_iff_ne]; exact he
              generalize (jCmp s S.data.toList).2 = er at *
              clear C5 hK5 he hsame hD0 hD1'
              go_wp2_with fail
              rw [HW4.out]
              refine A5.out.mono ?_
              rintro e w5 ⟨rfl, hS5, hB5, hZ5⟩
              obtain ⟨hp5, hT5, _⟩ := HBLK.out _ hB5
              have HZ5 : Hid (wa.heap.size ≤ w5.heap.size) := Nat.le_trans HZ4.out hZ5
              have HS5 : Hid (Sole wa.heap.size wa bj bd s (fun k => k = pb ∨ k = pb + 1 ∨ v.ownBlock = some k) w5) := HSHR.out _ _ hS5 HZ5.out
              have HT5 : Hid (ToldAt (pb + 1) ⟨sn.toArray⟩ v rs sf w5) := hT5
              have HP5 : Hid (w5.cell? ⟨pb, 0, none⟩ = some (.pointer (some ⟨bd, 0, none⟩)) ∧ w5.cell? ⟨pb, 1, none⟩ = some (.pointer (some ⟨bj, 0, none⟩))) := hp5
              clear hS5 hT5 hp5 hB5 hZ5
              go_wp2
              exact ⟨⟨k + 1, s, sn, rs, sf, v, by have := HLT.out; omega, by go_num, HP, HK, HS5, HT5, HP5, HZ5⟩, by have := HLT.out; simp [intOf]; omega⟩
          · have j0 : (D == 0) = false := by rw [beq_eq_false_iff_ne]; exact hD0
            have j1 : (D == 1) = false := by rw [beq_eq_false_iff_ne]; exact hD1'
            have j2 : (D == 2) = false := by rw [beq_eq_false_iff_ne]; exact hD2
            go_wp2
            rw [HW4.out]
            exact ⟨⟨k + 1, s, sn, rs, sf, v, by have := HLT.out; omega, by go_num, HP, HK, HSHR.out _ _ HS4.out HZ4.out, HTo4, HPB4, HZ4⟩, by have := HLT.out; simp [intOf]; omega⟩
    · have hbw : Below w.heap.size w wr := HBA.out.trans (HS.out.bel.mono HBA.out.size)
      have hsa := HSA.out
      have hsb := HS.out.bel
      have c0 : wr.cell? ⟨w.heap.size, 0, none⟩ = some (.string ⟨#[]⟩) := (hsb.cell (p := ⟨w.heap.size, 0, none⟩) (by simp; omega)).trans (by rw [HWA.out]; simp)
      have c1 : wr.cell? ⟨w.heap.size, 1, none⟩ = some (.slice none 0 0) := (hsb.cell (p := ⟨w.heap.size, 1, none⟩) (by simp; omega)).trans (by rw [HWA.out]; simp)
      have c2 : wr.cell? ⟨w.heap.size, 2, none⟩ = some (.int .i64 0) := (hsb.cell (p := ⟨w.heap.size, 2, none⟩) (by simp; omega)).trans (by rw [HWA.out]; simp)
      have cf : ∀ j, wr.frozen? ⟨w.heap.size, j, none⟩ = false := fun j => (hsb.frozen (p := ⟨w.heap.size, j, none⟩) (by simp; omega)).trans (by rw [HWA.out, World.frozen?, heap_alloc_new w _]; simp)
      have f0 := cf 0
      have f1 := cf 1
      have f2 := cf 2
      have p0 := HPB.out.1
      have p1 := HPB.out.2
      have t0 := HTo.out.cs
      have t1 := HTo.out.cr
      have t2 := HTo.out.cn
      obtain ⟨av, cv, hvv, _, _⟩ := own_row HTo.out.own
      subst hvv
      have hz1 := HZ1.out
      have ne1 : pb ≠ w.heap.size := by omega
      have ne2 : pb + 1 ≠ w.heap.size := by omega
      have ne3 : w.heap.size ≠ pb := by omega
      have ne4 : w.heap.size ≠ pb + 1 := by omega
      have HC : Hid (wr.cell? ⟨w.heap.size, 0, none⟩ = some (.string ⟨#[]⟩) ∧ wr.cell? ⟨w.heap.size, 1, none⟩ = some (.slice none 0 0) ∧ wr.cell? ⟨w.heap.size, 2, none⟩ = some (.int .i64 0)) := ⟨c0, c1, c2⟩
      clear hsa hsb cf hz1 hbw
      have HFIN : Hid (∀ a b c : Value, Sole w.heap.size w bj bd s (fun k => (Value.slice av rs.length cv).ownBlock = some k) ((((wr.setCell ⟨w.heap.size, 0, none⟩ a).setCell ⟨w.heap.size, 1, none⟩ b).setCell ⟨w.heap.size, 2, none⟩ c).drew) ∧ ((((wr.setCell ⟨w.heap.size, 0, none⟩ a).setCell ⟨w.heap.size, 1, none⟩ b).setCell ⟨w.heap.size, 2, none⟩ c).drew).ownsRow w.heap.size 9 1 (.slice av rs.length cv) rs.length (rs.map strV) ∧ w.heap.size ≤ ((((wr.setCell ⟨w.heap.size, 0, none⟩ a).setCell ⟨w.heap.size, 1, none⟩ b).setCell ⟨w.heap.size, 2, none⟩ c).drew).heap.size) := by
        intro a b c
        have hsa := HSA.out
        have hz := HZ.out
        have hz1 := HZ1.out
        have hS := HS.out.base2 HBA.out (by omega) hz
        have hch : Chg (fun k => k = w.heap.size) wr (((wr.setCell ⟨w.heap.size, 0, none⟩ a).setCell ⟨w.heap.size, 1, none⟩ b).setCell ⟨w.heap.size, 2, none⟩ c).drew :=
          (((Dk.chg_set wr ⟨w.heap.size, 0, none⟩ a).trans (Dk.chg_set _ ⟨w.heap.size, 1, none⟩ b) (fun _ _ h => h)).trans (Dk.chg_set _ ⟨w.heap.size, 2, none⟩ c) (fun _ _ h => h)).trans (Dk.chg_drew (fun _ => False) _) (fun _ _ h => h.elim)
        have hsz := hch.size
        refine ⟨hS.own (by omega) (hch.mono (fun k _ e => Or.inr (by omega))) (fun k hk => ?_) (fun k hk => ⟨Or.inl (Or.inl (Or.inr (Or.inr hk))), by have := (HTo.out.own.lt k hk).2; omega⟩), ?_, by omega⟩
        · rcases hk with (hk | hk | hk) | hk
          · omega
          · omega
          · have := (HTo.out.own.lt k hk).1; omega
          · omega
        · exact own_base (own_chg HTo.out.own hch (fun g hg e => by have := (HTo.out.own.lt g hg).1; have e2 : g = w.heap.size := e; omega)) (by omega)
      go_wp2_with fail
      go_region
      go_wp2_with fail
      refine bodyPost_ret (results_plays rfl _ _ w.heap.size (.string ⟨sn.toArray⟩) (.slice av rs.length cv) (.int .i64 (sf : Int)) _ rfl (set3 _ _ _ HC.out.1 HC.out.2.1 HC.out.2.2).1 (set3 _ _ _ HC.out.1 HC.out.2.1 HC.out.2.2).2.1 (set3 _ _ _ HC.out.1 HC.out.2.1 HC.out.2.2).2.2 Tryd.underlying59 rfl (by kernel_rfl)) rfl ?_
      exact ⟨bd, bj, s, sn, rs, sf, .slice av rs.length cv, rfl, HP.out, HK.out, (HFIN.out _ _ _).1, (HFIN.out _ _ _).2.1, (HFIN.out _ _ _).2.2⟩
end Go.Proofs.YtklgfapdgeoigaaDoor
