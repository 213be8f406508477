/- The walks of the document's wheel: New, find, before, Stop, Next, Len. -/
import Derived.Test.YthenmngjojgmkaaPartsW
import Derived.Deep.RegionHeld3
set_option linter.unusedVariables false
set_option maxRecDepth 100000
namespace Go.Proofs.Ythenmngjojgmkaa
open Go.RowKit
open WheelMath

/-- The document's wheel at block b: v is where its timers lie, those ahead first. -/
structure RW (w : World) (b : Nat) (v : Value) (r : List T) : Prop where
  cell : w.cell? ⟨b, 0, none⟩ = some v
  free : w.frozen? ⟨b, 0, none⟩ = false
  row : w.ownsRow 0 51 2 v r.length (tcells r)
  off : v.ownBlock ≠ some b
theorem RW.lt {w : World} {b : Nat} {v : Value} {r : List T} (h : RW w b v r) : b < w.heap.size := block_lt_of_cell h.cell
theorem rw_lt {w : World} {b : Nat} {v : Value} {r : List T} (h : RW w b v r) : ∀ k, fpw b v k → k < w.heap.size := by
  rintro k (rfl | hk)
  · exact h.lt
  · exact (h.row.lt k hk).2
theorem rw_chg {S : Nat → Prop} {w w' : World} {b : Nat} {v : Value} {r : List T} (h : RW w b v r) (hc : Chg S w w') (hS : ∀ k, fpw b v k → ¬ S k) : RW w' b v r := by
  have hb : w'.heap[b]? = w.heap[b]? := hc.block b h.lt (hS b (Or.inl rfl))
  exact ⟨(World.cell?_of_block (w := w) (a := ⟨b, 0, none⟩) hb).trans h.cell, (World.frozen?_of_block (w := w) (a := ⟨b, 0, none⟩) hb).trans h.free, own_chg h.row hc (fun g hg => hS g (Or.inr hg)), h.off⟩
theorem rw_below {w w' : World} {b : Nat} {v : Value} {r : List T} (h : RW w b v r) (hb : Below w.heap.size w w') : RW w' b v r :=
  rw_chg (S := fun k => w.heap.size ≤ k) h ⟨hb.os, hb.tape, hb.output, hb.size, fun k hk _ => hb.block k hk⟩ (fun k hk => by have := rw_lt h k hk; omega)
/-- Behind a call that writes: its own cell, and new blocks. -/
def ROk (w : World) (b : Nat) (r' : List T) (w' : World) : Prop := ∃ v', RW w' b v' r' ∧ Chg (fun k => k = b) w w' ∧ ∀ g, v'.ownBlock = some g → w.heap.size ≤ g
/-- A new row laid into the wheel. -/
theorem rok_set {w w1 : World} {b : Nat} {v v' : Value} {r r' : List T} (h : RW w b v r) (hb : Below w.heap.size w w1) (ho : w1.ownsRow w.heap.size 51 2 v' r'.length (tcells r')) : ROk w b r' (w1.setCell ⟨b, 0, none⟩ v') := by
  have h1 := rw_below h hb
  have hl := h.lt
  refine ⟨v', ⟨World.cell?_setCell_same _ _ _ h1.cell, by rw [World.frozen?_setCell]; exact h1.free, own_chg (own_base ho (Nat.zero_le _)) (chg_set w1 ⟨b, 0, none⟩ v') (fun g hg e => by have := (ho.lt g hg).1; simp only at e; omega), fun e => by have := (ho.lt b e).1; omega⟩, ?_, fun g hg => (ho.lt g hg).1⟩
  exact (chg_below (S := fun k => k = b) hb).trans (chg_set w1 ⟨b, 0, none⟩ v') (fun j _ e => e)

/-- An append of cells that lie anywhere, to a row of the call's own. -/
theorem wpList_append_any {P : Program} (w : World) {ops : Array Oper} {rest : List Oper} {o : Oper} {a : Act} {Q : Exit → Act → World → Prop} (hgd : o.guard = none) (s x : Operand) (t : TypeId)
    (ho : o.op = .call { callee := .builtin .append, args := #[s, x], argTypes := #[t, t] })
    (base : Nat) (e : TypeId) (i : TypeInfo) (z : Value) (size bytes : Nat) (ht : P.underlying t = some (.slice e)) (hi : P.info? e = some i) (hz : i.zero = some z)
    (hsize : i.size = size) (hby : i.bytes = bytes) (hzs : z.cells.size = size) (hsz : 0 < size)
    (W0 : World) (hbw : Below base W0 w) (hbs : base ≤ w.heap.size)
    (v : Value) (n : Nat) (xs : List Value) (hs : a.eval s = v) (hown : w.ownsRow base e size v n xs)
    (xo : Option Addr) (m c : Nat) (news : List Value) (hx : a.eval x = .slice xo m c) (hl : news.length = m * size) (hxo : (xo = none ∧ m = 0 ∧ c = 0) ∨ ∃ ad, xo = some ad ∧ ∀ j u, news[j]? = some u → w.cell? (ad.add j) = some u) (h1 : ∀ u ∈ news, u.oneCell' = true)
    (h63 : n + m ≤ maxLen) (hbytes : (n + m) * bytes ≤ 140737488355328)
    (h : ∀ ao' cap' w', w'.ownsRow base e size (.slice ao' (n + m) cap') (n + m) (xs ++ news) → Below base W0 w' → base ≤ w'.heap.size → wpList P ops Q rest (a.put o.dst (.slice ao' (n + m) cap')) w') : wpList P ops Q (o :: rest) a w := by
  rcases hxo with ⟨rfl, rfl, rfl⟩ | ⟨ad, rfl, hc⟩
  · obtain rfl : news = [] := List.eq_nil_of_length_eq_zero (by simpa using hl)
    obtain ⟨ao, cap, rfl, _⟩ := own_form hown
    exact wpList_append_own_none hgd s x t ho base e i size ht hi (.slice ao n cap) n xs hs hown hx (h ao cap w (own_cast rfl (by simp) hown) hbw hbs)
  · refine wpList_append_own w hgd s x t ho base e i z size bytes ht hi hz hsize hby hzs hsz v n xs hs hown ad m c news hx hl hc h1 h63 hbytes hbs ?_
    intro v' w' k1 k2 k3
    obtain ⟨ao, cap, rfl, _⟩ := own_form k1
    exact h ao cap w' k1 (hbw.grown k2 hbs (fun k hk => (hown.lt k hk).1)) (Nat.le_trans hbs k2.size)

theorem refNew_any (w : World) : Calls Try.prog 9 #[] w fun e w' => e = .returned (.pointer (some ⟨w.heap.size, 0, none⟩)) ∧ RW w' w.heap.size (.slice none 0 0) [] ∧ Below w.heap.size w w' := by
  go_enter Try.func9, Try.ntmps9
  go_wp2
  go_ret
  exact ⟨rfl, ⟨by simp, by simp, World.ownsRow_nil _ _ _ _, by simp [Value.ownBlock]⟩, (Below.refl _ _).alloc (Nat.le_refl _) _⟩
theorem refLen_any (w : World) (b : Nat) (v : Value) (r : List T) (h : RW w b v r) :
    Calls Try.prog 21 #[.pointer (some ⟨b, 0, none⟩)] w fun e w' => e = .returned (.int .i64 (r.length : Int)) ∧ w' = w := by
  obtain ⟨ao, cap, hv, _⟩ := own_form h.row
  have h1 := h.cell
  rw [hv] at h1
  clear h hv
  go_enter Try.func21, Try.ntmps21
  go_wp2
  go_ret
  exact ⟨rfl, rfl⟩
theorem refNext_any (w : World) (b : Nat) (v : Value) (r : List T) (h : RW w b v r) :
    Calls Try.prog 19 #[.pointer (some ⟨b, 0, none⟩)] w fun e w' => e = .returned (.tuple #[.int .i64 (nextI r), .bool (nextB r)]) ∧ w' = w := by
  obtain ⟨ao, cap, hv, _, _, hrow⟩ := row_cells h.row
  have h1 := h.cell
  rw [hv] at h1
  clear h hv
  cases r with
  | nil =>
    clear hrow
    simp only [List.length_nil] at h1
    go_enter Try.func19, Try.ntmps19
    go_wp2
    go_ret2
    exact ⟨rfl, rfl⟩
  | cons a r =>
    obtain ⟨g, rfl, hg, c1, c2, _⟩ := hrow 0 (by simp)
    simp only [List.getElem_cons_zero, Nat.zero_mul, Nat.zero_add] at c1 c2
    obtain ⟨n, hn⟩ : ∃ n, n = (a :: r).length := ⟨_, rfl⟩
    rw [← hn] at h1
    have hn1 : 1 ≤ n := by rw [hn]; simp
    have hn2 : ¬ (n : Int) = 0 := by omega
    have hn3 : (0 : Int) < (n : Int) := by omega
    have hn4 : ((n : Int) == 0) = false := by simp; omega
    have hn5 : decide ((n : Int) = 0) = false := by simp; omega
    have hn6 : 0 < n := by omega
    have HE : Hid (nextI (a :: r) = a.2 ∧ nextB (a :: r) = true) := ⟨rfl, rfl⟩
    generalize nextI (a :: r) = ni at *
    generalize nextB (a :: r) = nb at *
    clear hn hrow
    go_enter Try.func19, Try.ntmps19
    go_wp2
    go_ret2
    rw [HE.out.1, HE.out.2]
    exact ⟨rfl, rfl⟩

set_option maxHeartbeats 1000000 in
theorem refFind_any (w : World) (b : Nat) (v : Value) (r : List T) (hl : r.length ≤ 200) (h : RW w b v r) (id : Int) :
    Calls Try.prog 25 #[.pointer (some ⟨b, 0, none⟩), .int .i64 id] w fun e w' => e = .returned (.int .i64 (placeI r id)) ∧ w' = w := by
  obtain ⟨ao, cap, hv, hcap, _, hrow⟩ := row_cells h.row
  have hb := h.cell
  rw [hv] at hb
  have HR : Hid (∀ j, (hj : j < r.length) → ∃ g, ao = some ⟨g, 0, none⟩ ∧ g < w.heap.size ∧ w.cell? ⟨g, j * 2, none⟩ = some (.int .i64 r[j].1) ∧ w.cell? ⟨g, j * 2 + 1, none⟩ = some (.int .i64 r[j].2) ∧ w.frozen? ⟨g, j * 2 + 1, none⟩ = false) := hrow
  clear hrow h hv
  go_enter Try.func25, Try.ntmps25
  go_wp2
  go_loop [5] (fun i => ∃ k : Nat, k ≤ r.length ∧ i = .int .i64 (k : Int) ∧ Hid (∀ j, (h : j < r.length) → j < k → r[j].1 ≠ id)) (fun i => r.length - (intOf i).toNat)
  case atStart => exact ⟨0, Nat.zero_le _, rfl, fun j _ hj => absurd hj (Nat.not_lt_zero _)⟩
  case round =>
    obtain ⟨k, hk, rfl, HN⟩ := hrel
    by_cases hlt : k < r.length
    · obtain ⟨g, rfl, hg, c1, c2, _⟩ := HR.out k hlt
      have i1 : (k : Int) < (r.length : Int) := by omega
      by_cases hq : r[k].1 = id
      · have HE : Hid (placeI r id = (k : Int)) := placeI_some (place_hit hlt hq HN.out)
        rw [hq] at c1
        clear hq c2 HN
        go_wp2
        go_ret
        rw [HE.out]
        exact ⟨rfl, rfl⟩
      · have HN' : Hid (∀ j, (h : j < r.length) → j < k + 1 → r[j].1 ≠ id) := fun j h hj => by
          by_cases e : j = k
          · subst e; exact hq
          · exact HN.out j h (by omega)
        have q1 : (r[k].1 == id) = false := by simpa using hq
        have q2 : decide (r[k].1 = id) = false := by simpa using hq
        clear c2 HN
        generalize r[k].1 = a1 at *
        go_wp2
        exact ⟨⟨k + 1, by omega, by go_num, HN'⟩, by simp [intOf]; omega⟩
    · obtain rfl : k = r.length := by omega
      have HE : Hid (placeI r id = -1) := placeI_none (place_miss fun j hj => HN.out j hj hj)
      clear HN
      go_wp2
      go_ret
      rw [HE.out]
      exact ⟨rfl, rfl⟩
theorem refBefore_yes (a b : T) (w : World) (h : before a b) :
    Calls Try.prog 26 #[.agg #[.int .i64 a.1, .int .i64 a.2], .agg #[.int .i64 b.1, .int .i64 b.2]] w fun e w' => e = .returned (.bool true) ∧ Below w.heap.size w w' := by
  obtain ⟨a1, a2⟩ := a
  obtain ⟨b1, b2⟩ := b
  unfold before at h
  simp only at h ⊢
  by_cases h1 : a2 < b2
  · have d1 : decide (a2 < b2) = true := by simpa using h1
    clear h
    go_enter Try.func26, Try.ntmps26
    go_wp2
    go_ret
    exact ⟨rfl, ((Below.refl _ _).alloc (Nat.le_refl _) _).alloc (by simp) _⟩
  · have h2 : a2 = b2 := by omega
    have h3 : a1 < b1 := by omega
    subst h2
    clear h h1
    go_enter Try.func26, Try.ntmps26
    go_wp2
    go_ret
    exact ⟨rfl, ((Below.refl _ _).alloc (Nat.le_refl _) _).alloc (by simp) _⟩
theorem refBefore_no (a b : T) (w : World) (h : ¬ before a b) :
    Calls Try.prog 26 #[.agg #[.int .i64 a.1, .int .i64 a.2], .agg #[.int .i64 b.1, .int .i64 b.2]] w fun e w' => e = .returned (.bool false) ∧ Below w.heap.size w w' := by
  obtain ⟨a1, a2⟩ := a
  obtain ⟨b1, b2⟩ := b
  unfold before at h
  simp only at h ⊢
  have h1 : ¬ a2 < b2 := by omega
  have d1 : decide (a2 < b2) = false := by simpa using h1
  by_cases h2 : a2 = b2
  · have h3 : ¬ a1 < b1 := by omega
    subst h2
    have d3 : decide (a1 < b1) = false := by simpa using h3
    clear h h1
    go_enter Try.func26, Try.ntmps26
    go_wp2
    go_ret
    exact ⟨rfl, ((Below.refl _ _).alloc (Nat.le_refl _) _).alloc (by simp) _⟩
  · have d2 : decide (a2 = b2) = false := by simpa using h2
    have d3 : (a2 == b2) = false := by simpa using h2
    clear h
    go_enter Try.func26, Try.ntmps26
    go_wp2
    go_ret
    exact ⟨rfl, ((Below.refl _ _).alloc (Nat.le_refl _) _).alloc (by simp) _⟩

theorem refStop_none (w : World) (b : Nat) (v : Value) (r : List T) (hl : r.length ≤ 200) (h : RW w b v r) (id : Int) (hk : place r id = none) :
    Calls Try.prog 13 #[.pointer (some ⟨b, 0, none⟩), .int .i64 id] w fun e w' => e = .returned (.bool false) ∧ w' = w := by
  have C : Hid (Calls Try.prog 25 #[.pointer (some ⟨b, 0, none⟩), .int .i64 id] w fun e w' => e = .returned (.int .i64 (-1)) ∧ w' = w) := by
    have := refFind_any w b v r hl h id
    rw [placeI_none hk] at this
    exact this
  clear h hk
  go_enter Try.func13, Try.ntmps13
  go_wp2_with fail
  refine C.out.mono ?_
  rintro e w1 ⟨rfl, hw⟩
  rw [hw]; clear hw w1
  go_wp2
  go_ret
  exact ⟨rfl, rfl⟩
/-- The cells of the row behind place k, as a reslice has them. -/
theorem rest_cells {w : World} {B e g cap : Nat} {r : List T} (h : w.ownsRow B e 2 (.slice (some ⟨g, 0, none⟩) r.length cap) r.length (tcells r)) (k : Nat) (hk : k ≤ r.length) :
    ∃ ad : Addr, (if cap = k then some (⟨g, 0, none⟩ : Addr) else some ⟨g, k * 2, none⟩) = some ad ∧ ∀ (w' : World), (∀ j, w'.cell? ⟨g, j, none⟩ = w.cell? ⟨g, j, none⟩) → ∀ j u, (tcells (r.drop k))[j]? = some u → w'.cell? (ad.add j) = some u := by
  obtain ⟨ao, cap', hv, hc, _, h3⟩ := own_form h
  cases hv
  obtain ⟨b', hb', _, _, k3, _⟩ := h3 _ rfl
  cases hb'
  by_cases hck : cap = k
  · refine ⟨⟨g, 0, none⟩, by simp [hck], fun w' hw j u hu => ?_⟩
    have : r.drop k = [] := List.drop_of_length_le (by omega)
    rw [this] at hu
    simp [tcells] at hu
  · refine ⟨⟨g, k * 2, none⟩, by simp [hck], fun w' hw j u hu => ?_⟩
    have hj : j < (tcells (r.drop k)).length := (List.getElem?_eq_some_iff.1 hu).1
    rw [tcells_len, List.length_drop] at hj
    rw [Addr.add_lit, hw, k3 _ (by omega), ← hu, ← tcells_drop, List.getElem?_drop]

set_option maxHeartbeats 2000000 in
theorem refStop_hit (w : World) (b : Nat) (v : Value) (r : List T) (hl : r.length ≤ 200) (hi : Ids r) (h : RW w b v r) (id : Int) (k : Nat) (hk : place r id = some k) :
    Calls Try.prog 13 #[.pointer (some ⟨b, 0, none⟩), .int .i64 id] w fun e w' => e = .returned (.bool true) ∧ ROk w b (rem r id) w' := by
  obtain ⟨i0, hi0, hz0, hz1, hz2⟩ := info_parts infoR
  obtain ⟨hkl, _⟩ := place_some hk
  have C : Hid (Calls Try.prog 25 #[.pointer (some ⟨b, 0, none⟩), .int .i64 id] w fun e w' => e = .returned (.int .i64 (k : Int)) ∧ w' = w) := by
    have := refFind_any w b v r hl h id
    rw [placeI_some hk] at this
    exact this
  have HE : Hid (r.eraseIdx k = rem r id) := erase_rem hi hk
  obtain ⟨ao, cap, rfl, hcap, _, hrow⟩ := row_cells h.row
  obtain ⟨g, rfl, hg, _, _, _⟩ := hrow k hkl
  obtain ⟨ad, hA, hsrc⟩ := rest_cells h.row (k + 1) (by omega)
  have HSRC : Hid (∀ (w' : World), (∀ j, w'.cell? ⟨g, j, none⟩ = w.cell? ⟨g, j, none⟩) → ∀ j u, (tcells (r.drop (k + 1)))[j]? = some u → w'.cell? (ad.add j) = some u) := hsrc
  have HR : Hid (RW w b (.slice (some ⟨g, 0, none⟩) r.length cap) r) := h
  have HT : Hid (∀ j u, (tcells (r.take k))[j]? = some u → w.cell? ((⟨g, 0, none⟩ : Addr).add j) = some u) := fun j u hu => (own_cut h.row (m := k) (by omega)).cells (g := g) rfl j u (by rw [tcells_take]; exact hu)
  have cb := h.cell
  have hbl := h.lt
  have l1 : (tcells (r.take k)).length = k * 2 := by rw [tcells_len, List.length_take]; omega
  have l2 : (tcells (r.drop (k + 1))).length = (r.length - (k + 1)) * 2 := by rw [tcells_len, List.length_drop]
  have L1 : Hid ((tcells (r.take k)).length = k * 2) := l1
  have L2 : Hid ((tcells (r.drop (k + 1))).length = (r.length - (k + 1)) * 2) := l2
  have dk : decide ((k : Int) < 0) = false := by simp
  have hk2 : k < 200 := by omega
  have hkc : k ≤ cap := by omega
  have hkc' : k + 1 ≤ cap := by omega
  have i7 : (0 : Int) ≤ (k : Int) + 1 := by omega
  have i4 : (k : Int) + 1 ≤ (r.length : Int) := by omega
  have i5 : ((k : Int) + 1).toNat = k + 1 := by omega
  have i6 : (k : Int) ≤ (cap : Int) := by omega
  have HC : Hid (∀ (w' : World), Below w.heap.size w w' → w'.cell? ⟨b, 0, none⟩ = some (.slice (some ⟨g, 0, none⟩) r.length cap) ∧ w'.frozen? ⟨b, 0, none⟩ = false ∧ ∀ j, w'.cell? ⟨g, j, none⟩ = w.cell? ⟨g, j, none⟩) := fun w' hb' =>
    ⟨(hb'.cell (p := ⟨b, 0, none⟩) hbl).trans cb, (hb'.frozen (p := ⟨b, 0, none⟩) hbl).trans h.free, fun j => hb'.cell (p := ⟨g, j, none⟩) hg⟩
  clear h hk hrow hsrc l1 l2 hi
  go_enter Try.func13, Try.ntmps13
  go_wp2_with fail
  refine C.out.mono ?_
  rintro e w1 ⟨rfl, hw⟩
  rw [hw]; clear hw w1 C
  go_wp2_with (at_builtin; refine wpList_append_any _ rfl _ _ 46 rfl w.heap.size 51 i0 (.agg #[.int .i64 0, .int .i64 0]) 2 16 Try.underlying46 hi0 hz0 hz1 hz2 rfl (by decide) w (Below.refl _ _) (Nat.le_refl _) _ 0 [] rfl (World.ownsRow_nil _ _ _ _) (some ⟨g, 0, none⟩) k cap (tcells (r.take k)) rfl L1.out (Or.inr ⟨_, rfl, HT.out⟩) (tcells_one _) (by unfold maxLen; omega) (by omega) ?_)
  intro ao1 cap1 w1 o1 b1 s1
  obtain ⟨cb1, cf1, cg1⟩ := HC.out w1 b1
  have HG1 : Hid (∀ j, w1.cell? ⟨g, j, none⟩ = w.cell? ⟨g, j, none⟩) := cg1
  clear cb cg1
  go_wp2_with (at_builtin; refine wpList_append_any _ rfl _ _ 46 rfl w.heap.size 51 i0 (.agg #[.int .i64 0, .int .i64 0]) 2 16 Try.underlying46 hi0 hz0 hz1 hz2 rfl (by decide) w b1 s1 _ k (tcells (r.take k)) rfl o1 (some ad) (r.length - (k + 1)) (cap - (k + 1)) (tcells (r.drop (k + 1))) rfl L2.out (Or.inr ⟨_, rfl, HSRC.out _ HG1.out⟩) (tcells_one _) (by unfold maxLen; omega) (by omega) ?_)
  intro ao2 cap2 w2 o2 b2 s2
  obtain ⟨cb2, cf2, _⟩ := HC.out w2 b2
  have HO : Hid (ROk w b (rem r id) (w2.setCell ⟨b, 0, none⟩ (.slice ao2 (k + (r.length - (k + 1))) cap2))) := by
    rw [← HE.out]
    refine rok_set HR.out b2 ?_
    refine own_cast ?_ ?_ o2
    · rw [List.length_eraseIdx_of_lt hkl]; omega
    · rw [List.eraseIdx_eq_take_drop_succ, tcells_append]
  clear o1 o2 b1 b2 s1 s2 cb1 cf1 HC HR HT HSRC HG1
  go_wp2
  go_ret
  exact ⟨rfl, HO.out⟩
end Go.Proofs.Ythenmngjojgmkaa
