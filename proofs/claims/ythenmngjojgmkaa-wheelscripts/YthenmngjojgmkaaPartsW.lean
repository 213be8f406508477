/- The walk of the law WheelParts. -/
import Derived.Test.YthenmngjojgmkaaTwoW
set_option linter.unusedVariables false
set_option maxRecDepth 100000
namespace Go.Proofs.Ythenmngjojgmkaa
open Go.RowKit
open WheelMath

/-- What changed among the kept blocks; and more blocks that are kept: among the kept ones, or new. -/
theorem Two.add {S : Nat → Prop} {B : Nat} {w : World} {N M : Nat → Prop} {x y : Nat} {rx ry : List T} {wr w' : World} (h : Two B w N x rx y ry wr) (hc : Chg S wr w') (hS : ∀ k, S k → N k) (hB : ∀ k, S k → B ≤ k) (hM : ∀ k, M k → k < w'.heap.size ∧ (N k ∨ wr.heap.size ≤ k)) : Two B w (fun k => N k ∨ M k) x rx y ry w' := by
  have hs := hc.size
  obtain ⟨vx, lx, vy, ly, h1, h2, h3, h4, h5, h6, h7, h8, h9⟩ := h
  refine ⟨vx, lx, vy, ly, pw_chg h1 hc (fun k hk hs => (h7 k (hS k hs)).2.1 hk), h2, pw_chg h3 hc (fun k hk hs => (h7 k (hS k hs)).2.2 hk), h4, h5, h6, fun k hk => ?_, h8.trans (below_chg hc h9 (fun k hk hs => by have := hB k hs; omega)), by omega⟩
  rcases hk with hk | hk
  · exact ⟨by have := (h7 k hk).1; omega, (h7 k hk).2⟩
  · obtain ⟨m1, m2⟩ := hM k hk
    rcases m2 with m2 | m2
    · exact ⟨m1, (h7 k m2).2⟩
    · exact ⟨m1, fun hf => by have := fpw_lt h1 k hf; omega, fun hf => by have := fpw_lt h3 k hf; omega⟩
/-- Numbers behind an owned row. -/
theorem imap_append (xs ys : List Int) : (xs.map fun n => Value.int .i64 n) ++ (ys.map fun n => Value.int .i64 n) = (xs ++ ys).map fun n => Value.int .i64 n := by simp
theorem imap_one (xs : List Int) : ∀ u ∈ (xs.map fun n => Value.int .i64 n), u.oneCell' = true := by
  intro u hu
  obtain ⟨x, _, rfl⟩ := List.mem_map.1 hu
  rfl

/-- An append of any number of elements to an owned row: it stays where it was, or moves to a new block. -/
theorem wpList_append_most {P : Program} (w : World) {ops : Array Oper} {rest : List Oper} {o : Oper} {a : Act} {Q : Exit → Act → World → Prop} (hgd : o.guard = none) (s x : Operand) (t : TypeId)
    (ho : o.op = .call { callee := .builtin .append, args := #[s, x], argTypes := #[t, t] })
    (base : Nat) (e : TypeId) (i : TypeInfo) (z : Value) (size bytes : Nat) (ht : P.underlying t = some (.slice e)) (hi : P.info? e = some i) (hz : i.zero = some z)
    (hsize : i.size = size) (hby : i.bytes = bytes) (hzs : z.cells.size = size) (hsz : 0 < size)
    (v : Value) (n : Nat) (xs : List Value) (hs : a.eval s = v) (hown : w.ownsRow base e size v n xs) (base2 : Nat)
    (u : Value) (m : Nat) (news : List Value) (hx : a.eval x = u) (hu : w.ownsRow base2 e size u m news) (h1 : ∀ u ∈ news, u.oneCell' = true)
    (h63 : n + m ≤ maxLen) (hbytes : (n + m) * bytes ≤ 140737488355328)
    (h : ∀ ao' cap' w', w'.ownsRow 0 e size (.slice ao' (n + m) cap') (n + m) (xs ++ news) → (∀ g, (Value.slice ao' (n + m) cap').ownBlock = some g → v.ownBlock = some g ∨ w.heap.size ≤ g) → Chg (fun k => v.ownBlock = some k) w w' →
      wpList P ops Q rest (a.put o.dst (.slice ao' (n + m) cap')) w') : wpList P ops Q (o :: rest) a w := by
  obtain ⟨uo, uc, rfl, _, u0, ur⟩ := own_form hu
  cases uo with
  | none =>
    obtain ⟨rfl, rfl⟩ := u0 rfl
    obtain rfl : news = [] := List.eq_nil_of_length_eq_zero (by simpa using hu.1)
    obtain ⟨ao, cap, rfl, _⟩ := own_form hown
    refine wpList_plain hgd fun K hK => ?_
    have hr := run_append_owned_none (P := P) w base t o.type e i size ht hi (.slice ao n cap) n xs hown
    unfold Oper.wp execOp
    simp only [ho, resolve, invoke, builtin, Sem.run_bind, Sem.run_pure, Result.andThen_ok, List.map_toArray, List.map_cons, List.map_nil, hs, hx, hr]
    exact hK _ _ (h ao cap w (own_cast rfl (by simp) (own_base hown (Nat.zero_le _))) (fun g hg => Or.inl hg) (Chg.refl _ _))
  | some ad =>
    obtain ⟨ug, rfl, _, _, _, _, _⟩ := ur ad rfl
    by_cases hm : 0 < m
    · exact wpList_append_more w hgd s x t ho base e i z size bytes ht hi hz hsize hby hzs hsz v n xs hs hown ⟨ug, 0, none⟩ m uc news hx hu.1 (hu.cells (g := ug) rfl) h1 hm h63 hbytes
        (fun g' cap' w' k1 k2 k3 => h (some ⟨g', 0, none⟩) cap' w' k1 (fun g hg => by
          have : g' = g := by simpa [Value.ownBlock] using hg
          rw [← this]; exact k2) k3)
    · obtain rfl : m = 0 := by omega
      obtain rfl : news = [] := List.eq_nil_of_length_eq_zero (by simpa using hu.1)
      rcases hown.2 with ⟨hv, h0⟩ | ⟨g, cap, cur, hv, hb, hg, hnc, hcm, hcs, htake⟩
      · subst hv
        obtain rfl : n = 0 := h0
        obtain rfl : xs = [] := List.eq_nil_of_length_eq_zero (by simpa using hown.1)
        refine wpList_append_own w hgd s x t ho 0 e i z size bytes ht hi hz hsize hby hzs hsz (.slice none 0 0) 0 [] hs (World.ownsRow_nil _ _ _ _) ⟨ug, 0, none⟩ 0 uc [] hx (by simp) (fun j u hj => by simp at hj) h1 h63 hbytes (Nat.zero_le _) ?_
        intro v' w' k1 k2 k3
        obtain rfl : v' = .slice none 0 0 := k3.2 ⟨rfl, rfl⟩
        exact h none 0 w' k1 (fun g hg => by cases hg) (chg_grown k2)
      · subst hv
        exact wpList_append_fits w hgd s x t ho base e i size ht hi hsize g n cap xs hs hown ⟨ug, 0, none⟩ 0 uc [] hx (by simp) (fun j u hj => by simp at hj) h1 (by omega) fun w' k1 k2 =>
          h (some ⟨g, 0, none⟩) cap w' (own_base k1 (Nat.zero_le _)) (fun g' hg' => Or.inl hg') ⟨k2.os, k2.tape, k2.output, k2.size, fun k hk hn => k2.block k hk (fun e => hn e.symm)⟩

set_option maxHeartbeats 2000000 in
theorem parts_from (l : List Op) (a b : Int) (lo up : Int) (hlh : lo ≤ up) (hmm : (a < b ∧ lo = a ∧ up = b) ∨ (b < a ∧ lo = b ∧ up = a) ∨ (lo = a ∧ up = a ∧ b = a)) (v : Value) (hl : l.length ≤ 140737488355328) (hok : ∀ o ∈ l, OpOk o) (w : World) (hO : ORow w v l) :
    Calls Try.prog 6 #[v, .int .i64 a, .int .i64 b] w fun e w' => e = .returned (.bool true) ∧ Below w.heap.size w w' := by
  obtain ⟨i0, hi, hz0, hz1, hz2⟩ := info_parts infoI
  have CX : Hid (Calls Try.prog 23 #[v, .bool false] w fun e w' => ∃ b, e = .returned (.pointer (some ⟨b, 0, none⟩)) ∧ WIn (fun k => k < w.heap.size) w b (seqR (pF l) l.length) w') := setF_any v l hl hok w hO
  have CY : Hid (∀ w1, Below w.heap.size w w1 → Calls Try.prog 23 #[v, .bool false] w1 fun e w' => ∃ b, e = .returned (.pointer (some ⟨b, 0, none⟩)) ∧ WIn (fun k => k < w1.heap.size) w1 b (seqR (pF l) l.length) w') := fun w1 hb =>
    setF_any v l hl hok w1 (orow_below hO hb)
  have hG := good_seq (pF l) l.length
  generalize seqR (pF l) l.length = r at *
  have HG : Hid (WheelMath.Good r) := hG
  have HGl : Hid (WheelMath.Good (left r lo)) := good_left hG lo
  have hp := told_parts r lo up hlh
  have HP1 : Hid (told r lo ++ told (left r lo) up = told r up) := hp.1
  have HP2 : Hid (left (left r lo) up = left r up) := hp.2
  have hl1 := told_len r lo
  have hl2 := told_len (left r lo) up
  have hl3 := told_len r up
  have hg1 := hG.len
  have hg2 := (good_left hG lo).len
  obtain ⟨ao, cap, rfl, _⟩ := hO
  clear hok hG hp
  have b1 : (told r lo).length ≤ 200 := by omega
  have b2 : (told (left r lo) up).length ≤ 200 := by omega
  have b3 : (told r up).length ≤ 200 := by omega
  clear hl1 hl2 hl3 hg1 hg2
  rcases hmm with ⟨hab, rfl, rfl⟩ | ⟨hab, rfl, rfl⟩ | ⟨rfl, rfl, rfl⟩
  · have hab2 : ¬ up < lo := by omega
    have hab3 : decide (lo < up) = true := by simpa using hab
    go_enter Try.func6, Try.ntmps6
    go_wp2_with fail
    refine CX.out.mono ?_
    rintro e w1 ⟨x, rfl, d1⟩
    have HX : Hid (WIn (fun k => k < w.heap.size) w x r w1) := d1
    have hb1 := below_of_win d1 (Nat.le_refl _)
    clear d1 CX
    go_wp2_with fail
    refine (CY.out _ hb1).mono ?_
    rintro e w2 ⟨y, rfl, d2⟩
    have HT : Hid (Two w.heap.size w (fun _ => False) x r y r w2) := two_made HX.out d2
    clear d2 CY HX hb1
    go_wp2_with fail
    refine (HT.out.due HG.out lo).mono ?_
    rintro e w3 ⟨vi, rfl, o3, t3, _⟩
    obtain ⟨ia, ic, rfl, _⟩ := own_form o3
    have HO3 : Hid (w3.ownsRow w2.heap.size 3 1 (.slice ia (told r lo).length ic) (told r lo).length ((told r lo).map fun n => .int .i64 n)) := o3
    have HT3 : Hid (Two w.heap.size w (fun k => False ∨ (Value.slice ia (told r lo).length ic).ownBlock = some k) x (left r lo) y r w3) := t3
    clear o3 t3
    go_wp2_with fail
    refine (HT3.out.due HGl.out up).mono ?_
    rintro e w4 ⟨vj, rfl, o4, t4, c4⟩
    obtain ⟨ja, jc, rfl, _⟩ := own_form o4
    have o3' := own_chg HO3.out c4 (fun g hg hn => hn (Or.inr hg))
    generalize hN : (fun k => (False ∨ (Value.slice ia (told r lo).length ic).ownBlock = some k) ∨ (Value.slice ja (told (left r lo) up).length jc).ownBlock = some k) = N at *
    have hNi : ∀ g, (Value.slice ia (told r lo).length ic).ownBlock = some g → N g := fun g hg => by rw [← hN]; exact Or.inl (Or.inr hg)
    have HT4 : Hid (Two w.heap.size w N x (left (left r lo) up) y r w4) := t4
    have hsz3 : w.heap.size ≤ w2.heap.size := HT.out.le
    clear t4 c4 HT3 HO3 hN
    go_wp2_with (at_builtin; refine wpList_append_most _ rfl _ _ 32 rfl w2.heap.size 3 i0 (.int .i64 0) 1 8 Try.underlying32 hi hz0 hz1 hz2 rfl (by decide) _ (told r lo).length ((told r lo).map fun n => .int .i64 n) rfl o3' w3.heap.size _ (told (left r lo) up).length ((told (left r lo) up).map fun n => .int .i64 n) rfl o4 (imap_one _) (by unfold maxLen; omega) (by omega) ?_)
    intro ka kc w5 o5 wh5 c5
    have HT5 : Hid (Two w.heap.size w (fun k => N k ∨ (Value.slice ka ((told r lo).length + (told (left r lo) up).length) kc).ownBlock = some k) y r x (left r up) w5) := by
      have h1 := HT4.out.add (M := fun k => (Value.slice ka ((told r lo).length + (told (left r lo) up).length) kc).ownBlock = some k) c5 (fun k hk => hNi k hk) (fun k hk => by have := (o3'.lt k hk).1; omega) (fun k hk => ⟨(o5.lt k hk).2, (wh5 k hk).imp (fun h => hNi k h) id⟩)
      rw [HP2.out] at h1
      exact h1.swap
    have HO5 : Hid (w5.ownsRow 0 3 1 (.slice ka ((told r lo).length + (told (left r lo) up).length) kc) (told r up).length ((told r up).map fun n => .int .i64 n)) := by
      have h1 := own_cast rfl (imap_append (told r lo) (told (left r lo) up)) o5
      rw [HP1.out] at h1
      exact own_cast (by have := congrArg List.length HP1.out; rw [List.length_append] at this; exact this) rfl h1
    have HLN : Hid ((told r lo).length + (told (left r lo) up).length = (told r up).length) := by have := congrArg List.length HP1.out; rw [List.length_append] at this; exact this
    clear c5 wh5 o5 o4 o3' hNi HT4
    generalize hnn : (told r lo).length + (told (left r lo) up).length = nn at *
    clear hnn
    go_wp2_with fail
    refine (HT5.out.due HG.out up).mono ?_
    rintro e w6 ⟨vk, rfl, o6, t6, c6⟩
    obtain ⟨qa, qc, rfl, _⟩ := own_form o6
    have i1 : IRow w6 (.slice qa (told r up).length qc) (told r up) := irow_own o6
    have i2 : IRow w6 (.slice ka nn kc) (told r up) := irow_own (own_chg HO5.out c6 (fun g hg hn => hn (Or.inr hg)))
    have HS : Hid (Calls Try.prog 15 #[.slice ka nn kc, .slice qa (told r up).length qc] w6 fun e w' => e = .returned (.bool true) ∧ Below w6.heap.size w6 w') := same_yes w6 _ _ _ (by omega) i2 i1
    generalize hN : (fun k => (N k ∨ (Value.slice ka nn kc).ownBlock = some k) ∨ (Value.slice qa (told r up).length qc).ownBlock = some k) = N2 at *
    have HT6 : Hid (Two w.heap.size w N2 y (left r up) x (left r up) w6) := t6
    clear hN o6 t6 c6 i1 i2 HO5 HT5
    go_wp2_with fail
    refine HS.out.mono ?_
    rintro e w7 ⟨rfl, b7⟩
    have HT7 : Hid (Two w.heap.size w N2 y (left r up) x (left r up) w7) := HT6.out.below b7
    clear b7 HT6 HS
    go_wp2_with fail
    refine HT7.out.swap.len.mono ?_
    rintro e w8 ⟨rfl, hw⟩
    rw [hw]; clear hw w8
    go_wp2_with fail
    refine HT7.out.len.mono ?_
    rintro e w8 ⟨rfl, hw⟩
    rw [hw]; clear hw w8
    go_wp2
    go_ret
    exact ⟨rfl, HT7.out.bel⟩
  · have hab2 : ¬ up < lo := by omega
    have hab3 : decide (up < lo) = false := by simpa using hab2
    have hab4 : decide (lo < up) = true := by simpa using hab
    go_enter Try.func6, Try.ntmps6
    go_wp2_with fail
    refine CX.out.mono ?_
    rintro e w1 ⟨x, rfl, d1⟩
    have HX : Hid (WIn (fun k => k < w.heap.size) w x r w1) := d1
    have hb1 := below_of_win d1 (Nat.le_refl _)
    clear d1 CX
    go_wp2_with fail
    refine (CY.out _ hb1).mono ?_
    rintro e w2 ⟨y, rfl, d2⟩
    have HT : Hid (Two w.heap.size w (fun _ => False) x r y r w2) := two_made HX.out d2
    clear d2 CY HX hb1
    go_wp2_with fail
    refine (HT.out.due HG.out lo).mono ?_
    rintro e w3 ⟨vi, rfl, o3, t3, _⟩
    obtain ⟨ia, ic, rfl, _⟩ := own_form o3
    have HO3 : Hid (w3.ownsRow w2.heap.size 3 1 (.slice ia (told r lo).length ic) (told r lo).length ((told r lo).map fun n => .int .i64 n)) := o3
    have HT3 : Hid (Two w.heap.size w (fun k => False ∨ (Value.slice ia (told r lo).length ic).ownBlock = some k) x (left r lo) y r w3) := t3
    clear o3 t3
    go_wp2_with fail
    refine (HT3.out.due HGl.out up).mono ?_
    rintro e w4 ⟨vj, rfl, o4, t4, c4⟩
    obtain ⟨ja, jc, rfl, _⟩ := own_form o4
    have o3' := own_chg HO3.out c4 (fun g hg hn => hn (Or.inr hg))
    generalize hN : (fun k => (False ∨ (Value.slice ia (told r lo).length ic).ownBlock = some k) ∨ (Value.slice ja (told (left r lo) up).length jc).ownBlock = some k) = N at *
    have hNi : ∀ g, (Value.slice ia (told r lo).length ic).ownBlock = some g → N g := fun g hg => by rw [← hN]; exact Or.inl (Or.inr hg)
    have HT4 : Hid (Two w.heap.size w N x (left (left r lo) up) y r w4) := t4
    have hsz3 : w.heap.size ≤ w2.heap.size := HT.out.le
    clear t4 c4 HT3 HO3 hN
    go_wp2_with (at_builtin; refine wpList_append_most _ rfl _ _ 32 rfl w2.heap.size 3 i0 (.int .i64 0) 1 8 Try.underlying32 hi hz0 hz1 hz2 rfl (by decide) _ (told r lo).length ((told r lo).map fun n => .int .i64 n) rfl o3' w3.heap.size _ (told (left r lo) up).length ((told (left r lo) up).map fun n => .int .i64 n) rfl o4 (imap_one _) (by unfold maxLen; omega) (by omega) ?_)
    intro ka kc w5 o5 wh5 c5
    have HT5 : Hid (Two w.heap.size w (fun k => N k ∨ (Value.slice ka ((told r lo).length + (told (left r lo) up).length) kc).ownBlock = some k) y r x (left r up) w5) := by
      have h1 := HT4.out.add (M := fun k => (Value.slice ka ((told r lo).length + (told (left r lo) up).length) kc).ownBlock = some k) c5 (fun k hk => hNi k hk) (fun k hk => by have := (o3'.lt k hk).1; omega) (fun k hk => ⟨(o5.lt k hk).2, (wh5 k hk).imp (fun h => hNi k h) id⟩)
      rw [HP2.out] at h1
      exact h1.swap
    have HO5 : Hid (w5.ownsRow 0 3 1 (.slice ka ((told r lo).length + (told (left r lo) up).length) kc) (told r up).length ((told r up).map fun n => .int .i64 n)) := by
      have h1 := own_cast rfl (imap_append (told r lo) (told (left r lo) up)) o5
      rw [HP1.out] at h1
      exact own_cast (by have := congrArg List.length HP1.out; rw [List.length_append] at this; exact this) rfl h1
    have HLN : Hid ((told r lo).length + (told (left r lo) up).length = (told r up).length) := by have := congrArg List.length HP1.out; rw [List.length_append] at this; exact this
    clear c5 wh5 o5 o4 o3' hNi HT4
    generalize hnn : (told r lo).length + (told (left r lo) up).length = nn at *
    clear hnn
    go_wp2_with fail
    refine (HT5.out.due HG.out up).mono ?_
    rintro e w6 ⟨vk, rfl, o6, t6, c6⟩
    obtain ⟨qa, qc, rfl, _⟩ := own_form o6
    have i1 : IRow w6 (.slice qa (told r up).length qc) (told r up) := irow_own o6
    have i2 : IRow w6 (.slice ka nn kc) (told r up) := irow_own (own_chg HO5.out c6 (fun g hg hn => hn (Or.inr hg)))
    have HS : Hid (Calls Try.prog 15 #[.slice ka nn kc, .slice qa (told r up).length qc] w6 fun e w' => e = .returned (.bool true) ∧ Below w6.heap.size w6 w') := same_yes w6 _ _ _ (by omega) i2 i1
    generalize hN : (fun k => (N k ∨ (Value.slice ka nn kc).ownBlock = some k) ∨ (Value.slice qa (told r up).length qc).ownBlock = some k) = N2 at *
    have HT6 : Hid (Two w.heap.size w N2 y (left r up) x (left r up) w6) := t6
    clear hN o6 t6 c6 i1 i2 HO5 HT5
    go_wp2_with fail
    refine HS.out.mono ?_
    rintro e w7 ⟨rfl, b7⟩
    have HT7 : Hid (Two w.heap.size w N2 y (left r up) x (left r up) w7) := HT6.out.below b7
    clear b7 HT6 HS
    go_wp2_with fail
    refine HT7.out.swap.len.mono ?_
    rintro e w8 ⟨rfl, hw⟩
    rw [hw]; clear hw w8
    go_wp2_with fail
    refine HT7.out.len.mono ?_
    rintro e w8 ⟨rfl, hw⟩
    rw [hw]; clear hw w8
    go_wp2
    go_ret
    exact ⟨rfl, HT7.out.bel⟩
  · have hab2 : ¬ b < b := by omega
    go_enter Try.func6, Try.ntmps6
    go_wp2_with fail
    refine CX.out.mono ?_
    rintro e w1 ⟨x, rfl, d1⟩
    have HX : Hid (WIn (fun k => k < w.heap.size) w x r w1) := d1
    have hb1 := below_of_win d1 (Nat.le_refl _)
    clear d1 CX
    go_wp2_with fail
    refine (CY.out _ hb1).mono ?_
    rintro e w2 ⟨y, rfl, d2⟩
    have HT : Hid (Two w.heap.size w (fun _ => False) x r y r w2) := two_made HX.out d2
    clear d2 CY HX hb1
    go_wp2_with fail
    refine (HT.out.due HG.out b).mono ?_
    rintro e w3 ⟨vi, rfl, o3, t3, _⟩
    obtain ⟨ia, ic, rfl, _⟩ := own_form o3
    have HO3 : Hid (w3.ownsRow w2.heap.size 3 1 (.slice ia (told r b).length ic) (told r b).length ((told r b).map fun n => .int .i64 n)) := o3
    have HT3 : Hid (Two w.heap.size w (fun k => False ∨ (Value.slice ia (told r b).length ic).ownBlock = some k) x (left r b) y r w3) := t3
    clear o3 t3
    go_wp2_with fail
    refine (HT3.out.due HGl.out b).mono ?_
    rintro e w4 ⟨vj, rfl, o4, t4, c4⟩
    obtain ⟨ja, jc, rfl, _⟩ := own_form o4
    have o3' := own_chg HO3.out c4 (fun g hg hn => hn (Or.inr hg))
    generalize hN : (fun k => (False ∨ (Value.slice ia (told r b).length ic).ownBlock = some k) ∨ (Value.slice ja (told (left r b) b).length jc).ownBlock = some k) = N at *
    have hNi : ∀ g, (Value.slice ia (told r b).length ic).ownBlock = some g → N g := fun g hg => by rw [← hN]; exact Or.inl (Or.inr hg)
    have HT4 : Hid (Two w.heap.size w N x (left (left r b) b) y r w4) := t4
    have hsz3 : w.heap.size ≤ w2.heap.size := HT.out.le
    clear t4 c4 HT3 HO3 hN
    go_wp2_with (at_builtin; refine wpList_append_most _ rfl _ _ 32 rfl w2.heap.size 3 i0 (.int .i64 0) 1 8 Try.underlying32 hi hz0 hz1 hz2 rfl (by decide) _ (told r b).length ((told r b).map fun n => .int .i64 n) rfl o3' w3.heap.size _ (told (left r b) b).length ((told (left r b) b).map fun n => .int .i64 n) rfl o4 (imap_one _) (by unfold maxLen; omega) (by omega) ?_)
    intro ka kc w5 o5 wh5 c5
    have HT5 : Hid (Two w.heap.size w (fun k => N k ∨ (Value.slice ka ((told r b).length + (told (left r b) b).length) kc).ownBlock = some k) y r x (left r b) w5) := by
      have h1 := HT4.out.add (M := fun k => (Value.slice ka ((told r b).length + (told (left r b) b).length) kc).ownBlock = some k) c5 (fun k hk => hNi k hk) (fun k hk => by have := (o3'.lt k hk).1; omega) (fun k hk => ⟨(o5.lt k hk).2, (wh5 k hk).imp (fun h => hNi k h) id⟩)
      rw [HP2.out] at h1
      exact h1.swap
    have HO5 : Hid (w5.ownsRow 0 3 1 (.slice ka ((told r b).length + (told (left r b) b).length) kc) (told r b).length ((told r b).map fun n => .int .i64 n)) := by
      have h1 := own_cast rfl (imap_append (told r b) (told (left r b) b)) o5
      rw [HP1.out] at h1
      exact own_cast (by have := congrArg List.length HP1.out; rw [List.length_append] at this; exact this) rfl h1
    have HLN : Hid ((told r b).length + (told (left r b) b).length = (told r b).length) := by have := congrArg List.length HP1.out; rw [List.length_append] at this; exact this
    clear c5 wh5 o5 o4 o3' hNi HT4
    generalize hnn : (told r b).length + (told (left r b) b).length = nn at *
    clear hnn
    go_wp2_with fail
    refine (HT5.out.due HG.out b).mono ?_
    rintro e w6 ⟨vk, rfl, o6, t6, c6⟩
    obtain ⟨qa, qc, rfl, _⟩ := own_form o6
    have i1 : IRow w6 (.slice qa (told r b).length qc) (told r b) := irow_own o6
    have i2 : IRow w6 (.slice ka nn kc) (told r b) := irow_own (own_chg HO5.out c6 (fun g hg hn => hn (Or.inr hg)))
    have HS : Hid (Calls Try.prog 15 #[.slice ka nn kc, .slice qa (told r b).length qc] w6 fun e w' => e = .returned (.bool true) ∧ Below w6.heap.size w6 w') := same_yes w6 _ _ _ (by omega) i2 i1
    generalize hN : (fun k => (N k ∨ (Value.slice ka nn kc).ownBlock = some k) ∨ (Value.slice qa (told r b).length qc).ownBlock = some k) = N2 at *
    have HT6 : Hid (Two w.heap.size w N2 y (left r b) x (left r b) w6) := t6
    clear hN o6 t6 c6 i1 i2 HO5 HT5
    go_wp2_with fail
    refine HS.out.mono ?_
    rintro e w7 ⟨rfl, b7⟩
    have HT7 : Hid (Two w.heap.size w N2 y (left r b) x (left r b) w7) := HT6.out.below b7
    clear b7 HT6 HS
    go_wp2_with fail
    refine HT7.out.swap.len.mono ?_
    rintro e w8 ⟨rfl, hw⟩
    rw [hw]; clear hw w8
    go_wp2_with fail
    refine HT7.out.len.mono ?_
    rintro e w8 ⟨rfl, hw⟩
    rw [hw]; clear hw w8
    go_wp2
    go_ret
    exact ⟨rfl, HT7.out.bel⟩
theorem wheelParts_walk (v : Value) (l : List Op) (hl : l.length ≤ 140737488355328) (hok : ∀ o ∈ l, OpOk o) (a b : Int) (w : World) (hO : ORow w v l) :
    Calls Try.prog 6 #[v, .int .i64 a, .int .i64 b] w fun e w' => e = .returned (.bool true) ∧ Below w.heap.size w w' := by
  by_cases h : a < b
  · exact parts_from l a b a b (by omega) (Or.inl ⟨h, rfl, rfl⟩) v hl hok w hO
  · by_cases h2 : b < a
    · exact parts_from l a b b a (by omega) (Or.inr (Or.inl ⟨h2, rfl, rfl⟩)) v hl hok w hO
    · exact parts_from l a b a a (by omega) (Or.inr (Or.inr ⟨rfl, rfl, by omega⟩)) v hl hok w hO
end Go.Proofs.Ythenmngjojgmkaa
