/- The walk of the law WheelScripts. -/
import Derived.Test.YthenmngjojgmkaaScriptsW
set_option linter.unusedVariables false
set_option maxRecDepth 100000
namespace Go.Proofs.Ythenmngjojgmkaa
open Go.RowKit
open WheelMath

theorem duo_made {w w1 w2 : World} {b : Nat} (h1 : WIn (fun k => k < w.heap.size) w b r0 w1) (h2 : RW w2 w1.heap.size (.slice none 0 0) []) (hb : Below w1.heap.size w1 w2) : Duo w.heap.size w (fun _ => False) b r0 w1.heap.size [] w2 := by
  have b1 := below_of_win h1 (Nat.le_refl _)
  obtain ⟨v, l, p1, q1, s1, c1⟩ := h1
  have z1 := b1.size
  have z2 := hb.size
  refine ⟨v, l, _, pw_below p1 hb, q1, h2, fun k hk => ⟨?_, fun hf => ?_⟩, fun k hk => ?_, fun k hk => hk.elim, b1.trans (hb.mono z1), by omega⟩
  · by_cases hlt : k < w.heap.size
    · exact absurd hlt (s1 k hk hlt)
    · omega
  · rcases hf with rfl | hf
    · have := fpw_lt p1 _ hk; omega
    · cases hf
  · rcases hk with rfl | hk
    · exact z1
    · cases hk

set_option maxHeartbeats 4000000 in
theorem wheelScripts_walk (v : Value) (l : List Op) (hl : l.length ≤ 140737488355328) (w : World) (hO : ORow w v l) :
    Calls Try.prog 3 #[v] w fun e w' => e = .returned (.bool true) ∧ Below w.heap.size w w' := by
  have CB : Hid (Calls Try.prog 8 #[] w fun e w' => ∃ b, e = .returned (.pointer (some ⟨b, 0, none⟩)) ∧ WIn (fun k => k < w.heap.size) w b r0 w') := begun_any w
  have HO : Hid (ORow w v l) := hO
  have hb0 := begun_r
  have B1 : Hid ((aSet (aSet [] 900001 1073741824).1 900000 1073741824).1 = r0) := hb0.1
  obtain ⟨ao, cap, rfl, _⟩ := hO
  clear hb0
  go_enter Try.func3, Try.ntmps3
  go_wp2_with fail
  refine CB.out.mono ?_
  rintro e w1 ⟨b, rfl, d1⟩
  have HD1 : Hid (WIn (fun k => k < w.heap.size) w b r0 w1) := d1
  clear d1 CB
  go_wp2_with fail
  refine (refNew_any w1).mono ?_
  rintro e w2 ⟨rfl, hr2, hb2⟩
  obtain ⟨x, hx⟩ : ∃ x, x = w1.heap.size := ⟨_, rfl⟩
  have HD2 : Hid (Duo w.heap.size w (fun _ => False) b r0 x [] w2) := by rw [hx]; exact duo_made HD1.out hr2 hb2
  rw [← hx]
  clear hr2 hb2 HD1 hx
  go_wp2_with fail
  refine (HD2.out.rset good_nil 900001 1073741824).mono ?_
  rintro e w3 ⟨rfl, d3, _⟩
  have HD3 : Hid (Duo w.heap.size w (fun _ => False) b r0 x (aSet [] 900001 1073741824).1 w3) := d3
  clear d3 HD2
  generalize (aSet [] 900001 1073741824).2 = an1 at *
  go_wp2_with fail
  refine (HD3.out.rset (good_aSet good_nil 900001 1073741824) 900000 1073741824).mono ?_
  rintro e w4 ⟨rfl, d4, _⟩
  rw [B1.out] at d4
  have HD4 : Hid (Duo w.heap.size w (fun _ => False) b r0 x r0 w4) := d4
  clear d4 HD3
  generalize (aSet (aSet [] 900001 1073741824).1 900000 1073741824).2 = an2 at *
  clear B1
  go_wp2_with fail
  go_loopw [5] (fun i wr => ∃ (k : Nat) (r : List T), k ≤ l.length ∧ i = .int .i64 (k : Int) ∧ Hid (Duo w.heap.size w (fun _ => False) b r x r wr) ∧ Hid (WheelMath.Good r)) (fun i _ => l.length - (intOf i).toNat)
  case atStart => exact ⟨0, r0, Nat.zero_le _, rfl, HD4, good_r0⟩
  case round =>
    obtain ⟨k, r, hk, rfl, HD, HG⟩ := hrel
    clear HD4
    by_cases hlt : k < l.length
    · obtain ⟨_, _, he, _, _, hrow⟩ := HO.out
      cases he
      obtain ⟨g, o, rfl, hgl, c0, c1, c2⟩ := hrow k hlt
      have e0 := (HD.out.bel.cell (p := ⟨g, o + k * 3, none⟩) hgl).trans c0
      have e1 := (HD.out.bel.cell (p := ⟨g, o + k * 3 + 1, none⟩) hgl).trans c1
      have e2 := (HD.out.bel.cell (p := ⟨g, o + k * 3 + 2, none⟩) hgl).trans c2
      generalize l[k].Do = dd at *
      generalize l[k].Id = id at *
      generalize l[k].At = tm at *
      have i1 : (k : Int) < (l.length : Int) := by omega
      obtain ⟨X, hX⟩ : ∃ X, X = wr.heap.size := ⟨_, rfl⟩
      obtain ⟨w0, hw0⟩ : ∃ w0, w0 = wr.alloc (.cells #[.int .i64 dd, .int .i64 id, .int .i64 tm] 30) := ⟨_, rfl⟩
      have HD0 : Hid (Duo w.heap.size w (fun j => False ∨ j = X) b r x r w0) := by rw [hw0, hX]; exact HD.out.made _
      have o0 : w0.cell? ⟨X, 0, none⟩ = some (.int .i64 dd) := by rw [hw0, hX]; simp
      have o1 : w0.cell? ⟨X, 1, none⟩ = some (.int .i64 id) := by rw [hw0, hX]; simp
      have o2 : w0.cell? ⟨X, 2, none⟩ = some (.int .i64 tm) := by rw [hw0, hX]; simp
      have HW0 : Hid (w0 = wr.alloc (.cells #[.int .i64 dd, .int .i64 id, .int .i64 tm] 30)) := hw0
      have HXX : Hid (X = wr.heap.size) := hX
      clear hX hw0 c0 c1 c2 hrow HD
      by_cases q0 : dd = 0
      · subst q0
        have C1 : Hid (∀ wa, Hid (Duo w.heap.size w (fun j => False ∨ j = X) b r x r wa) → (wa.cell? ⟨X, 1, none⟩ = some (.int .i64 id) ∧ wa.cell? ⟨X, 2, none⟩ = some (.int .i64 tm)) → Calls Try.prog 11 #[.pointer (some ⟨b, 0, none⟩), .int .i64 id, .int .i64 tm] wa fun e w' => e = .returned (.int .i64 (aSet r id tm).2) ∧ (w'.cell? ⟨X, 1, none⟩ = some (.int .i64 id) ∧ w'.cell? ⟨X, 2, none⟩ = some (.int .i64 tm)) ∧ Hid (Duo w.heap.size w (fun j => False ∨ j = X) b (aSet r id tm).1 x r w')) := fun wa ha hc =>
          (ha.out.pset HG.out id tm).mono fun e w' ⟨k1, k2, k3⟩ => by
            have hx : w'.heap[X]? = wa.heap[X]? := k3.block X (block_lt_of_cell hc.1) (fun hn => hn (Or.inr rfl))
            exact ⟨k1, ⟨(World.cell?_of_block (w := wa) (a := ⟨X, 1, none⟩) hx).trans hc.1, (World.cell?_of_block (w := wa) (a := ⟨X, 2, none⟩) hx).trans hc.2⟩, k2⟩
        have C2 : Hid (∀ wa, Hid (Duo w.heap.size w (fun j => False ∨ j = X) b (aSet r id tm).1 x r wa) → (wa.cell? ⟨X, 1, none⟩ = some (.int .i64 id) ∧ wa.cell? ⟨X, 2, none⟩ = some (.int .i64 tm)) → Calls Try.prog 10 #[.pointer (some ⟨x, 0, none⟩), .int .i64 id, .int .i64 tm] wa fun e w' => e = .returned (.int .i64 (aSet r id tm).2) ∧ (w'.cell? ⟨X, 1, none⟩ = some (.int .i64 id) ∧ w'.cell? ⟨X, 2, none⟩ = some (.int .i64 tm)) ∧ Hid (Duo w.heap.size w (fun j => False ∨ j = X) b (aSet r id tm).1 x (aSet r id tm).1 w')) := fun wa ha hc =>
          (ha.out.rset HG.out id tm).mono fun e w' ⟨k1, k2, k3⟩ => by
            have hx : w'.heap[X]? = wa.heap[X]? := k3.block X (block_lt_of_cell hc.1) (fun hn => hn (Or.inr rfl))
            exact ⟨k1, ⟨(World.cell?_of_block (w := wa) (a := ⟨X, 1, none⟩) hx).trans hc.1, (World.cell?_of_block (w := wa) (a := ⟨X, 2, none⟩) hx).trans hc.2⟩, k2⟩
        have HG2 : Hid (WheelMath.Good (aSet r id tm).1) := good_aSet HG.out id tm
        have HD0d : Hid (Duo w.heap.size w (fun j => False ∨ j = X) b r x r w0.drew) := HD0.out.below ((Below.refl _ _).drew)
        generalize (aSet r id tm).1 = r' at *
        generalize (aSet r id tm).2 = ans at *
        clear HG HD0
        go_wp2_with fail
        rw [← HW0.out, ← HXX.out]
        clear HW0 HXX
        go_region_held3 (fun w' => w'.cell? ⟨X, 1, none⟩ = some (.int .i64 id) ∧ w'.cell? ⟨X, 2, none⟩ = some (.int .i64 tm)) (go_keep) (first | (go_at_call 11; refine (C1.out _ HD0d ⟨by go_simp, by go_simp⟩).mono ?_; rintro e w2 ⟨rfl, ⟨m1, m2⟩, HD2⟩) | (go_at_call 10; refine (C2.out _ HD2 ⟨m1, m2⟩).mono ?_; rintro e w3 ⟨rfl, ⟨n1, n2⟩, HD3⟩))
        clear C1 C2 HD0d HD2 m1 m2 n1 n2
        have HDT : Hid (Duo w.heap.size w (fun _ => False) b r' x r' w3) := HD3.out.more (fun _ h => h.elim)
        have CN1 : Hid (Calls Try.prog 18 #[.pointer (some ⟨b, 0, none⟩)] w3 fun e w' => e = .returned (.tuple #[.int .i64 (nextI r'), .bool (nextB r')]) ∧ Duo w.heap.size w (fun _ => False) b r' x r' w') := HDT.out.pnext HG2.out
        have CN2 : Hid (∀ wa, Duo w.heap.size w (fun _ => False) b r' x r' wa → Calls Try.prog 19 #[.pointer (some ⟨x, 0, none⟩)] wa fun e w' => e = .returned (.tuple #[.int .i64 (nextI r'), .bool (nextB r')]) ∧ w' = wa) := fun wa h => h.rnext
        have CL1 : Hid (∀ wa, Duo w.heap.size w (fun _ => False) b r' x r' wa → Calls Try.prog 20 #[.pointer (some ⟨b, 0, none⟩)] wa fun e w' => e = .returned (.int .i64 (r'.length : Int)) ∧ w' = wa) := fun wa h => h.plen
        have CL2 : Hid (∀ wa, Duo w.heap.size w (fun _ => False) b r' x r' wa → Calls Try.prog 21 #[.pointer (some ⟨x, 0, none⟩)] wa fun e w' => e = .returned (.int .i64 (r'.length : Int)) ∧ w' = wa) := fun wa h => h.rlen
        clear HDT
        generalize nextI r' = ni at *
        generalize nextB r' = nb at *
        generalize (r'.length : Int) = nl at *
        go_wp2_with fail
        refine CN1.out.mono ?_
        rintro e wn ⟨rfl, dn⟩
        have HDN : Hid (Duo w.heap.size w (fun _ => False) b r' x r' wn) := dn
        clear dn CN1
        go_wp2_with fail
        refine (CN2.out _ HDN.out).mono ?_
        rintro e wm ⟨rfl, hw⟩
        rw [hw]; clear hw wm CN2
        go_wp2_with fail
        refine (CL1.out _ HDN.out).mono ?_
        rintro e wm ⟨rfl, hw⟩
        rw [hw]; clear hw wm CL1
        go_wp2_with fail
        refine (CL2.out _ HDN.out).mono ?_
        rintro e wm ⟨rfl, hw⟩
        rw [hw]; clear hw wm CL2
        go_wp2
        exact ⟨⟨k + 1, r', by omega, by go_num, HDN, HG2⟩, by simp [intOf]; omega⟩
      have p0 : decide (dd = 0) = false := by simpa using q0
      have p0' : (dd == 0) = false := by simpa using q0
      by_cases q1 : dd = 1
      · subst q1
        have C1 : Hid (∀ wa, Hid (Duo w.heap.size w (fun j => False ∨ j = X) b r x r wa) → (wa.cell? ⟨X, 1, none⟩ = some (.int .i64 id) ∧ wa.cell? ⟨X, 2, none⟩ = some (.int .i64 tm)) → Calls Try.prog 12 #[.pointer (some ⟨b, 0, none⟩), .int .i64 id] wa fun e w' => e = .returned (.bool (decide (has r id))) ∧ (w'.cell? ⟨X, 1, none⟩ = some (.int .i64 id) ∧ w'.cell? ⟨X, 2, none⟩ = some (.int .i64 tm)) ∧ Hid (Duo w.heap.size w (fun j => False ∨ j = X) b (rem r id) x r w')) := fun wa ha hc =>
          (ha.out.pstop HG.out id).mono fun e w' ⟨k1, k2, k3⟩ => by
            have hx : w'.heap[X]? = wa.heap[X]? := k3.block X (block_lt_of_cell hc.1) (fun hn => hn (Or.inr rfl))
            exact ⟨k1, ⟨(World.cell?_of_block (w := wa) (a := ⟨X, 1, none⟩) hx).trans hc.1, (World.cell?_of_block (w := wa) (a := ⟨X, 2, none⟩) hx).trans hc.2⟩, k2⟩
        have C2 : Hid (∀ wa, Hid (Duo w.heap.size w (fun j => False ∨ j = X) b (rem r id) x r wa) → (wa.cell? ⟨X, 1, none⟩ = some (.int .i64 id) ∧ wa.cell? ⟨X, 2, none⟩ = some (.int .i64 tm)) → Calls Try.prog 13 #[.pointer (some ⟨x, 0, none⟩), .int .i64 id] wa fun e w' => e = .returned (.bool (decide (has r id))) ∧ (w'.cell? ⟨X, 1, none⟩ = some (.int .i64 id) ∧ w'.cell? ⟨X, 2, none⟩ = some (.int .i64 tm)) ∧ Hid (Duo w.heap.size w (fun j => False ∨ j = X) b (rem r id) x (rem r id) w')) := fun wa ha hc =>
          (ha.out.rstop HG.out id).mono fun e w' ⟨k1, k2, k3⟩ => by
            have hx : w'.heap[X]? = wa.heap[X]? := k3.block X (block_lt_of_cell hc.1) (fun hn => hn (Or.inr rfl))
            exact ⟨k1, ⟨(World.cell?_of_block (w := wa) (a := ⟨X, 1, none⟩) hx).trans hc.1, (World.cell?_of_block (w := wa) (a := ⟨X, 2, none⟩) hx).trans hc.2⟩, k2⟩
        have HG2 : Hid (WheelMath.Good (rem r id)) := good_rem HG.out id
        have HD0d : Hid (Duo w.heap.size w (fun j => False ∨ j = X) b r x r w0.drew) := HD0.out.below ((Below.refl _ _).drew)
        generalize (rem r id) = r' at *
        generalize decide (has r id) = ans at *
        clear HG HD0
        go_wp2_with fail
        rw [← HW0.out, ← HXX.out]
        clear HW0 HXX
        go_region_held3 (fun w' => w'.cell? ⟨X, 1, none⟩ = some (.int .i64 id) ∧ w'.cell? ⟨X, 2, none⟩ = some (.int .i64 tm)) (go_keep) (first | (go_at_call 12; refine (C1.out _ HD0d ⟨by go_simp, by go_simp⟩).mono ?_; rintro e w2 ⟨rfl, ⟨m1, m2⟩, HD2⟩) | (go_at_call 13; refine (C2.out _ HD2 ⟨m1, m2⟩).mono ?_; rintro e w3 ⟨rfl, ⟨n1, n2⟩, HD3⟩))
        clear C1 C2 HD0d HD2 m1 m2 n1 n2
        have HDT : Hid (Duo w.heap.size w (fun _ => False) b r' x r' w3) := HD3.out.more (fun _ h => h.elim)
        have CN1 : Hid (Calls Try.prog 18 #[.pointer (some ⟨b, 0, none⟩)] w3 fun e w' => e = .returned (.tuple #[.int .i64 (nextI r'), .bool (nextB r')]) ∧ Duo w.heap.size w (fun _ => False) b r' x r' w') := HDT.out.pnext HG2.out
        have CN2 : Hid (∀ wa, Duo w.heap.size w (fun _ => False) b r' x r' wa → Calls Try.prog 19 #[.pointer (some ⟨x, 0, none⟩)] wa fun e w' => e = .returned (.tuple #[.int .i64 (nextI r'), .bool (nextB r')]) ∧ w' = wa) := fun wa h => h.rnext
        have CL1 : Hid (∀ wa, Duo w.heap.size w (fun _ => False) b r' x r' wa → Calls Try.prog 20 #[.pointer (some ⟨b, 0, none⟩)] wa fun e w' => e = .returned (.int .i64 (r'.length : Int)) ∧ w' = wa) := fun wa h => h.plen
        have CL2 : Hid (∀ wa, Duo w.heap.size w (fun _ => False) b r' x r' wa → Calls Try.prog 21 #[.pointer (some ⟨x, 0, none⟩)] wa fun e w' => e = .returned (.int .i64 (r'.length : Int)) ∧ w' = wa) := fun wa h => h.rlen
        clear HDT
        generalize nextI r' = ni at *
        generalize nextB r' = nb at *
        generalize (r'.length : Int) = nl at *
        go_wp2_with fail
        refine CN1.out.mono ?_
        rintro e wn ⟨rfl, dn⟩
        have HDN : Hid (Duo w.heap.size w (fun _ => False) b r' x r' wn) := dn
        clear dn CN1
        go_wp2_with fail
        refine (CN2.out _ HDN.out).mono ?_
        rintro e wm ⟨rfl, hw⟩
        rw [hw]; clear hw wm CN2
        go_wp2_with fail
        refine (CL1.out _ HDN.out).mono ?_
        rintro e wm ⟨rfl, hw⟩
        rw [hw]; clear hw wm CL1
        go_wp2_with fail
        refine (CL2.out _ HDN.out).mono ?_
        rintro e wm ⟨rfl, hw⟩
        rw [hw]; clear hw wm CL2
        go_wp2
        exact ⟨⟨k + 1, r', by omega, by go_num, HDN, HG2⟩, by simp [intOf]; omega⟩
      have p1 : decide (dd = 1) = false := by simpa using q1
      have p1' : (dd == 1) = false := by simpa using q1
      by_cases q2 : dd = 2
      · subst q2
        have HG2 : Hid (WheelMath.Good (left r tm)) := good_left HG.out tm
        have hln : (told r tm).length ≤ 200 := Nat.le_trans (told_len r tm) HG.out.len
        have hrl : r.length ≤ 200 := HG.out.len
        have CD : Hid (Calls Try.prog 14 #[.pointer (some ⟨b, 0, none⟩), .int .i64 tm] w0 fun e w' => PDue w.heap.size w (fun j => False ∨ j = X) b r x r tm w0 e w') := HD0.out.pdue HG.out tm
        have hxl : X < w0.heap.size := block_lt_of_cell o2
        go_wp2_with fail
        rw [← HW0.out, ← HXX.out]
        clear HW0 HXX
        refine CD.out.mono ?_
        rintro e w2 ⟨vi, rfl, ow2, d2, ch2⟩
        obtain ⟨ia, ic, rfl, _⟩ := own_form ow2
        have m2 : w2.cell? ⟨X, 2, none⟩ = some (.int .i64 tm) := (World.cell?_of_block (w := w0) (a := ⟨X, 2, none⟩) (ch2.block X hxl (fun hn => hn (Or.inr rfl)))).trans o2
        have HOW : Hid (w2.ownsRow w0.heap.size 3 1 (.slice ia (told r tm).length ic) (told r tm).length ((told r tm).map fun n => .int .i64 n)) := ow2
        have HD2 : Hid (Duo w.heap.size w (fun j => (False ∨ j = X) ∨ (Value.slice ia (told r tm).length ic).ownBlock = some j) b (left r tm) x r w2) := d2
        have HLE : Hid (w.heap.size ≤ w0.heap.size) := HD0.out.le
        clear ow2 d2 ch2 CD HD0 HG o0 o1 o2
        go_wp2_with fail
        refine (HD2.out.rdue hrl tm).mono ?_
        rintro e w3 ⟨⟨vo, rfl, iv⟩, d3, ch3⟩
        have hov := iv
        obtain ⟨qa, qc, rfl, _⟩ := hov
        have o3 := own_chg HOW.out ch3 (fun g hg hn => hn (Or.inr hg))
        have HO3 : Hid (w3.ownsRow w0.heap.size 3 1 (.slice ia (told r tm).length ic) (told r tm).length ((told r tm).map fun n => .int .i64 n)) := o3
        have CS : Hid (Calls Try.prog 15 #[.slice ia (told r tm).length ic, .slice qa (told r tm).length qc] w3 fun e w' => e = .returned (.bool true) ∧ Below w3.heap.size w3 w') := same_yes w3 _ _ _ (by omega) (irow_own o3) iv
        have HD3 : Hid (Duo w.heap.size w (fun j => (False ∨ j = X) ∨ (Value.slice ia (told r tm).length ic).ownBlock = some j) b (left r tm) x (left r tm) w3) := d3
        clear o3 d3 ch3 iv HOW HD2 m2
        go_wp2_with fail
        refine CS.out.mono ?_
        rintro e w4 ⟨rfl, b4⟩
        have CF : Hid (Calls Try.prog 17 #[.slice ia (told r tm).length ic] w4 fun e w' => e = .returned (.tuple #[]) ∧ Chg (fun k => (Value.slice ia (told r tm).length ic).ownBlock = some k) w4 w') := filled_any w4 w0.heap.size _ _ _ (own_below HO3.out b4) (by omega)
        have HGE : Hid (∀ g, (Value.slice ia (told r tm).length ic).ownBlock = some g → w.heap.size ≤ g) := fun g hg => Nat.le_trans HLE.out (HO3.out.lt g hg).1
        have HD4 : Hid (Duo w.heap.size w (fun j => (False ∨ j = X) ∨ (Value.slice ia (told r tm).length ic).ownBlock = some j) b (left r tm) x (left r tm) w4) := HD3.out.below b4
        clear b4 CS HO3 HD3
        go_wp2_with fail
        refine CF.out.mono ?_
        rintro e w5 ⟨rfl, ch5⟩
        have d5 := HD4.out.chg ch5 (fun k hk => Or.inr hk) (fun k hk => HGE.out k hk)
        have HD5 : Hid (Duo w.heap.size w (fun j => (False ∨ j = X) ∨ (Value.slice ia (told r tm).length ic).ownBlock = some j) b (left r tm) x (left r tm) w5) := d5
        clear ch5 CF HD4 d5 HGE
        generalize left r tm = r' at *
        have HDT : Hid (Duo w.heap.size w (fun _ => False) b r' x r' w5) := HD5.out.more (fun _ h => h.elim)
        have CN1 : Hid (Calls Try.prog 18 #[.pointer (some ⟨b, 0, none⟩)] w5 fun e w' => e = .returned (.tuple #[.int .i64 (nextI r'), .bool (nextB r')]) ∧ Duo w.heap.size w (fun _ => False) b r' x r' w') := HDT.out.pnext HG2.out
        have CN2 : Hid (∀ wa, Duo w.heap.size w (fun _ => False) b r' x r' wa → Calls Try.prog 19 #[.pointer (some ⟨x, 0, none⟩)] wa fun e w' => e = .returned (.tuple #[.int .i64 (nextI r'), .bool (nextB r')]) ∧ w' = wa) := fun wa h => h.rnext
        have CL1 : Hid (∀ wa, Duo w.heap.size w (fun _ => False) b r' x r' wa → Calls Try.prog 20 #[.pointer (some ⟨b, 0, none⟩)] wa fun e w' => e = .returned (.int .i64 (r'.length : Int)) ∧ w' = wa) := fun wa h => h.plen
        have CL2 : Hid (∀ wa, Duo w.heap.size w (fun _ => False) b r' x r' wa → Calls Try.prog 21 #[.pointer (some ⟨x, 0, none⟩)] wa fun e w' => e = .returned (.int .i64 (r'.length : Int)) ∧ w' = wa) := fun wa h => h.rlen
        clear HDT
        generalize nextI r' = ni at *
        generalize nextB r' = nb at *
        generalize (r'.length : Int) = nl at *
        go_wp2_with fail
        refine CN1.out.mono ?_
        rintro e wn ⟨rfl, dn⟩
        have HDN : Hid (Duo w.heap.size w (fun _ => False) b r' x r' wn) := dn
        clear dn CN1
        go_wp2_with fail
        refine (CN2.out _ HDN.out).mono ?_
        rintro e wm ⟨rfl, hw⟩
        rw [hw]; clear hw wm CN2
        go_wp2_with fail
        refine (CL1.out _ HDN.out).mono ?_
        rintro e wm ⟨rfl, hw⟩
        rw [hw]; clear hw wm CL1
        go_wp2_with fail
        refine (CL2.out _ HDN.out).mono ?_
        rintro e wm ⟨rfl, hw⟩
        rw [hw]; clear hw wm CL2
        go_wp2
        exact ⟨⟨k + 1, r', by omega, by go_num, HDN, HG2⟩, by simp [intOf]; omega⟩
      have p2 : decide (dd = 2) = false := by simpa using q2
      have p2' : (dd == 2) = false := by simpa using q2
      have HG2 : Hid (WheelMath.Good r) := HG
      go_wp2_with fail
      rw [← HW0.out]
      clear HW0 HXX
      have HDT : Hid (Duo w.heap.size w (fun _ => False) b r x r w0) := HD0.out.more (fun _ h => h.elim)
      have CN1 : Hid (Calls Try.prog 18 #[.pointer (some ⟨b, 0, none⟩)] w0 fun e w' => e = .returned (.tuple #[.int .i64 (nextI r), .bool (nextB r)]) ∧ Duo w.heap.size w (fun _ => False) b r x r w') := HDT.out.pnext HG2.out
      have CN2 : Hid (∀ wa, Duo w.heap.size w (fun _ => False) b r x r wa → Calls Try.prog 19 #[.pointer (some ⟨x, 0, none⟩)] wa fun e w' => e = .returned (.tuple #[.int .i64 (nextI r), .bool (nextB r)]) ∧ w' = wa) := fun wa h => h.rnext
      have CL1 : Hid (∀ wa, Duo w.heap.size w (fun _ => False) b r x r wa → Calls Try.prog 20 #[.pointer (some ⟨b, 0, none⟩)] wa fun e w' => e = .returned (.int .i64 (r.length : Int)) ∧ w' = wa) := fun wa h => h.plen
      have CL2 : Hid (∀ wa, Duo w.heap.size w (fun _ => False) b r x r wa → Calls Try.prog 21 #[.pointer (some ⟨x, 0, none⟩)] wa fun e w' => e = .returned (.int .i64 (r.length : Int)) ∧ w' = wa) := fun wa h => h.rlen
      clear HDT
      generalize nextI r = ni at *
      generalize nextB r = nb at *
      generalize (r.length : Int) = nl at *
      go_wp2_with fail
      refine CN1.out.mono ?_
      rintro e wn ⟨rfl, dn⟩
      have HDN : Hid (Duo w.heap.size w (fun _ => False) b r x r wn) := dn
      clear dn CN1
      go_wp2_with fail
      refine (CN2.out _ HDN.out).mono ?_
      rintro e wm ⟨rfl, hw⟩
      rw [hw]; clear hw wm CN2
      go_wp2_with fail
      refine (CL1.out _ HDN.out).mono ?_
      rintro e wm ⟨rfl, hw⟩
      rw [hw]; clear hw wm CL1
      go_wp2_with fail
      refine (CL2.out _ HDN.out).mono ?_
      rintro e wm ⟨rfl, hw⟩
      rw [hw]; clear hw wm CL2
      go_wp2
      exact ⟨⟨k + 1, r, by omega, by go_num, HDN, HG2⟩, by simp [intOf]; omega⟩
    · obtain rfl : k = l.length := by omega
      have hln : (told r 1073741824).length ≤ 200 := Nat.le_trans (told_len r 1073741824) HG.out.len
      have hrl : r.length ≤ 200 := HG.out.len
      have hend : left r 1073741824 = [] := left_end HG.out
      have CD : Hid (Calls Try.prog 14 #[.pointer (some ⟨b, 0, none⟩), .int .i64 1073741824] wr fun e w' => PDue w.heap.size w (fun _ => False) b r x r 1073741824 wr e w') := HD.out.pdue HG.out 1073741824
      clear HD HG
      have HEND : Hid (left r 1073741824 = []) := hend
      clear hend
      go_wp2_with fail
      refine CD.out.mono ?_
      rintro e w2 ⟨vi, rfl, ow2, d2, ch2⟩
      obtain ⟨ia, ic, rfl, _⟩ := own_form ow2
      rw [HEND.out] at d2
      have HOW : Hid (w2.ownsRow wr.heap.size 3 1 (.slice ia (told r 1073741824).length ic) (told r 1073741824).length ((told r 1073741824).map fun n => .int .i64 n)) := ow2
      have HD2 : Hid (Duo w.heap.size w (fun j => False ∨ (Value.slice ia (told r 1073741824).length ic).ownBlock = some j) b [] x r w2) := d2
      clear ow2 d2 ch2 CD
      go_wp2_with fail
      refine (HD2.out.rdue hrl 1073741824).mono ?_
      rintro e w3 ⟨⟨vo, rfl, iv⟩, d3, ch3⟩
      have hov := iv
      obtain ⟨qa, qc, rfl, _⟩ := hov
      have o3 := own_chg HOW.out ch3 (fun g hg hn => hn (Or.inr hg))
      have CS : Hid (Calls Try.prog 15 #[.slice ia (told r 1073741824).length ic, .slice qa (told r 1073741824).length qc] w3 fun e w' => e = .returned (.bool true) ∧ Below w3.heap.size w3 w') := same_yes w3 _ _ _ (by omega) (irow_own o3) iv
      have HD3 : Hid (Duo w.heap.size w (fun j => False ∨ (Value.slice ia (told r 1073741824).length ic).ownBlock = some j) b [] x (left r 1073741824) w3) := d3
      clear o3 d3 ch3 iv HOW HD2
      go_wp2_with fail
      refine CS.out.mono ?_
      rintro e w4 ⟨rfl, b4⟩
      have HD4 : Hid (Duo w.heap.size w (fun j => False ∨ (Value.slice ia (told r 1073741824).length ic).ownBlock = some j) b [] x (left r 1073741824) w4) := HD3.out.below b4
      clear b4 CS HD3
      go_wp2_with fail
      refine HD4.out.plen.mono ?_
      rintro e w5 ⟨rfl, hw⟩
      rw [hw]; clear hw w5
      go_wp2
      go_ret
      exact ⟨rfl, HD4.out.bel⟩
end Go.Proofs.Ythenmngjojgmkaa
