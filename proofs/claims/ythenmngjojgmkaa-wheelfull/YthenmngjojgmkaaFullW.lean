/- The walk of the law WheelFull. -/
import Derived.Test.YthenmngjojgmkaaActW
import Derived.Deep.RegionHeld3
import Derived.Deep.DeepCutAuto
set_option linter.unusedVariables false
set_option maxRecDepth 100000
namespace Go.Proofs.Ythenmngjojgmkaa
open Go.RowKit
open WheelMath

theorem has_ins {t : T} {r : List T} {x : Int} : has (ins t (rem r t.1)) x ↔ x = t.1 ∨ has r x := by
  unfold has
  constructor
  · rintro ⟨u, hu, rfl⟩
    rcases mem_ins.1 hu with rfl | hu
    · exact Or.inl rfl
    · exact Or.inr ⟨u, (mem_rem.1 hu).1, rfl⟩
  · rintro (rfl | ⟨u, hu, rfl⟩)
    · exact ⟨t, mem_ins.2 (Or.inl rfl), rfl⟩
    · by_cases e : u.1 = t.1
      · exact ⟨t, mem_ins.2 (Or.inl rfl), e.symm⟩
      · exact ⟨u, mem_ins.2 (Or.inr (mem_rem.2 ⟨hu, e⟩)), rfl⟩
/-- The ids of the first n timers. -/
def FId (f s n : Nat) (x : Int) : Prop := x = 900000 ∨ x = 900001 ∨ ∃ j : Nat, 2 ≤ j ∧ j < n ∧ x = (f : Int) + (j : Int) * (s : Int)
structure Fill (f s n : Nat) (r : List T) : Prop where
  good : WheelMath.Good r
  len : r.length = n
  ids : ∀ x, has r x ↔ FId f s n x
theorem mul_bd (n s : Nat) (h1 : n ≤ 200) (h2 : s ≤ 1000) : (n : Int) * (s : Int) ≤ 200000 ∧ 0 ≤ (n : Int) * (s : Int) := by
  have : n * s ≤ 200 * 1000 := Nat.mul_le_mul h1 h2
  have e : ((n * s : Nat) : Int) = (n : Int) * (s : Int) := Int.natCast_mul _ _
  omega
theorem fill_zero (f s : Nat) : Fill f s 2 r0 := by
  refine ⟨good_r0, rfl, fun x => ?_⟩
  unfold has FId r0
  constructor
  · rintro ⟨t, ht, rfl⟩
    simp at ht
    rcases ht with rfl | rfl
    · exact Or.inl rfl
    · exact Or.inr (Or.inl rfl)
  · rintro (rfl | rfl | ⟨j, h1, h2, _⟩)
    · exact ⟨(900000, 1073741824), by simp, rfl⟩
    · exact ⟨(900001, 1073741824), by simp, rfl⟩
    · omega
theorem fill_step {f s n : Nat} {r : List T} (h : Fill f s n r) (h2 : 2 ≤ n) (hn : n < 200) (hf : f < 1000) (hs1 : 1 ≤ s) (hs : s ≤ 1000) :
    (aSet r ((f : Int) + (n : Int) * (s : Int)) (n : Int)).2 = 0 ∧ Fill f s (n + 1) (aSet r ((f : Int) + (n : Int) * (s : Int)) (n : Int)).1 := by
  have hb := mul_bd n s (by omega) hs
  have hnh : ¬ has r ((f : Int) + (n : Int) * (s : Int)) := fun hh => by
    rcases (h.ids _).1 hh with e | e | ⟨j, h3, h4, e⟩
    · omega
    · omega
    · have : ((n * s : Nat) : Int) = ((j * s : Nat) : Int) := by rw [Int.natCast_mul, Int.natCast_mul]; omega
      have : n * s = j * s := by omega
      have := Nat.eq_of_mul_eq_mul_right (by omega) this
      omega
  have hg := good_aSet h.good ((f : Int) + (n : Int) * (s : Int)) (n : Int)
  have e : aSet r ((f : Int) + (n : Int) * (s : Int)) (n : Int) = (ins ((f : Int) + (n : Int) * (s : Int), (n : Int)) (rem r ((f : Int) + (n : Int) * (s : Int))), 0) := by
    unfold aSet
    rw [if_neg (by omega), if_neg (fun hh => by have := h.len; omega)]
  rw [e] at hg ⊢
  refine ⟨rfl, hg, ?_, fun x => ?_⟩
  · show (ins _ _).length = _
    rw [(ins_perm _ _).length_eq, List.length_cons, rem_none hnh, h.len]
  · rw [has_ins, h.ids]
    unfold FId
    constructor
    · rintro (h1 | h1 | h1 | ⟨j, h3, h4, h5⟩)
      · exact Or.inr (Or.inr ⟨n, h2, by omega, h1⟩)
      · exact Or.inl h1
      · exact Or.inr (Or.inl h1)
      · exact Or.inr (Or.inr ⟨j, h3, by omega, h5⟩)
    · rintro (h1 | h1 | ⟨j, h3, h4, h5⟩)
      · exact Or.inr (Or.inl h1)
      · exact Or.inr (Or.inr (Or.inl h1))
      · by_cases ej : j = n
        · subst ej; exact Or.inl h5
        · exact Or.inr (Or.inr (Or.inr ⟨j, h3, by omega, h5⟩))
/-- What a full wheel answers. -/
def want (f s : Nat) (id tm : Int) (c : Int) : Prop := (c = 1 ∧ (id < 0 ∨ tm < 0 ∨ 1073741824 < tm)) ∨ (¬ (id < 0 ∨ tm < 0 ∨ 1073741824 < tm) ∧ ((c = 0 ∧ FId f s 200 id) ∨ (c = 2 ∧ ¬ FId f s 200 id)))
theorem full_set {f s : Nat} {r : List T} (h : Fill f s 200 r) (id tm c : Int) (hw : want f s id tm c) : (aSet r id tm).2 = c ∧ Fill f s 200 (aSet r id tm).1 := by
  have hg := good_aSet h.good id tm
  rcases hw with ⟨rfl, hb⟩ | ⟨hb, ⟨rfl, hi⟩ | ⟨rfl, hi⟩⟩
  · have e : aSet r id tm = (r, 1) := by unfold aSet; rw [if_pos hb]
    rw [e]; exact ⟨rfl, h⟩
  · have hh := (h.ids id).2 hi
    have e : aSet r id tm = (ins (id, tm) (rem r id), 0) := by unfold aSet; rw [if_neg hb, if_neg (fun x => x.1 hh)]
    rw [e] at hg ⊢
    refine ⟨rfl, hg, ?_, fun x => ?_⟩
    · show (ins _ _).length = _
      rw [(ins_perm _ _).length_eq, List.length_cons, rem_len_has h.good.ids hh, h.len]
    · rw [has_ins, ← h.ids]
      constructor
      · rintro (rfl | h1)
        · exact hh
        · exact h1
      · exact Or.inr
  · have e : aSet r id tm = (r, 2) := by unfold aSet; rw [if_neg hb, if_pos ⟨fun hh => hi ((h.ids id).1 hh), by rw [h.len]; decide⟩]
    rw [e]; exact ⟨rfl, h⟩
/-- The law's own look at an id. -/
theorem fid_in {f s : Nat} (hs : 1 ≤ s) {x : Int} (h1 : (f : Int) + 2 * (s : Int) ≤ x) (h2 : x < (f : Int) + 200 * (s : Int)) (h3 : (x - (f : Int)) % (s : Int) = 0) : FId f s 200 x := by
  right; right
  obtain ⟨q, hq⟩ := Int.dvd_of_emod_eq_zero h3
  have hs' : (0 : Int) < (s : Int) := by omega
  have q1 : (2 : Int) ≤ q := by
    have : (s : Int) * 2 ≤ (s : Int) * q := by omega
    exact Int.le_of_mul_le_mul_left this hs'
  have q2 : q < 200 := by
    have : (s : Int) * q < (s : Int) * 200 := by omega
    exact Int.lt_of_mul_lt_mul_left this (by omega)
  obtain ⟨j, rfl⟩ := Int.eq_ofNat_of_zero_le (show 0 ≤ q by omega)
  exact ⟨j, by omega, by omega, by rw [Int.mul_comm]; omega⟩
theorem fid_out {f s : Nat} (hs : 1 ≤ s) {x : Int} (h1 : ¬ x = 900000) (h2 : ¬ x = 900001) (h3 : ¬ ((f : Int) + 2 * (s : Int) ≤ x ∧ x < (f : Int) + 200 * (s : Int) ∧ (x - (f : Int)) % (s : Int) = 0)) : ¬ FId f s 200 x := by
  rintro (e | e | ⟨j, k1, k2, e⟩)
  · exact h1 e
  · exact h2 e
  · refine h3 ⟨?_, ?_, ?_⟩
    · have : 2 * s ≤ j * s := Nat.mul_le_mul_right s k1
      have e1 : ((j * s : Nat) : Int) = (j : Int) * (s : Int) := Int.natCast_mul _ _
      omega
    · have : (j + 1) * s ≤ 200 * s := Nat.mul_le_mul_right s (by omega)
      have e1 : (((j + 1) * s : Nat) : Int) = (j : Int) * (s : Int) + (s : Int) := by rw [Int.natCast_mul]; simp [Int.add_mul]
      omega
    · rw [e, show (f : Int) + (j : Int) * (s : Int) - (f : Int) = (j : Int) * (s : Int) by omega]
      exact Int.mul_emod_left _ _

set_option maxHeartbeats 4000000 in
theorem wheelFull_walk (fr st : Int) (hfr : i64 fr) (hst : i64 st) (v : Value) (l : List Op) (hl : l.length ≤ 140737488355328) (hok : ∀ o ∈ l, OpOk o) (w : World) (hO : ORow w v l) :
    Calls Try.prog 4 #[.int .i64 fr, .int .i64 st, v] w fun e w' => e = .returned (.bool true) ∧ Below w.heap.size w w' := by
  have hf := pick_lt fr 1000 (by decide)
  have hs := pick_lt st 1000 (by decide)
  have CB : Hid (Calls Try.prog 8 #[] w fun e w' => ∃ b, e = .returned (.pointer (some ⟨b, 0, none⟩)) ∧ WIn (fun k => k < w.heap.size) w b r0 w') := begun_any w
  have P1 : Hid (∀ w1, Calls Try.prog 22 #[.int .i64 fr, .int .i64 1000] w1 fun e w' => e = .returned (.int .i64 (pick fr 1000 : Int)) ∧ w' = w1) := fun w1 => pick_any fr 1000 (by decide) (by decide) hfr w1
  have P2 : Hid (∀ w1, Calls Try.prog 22 #[.int .i64 st, .int .i64 1000] w1 fun e w' => e = .returned (.int .i64 (pick st 1000 : Int)) ∧ w' = w1) := fun w1 => pick_any st 1000 (by decide) (by decide) hst w1
  generalize pick fr 1000 = f at *
  generalize pick st 1000 = s0 at *
  have HS : Hid (∀ b r w1 id tm, WIn (fun k => k < w.heap.size) w b r w1 → WheelMath.Good r → Calls Try.prog 11 #[.pointer (some ⟨b, 0, none⟩), .int .i64 id, .int .i64 tm] w1 fun e w' => e = .returned (.int .i64 (aSet r id tm).2) ∧ WIn (fun k => k < w.heap.size) w b (aSet r id tm).1 w') := fun b r w1 id tm h hg => set_all h hg id tm
  have HLn : Hid (∀ b r w1, WIn (fun k => k < w.heap.size) w b r w1 → Calls Try.prog 20 #[.pointer (some ⟨b, 0, none⟩)] w1 fun e w' => e = .returned (.int .i64 (r.length : Int)) ∧ w' = w1) := fun b r w1 h => len_all h
  have HB : Hid (∀ b r w1, WIn (fun k => k < w.heap.size) w b r w1 → Below w.heap.size w w1) := fun b r w1 h => below_of_win h (Nat.le_refl _)
  have HDR : Hid (∀ b r w1, WIn (fun k => k < w.heap.size) w b r w1 → WIn (fun k => k < w.heap.size) w b r w1.drew) := fun b r w1 h => win_below h ((Below.refl _ _).drew)
  have HO : Hid (ORow w v l) := hO
  have HOK : Hid (∀ o ∈ l, OpOk o) := hok
  obtain ⟨ao, cap, rfl, _⟩ := hO
  generalize hD : WIn (fun k => k < w.heap.size) w = D at *
  clear hD hok
  go_enter Try.func4, Try.ntmps4
  go_wp2_with fail
  refine CB.out.mono ?_
  rintro e w1 ⟨b, rfl, d1⟩
  have HD1 : Hid (D b r0 w1) := d1
  clear d1 CB
  go_wp2_with fail
  refine (P1.out _).mono ?_
  rintro e w2 ⟨rfl, hw⟩
  rw [hw]; clear hw w2 P1
  go_wp2_with fail
  refine (P2.out _).mono ?_
  rintro e w2 ⟨rfl, hw⟩
  rw [hw]; clear hw w2 P2
  go_wp2_with fail
  go_loopw [8] (fun i wr => ∃ (k : Nat) (r : List T), 2 ≤ k ∧ k ≤ 200 ∧ i = .int .i64 (k : Int) ∧ Hid (D b r wr) ∧ Hid (Fill f (1 + s0) k r)) (fun i _ => 200 - (intOf i).toNat)
  case atStart => exact ⟨2, r0, by decide, by decide, rfl, HD1, fill_zero _ _⟩
  case round =>
    obtain ⟨k, r, hk2, hk, rfl, HI, HF⟩ := hrel
    clear HD1
    by_cases hlt : k < 200
    · obtain ⟨hc, hF'⟩ := fill_step HF.out hk2 hlt hf (by omega) (by omega)
      have C := HS.out b r wr ((f : Int) + (k : Int) * ((1 + s0 : Nat) : Int)) (k : Int) HI.out HF.out.good
      rw [hc] at C
      have hbd := mul_bd k (1 + s0) (by omega) (by omega)
      rw [show (((1 + s0 : Nat) : Int)) = 1 + (s0 : Int) by omega] at C hF' hbd
      have C1 : Hid (Calls Try.prog 11 #[.pointer (some ⟨b, 0, none⟩), .int .i64 ((f : Int) + (k : Int) * (1 + (s0 : Int))), .int .i64 (k : Int)] wr fun e w' => e = .returned (.int .i64 0) ∧ D b (aSet r ((f : Int) + (k : Int) * (1 + (s0 : Int))) (k : Int)).1 w') := C
      have HF' : Hid (Fill f (1 + s0) (k + 1) (aSet r ((f : Int) + (k : Int) * (1 + (s0 : Int))) (k : Int)).1) := hF'
      generalize (aSet r ((f : Int) + (k : Int) * (1 + (s0 : Int))) (k : Int)).1 = r' at *
      have i1 : (k : Int) < 200 := by omega
      obtain ⟨b1, b2⟩ := hbd
      clear C hF' hc
      go_wp2_with fail
      refine C1.out.mono ?_
      rintro e w2 ⟨rfl, d2⟩
      have HD2 : Hid (D b r' w2) := d2
      clear d2 C1 HI HF
      go_wp2
      exact ⟨⟨k + 1, r', by omega, by omega, by go_num, HD2, HF'⟩, by simp [intOf]; omega⟩
    · have hkl : ¬ (k : Int) < 200 := by omega
      have HF0 := HF.out
      rw [show k = 200 by omega] at HF0
      have HFF : Hid (Fill f (1 + s0) 200 r) := HF0
      clear hlt hk hk2 HF HF0
      have HS' : Hid (∀ r w1 id tm c, D b r w1 → Fill f (1 + s0) 200 r → want f (1 + s0) id tm c → Calls Try.prog 11 #[.pointer (some ⟨b, 0, none⟩), .int .i64 id, .int .i64 tm] w1 fun e w' => e = .returned (.int .i64 c) ∧ ∃ r', Hid (D b r' w') ∧ Hid (Fill f (1 + s0) 200 r')) := fun r w1 id tm c h hF hw => by
        have := HS.out b r w1 id tm h hF.good
        obtain ⟨e, hF'⟩ := full_set hF id tm c hw
        rw [e] at this
        exact this.mono fun e w' ⟨k1, k2⟩ => ⟨k1, _, k2, hF'⟩
      clear HS
      go_wp2_with fail
      go_loopw [9, 10, 11] (fun i _ _ wr => ∃ (k : Nat) (r : List T), k ≤ l.length ∧ i = .int .i64 (k : Int) ∧ Hid (D b r wr) ∧ Hid (Fill f (1 + s0) 200 r)) (fun i _ _ _ => l.length - (intOf i).toNat)
      case atStart => exact ⟨0, r, Nat.zero_le _, rfl, HI, HFF⟩
      case round =>
        obtain ⟨k, q, hk, rfl, HJ, HG⟩ := hrel
        clear HI HFF
        by_cases hlt : k < l.length
        · obtain ⟨_, _, he, _, _, hrow⟩ := HO.out
          cases he
          obtain ⟨g, o, rfl, hgl, _, c1, c2⟩ := hrow k hlt
          have hcell : ∀ y w2, D b y w2 → w2.cell? ⟨g, o + k * 3 + 1, none⟩ = some (.int .i64 l[k].Id) ∧ w2.cell? ⟨g, o + k * 3 + 2, none⟩ = some (.int .i64 l[k].At) := fun y w2 hd =>
            ⟨((HB.out _ _ _ hd).cell (p := ⟨g, o + k * 3 + 1, none⟩) hgl).trans c1, ((HB.out _ _ _ hd).cell (p := ⟨g, o + k * 3 + 2, none⟩) hgl).trans c2⟩
          obtain ⟨_, ⟨x1, x2⟩, ⟨y1, y2⟩⟩ := HOK.out _ (List.getElem_mem hlt)
          generalize l[k].Id = x at *
          generalize l[k].At = tm at *
          have HC : Hid (∀ y w2, D b y w2 → w2.cell? ⟨g, o + k * 3 + 1, none⟩ = some (.int .i64 x) ∧ w2.cell? ⟨g, o + k * 3 + 2, none⟩ = some (.int .i64 tm)) := hcell
          obtain ⟨e1, e2⟩ := hcell _ _ HJ.out
          clear hcell c1 c2 hrow
          have HJ2 : Hid (D b q wr.drew) := HDR.out _ _ _ HJ.out
          have i1 : (k : Int) < (l.length : Int) := by omega
          have hs0 : (0 : Int) ≤ (s0 : Int) := by omega
          have hs9 : (s0 : Int) < 1000 := by omega
          have hf9 : (f : Int) < 1000 := by omega
          have hf0 : (0 : Int) ≤ (f : Int) := by omega
          have WANT : ∀ c, want f (1 + s0) x tm c → Hid (∀ w2, Hid (D b q w2) → Calls Try.prog 11 #[.pointer (some ⟨b, 0, none⟩), .int .i64 x, .int .i64 tm] w2 fun e w' => e = .returned (.int .i64 c) ∧ (w'.cell? ⟨g, o + k * 3 + 1, none⟩ = some (.int .i64 x) ∧ w'.cell? ⟨g, o + k * 3 + 2, none⟩ = some (.int .i64 tm)) ∧ ∃ r', Hid (D b r' w') ∧ Hid (Fill f (1 + s0) 200 r')) := fun c hw w2 hd =>
            (HS'.out q w2 x tm c hd.out HG.out hw).mono fun e w' ⟨k1, r', k2, k3⟩ => ⟨k1, HC.out _ _ k2.out, r', k2, k3⟩
          have LEN : Hid (∀ r' w2, Hid (D b r' w2) → Hid (Fill f (1 + s0) 200 r') → Calls Try.prog 20 #[.pointer (some ⟨b, 0, none⟩)] w2 fun e w' => e = .returned (.int .i64 200) ∧ (w'.cell? ⟨g, o + k * 3 + 1, none⟩ = some (.int .i64 x) ∧ w'.cell? ⟨g, o + k * 3 + 2, none⟩ = some (.int .i64 tm)) ∧ Hid (D b r' w')) := fun r' w2 hd hF => by
            have := HLn.out b r' w2 hd.out
            rw [hF.out.len] at this
            exact this.mono fun e w' ⟨k1, k2⟩ => by rw [k2]; exact ⟨k1, HC.out _ _ hd.out, hd⟩
          have BAD : (x < 0 ∨ tm < 0 ∨ 1073741824 < tm) → want f (1 + s0) x tm 1 := fun h => Or.inl ⟨rfl, h⟩
          have YES : ¬ (x < 0 ∨ tm < 0 ∨ 1073741824 < tm) → FId f (1 + s0) 200 x → want f (1 + s0) x tm 0 := fun h h2 => Or.inr ⟨h, Or.inl ⟨rfl, h2⟩⟩
          have NO : ¬ (x < 0 ∨ tm < 0 ∨ 1073741824 < tm) → ¬ FId f (1 + s0) 200 x → want f (1 + s0) x tm 2 := fun h h2 => Or.inr ⟨h, Or.inr ⟨rfl, h2⟩⟩
          have IN : (f : Int) + 2 * (1 + (s0 : Int)) ≤ x → x < (f : Int) + 200 * (1 + (s0 : Int)) → (x - (f : Int)) % (1 + (s0 : Int)) = 0 → FId f (1 + s0) 200 x := fun h1 h2 h3 => fid_in (by omega) (by omega) (by omega) (by rw [show ((1 + s0 : Nat) : Int) = 1 + (s0 : Int) by omega]; exact h3)
          have OUT : ¬ x = 900000 → ¬ x = 900001 → ¬ ((f : Int) + 2 * (1 + (s0 : Int)) ≤ x ∧ x < (f : Int) + 200 * (1 + (s0 : Int)) ∧ (x - (f : Int)) % (1 + (s0 : Int)) = 0) → ¬ FId f (1 + s0) 200 x := fun h1 h2 h3 => fid_out (by omega) h1 h2 (by rw [show ((1 + s0 : Nat) : Int) = 1 + (s0 : Int) by omega]; exact h3)
          -- WAYS
          have hx : (x = 900000) ∨ (x = 900001) ∨ (¬ x = 900000 ∧ ¬ x = 900001 ∧ x < (f : Int) + 2 * (1 + (s0 : Int))) ∨ (¬ x = 900000 ∧ ¬ x = 900001 ∧ (f : Int) + 2 * (1 + (s0 : Int)) ≤ x ∧ (f : Int) + 200 * (1 + (s0 : Int)) ≤ x) ∨ (¬ x = 900000 ∧ ¬ x = 900001 ∧ (f : Int) + 2 * (1 + (s0 : Int)) ≤ x ∧ x < (f : Int) + 200 * (1 + (s0 : Int)) ∧ (x - (f : Int)) % (1 + (s0 : Int)) = 0) ∨ (¬ x = 900000 ∧ ¬ x = 900001 ∧ (f : Int) + 2 * (1 + (s0 : Int)) ≤ x ∧ x < (f : Int) + 200 * (1 + (s0 : Int)) ∧ ¬ (x - (f : Int)) % (1 + (s0 : Int)) = 0) := by
            by_cases h1 : x = 900000
            · exact Or.inl h1
            by_cases h2 : x = 900001
            · exact Or.inr (Or.inl h2)
            by_cases h3 : x < (f : Int) + 2 * (1 + (s0 : Int))
            · exact Or.inr (Or.inr (Or.inl ⟨h1, h2, h3⟩))
            by_cases h4 : (f : Int) + 200 * (1 + (s0 : Int)) ≤ x
            · exact Or.inr (Or.inr (Or.inr (Or.inl ⟨h1, h2, by omega, h4⟩)))
            by_cases h5 : (x - (f : Int)) % (1 + (s0 : Int)) = 0
            · exact Or.inr (Or.inr (Or.inr (Or.inr (Or.inl ⟨h1, h2, by omega, by omega, h5⟩))))
            · exact Or.inr (Or.inr (Or.inr (Or.inr (Or.inr ⟨h1, h2, by omega, by omega, h5⟩))))
          rcases hx with rfl | rfl | ⟨h1, h2, h3⟩ | ⟨h1, h2, h3, h4⟩ | ⟨h1, h2, h3, h4, h5⟩ | ⟨h1, h2, h3, h4, h5⟩
          · have hid : FId f (1 + s0) 200 900000 := Or.inl rfl
            have t1 : (f : Int) + 2 * (1 + (s0 : Int)) ≤ 900000 := by omega
            have t2 : ¬ 900000 < (f : Int) + 200 * (1 + (s0 : Int)) := by omega
            have t3 : decide (900000 < (f : Int) + 200 * (1 + (s0 : Int))) = false := by simpa using t2
            go_upto_region 20 with fail
            go_cut [109] (fun s9 wx => ∃ c : Bool, s9 = .bool c ∧ c = decide ((900000 : Int) < 0 ∨ tm < 0 ∨ 1073741824 < tm) ∧ wx = wr)
            case first =>
              clear WANT LEN IN OUT HS' HLn HC HDR HJ2 HOK HO HB BAD YES NO hid
              have b1 : ¬ (900000 : Int) < 0 := by omega
              by_cases b2 : tm < 0
              · have zz2 : decide (tm < 0) = true := by simpa using b2
                go_wp2_with fail
                go_meet
                exact ⟨_, rfl, (decide_eq_true (Or.inr (Or.inl b2))).symm, rfl⟩
              have zz2 : decide (tm < 0) = false := by simpa using b2
              by_cases b3 : 1073741824 < tm
              · have zz3 : decide (1073741824 < tm) = true := by simpa using b3
                go_wp2_with fail
                go_meet
                exact ⟨_, rfl, (decide_eq_true (Or.inr (Or.inr b3))).symm, rfl⟩
              have zz3 : decide (1073741824 < tm) = false := by simpa using b3
              go_wp2_with fail
              go_meet
              exact ⟨_, rfl, (decide_eq_false (by omega)).symm, rfl⟩
            case rest =>
              obtain ⟨c, rfl, hcb, hwc⟩ := hcut
              rw [hwc]
              clear hwc wc
              by_cases hbb : (900000 : Int) < 0 ∨ tm < 0 ∨ 1073741824 < tm
              · rw [decide_eq_true hbb] at hcb
                subst hcb
                have SETC := WANT 1 (BAD hbb)
                clear hbb WANT BAD YES NO IN OUT HS' HLn HC HDR hid
                go_wp2_with fail
                clear t1 t2 t3 hf hs x1 x2 y1 y2 hs0 hs9 hf9 hf0 hfr hst HOK HO HJ HG
                go_region_held3 (fun w' => w'.cell? ⟨g, o + k * 3 + 1, none⟩ = some (.int .i64 900000) ∧ w'.cell? ⟨g, o + k * 3 + 2, none⟩ = some (.int .i64 tm)) (go_keep) (first | (go_at_call 11; refine (SETC.out _ HJ2).mono ?_; rintro e w2 ⟨rfl, ⟨m1, m2⟩, r', HD2, HF2⟩) | (go_at_call 20; refine (LEN.out _ _ HD2 HF2).mono ?_; rintro e w3 ⟨rfl, ⟨n1, n2⟩, HD3⟩))
                clear SETC LEN
                go_wp2
                exact ⟨⟨k + 1, _, by omega, by go_num, HD3, HF2⟩, by simp [intOf]; omega⟩
              · rw [decide_eq_false hbb] at hcb
                subst hcb
                have SETC := WANT 0 (YES hbb hid)
                clear hbb WANT BAD YES NO IN OUT HS' HLn HC HDR hid
                go_wp2_with fail
                clear t1 t2 t3 hf hs x1 x2 y1 y2 hs0 hs9 hf9 hf0 hfr hst HOK HO HJ HG
                go_region_held3 (fun w' => w'.cell? ⟨g, o + k * 3 + 1, none⟩ = some (.int .i64 900000) ∧ w'.cell? ⟨g, o + k * 3 + 2, none⟩ = some (.int .i64 tm)) (go_keep) (first | (go_at_call 11; refine (SETC.out _ HJ2).mono ?_; rintro e w2 ⟨rfl, ⟨m1, m2⟩, r', HD2, HF2⟩) | (go_at_call 20; refine (LEN.out _ _ HD2 HF2).mono ?_; rintro e w3 ⟨rfl, ⟨n1, n2⟩, HD3⟩))
                clear SETC LEN
                go_wp2
                exact ⟨⟨k + 1, _, by omega, by go_num, HD3, HF2⟩, by simp [intOf]; omega⟩
          · have hid : FId f (1 + s0) 200 900001 := Or.inr (Or.inl rfl)
            have t1 : (f : Int) + 2 * (1 + (s0 : Int)) ≤ 900001 := by omega
            have t2 : ¬ 900001 < (f : Int) + 200 * (1 + (s0 : Int)) := by omega
            have t3 : decide (900001 < (f : Int) + 200 * (1 + (s0 : Int))) = false := by simpa using t2
            go_upto_region 20 with fail
            go_cut [109] (fun s9 wx => ∃ c : Bool, s9 = .bool c ∧ c = decide ((900001 : Int) < 0 ∨ tm < 0 ∨ 1073741824 < tm) ∧ wx = wr)
            case first =>
              clear WANT LEN IN OUT HS' HLn HC HDR HJ2 HOK HO HB BAD YES NO hid
              have b1 : ¬ (900001 : Int) < 0 := by omega
              by_cases b2 : tm < 0
              · have zz2 : decide (tm < 0) = true := by simpa using b2
                go_wp2_with fail
                go_meet
                exact ⟨_, rfl, (decide_eq_true (Or.inr (Or.inl b2))).symm, rfl⟩
              have zz2 : decide (tm < 0) = false := by simpa using b2
              by_cases b3 : 1073741824 < tm
              · have zz3 : decide (1073741824 < tm) = true := by simpa using b3
                go_wp2_with fail
                go_meet
                exact ⟨_, rfl, (decide_eq_true (Or.inr (Or.inr b3))).symm, rfl⟩
              have zz3 : decide (1073741824 < tm) = false := by simpa using b3
              go_wp2_with fail
              go_meet
              exact ⟨_, rfl, (decide_eq_false (by omega)).symm, rfl⟩
            case rest =>
              obtain ⟨c, rfl, hcb, hwc⟩ := hcut
              rw [hwc]
              clear hwc wc
              by_cases hbb : (900001 : Int) < 0 ∨ tm < 0 ∨ 1073741824 < tm
              · rw [decide_eq_true hbb] at hcb
                subst hcb
                have SETC := WANT 1 (BAD hbb)
                clear hbb WANT BAD YES NO IN OUT HS' HLn HC HDR hid
                go_wp2_with fail
                clear t1 t2 t3 hf hs x1 x2 y1 y2 hs0 hs9 hf9 hf0 hfr hst HOK HO HJ HG
                go_region_held3 (fun w' => w'.cell? ⟨g, o + k * 3 + 1, none⟩ = some (.int .i64 900001) ∧ w'.cell? ⟨g, o + k * 3 + 2, none⟩ = some (.int .i64 tm)) (go_keep) (first | (go_at_call 11; refine (SETC.out _ HJ2).mono ?_; rintro e w2 ⟨rfl, ⟨m1, m2⟩, r', HD2, HF2⟩) | (go_at_call 20; refine (LEN.out _ _ HD2 HF2).mono ?_; rintro e w3 ⟨rfl, ⟨n1, n2⟩, HD3⟩))
                clear SETC LEN
                go_wp2
                exact ⟨⟨k + 1, _, by omega, by go_num, HD3, HF2⟩, by simp [intOf]; omega⟩
              · rw [decide_eq_false hbb] at hcb
                subst hcb
                have SETC := WANT 0 (YES hbb hid)
                clear hbb WANT BAD YES NO IN OUT HS' HLn HC HDR hid
                go_wp2_with fail
                clear t1 t2 t3 hf hs x1 x2 y1 y2 hs0 hs9 hf9 hf0 hfr hst HOK HO HJ HG
                go_region_held3 (fun w' => w'.cell? ⟨g, o + k * 3 + 1, none⟩ = some (.int .i64 900001) ∧ w'.cell? ⟨g, o + k * 3 + 2, none⟩ = some (.int .i64 tm)) (go_keep) (first | (go_at_call 11; refine (SETC.out _ HJ2).mono ?_; rintro e w2 ⟨rfl, ⟨m1, m2⟩, r', HD2, HF2⟩) | (go_at_call 20; refine (LEN.out _ _ HD2 HF2).mono ?_; rintro e w3 ⟨rfl, ⟨n1, n2⟩, HD3⟩))
                clear SETC LEN
                go_wp2
                exact ⟨⟨k + 1, _, by omega, by go_num, HD3, HF2⟩, by simp [intOf]; omega⟩
          · have q1 : decide (x = 900000) = false := by simpa using h1
            have q2 : decide (x = 900001) = false := by simpa using h2
            have q3 : (x == 900000) = false := by simpa using h1
            have q4 : (x == 900001) = false := by simpa using h2
            have hid : ¬ FId f (1 + s0) 200 x := OUT h1 h2 (fun h => by omega)
            have t1 : decide ((f : Int) + 2 * (1 + (s0 : Int)) ≤ x) = false := by simp; omega
            go_upto_region 20 with fail
            go_cut [109] (fun s9 wx => ∃ c : Bool, s9 = .bool c ∧ c = decide ((x : Int) < 0 ∨ tm < 0 ∨ 1073741824 < tm) ∧ wx = wr)
            case first =>
              clear WANT LEN IN OUT HS' HLn HC HDR HJ2 HOK HO HB BAD YES NO hid
              by_cases b1 : x < 0
              · have zz1 : decide (x < 0) = true := by simpa using b1
                go_wp2_with fail
                go_meet
                exact ⟨_, rfl, (decide_eq_true (Or.inl b1)).symm, rfl⟩
              have zz1 : decide (x < 0) = false := by simpa using b1
              by_cases b2 : tm < 0
              · have zz2 : decide (tm < 0) = true := by simpa using b2
                go_wp2_with fail
                go_meet
                exact ⟨_, rfl, (decide_eq_true (Or.inr (Or.inl b2))).symm, rfl⟩
              have zz2 : decide (tm < 0) = false := by simpa using b2
              by_cases b3 : 1073741824 < tm
              · have zz3 : decide (1073741824 < tm) = true := by simpa using b3
                go_wp2_with fail
                go_meet
                exact ⟨_, rfl, (decide_eq_true (Or.inr (Or.inr b3))).symm, rfl⟩
              have zz3 : decide (1073741824 < tm) = false := by simpa using b3
              go_wp2_with fail
              go_meet
              exact ⟨_, rfl, (decide_eq_false (by omega)).symm, rfl⟩
            case rest =>
              obtain ⟨c, rfl, hcb, hwc⟩ := hcut
              rw [hwc]
              clear hwc wc
              by_cases hbb : (x : Int) < 0 ∨ tm < 0 ∨ 1073741824 < tm
              · rw [decide_eq_true hbb] at hcb
                subst hcb
                have SETC := WANT 1 (BAD hbb)
                clear hbb WANT BAD YES NO IN OUT HS' HLn HC HDR hid
                go_wp2_with fail
                clear q1 q2 q3 q4 t1 h1 h2 h3 hf hs x1 x2 y1 y2 hs0 hs9 hf9 hf0 hfr hst HOK HO HJ HG
                go_region_held3 (fun w' => w'.cell? ⟨g, o + k * 3 + 1, none⟩ = some (.int .i64 x) ∧ w'.cell? ⟨g, o + k * 3 + 2, none⟩ = some (.int .i64 tm)) (go_keep) (first | (go_at_call 11; refine (SETC.out _ HJ2).mono ?_; rintro e w2 ⟨rfl, ⟨m1, m2⟩, r', HD2, HF2⟩) | (go_at_call 20; refine (LEN.out _ _ HD2 HF2).mono ?_; rintro e w3 ⟨rfl, ⟨n1, n2⟩, HD3⟩))
                clear SETC LEN
                go_wp2
                exact ⟨⟨k + 1, _, by omega, by go_num, HD3, HF2⟩, by simp [intOf]; omega⟩
              · rw [decide_eq_false hbb] at hcb
                subst hcb
                have SETC := WANT 2 (NO hbb hid)
                clear hbb WANT BAD YES NO IN OUT HS' HLn HC HDR hid
                go_wp2_with fail
                clear q1 q2 q3 q4 t1 h1 h2 h3 hf hs x1 x2 y1 y2 hs0 hs9 hf9 hf0 hfr hst HOK HO HJ HG
                go_region_held3 (fun w' => w'.cell? ⟨g, o + k * 3 + 1, none⟩ = some (.int .i64 x) ∧ w'.cell? ⟨g, o + k * 3 + 2, none⟩ = some (.int .i64 tm)) (go_keep) (first | (go_at_call 11; refine (SETC.out _ HJ2).mono ?_; rintro e w2 ⟨rfl, ⟨m1, m2⟩, r', HD2, HF2⟩) | (go_at_call 20; refine (LEN.out _ _ HD2 HF2).mono ?_; rintro e w3 ⟨rfl, ⟨n1, n2⟩, HD3⟩))
                clear SETC LEN
                go_wp2
                exact ⟨⟨k + 1, _, by omega, by go_num, HD3, HF2⟩, by simp [intOf]; omega⟩
          · have q1 : decide (x = 900000) = false := by simpa using h1
            have q2 : decide (x = 900001) = false := by simpa using h2
            have q3 : (x == 900000) = false := by simpa using h1
            have q4 : (x == 900001) = false := by simpa using h2
            have hid : ¬ FId f (1 + s0) 200 x := OUT h1 h2 (fun h => by omega)
            have t2 : decide (x < (f : Int) + 200 * (1 + (s0 : Int))) = false := by simp; omega
            go_upto_region 20 with fail
            go_cut [109] (fun s9 wx => ∃ c : Bool, s9 = .bool c ∧ c = decide ((x : Int) < 0 ∨ tm < 0 ∨ 1073741824 < tm) ∧ wx = wr)
            case first =>
              clear WANT LEN IN OUT HS' HLn HC HDR HJ2 HOK HO HB BAD YES NO hid
              have b1 : ¬ (x : Int) < 0 := by omega
              have zz1 : decide (x < 0) = false := by simpa using b1
              by_cases b2 : tm < 0
              · have zz2 : decide (tm < 0) = true := by simpa using b2
                go_wp2_with fail
                go_meet
                exact ⟨_, rfl, (decide_eq_true (Or.inr (Or.inl b2))).symm, rfl⟩
              have zz2 : decide (tm < 0) = false := by simpa using b2
              by_cases b3 : 1073741824 < tm
              · have zz3 : decide (1073741824 < tm) = true := by simpa using b3
                go_wp2_with fail
                go_meet
                exact ⟨_, rfl, (decide_eq_true (Or.inr (Or.inr b3))).symm, rfl⟩
              have zz3 : decide (1073741824 < tm) = false := by simpa using b3
              go_wp2_with fail
              go_meet
              exact ⟨_, rfl, (decide_eq_false (by omega)).symm, rfl⟩
            case rest =>
              obtain ⟨c, rfl, hcb, hwc⟩ := hcut
              rw [hwc]
              clear hwc wc
              by_cases hbb : (x : Int) < 0 ∨ tm < 0 ∨ 1073741824 < tm
              · rw [decide_eq_true hbb] at hcb
                subst hcb
                have SETC := WANT 1 (BAD hbb)
                clear hbb WANT BAD YES NO IN OUT HS' HLn HC HDR hid
                go_wp2_with fail
                clear q1 q2 q3 q4 t2 h1 h2 h3 h4 hf hs x1 x2 y1 y2 hs0 hs9 hf9 hf0 hfr hst HOK HO HJ HG
                go_region_held3 (fun w' => w'.cell? ⟨g, o + k * 3 + 1, none⟩ = some (.int .i64 x) ∧ w'.cell? ⟨g, o + k * 3 + 2, none⟩ = some (.int .i64 tm)) (go_keep) (first | (go_at_call 11; refine (SETC.out _ HJ2).mono ?_; rintro e w2 ⟨rfl, ⟨m1, m2⟩, r', HD2, HF2⟩) | (go_at_call 20; refine (LEN.out _ _ HD2 HF2).mono ?_; rintro e w3 ⟨rfl, ⟨n1, n2⟩, HD3⟩))
                clear SETC LEN
                go_wp2
                exact ⟨⟨k + 1, _, by omega, by go_num, HD3, HF2⟩, by simp [intOf]; omega⟩
              · rw [decide_eq_false hbb] at hcb
                subst hcb
                have SETC := WANT 2 (NO hbb hid)
                clear hbb WANT BAD YES NO IN OUT HS' HLn HC HDR hid
                go_wp2_with fail
                clear q1 q2 q3 q4 t2 h1 h2 h3 h4 hf hs x1 x2 y1 y2 hs0 hs9 hf9 hf0 hfr hst HOK HO HJ HG
                go_region_held3 (fun w' => w'.cell? ⟨g, o + k * 3 + 1, none⟩ = some (.int .i64 x) ∧ w'.cell? ⟨g, o + k * 3 + 2, none⟩ = some (.int .i64 tm)) (go_keep) (first | (go_at_call 11; refine (SETC.out _ HJ2).mono ?_; rintro e w2 ⟨rfl, ⟨m1, m2⟩, r', HD2, HF2⟩) | (go_at_call 20; refine (LEN.out _ _ HD2 HF2).mono ?_; rintro e w3 ⟨rfl, ⟨n1, n2⟩, HD3⟩))
                clear SETC LEN
                go_wp2
                exact ⟨⟨k + 1, _, by omega, by go_num, HD3, HF2⟩, by simp [intOf]; omega⟩
          · have q1 : decide (x = 900000) = false := by simpa using h1
            have q2 : decide (x = 900001) = false := by simpa using h2
            have q3 : (x == 900000) = false := by simpa using h1
            have q4 : (x == 900001) = false := by simpa using h2
            have hid : FId f (1 + s0) 200 x := IN h3 h4 h5
            have t4 : 0 ≤ x - (f : Int) := by omega
            have t5 : decide ((x - (f : Int)) % (1 + (s0 : Int)) = 0) = true := by simpa using h5
            go_upto_region 20 with fail
            go_cut [109] (fun s9 wx => ∃ c : Bool, s9 = .bool c ∧ c = decide ((x : Int) < 0 ∨ tm < 0 ∨ 1073741824 < tm) ∧ wx = wr)
            case first =>
              clear WANT LEN IN OUT HS' HLn HC HDR HJ2 HOK HO HB BAD YES NO hid
              have b1 : ¬ (x : Int) < 0 := by omega
              have zz1 : decide (x < 0) = false := by simpa using b1
              by_cases b2 : tm < 0
              · have zz2 : decide (tm < 0) = true := by simpa using b2
                go_wp2_with fail
                go_meet
                exact ⟨_, rfl, (decide_eq_true (Or.inr (Or.inl b2))).symm, rfl⟩
              have zz2 : decide (tm < 0) = false := by simpa using b2
              by_cases b3 : 1073741824 < tm
              · have zz3 : decide (1073741824 < tm) = true := by simpa using b3
                go_wp2_with fail
                go_meet
                exact ⟨_, rfl, (decide_eq_true (Or.inr (Or.inr b3))).symm, rfl⟩
              have zz3 : decide (1073741824 < tm) = false := by simpa using b3
              go_wp2_with fail
              go_meet
              exact ⟨_, rfl, (decide_eq_false (by omega)).symm, rfl⟩
            case rest =>
              obtain ⟨c, rfl, hcb, hwc⟩ := hcut
              rw [hwc]
              clear hwc wc
              by_cases hbb : (x : Int) < 0 ∨ tm < 0 ∨ 1073741824 < tm
              · rw [decide_eq_true hbb] at hcb
                subst hcb
                have SETC := WANT 1 (BAD hbb)
                clear hbb WANT BAD YES NO IN OUT HS' HLn HC HDR hid
                go_wp2_with fail
                clear q1 q2 q3 q4 t4 t5 h1 h2 h3 h4 h5 hf hs x1 x2 y1 y2 hs0 hs9 hf9 hf0 hfr hst HOK HO HJ HG
                go_region_held3 (fun w' => w'.cell? ⟨g, o + k * 3 + 1, none⟩ = some (.int .i64 x) ∧ w'.cell? ⟨g, o + k * 3 + 2, none⟩ = some (.int .i64 tm)) (go_keep) (first | (go_at_call 11; refine (SETC.out _ HJ2).mono ?_; rintro e w2 ⟨rfl, ⟨m1, m2⟩, r', HD2, HF2⟩) | (go_at_call 20; refine (LEN.out _ _ HD2 HF2).mono ?_; rintro e w3 ⟨rfl, ⟨n1, n2⟩, HD3⟩))
                clear SETC LEN
                go_wp2
                exact ⟨⟨k + 1, _, by omega, by go_num, HD3, HF2⟩, by simp [intOf]; omega⟩
              · rw [decide_eq_false hbb] at hcb
                subst hcb
                have SETC := WANT 0 (YES hbb hid)
                clear hbb WANT BAD YES NO IN OUT HS' HLn HC HDR hid
                go_wp2_with fail
                clear q1 q2 q3 q4 t4 t5 h1 h2 h3 h4 h5 hf hs x1 x2 y1 y2 hs0 hs9 hf9 hf0 hfr hst HOK HO HJ HG
                go_region_held3 (fun w' => w'.cell? ⟨g, o + k * 3 + 1, none⟩ = some (.int .i64 x) ∧ w'.cell? ⟨g, o + k * 3 + 2, none⟩ = some (.int .i64 tm)) (go_keep) (first | (go_at_call 11; refine (SETC.out _ HJ2).mono ?_; rintro e w2 ⟨rfl, ⟨m1, m2⟩, r', HD2, HF2⟩) | (go_at_call 20; refine (LEN.out _ _ HD2 HF2).mono ?_; rintro e w3 ⟨rfl, ⟨n1, n2⟩, HD3⟩))
                clear SETC LEN
                go_wp2
                exact ⟨⟨k + 1, _, by omega, by go_num, HD3, HF2⟩, by simp [intOf]; omega⟩
          · have q1 : decide (x = 900000) = false := by simpa using h1
            have q2 : decide (x = 900001) = false := by simpa using h2
            have q3 : (x == 900000) = false := by simpa using h1
            have q4 : (x == 900001) = false := by simpa using h2
            have hid : ¬ FId f (1 + s0) 200 x := OUT h1 h2 (fun h => h5 h.2.2)
            have t4 : 0 ≤ x - (f : Int) := by omega
            have t5 : decide ((x - (f : Int)) % (1 + (s0 : Int)) = 0) = false := by simpa using h5
            have t6 : ((x - (f : Int)) % (1 + (s0 : Int)) == 0) = false := by simpa using h5
            go_upto_region 20 with fail
            go_cut [109] (fun s9 wx => ∃ c : Bool, s9 = .bool c ∧ c = decide ((x : Int) < 0 ∨ tm < 0 ∨ 1073741824 < tm) ∧ wx = wr)
            case first =>
              clear WANT LEN IN OUT HS' HLn HC HDR HJ2 HOK HO HB BAD YES NO hid
              have b1 : ¬ (x : Int) < 0 := by omega
              have zz1 : decide (x < 0) = false := by simpa using b1
              by_cases b2 : tm < 0
              · have zz2 : decide (tm < 0) = true := by simpa using b2
                go_wp2_with fail
                go_meet
                exact ⟨_, rfl, (decide_eq_true (Or.inr (Or.inl b2))).symm, rfl⟩
              have zz2 : decide (tm < 0) = false := by simpa using b2
              by_cases b3 : 1073741824 < tm
              · have zz3 : decide (1073741824 < tm) = true := by simpa using b3
                go_wp2_with fail
                go_meet
                exact ⟨_, rfl, (decide_eq_true (Or.inr (Or.inr b3))).symm, rfl⟩
              have zz3 : decide (1073741824 < tm) = false := by simpa using b3
              go_wp2_with fail
              go_meet
              exact ⟨_, rfl, (decide_eq_false (by omega)).symm, rfl⟩
            case rest =>
              obtain ⟨c, rfl, hcb, hwc⟩ := hcut
              rw [hwc]
              clear hwc wc
              by_cases hbb : (x : Int) < 0 ∨ tm < 0 ∨ 1073741824 < tm
              · rw [decide_eq_true hbb] at hcb
                subst hcb
                have SETC := WANT 1 (BAD hbb)
                clear hbb WANT BAD YES NO IN OUT HS' HLn HC HDR hid
                go_wp2_with fail
                clear q1 q2 q3 q4 t4 t5 t6 h1 h2 h3 h4 h5 hf hs x1 x2 y1 y2 hs0 hs9 hf9 hf0 hfr hst HOK HO HJ HG
                go_region_held3 (fun w' => w'.cell? ⟨g, o + k * 3 + 1, none⟩ = some (.int .i64 x) ∧ w'.cell? ⟨g, o + k * 3 + 2, none⟩ = some (.int .i64 tm)) (go_keep) (first | (go_at_call 11; refine (SETC.out _ HJ2).mono ?_; rintro e w2 ⟨rfl, ⟨m1, m2⟩, r', HD2, HF2⟩) | (go_at_call 20; refine (LEN.out _ _ HD2 HF2).mono ?_; rintro e w3 ⟨rfl, ⟨n1, n2⟩, HD3⟩))
                clear SETC LEN
                go_wp2
                exact ⟨⟨k + 1, _, by omega, by go_num, HD3, HF2⟩, by simp [intOf]; omega⟩
              · rw [decide_eq_false hbb] at hcb
                subst hcb
                have SETC := WANT 2 (NO hbb hid)
                clear hbb WANT BAD YES NO IN OUT HS' HLn HC HDR hid
                go_wp2_with fail
                clear q1 q2 q3 q4 t4 t5 t6 h1 h2 h3 h4 h5 hf hs x1 x2 y1 y2 hs0 hs9 hf9 hf0 hfr hst HOK HO HJ HG
                go_region_held3 (fun w' => w'.cell? ⟨g, o + k * 3 + 1, none⟩ = some (.int .i64 x) ∧ w'.cell? ⟨g, o + k * 3 + 2, none⟩ = some (.int .i64 tm)) (go_keep) (first | (go_at_call 11; refine (SETC.out _ HJ2).mono ?_; rintro e w2 ⟨rfl, ⟨m1, m2⟩, r', HD2, HF2⟩) | (go_at_call 20; refine (LEN.out _ _ HD2 HF2).mono ?_; rintro e w3 ⟨rfl, ⟨n1, n2⟩, HD3⟩))
                clear SETC LEN
                go_wp2
                exact ⟨⟨k + 1, _, by omega, by go_num, HD3, HF2⟩, by simp [intOf]; omega⟩
          -- END
        · obtain rfl : k = l.length := by omega
          have HBE : Hid (Below w.heap.size w wr) := HB.out _ _ _ HJ.out
          go_wp2
          go_ret
          exact ⟨rfl, HBE.out⟩
end Go.Proofs.Ythenmngjojgmkaa
