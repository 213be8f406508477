/- The document's Take: where it takes. -/
import Derived.Test.YthdloddcljbjhaaDoorRefM
import Derived.Test.YthdloddcljbjhaaDoorNmRefOwn
import Derived.Test.YthdloddcljbjhaaDoorNmRefIs
import Derived.Deep.RegionHeld3
import Derived.BigQuiet
set_option linter.unusedVariables false
set_option maxRecDepth 100000
namespace Go.Proofs.YthdloddcljbjhaaDoor
open Go.RowKit CheckMath

theorem lcells_take (L : List Lk) (k : Nat) (h : k ≤ L.length) : (lcells L).take (k * 2) = lcells (L.take k) := by
  have e : lcells L = lcells (L.take k) ++ lcells (L.drop k) := by rw [← lcells_append, List.take_append_drop]
  have hl : (lcells (L.take k)).length = k * 2 := by rw [lcells_len, List.length_take]; omega
  rw [e, List.take_append_of_le_length (by omega), ← hl, List.take_length]
theorem lcells_drop (L : List Lk) (k : Nat) (h : k ≤ L.length) : (lcells L).drop (k * 2) = lcells (L.drop k) := by
  have e : lcells L = lcells (L.take k) ++ lcells (L.drop k) := by rw [← lcells_append, List.take_append_drop]
  have hl : (lcells (L.take k)).length = k * 2 := by rw [lcells_len, List.length_take]; omega
  rw [e, ← hl, List.drop_left]
theorem lcells_one (L : List Lk) : ∀ u ∈ lcells L, u.oneCell' = true := by
  intro u hu
  unfold lcells at hu
  obtain ⟨x, _, hx⟩ := List.mem_flatMap.1 hu
  unfold lcell at hx
  simp at hx
  rcases hx with rfl | rfl <;> rfl
theorem rest_cells {w : World} {B e g cap : Nat} {r : List Lk} (h : w.ownsRow B e 2 (.slice (some ⟨g, 0, none⟩) r.length cap) r.length (lcells r)) (k : Nat) (hk : k ≤ r.length) :
    ∃ ad : Addr, (if cap = k then some (⟨g, 0, none⟩ : Addr) else some ⟨g, k * 2, none⟩) = some ad ∧ ∀ (w' : World), (∀ j, w'.cell? ⟨g, j, none⟩ = w.cell? ⟨g, j, none⟩) → ∀ j u, (lcells (r.drop k))[j]? = some u → w'.cell? (ad.add j) = some u := by
  obtain ⟨ao, cap', hv, hc, _, h3⟩ := own_form h
  cases hv
  obtain ⟨b', hb', _, _, k3, _⟩ := h3 _ rfl
  cases hb'
  by_cases hck : cap = k
  · refine ⟨⟨g, 0, none⟩, by simp [hck], fun w' hw j u hu => ?_⟩
    have : r.drop k = [] := List.drop_of_length_le (by omega)
    rw [this] at hu
    simp [lcells] at hu
  · refine ⟨⟨g, k * 2, none⟩, by simp [hck], fun w' hw j u hu => ?_⟩
    have hj : j < (lcells (r.drop k)).length := (List.getElem?_eq_some_iff.1 hu).1
    rw [lcells_len, List.length_drop] at hj
    rw [Addr.add_lit, hw, k3 _ (by omega), ← hu, ← lcells_drop r k hk, List.getElem?_drop]
theorem insL_small {L : List Lk} {s : ByteArray} {i : Int} (hL : ∀ x, x ∈ L → x.1.size ≤ 1048576) (hs : s.size ≤ 1048576) : ∀ x, x ∈ insL L s i → x.1.size ≤ 1048576 := by
  intro x hx
  unfold insL at hx
  split at hx
  · rw [List.mem_append, List.mem_append, List.mem_singleton] at hx
    rcases hx with (hx | rfl) | hx
    · exact hL x (List.mem_of_mem_take hx)
    · exact hs
    · exact hL x (List.mem_of_mem_drop hx)
  · exact hL x hx
theorem takeL_small {i : Int} : ∀ (keys : List ByteArray) {L : List Lk}, (∀ x, x ∈ L → x.1.size ≤ 1048576) → (∀ s, s ∈ keys → s.size ≤ 1048576) → ∀ x, x ∈ takeL L i keys → x.1.size ≤ 1048576
  | [], L, hL, _ => hL
  | a :: t, L, hL, hs => takeL_small t (insL_small hL (hs a List.mem_cons_self)) (fun s h => hs s (List.mem_cons_of_mem _ h))
/-- The new row put in the place of the old one. -/
theorem Has.turnL {B : Nat} {w w2 w5 : World} {rs : List Res} {tb : Nat} {v v5 : Value} {M M5 : List Lk} {n5 : Nat} (h : Has B w (BlockR tb [v] :: LR v M :: rs) w2) (hb : Below w2.heap.size w2 w5) (hv : v5.ownBlock = v5.ownBlock) (ho : w5.ownsRow w2.heap.size 55 2 v5 M5.length (lcells M5)) :
    Has B w (BlockR tb [v5] :: LR v5 M5 :: rs) (w5.setCell ⟨tb, 0, none⟩ v5) := by
  have h1 : Has B w (LR v5 M5 :: BlockR tb [v] :: LR v M :: rs) w5 := h.add (new := [LR v5 M5]) hb (Hold.one ⟨own_base ho (Nat.zero_le _), rfl⟩) (fun k hk => (ho.lt k hk).1)
  have h2 := (h1.perm (List.Perm.swap _ _ _)).put 0 (by simp) v5
  exact (h2.perm (perm3' _ _ _ _)).drop
set_option maxHeartbeats 16000000 in
theorem rTake_yes {B : Nat} {w wr0 : World} {rs : List Res} {tb : Nat} {v : Value} {L : List Lk} (h : Has B w (BlockR tb [v] :: LR v L :: rs) wr0) (i : Int) (hi : 1 ≤ i) (hi2 : i ≤ 9223372036854775807) (kv : Value) (keys : List ByteArray) (hall : keys.all isN = true) (hs : ∀ s, s ∈ keys → s.size ≤ 1048576) (hL : ∀ x, x ∈ L → x.1.size ≤ 1048576)
    (hf : ∀ s, s ∈ keys → who L s = 0 ∨ who L s = i) (hkr : ∀ wq u L', Has B w (BlockR tb [u] :: LR u L' :: rs) wq → KRow wq kv keys) (hn : L.length + keys.length ≤ 1048576) :
    Calls Tryd.prog 11 #[.pointer (some ⟨tb, 0, none⟩), .int .i64 i, kv] wr0 fun e w' => ∃ u, e = .returned (.tuple #[.string ⟨#[]⟩, .bool true]) ∧ Has B w (BlockR tb [u] :: LR u (takeL L i keys) :: rs) w' := by
  have H0 : Hid (Has B w (BlockR tb [v] :: LR v (takeL L i (keys.take 0)) :: rs) wr0) := by
    show Has B w _ wr0
    rw [List.take_zero]; exact h
  obtain ⟨ko, kc, rfl, hkc, hkn, ⟨hkl, -⟩, hkrow⟩ := hkr wr0 v L h
  have HKW : Hid (∀ j, j < keys.length → ∃ g o, ko = some ⟨g, o, none⟩ ∧ g < wr0.heap.size ∧ wr0.cell? ⟨g, o + j, none⟩ = some (.string (keyAt keys j))) := hkrow
  have HKR : Hid (∀ wq u L', Has B w (BlockR tb [u] :: LR u L' :: rs) wq → ∀ j, j < keys.length → ∃ g o, ko = some ⟨g, o, none⟩ ∧ g < wq.heap.size ∧ wq.cell? ⟨g, o + j, none⟩ = some (.string (keyAt keys j))) := fun wq u L' hq => krow_cell (hkr wq u L' hq)
  have HIS : Hid (∀ j, j < keys.length → ∀ wq, Calls Tryd.prog 28 #[.string (keyAt keys j)] wq fun e w' => e = .returned (.bool true) ∧ w' = wq) := fun j hj wq => by
    have hm := keyAt_mem hj
    have x := Nm.refIs_any (keyAt keys j) (by have := hs _ hm; omega) wq
    rw [show NameMath.isGo (NameMath.runes (keyAt keys j).data.toList) 0 = true from List.all_eq_true.1 hall _ hm] at x
    exact x
  have HHO : Hid (∀ j, j < keys.length → Calls Tryd.prog 17 #[.pointer (some ⟨tb, 0, none⟩), .string (keyAt keys j)] wr0 fun e w' => e = .returned (.int .i64 (who L (keyAt keys j))) ∧ w' = wr0) := fun j hj => rHolder_any (tb := tb) (v := v) (L := L) h (by simp) (by simp) _
  have HF : Hid (∀ j, j < keys.length → who L (keyAt keys j) = 0 ∨ who L (keyAt keys j) = i) := fun j hj => hf _ (keyAt_mem hj)
  have HSZ : Hid (∀ j, j < keys.length → (keyAt keys j).size ≤ 1048576) := fun j hj => hs _ (keyAt_mem hj)
  have HLS : Hid (∀ k, ∀ x, x ∈ takeL L i (keys.take k) → x.1.size ≤ 1048576) := fun k => takeL_small _ hL (fun s hm => hs s (List.mem_of_mem_take hm))
  have HLN : Hid (∀ k, k ≤ keys.length → (takeL L i (keys.take k)).length ≤ L.length + k) := fun k hk => by
    have := takeL_len L i (keys.take k)
    rw [List.length_take] at this
    omega
  have HSN : Hid (∀ k, k < keys.length → takeL L i (keys.take (k + 1)) = insL (takeL L i (keys.take k)) (keyAt keys k) i) := takeL_snoc L i keys
  obtain ⟨i0, z0, z1, z2, z3⟩ := info_parts infoL
  have hi3 : ¬ i < 1 := by omega
  clear h hall hs hL hf hkr hkrow
  go_enter Tryd.func11, Tryd.ntmps11
  go_wp2_with fail
  go_loop [8] (fun kv => ∃ k : Nat, k ≤ keys.length ∧ kv = .int .i64 (k : Int)) (fun kv => keys.length - (intOf kv).toNat)
  case atStart => exact ⟨0, Nat.zero_le _, rfl⟩
  case round =>
    obtain ⟨k, hk, rfl⟩ := hrel
    by_cases hlt : k < keys.length
    · have hltJ : (k : Int) < (keys.length : Int) := by omega
      obtain ⟨g, o, rfl, hg, c0⟩ := HKW.out k hlt
      have D1 := HIS.out k hlt wr0
      clear HKW HKR HIS HHO HF HSZ HLS HLN HSN
      generalize keyAt keys k = z at *
      go_wp2_with fail
      refine D1.mono ?_
      rintro e w9 ⟨rfl, hw⟩
      rw [hw]
      clear hw w9 D1
      go_wp2_with fail
      exact ⟨⟨k + 1, by omega, by go_num⟩, by simp [intOf]; omega⟩
    · have hltJ : ¬ (k : Int) < (keys.length : Int) := by omega
      clear HIS
      go_wp2_with fail
      go_loop [9] (fun kv => ∃ k : Nat, k ≤ keys.length ∧ kv = .int .i64 (k : Int)) (fun kv => keys.length - (intOf kv).toNat)
      case atStart => exact ⟨0, Nat.zero_le _, rfl⟩
      case round =>
        obtain ⟨k, hk, rfl⟩ := hrel
        by_cases hlt : k < keys.length
        · have hltJ : (k : Int) < (keys.length : Int) := by omega
          obtain ⟨g, o, rfl, hg, c0⟩ := HKW.out k hlt
          have D1 := HHO.out k hlt
          have hF := HF.out k hlt
          clear HKW HKR HHO HF HSZ HLS HLN HSN
          generalize who L (keyAt keys k) = t at *
          generalize keyAt keys k = z at *
          rcases hF with h0 | h0
          all_goals (
            subst h0
            go_wp2_with fail
            refine D1.mono ?_
            rintro e w9 ⟨rfl, hw⟩
            rw [hw]
            clear hw w9 D1
            go_wp2_with fail
            exact ⟨⟨k + 1, by omega, by go_num⟩, by simp [intOf]; omega⟩)
        · have hltJ : ¬ (k : Int) < (keys.length : Int) := by omega
          clear HHO HF HKW
          go_wp2_with fail
          go_loopw [11] (fun kv wr => ∃ (k : Nat) (u : Value), k ≤ keys.length ∧ kv = .int .i64 (k : Int) ∧ Hid (Has B w (BlockR tb [u] :: LR u (takeL L i (keys.take k)) :: rs) wr)) (fun kv _ => keys.length - (intOf kv).toNat)
          case atStart => exact ⟨0, v, Nat.zero_le _, rfl, H0⟩
          case round =>
            obtain ⟨k, u, hk, rfl, HH⟩ := hrel
            clear H0
            by_cases hlt : k < keys.length
            · as_aux_lemma =>
              have hltJ : (k : Int) < (keys.length : Int) := by omega
              obtain ⟨kg, kq, rfl, hkg, c0⟩ := HKR.out _ _ _ HH.out k hlt
              have HKC : Hid (∀ wq u L', Has B w (BlockR tb [u] :: LR u L' :: rs) wq → wq.cell? ⟨kg, kq + k, none⟩ = some (.string (keyAt keys k))) := fun wq u L' hq => by
                obtain ⟨g2, o2, e2, _, c2⟩ := HKR.out wq u L' hq k hlt
                injection e2 with e2
                injection e2 with e3 e4 _
                subst e3 e4
                exact c2
              have hsz := HSZ.out k hlt
              have hms := HLS.out k
              have hml := HLN.out k hk
              have HIN : Hid (takeL L i (keys.take (k + 1)) = insL (takeL L i (keys.take k)) (keyAt keys k) i) := HSN.out k hlt
              have D1 := rHolder_any (tb := tb) (v := u) (L := takeL L i (keys.take k)) HH.out (by simp) (by simp) (keyAt keys k)
              clear HKR HSZ HLS HLN HSN
              generalize keyAt keys k = s at *
              generalize hM : takeL L i (keys.take k) = M at *
              clear hM
              by_cases h0 : who M s = 0
              · as_aux_lemma =>
                have HSP : Hid (∀ p, p ≤ M.length → (∀ j, j < p → ltK (lkAt M j).1 s = true) → (p < M.length → ltK (lkAt M p).1 s = false) → takeL L i (keys.take (k + 1)) = M.take p ++ [(s, i)] ++ M.drop p) := fun p a b c => by
                  have e := spot_is a b c
                  rw [HIN.out]
                  unfold insL
                  rw [if_pos h0, e]
                rw [h0] at D1
                have HMS : Hid (∀ j, j < M.length → (lkAt M j).1.size ≤ 1048576) := fun j hj => hms _ (by simp [lkAt, List.getD, hj])
                clear HIN h0 hms
                go_wp2_with fail
                refine D1.mono ?_
                rintro e w9 ⟨rfl, hw⟩
                rw [hw]
                clear hw w9 D1
                go_wp2_with fail
                go_loopw [12] (fun pv wq => ∃ p : Nat, p ≤ M.length ∧ pv = .int .i64 (p : Int) ∧ Hid (∀ j, j < p → ltK (lkAt M j).1 s = true) ∧ Hid (Has B w (BlockR tb [u] :: LR u M :: rs) wq)) (fun pv _ => M.length - (intOf pv).toNat)
                case atStart => exact ⟨0, Nat.zero_le _, rfl, fun j hj => absurd hj (Nat.not_lt_zero _), HH⟩
                case round =>
                  obtain ⟨p, hp, rfl, HP, HH3⟩ := hrel
                  clear HH c0
                  obtain ⟨ao, cap, rfl, hlen, hrow⟩ := HH3.out.lrow (v := u) (L := M) (by simp)
                  have c1 := HH3.out.bcell (q := tb) (vs := [.slice ao M.length cap]) (by simp) 0 _ rfl
                  have hcap : M.length ≤ cap := by
                    obtain ⟨_, _, e, hc, _⟩ := own_form (HH3.out.ownL (v := .slice ao M.length cap) (L := M) (by simp))
                    injection e with _ _ e
                    rw [e]; exact hc
                  by_cases hpl : p < M.length
                  · have hplI : (p : Int) < (M.length : Int) := by omega
                    obtain ⟨g, rfl, hg, d0, d1⟩ := hrow p hpl
                    have ck := HKC.out _ _ _ HH3.out
                    have HCO : Hid (Calls Tryd.prog 29 #[.string (lkAt M p).1, .string s] wr.drew fun e w' => e = .returned (.int .i64 (cfK (lkAt M p).1 s)) ∧ w'.cell? ⟨tb, 0, none⟩ = some (.slice (some ⟨g, 0, none⟩) M.length cap) ∧ w'.cell? ⟨g, p * 2, none⟩ = some (.string (lkAt M p).1) ∧ w'.cell? ⟨kg, kq + k, none⟩ = some (.string s) ∧ Hid (Has B w (BlockR tb [.slice (some ⟨g, 0, none⟩) M.length cap] :: LR (.slice (some ⟨g, 0, none⟩) M.length cap) M :: rs) w')) := by
                      refine (Nm.refCompare_any (lkAt M p).1 s (HMS.out p hpl) hsz wr.drew).mono ?_
                      rintro e w' ⟨rfl, hb⟩
                      have hh : Has B w (BlockR tb [.slice (some ⟨g, 0, none⟩) M.length cap] :: LR (.slice (some ⟨g, 0, none⟩) M.length cap) M :: rs) w' := (HH3.out.below (Below.refl _ _).drew).below hb
                      obtain ⟨_, _, e1, _, hr2⟩ := hh.lrow (v := .slice (some ⟨g, 0, none⟩) M.length cap) (L := M) (by simp)
                      injection e1 with e1 _ _
                      obtain ⟨g2, e2, _, d2, _⟩ := hr2 p hpl
                      rw [← e1] at e2
                      injection e2 with e2
                      injection e2 with e2 _ _
                      subst e2
                      exact ⟨rfl, hh.bcell (q := tb) (vs := [.slice (some ⟨g, 0, none⟩) M.length cap]) (by simp) 0 _ rfl, d2, HKC.out _ _ _ hh, hh⟩
                    have HP1 : Hid (ltK (lkAt M p).1 s = true → ∀ j, j < p + 1 → ltK (lkAt M j).1 s = true) := fun hh j hj => by
                      by_cases e : j = p
                      · rw [e]; exact hh
                      · exact HP.out j (by omega)
                    have HSP2 : Hid (ltK (lkAt M p).1 s = false → takeL L i (keys.take (k + 1)) = M.take p ++ [(s, i)] ++ M.drop p) := fun hh => HSP.out p hp HP.out (fun _ => hh)
                    by_cases hlt2 : ltK (lkAt M p).1 s = true
                    · as_aux_lemma =>
                      have HP3 : Hid (∀ j, j < p + 1 → ltK (lkAt M j).1 s = true) := HP1.out hlt2
                      have hcf : cfK (lkAt M p).1 s < 0 := by unfold ltK at hlt2; simpa using hlt2
                      clear HP1 HSP2 HP hlt2 hrow d1 HSP
                      generalize cfK (lkAt M p).1 s = cf at *
                      generalize (lkAt M p).1 = x at *
                      go_wp2_with fail
                      go_region_held3 (fun w' => w'.cell? ⟨tb, 0, none⟩ = some (.slice (some ⟨g, 0, none⟩) M.length cap) ∧ w'.cell? ⟨g, p * 2, none⟩ = some (.string x) ∧ w'.cell? ⟨kg, kq + k, none⟩ = some (.string s)) (go_keep) (first | (go_at_call 29; refine HCO.out.mono ?_; rintro e w2 ⟨rfl, n1, n2, n3, HH4⟩))
                      clear n1 n2 n3 HCO c1 d0 ck HH3
                      go_wp2_with fail
                      exact ⟨⟨p + 1, by omega, by go_num, HP3, HH4⟩, by simp [intOf]; omega⟩
                    · as_aux_lemma =>
                      have HEQ : Hid (takeL L i (keys.take (k + 1)) = M.take p ++ [(s, i)] ++ M.drop p) := HSP2.out (by simpa using hlt2)
                      have hcf : ¬ cfK (lkAt M p).1 s < 0 := by unfold ltK at hlt2; simpa using hlt2
                      clear HP1 HSP2 HP hlt2 hrow d1 HSP
                      generalize cfK (lkAt M p).1 s = cf at *
                      generalize (lkAt M p).1 = x at *
                      go_wp2_with fail
                      go_region_held3 (fun w' => w'.cell? ⟨tb, 0, none⟩ = some (.slice (some ⟨g, 0, none⟩) M.length cap) ∧ w'.cell? ⟨g, p * 2, none⟩ = some (.string x) ∧ w'.cell? ⟨kg, kq + k, none⟩ = some (.string s)) (go_keep) (first | (go_at_call 29; refine HCO.out.mono ?_; rintro e w2 ⟨rfl, n1, n2, n3, HH4⟩))
                      clear n1 n2 n3 HCO c1 d0 ck HH3
                      have HC2 : Hid (∀ (w' : World), Below w2.heap.size w2 w' → w'.cell? ⟨tb, 0, none⟩ = some (.slice (some ⟨g, 0, none⟩) M.length cap) ∧ w'.frozen? ⟨tb, 0, none⟩ = false ∧ w'.cell? ⟨kg, kq + k, none⟩ = some (.string s) ∧ ∀ j, w'.cell? ⟨g, j, none⟩ = w2.cell? ⟨g, j, none⟩) := fun w' hb' => by
                        have hh := HH4.out.below hb'
                        exact ⟨hh.bcell (q := tb) (vs := [.slice (some ⟨g, 0, none⟩) M.length cap]) (by simp) 0 _ rfl, hh.bfree (q := tb) (vs := [.slice (some ⟨g, 0, none⟩) M.length cap]) (by simp) 0 _ rfl, HKC.out _ _ _ hh, fun j => hb'.cell (p := ⟨g, j, none⟩) ((HH4.out.ownL (v := .slice (some ⟨g, 0, none⟩) M.length cap) (L := M) (by simp)).lt g rfl).2⟩
                      have hown := HH4.out.ownL (v := .slice (some ⟨g, 0, none⟩) M.length cap) (L := M) (by simp)
                      obtain ⟨ad, hA, hsrc⟩ := rest_cells hown p hp
                      rw [if_neg (by omega)] at hA
                      cases hA
                      have hkc3 : ¬ cap = p := by omega
                      have HSRC : Hid (∀ (w' : World), (∀ j, w'.cell? ⟨g, j, none⟩ = w2.cell? ⟨g, j, none⟩) → ∀ j u, (lcells (M.drop p))[j]? = some u → w'.cell? ((⟨g, p * 2, none⟩ : Addr).add j) = some u) := hsrc
                      have HT : Hid (∀ j u, (lcells (M.take p))[j]? = some u → w2.cell? ((⟨g, 0, none⟩ : Addr).add j) = some u) := fun j u hu => (own_cut hown (m := p) hp).cells (g := g) rfl j u (by rw [lcells_take M p hp]; exact hu)
                      have L1 : Hid ((lcells (M.take p)).length = p * 2) := by show _ = _; rw [lcells_len, List.length_take]; omega
                      have L2 : Hid ((lcells (M.drop p)).length = (M.length - p) * 2) := by show _ = _; rw [lcells_len, List.length_drop]
                      have hpc : p ≤ cap := by omega
                      have i8 : (p : Int) ≤ (cap : Int) := by omega
                      have i9 : (p : Int) ≤ (M.length : Int) := by omega
                      obtain ⟨cb, cf2, ck2, _⟩ := HC2.out w2 (Below.refl _ _)
                      clear hown hsrc
                      go_wp2_with (at_builtin; refine wpList_append_any _ rfl _ _ 50 rfl w2.heap.size 55 i0 (.agg #[.string ⟨#[]⟩, .int .i64 0]) 2 24 Tryd.underlying50 z0 z1 z2 z3 rfl (by decide) w2 (Below.refl _ _) (Nat.le_refl _) _ 0 [] rfl (World.ownsRow_nil _ _ _ _) (some ⟨g, 0, none⟩) p cap (lcells (M.take p)) rfl L1.out (Or.inr ⟨_, rfl, HT.out⟩) (lcells_one _) (by unfold maxLen; omega) (by omega) ?_)
                      intro ao3 cap3 w3 o3 b3 s3
                      obtain ⟨cb3, cf3, ck3, _⟩ := HC2.out w3 b3
                      clear cb cf2 ck2
                      go_wp2_with (at_builtin; refine wpList_append_any _ rfl _ _ 50 rfl w2.heap.size 55 i0 (.agg #[.string ⟨#[]⟩, .int .i64 0]) 2 24 Tryd.underlying50 z0 z1 z2 z3 rfl (by decide) w2 (b3.alloc s3 _) (by simp; omega) _ p (lcells (M.take p)) rfl (o3.alloc _) (some ⟨w3.heap.size, 0, none⟩) 1 1 [.string s, .int .i64 i] rfl rfl (Or.inr ⟨_, rfl, two_new _ _ _ _⟩) (two_one _ _) (by unfold maxLen; omega) (by omega) ?_)
                      intro ao4 cap4 w4 o4 b4 s4
                      obtain ⟨cb4, cf4, _, cg4⟩ := HC2.out w4 b4
                      have HG4 : Hid (∀ j, w4.cell? ⟨g, j, none⟩ = w2.cell? ⟨g, j, none⟩) := cg4
                      clear cb3 cf3 ck3 cg4 o3 b3 s3
                      go_wp2_with (at_builtin; refine wpList_append_any _ rfl _ _ 50 rfl w2.heap.size 55 i0 (.agg #[.string ⟨#[]⟩, .int .i64 0]) 2 24 Tryd.underlying50 z0 z1 z2 z3 rfl (by decide) w2 b4 s4 (.slice ao4 (p + 1) cap4) (p + 1) (lcells (M.take p) ++ [.string s, .int .i64 i]) (by first | rfl | simp [Act.eval]) o4 (some ⟨g, p * 2, none⟩) (M.length - p) (cap - p) (lcells (M.drop p)) (by first | rfl | simp [Act.eval]) L2.out (Or.inr ⟨_, rfl, HSRC.out _ HG4.out⟩) (lcells_one _) (by unfold maxLen; omega) (by omega) ?_)
                      intro ao5 cap5 w5 o5 b5 s5
                      obtain ⟨cb5, cf5, _⟩ := HC2.out w5 b5
                      have HO : Hid (Has B w (BlockR tb [.slice ao5 (p + 1 + (M.length - p)) cap5] :: LR (.slice ao5 (p + 1 + (M.length - p)) cap5) (takeL L i (keys.take (k + 1))) :: rs) (w5.setCell ⟨tb, 0, none⟩ (.slice ao5 (p + 1 + (M.length - p)) cap5))) := by
                        refine Has.turnL (n5 := 0) HH4.out b5 rfl ?_
                        rw [HEQ.out]
                        refine own_cast ?_ ?_ o5
                        · simp; omega
                        · rw [lcells_append, lcells_append, List.append_assoc]; rfl
                      clear o4 o5 b4 b5 s4 s5 cb4 cf4 HC2 HT HSRC HG4 HH4
                      go_wp2_with fail
                      exact ⟨⟨k + 1, _, by omega, by go_num, HO⟩, by simp [intOf]; omega⟩
                  · have hpe : p = M.length := by omega
                    have hplI : ¬ (p : Int) < (M.length : Int) := by omega
                    have hplD : decide ((p : Int) < (M.length : Int)) = false := by simp; omega
                    have HEQ : Hid (takeL L i (keys.take (k + 1)) = M.take p ++ [(s, i)] ++ M.drop p) := HSP.out p hp HP.out (fun h => absurd h hpl)
                    cases ao with
                    | none =>
                      as_aux_lemma =>
                      have hM0 : M.length = 0 ∧ cap = 0 := by
                        obtain ⟨_, _, e, _, hn0, _⟩ := own_form (HH3.out.ownL (v := .slice none M.length cap) (L := M) (by simp))
                        injection e with e1 _ e3
                        rw [e3]
                        exact hn0 e1.symm
                      obtain ⟨hM1, rfl⟩ := hM0
                      have hMn : M = [] := List.eq_nil_of_length_eq_zero hM1
                      subst hMn
                      obtain rfl : p = 0 := by simpa using hpe
                      simp only [List.length_nil] at c1
                      clear hpe hplI hplD hp hM1 hrow HSP HP hcap hlen hpl
                      go_wp2_with fail
                      go_quiet (fail)
                      rename_i nq
                      have HH4 : Hid (Has B w (BlockR tb [.slice none 0 0] :: LR (.slice none 0 0) [] :: rs) (wr.drewN nq)) := HH3.out.below (below_drewN (Below.refl _ _) nq)
                      obtain ⟨w2, hw2⟩ : ∃ w2, w2 = wr.drewN nq := ⟨_, rfl⟩
                      rw [← hw2] at HH4 ⊢
                      clear hw2 c1 HH3
                      have HC2 : Hid (∀ (w' : World), Below w2.heap.size w2 w' → w'.cell? ⟨tb, 0, none⟩ = some (.slice none 0 0) ∧ w'.frozen? ⟨tb, 0, none⟩ = false ∧ w'.cell? ⟨kg, kq + k, none⟩ = some (.string s)) := fun w' hb' => by
                        have hh := HH4.out.below hb'
                        exact ⟨hh.bcell (q := tb) (vs := [.slice none 0 0]) (by simp) 0 _ rfl, hh.bfree (q := tb) (vs := [.slice none 0 0]) (by simp) 0 _ rfl, HKC.out _ _ _ hh⟩
                      obtain ⟨cb, cf2, ck2⟩ := HC2.out w2 (Below.refl _ _)
                      go_wp2_with (at_builtin; refine wpList_append_any _ rfl _ _ 50 rfl w2.heap.size 55 i0 (.agg #[.string ⟨#[]⟩, .int .i64 0]) 2 24 Tryd.underlying50 z0 z1 z2 z3 rfl (by decide) w2 (Below.refl _ _) (Nat.le_refl _) (.slice none 0 0) 0 [] (by first | rfl | simp [Act.eval]) (World.ownsRow_nil _ _ _ _) none 0 0 [] (by first | rfl | simp [Act.eval]) rfl (Or.inl ⟨rfl, rfl, rfl⟩) (fun u hu => by cases hu) (by unfold maxLen; omega) (by omega) ?_)
                      intro ao3 cap3 w3 o3 b3 s3
                      obtain ⟨cb3, cf3, ck3⟩ := HC2.out w3 b3
                      clear cb cf2 ck2
                      go_wp2_with (at_builtin; refine wpList_append_any _ rfl _ _ 50 rfl w2.heap.size 55 i0 (.agg #[.string ⟨#[]⟩, .int .i64 0]) 2 24 Tryd.underlying50 z0 z1 z2 z3 rfl (by decide) w2 (b3.alloc s3 _) (by simp; omega) _ 0 [] rfl (o3.alloc _) (some ⟨w3.heap.size, 0, none⟩) 1 1 [.string s, .int .i64 i] rfl rfl (Or.inr ⟨_, rfl, two_new _ _ _ _⟩) (two_one _ _) (by unfold maxLen; omega) (by omega) ?_)
                      intro ao4 cap4 w4 o4 b4 s4
                      obtain ⟨cb4, cf4, _⟩ := HC2.out w4 b4
                      clear cb3 cf3 ck3 o3 b3 s3
                      go_wp2_with (at_builtin; refine wpList_append_any _ rfl _ _ 50 rfl w2.heap.size 55 i0 (.agg #[.string ⟨#[]⟩, .int .i64 0]) 2 24 Tryd.underlying50 z0 z1 z2 z3 rfl (by decide) w2 b4 s4 (.slice ao4 1 cap4) 1 [.string s, .int .i64 i] (by first | rfl | simp [Act.eval]) o4 none 0 0 [] (by first | rfl | simp [Act.eval]) rfl (Or.inl ⟨rfl, rfl, rfl⟩) (fun u hu => by cases hu) (by unfold maxLen; omega) (by omega) ?_)
                      intro ao5 cap5 w5 o5 b5 s5
                      obtain ⟨cb5, cf5, _⟩ := HC2.out w5 b5
                      have HO : Hid (Has B w (BlockR tb [.slice ao5 1 cap5] :: LR (.slice ao5 1 cap5) (takeL L i (keys.take (k + 1))) :: rs) (w5.setCell ⟨tb, 0, none⟩ (.slice ao5 1 cap5))) := by
                        refine Has.turnL (n5 := 0) HH4.out b5 rfl ?_
                        rw [HEQ.out]
                        exact o5
                      clear o4 o5 b4 b5 s4 s5 cb4 cf4 HC2 HH4
                      go_wp2_with fail
                      exact ⟨⟨k + 1, _, by omega, by go_num, HO⟩, by simp [intOf]; omega⟩
                    | some pp =>
                      as_aux_lemma =>
                      obtain ⟨g, rfl⟩ : ∃ g, pp = ⟨g, 0, none⟩ := by
                        obtain ⟨_, _, he, _, _, h3⟩ := own_form (HH3.out.ownL (v := .slice (some pp) M.length cap) (L := M) (by simp))
                        cases he
                        obtain ⟨g, hg, _⟩ := h3 pp rfl
                        exact ⟨g, hg⟩
                      clear hrow HSP HP hpe
                      go_wp2_with fail
                      go_quiet (fail)
                      rename_i nq
                      have HH4 : Hid (Has B w (BlockR tb [.slice (some ⟨g, 0, none⟩) M.length cap] :: LR (.slice (some ⟨g, 0, none⟩) M.length cap) M :: rs) (wr.drewN nq)) := HH3.out.below (below_drewN (Below.refl _ _) nq)
                      obtain ⟨w2, hw2⟩ : ∃ w2, w2 = wr.drewN nq := ⟨_, rfl⟩
                      rw [← hw2] at HH4 ⊢
                      clear hw2 c1 HH3
                      have HC2 : Hid (∀ (w' : World), Below w2.heap.size w2 w' → w'.cell? ⟨tb, 0, none⟩ = some (.slice (some ⟨g, 0, none⟩) M.length cap) ∧ w'.frozen? ⟨tb, 0, none⟩ = false ∧ w'.cell? ⟨kg, kq + k, none⟩ = some (.string s) ∧ ∀ j, w'.cell? ⟨g, j, none⟩ = w2.cell? ⟨g, j, none⟩) := fun w' hb' => by
                        have hh := HH4.out.below hb'
                        exact ⟨hh.bcell (q := tb) (vs := [.slice (some ⟨g, 0, none⟩) M.length cap]) (by simp) 0 _ rfl, hh.bfree (q := tb) (vs := [.slice (some ⟨g, 0, none⟩) M.length cap]) (by simp) 0 _ rfl, HKC.out _ _ _ hh, fun j => hb'.cell (p := ⟨g, j, none⟩) ((HH4.out.ownL (v := .slice (some ⟨g, 0, none⟩) M.length cap) (L := M) (by simp)).lt g rfl).2⟩
                      have hown := HH4.out.ownL (v := .slice (some ⟨g, 0, none⟩) M.length cap) (L := M) (by simp)
                      obtain ⟨ad, hA, hsrc⟩ := rest_cells hown p hp
                      have HSRC : Hid (∀ (w' : World), (∀ j, w'.cell? ⟨g, j, none⟩ = w2.cell? ⟨g, j, none⟩) → ∀ j u, (lcells (M.drop p))[j]? = some u → w'.cell? (ad.add j) = some u) := hsrc
                      have HT : Hid (∀ j u, (lcells (M.take p))[j]? = some u → w2.cell? ((⟨g, 0, none⟩ : Addr).add j) = some u) := fun j u hu => (own_cut hown (m := p) hp).cells (g := g) rfl j u (by rw [lcells_take M p hp]; exact hu)
                      have L1 : Hid ((lcells (M.take p)).length = p * 2) := by show _ = _; rw [lcells_len, List.length_take]; omega
                      have L2 : Hid ((lcells (M.drop p)).length = (M.length - p) * 2) := by show _ = _; rw [lcells_len, List.length_drop]
                      have hpc : p ≤ cap := by omega
                      have i8 : (p : Int) ≤ (cap : Int) := by omega
                      have i9 : (p : Int) ≤ (M.length : Int) := by omega
                      obtain ⟨cb, cf2, ck2, _⟩ := HC2.out w2 (Below.refl _ _)
                      clear hown hsrc
                      go_wp2_with (at_builtin; refine wpList_append_any _ rfl _ _ 50 rfl w2.heap.size 55 i0 (.agg #[.string ⟨#[]⟩, .int .i64 0]) 2 24 Tryd.underlying50 z0 z1 z2 z3 rfl (by decide) w2 (Below.refl _ _) (Nat.le_refl _) _ 0 [] rfl (World.ownsRow_nil _ _ _ _) (some ⟨g, 0, none⟩) p cap (lcells (M.take p)) rfl L1.out (Or.inr ⟨_, rfl, HT.out⟩) (lcells_one _) (by unfold maxLen; omega) (by omega) ?_)
                      intro ao3 cap3 w3 o3 b3 s3
                      obtain ⟨cb3, cf3, ck3, _⟩ := HC2.out w3 b3
                      clear cb cf2 ck2
                      go_wp2_with (at_builtin; refine wpList_append_any _ rfl _ _ 50 rfl w2.heap.size 55 i0 (.agg #[.string ⟨#[]⟩, .int .i64 0]) 2 24 Tryd.underlying50 z0 z1 z2 z3 rfl (by decide) w2 (b3.alloc s3 _) (by simp; omega) _ p (lcells (M.take p)) rfl (o3.alloc _) (some ⟨w3.heap.size, 0, none⟩) 1 1 [.string s, .int .i64 i] rfl rfl (Or.inr ⟨_, rfl, two_new _ _ _ _⟩) (two_one _ _) (by unfold maxLen; omega) (by omega) ?_)
                      intro ao4 cap4 w4 o4 b4 s4
                      obtain ⟨cb4, cf4, _, cg4⟩ := HC2.out w4 b4
                      have HG4 : Hid (∀ j, w4.cell? ⟨g, j, none⟩ = w2.cell? ⟨g, j, none⟩) := cg4
                      clear cb3 cf3 ck3 cg4 o3 b3 s3
                      go_wp2_with (at_builtin; refine wpList_append_any _ rfl _ _ 50 rfl w2.heap.size 55 i0 (.agg #[.string ⟨#[]⟩, .int .i64 0]) 2 24 Tryd.underlying50 z0 z1 z2 z3 rfl (by decide) w2 b4 s4 (.slice ao4 (p + 1) cap4) (p + 1) (lcells (M.take p) ++ [.string s, .int .i64 i]) (by first | rfl | simp [Act.eval]) o4 (some ad) (M.length - p) (cap - p) (lcells (M.drop p)) (by first | rfl | simp [Act.eval]) L2.out (Or.inr ⟨_, rfl, HSRC.out _ HG4.out⟩) (lcells_one _) (by unfold maxLen; omega) (by omega) ?_)
                      intro ao5 cap5 w5 o5 b5 s5
                      obtain ⟨cb5, cf5, _⟩ := HC2.out w5 b5
                      have HO : Hid (Has B w (BlockR tb [.slice ao5 (p + 1 + (M.length - p)) cap5] :: LR (.slice ao5 (p + 1 + (M.length - p)) cap5) (takeL L i (keys.take (k + 1))) :: rs) (w5.setCell ⟨tb, 0, none⟩ (.slice ao5 (p + 1 + (M.length - p)) cap5))) := by
                        refine Has.turnL (n5 := 0) HH4.out b5 rfl ?_
                        rw [HEQ.out]
                        refine own_cast ?_ ?_ o5
                        · simp; omega
                        · rw [lcells_append, lcells_append, List.append_assoc]; rfl
                      clear o4 o5 b4 b5 s4 s5 cb4 cf4 HC2 HT HSRC HG4 HH4
                      go_wp2_with fail
                      exact ⟨⟨k + 1, _, by omega, by go_num, HO⟩, by simp [intOf]; omega⟩
              · as_aux_lemma =>
                have HN : Hid (Has B w (BlockR tb [u] :: LR u (takeL L i (keys.take (k + 1))) :: rs) wr) := by
                  have e : takeL L i (keys.take (k + 1)) = M := by
                    rw [HIN.out]; unfold insL; rw [if_neg h0]
                  rw [e]; exact HH.out
                have hb0 : (who M s == 0) = false := by simpa using h0
                clear HIN h0 HH hms
                generalize who M s = t at *
                go_wp2_with fail
                refine D1.mono ?_
                rintro e w9 ⟨rfl, hw⟩
                rw [hw]
                clear hw w9 D1
                go_wp2_with fail
                exact ⟨⟨k + 1, u, by omega, by go_num, HN⟩, by simp [intOf]; omega⟩
            · have hltJ : ¬ (k : Int) < (keys.length : Int) := by omega
              have HE : Hid (Has B w (BlockR tb [u] :: LR u (takeL L i keys) :: rs) wr) := by
                have x := HH.out
                rw [show k = keys.length by omega, List.take_length] at x
                exact x
              clear HH HKR HSZ HLS HLN HSN
              go_wp2_with fail
              go_ret2
              exact ⟨rfl, u, HE.out⟩
end Go.Proofs.YthdloddcljbjhaaDoor
