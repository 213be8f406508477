/- A table and the document's beside it, as one state; twin; filled. -/
import Derived.Test.YthdloddcljbjhaaDoorRefF
set_option linter.unusedVariables false
set_option maxRecDepth 100000
namespace Go.Proofs.YthdloddcljbjhaaDoor
open Go.RowKit CheckMath

/-- The table's own block and map, the document's block and row, and what lies beside them. -/
abbrev St (tb n : Nat) (T : Hd) (xb : Nat) (v : Value) (L : List Lk) (rs : List Res) : List Res := TabR tb n T :: BlockR xb [v] :: LR v L :: rs
theorem st_perm {tb n : Nat} {T : Hd} {xb : Nat} {v : Value} {L : List Lk} {r : Res} {rs : List Res} : (r :: St tb n T xb v L rs).Perm (St tb n T xb v L (r :: rs)) := (List.perm_middle (l₁ := [_, _, _]) (l₂ := rs) (a := r)).symm
theorem st_ref {tb n : Nat} {T : Hd} {xb : Nat} {v : Value} {L : List Lk} {rs : List Res} : (St tb n T xb v L rs).Perm (BlockR xb [v] :: LR v L :: TabR tb n T :: rs) := (List.perm_middle (l₁ := [BlockR xb [v], LR v L]) (l₂ := rs) (a := TabR tb n T)).symm
section
variable {w : World} {tb n : Nat} {T : Hd} {xb : Nat} {v : Value} {L : List Lk} {rs : List Res} {wq : World}
theorem heldP (hS : ∀ rs, Sorts w.heap.size w rs SortTo) (h : Has w.heap.size w (St tb n T xb v L rs) wq) (i : Int) (hn : n ≤ 1048576) (hz : Names T) :
    Calls Tryd.prog 18 #[.pointer (some ⟨tb, 0, none⟩), .int .i64 i] wq fun e w' => ∃ (K : List ByteArray) (k : Value), Hid (HeldOf T i K) ∧ K.length ≤ n ∧ e = .returned k ∧ Hid (Has w.heap.size w (St tb n T xb v L (KR k K :: rs)) w') :=
  (held_of h i hn hz (hS _)).mono (fun e w' ⟨K, k, hK, hl, he, hh⟩ => ⟨K, k, hK, hl, he, hh.perm st_perm⟩)
theorem heldR (h : Has w.heap.size w (St tb n T xb v L rs) wq) (hl : Like T L) (i : Int) (K : List ByteArray) (hK : HeldOf T i K) (hn : L.length ≤ 1048576) :
    Calls Tryd.prog 19 #[.pointer (some ⟨xb, 0, none⟩), .int .i64 i] wq fun e w' => ∃ u, e = .returned u ∧ Hid (Has w.heap.size w (St tb n T xb v L (KR u K :: rs)) w') := by
  refine (rHeld_any (h.perm st_ref) i hn).mono ?_
  rintro e w' ⟨u, rfl, hh⟩
  rw [(hl.held i).uniq hK] at hh
  exact ⟨u, rfl, (hh.perm (List.Perm.cons _ st_ref.symm)).perm st_perm⟩
theorem sameP (h : Has w.heap.size w (St tb n T xb v L rs) wq) {a b : Value} {K : List ByteArray} (ha : KR a K ∈ rs) (hb : KR b K ∈ rs) (hl : K.length ≤ 140737488355328) (hs : ∀ s, s ∈ K → s.size ≤ 140737488355328) :
    Calls Tryd.prog 12 #[a, b] wq fun e w' => e = .returned (.bool true) ∧ Hid (Has w.heap.size w (St tb n T xb v L rs) w') :=
  same_in h (by simp [ha]) (by simp [hb]) hl hs
end
set_option maxHeartbeats 4000000 in
theorem filled_own (w : World) (B n : Nat) (v : Value) (xs : List Value) (hown : w.ownsRow B 9 1 v n xs) (hn : n ≤ 4194304) :
    Calls Tryd.prog 13 #[v] w fun e w' => e = .returned (.tuple #[]) ∧ Chg (fun k => v.ownBlock = some k) w w' := by
  obtain ⟨i0, hi, hz0, hz1, hz2⟩ := info_parts infoS
  obtain ⟨ao, cap, rfl, _⟩ := own_form hown
  generalize hV : (Value.slice ao n cap).ownBlock = vb at *
  have HV : Hid ((Value.slice ao n cap).ownBlock = vb) := hV
  have HO : Hid (w.ownsRow B 9 1 (.slice ao n cap) n xs) := hown
  clear hown hV
  go_enter Tryd.func13, Tryd.ntmps13
  go_wp2
  go_loopw [2] (fun i wr => ∃ (k : Nat) (ys : List Value), k ≤ n ∧ i = .int .i64 k ∧ Hid (wr.ownsRow B 9 1 (.slice ao n cap) n ys) ∧ Hid (Chg (fun k => vb = some k) w wr)) (fun i _ => n - (intOf i).toNat)
  case atStart => exact ⟨0, xs, Nat.zero_le _, rfl, HO, Chg.refl _ _⟩
  case round =>
    obtain ⟨k, ys, hk, rfl, HR, HC⟩ := hrel
    by_cases hlt : k < n
    · obtain ⟨_, _, hv, _, h0, hr⟩ := own_form HR.out
      cases hv
      cases ao with
      | none => have := (h0 rfl).1; omega
      | some p =>
        obtain ⟨g, rfl, _, _, hc, hf, _⟩ := hr p rfl
        have hyl : ys.length = n := HR.out.1.trans (Nat.mul_one n)
        have hck := hc k (by omega)
        rw [List.getElem?_eq_getElem (by omega)] at hck
        generalize ys[k]'(by omega) = y at *
        have hfk := hf k
        have i1 : (k : Int) < (n : Int) := by omega
        clear hc hf hr h0
        go_wp2
        refine ⟨⟨k + 1, _, by omega, by go_num, own_set HR.out k _, ?_⟩, by simp [intOf]; omega⟩
        refine HC.out.trans (Chg.mono (chg_set _ _ _) (T := fun k => vb = some k) ?_) (fun _ _ h => h)
        rintro _ _ rfl
        exact HV.out.symm
    · obtain rfl : k = n := by omega
      have hr := HR.out
      go_wp2_with (at_builtin; refine wpList_append_more _ rfl _ _ 27 rfl B 9 i0 (.string ⟨#[]⟩) 1 16 Tryd.underlying27 hi hz0 hz1 hz2 rfl (by decide) _ _ _ rfl (hr.alloc _) ⟨_, 0, none⟩ 2 2 [.string ⟨#[111, 118, 101, 114]⟩, .string ⟨#[111, 118, 101, 114]⟩] rfl rfl (two_new _ _ _ _) (by intro u hu; simp at hu; subst hu; rfl) (by decide) (by unfold maxLen; omega) (by omega) ?_)
      intro g' cap' w5 hown' hat hchg
      have hat2 : Hid (vb = some g' ∨ wr.heap.size < g') := by
        rcases hat with h | h
        · exact Or.inl (HV.out.symm.trans h)
        · refine Or.inr ?_
          have h2 := World.size_alloc wr (.cells #[.string ⟨#[111, 118, 101, 114]⟩, .string ⟨#[111, 118, 101, 114]⟩] 9)
          omega
      have HC5 : Hid (Chg (fun j => vb = some j) w w5) := by
        refine (HC.out.trans (chg_below ((Below.refl _ _).alloc (Nat.le_refl _) _)) (fun _ _ h => h)).trans hchg (fun j _ h => ?_)
        exact HV.out.symm.trans h
      obtain ⟨M, hM⟩ : ∃ M, k + 2 = M + 1 := ⟨k + 1, rfl⟩
      have hc5 := hown'.cellAt M (by omega)
      have hf5 := hown'.frozenAt M
      have hl5 := hown'.1
      rw [List.getElem?_eq_getElem (by omega)] at hc5
      generalize (ys ++ [Value.string ⟨#[111, 118, 101, 114]⟩, Value.string ⟨#[111, 118, 101, 114]⟩])[M]'(by omega) = y at hc5
      rw [hM]
      have hMn : M ≤ 4194305 := by omega
      have HS : Hid (w.heap.size ≤ wr.heap.size) := HC.out.size
      clear hown' hat hchg hl5 HC hr HR HO
      go_wp2
      refine bodyPost_end (results_none rfl _ _ _) rfl ?_
      refine ⟨rfl, HC5.out.trans (chg_set _ _ _) ?_⟩
      rintro j hj rfl
      rcases hat2.out with h | h
      · exact h
      · have := HS.out
        omega
theorem filled_any {B : Nat} {w wr : World} {rs : List Res} {u : Value} {l : List ByteArray} (h : Has B w (KR u l :: rs) wr) (hn : l.length ≤ 4194304) :
    Calls Tryd.prog 13 #[u] wr fun e w' => e = .returned (.tuple #[]) ∧ Has B w rs w' := by
  refine (filled_own wr 0 l.length u _ (h.ownK List.mem_cons_self) hn).mono ?_
  rintro e w' ⟨rfl, hc⟩
  refine ⟨rfl, h.turn (new := []) ?_⟩
  rintro F ⟨_, rfl⟩
  exact ⟨fun _ => False, fun k => id, hc, fun k hk => hk.elim⟩
theorem fillP {w : World} {tb n : Nat} {T : Hd} {xb : Nat} {v : Value} {L : List Lk} {rs : List Res} {wq : World} {u : Value} {l : List ByteArray} (h : Has w.heap.size w (St tb n T xb v L (KR u l :: rs)) wq) (hn : l.length ≤ 4194304) :
    Calls Tryd.prog 13 #[u] wq fun e w' => e = .returned (.tuple #[]) ∧ Hid (Has w.heap.size w (St tb n T xb v L rs) w') := filled_any (h.perm st_perm.symm) hn
/-- The document's row behind twin. -/
def L1 : List Lk := takeL [] 900001 [zz2, zz1]
def L0 : List Lk := takeL L1 900002 [zz3]
theorem like1 : Like T1 L1 := Like.take (by decide) [zz2, zz1] like_nil (fun s h => absurd rfl h) (by simp [zz_name]) (by intro s hs; simp at hs; rcases hs with rfl | rfl <;> decide) (fun s hs => Or.inl rfl)
theorem names1 : Names T1 := names_took (fun s h => absurd rfl h) 900001 (by simp [zz_name]) (by intro s hs; simp at hs; rcases hs with rfl | rfl <;> decide)
theorem like0 : Like T0 L0 := Like.take (by decide) [zz3] like1 names1 (by simp [zz_name]) (by intro s hs; simp at hs; subst hs; decide) (fun s hs => first_none first3 s hs)
theorem len1 : L1.length ≤ 2 := takeL_len [] 900001 [zz2, zz1]
theorem len0 : L0.length ≤ 3 := Nat.le_trans (takeL_len L1 900002 [zz3]) (Nat.succ_le_succ len1)
set_option maxHeartbeats 4000000 in
theorem twin_any {B : Nat} {w wr : World} {rs : List Res} (h : Has B w rs wr) : Calls Tryd.prog 8 #[] wr fun e w' => ∃ xb v, e = .returned (.pointer (some ⟨xb, 0, none⟩)) ∧ Has B w (BlockR xb [v] :: LR v L0 :: rs) w' := by
  have M1 : ∀ s, s ∈ [zz2, zz1] → s.size ≤ 1048576 := by intro s hs; simp at hs; rcases hs with rfl | rfl <;> decide
  have M3 : ∀ s, s ∈ [zz3] → s.size ≤ 1048576 := by intro s hs; simp at hs; subst hs; decide
  have C0 : Hid (Calls Tryd.prog 25 #[] wr fun e w' => ∃ xb, e = .returned (.pointer (some ⟨xb, 0, none⟩)) ∧ Hid (Has B w (BlockR xb [.slice none 0 0] :: LR (.slice none 0 0) [] :: rs) w')) := rNew_any h
  have C1 : Hid (∀ xb wq, Has B w (BlockR xb [.slice none 0 0] :: LR (.slice none 0 0) [] :: rs) wq → Calls Tryd.prog 11 #[.pointer (some ⟨xb, 0, none⟩), .int .i64 900001, .slice (some ⟨wq.heap.size, 0, none⟩) 2 2] (wq.alloc (.cells #[.string ⟨#[122, 122, 45, 50]⟩, .string ⟨#[122, 122, 45, 49]⟩] 9)) fun e w' => e = .returned (.tuple #[.string ⟨#[]⟩, .bool true]) ∧ ∃ v, Hid (Has B w (BlockR xb [v] :: LR v L1 :: rs) w')) := fun xb wq h => by
    have hb := (h.box ([zz2, zz1].map fun s => Value.string s) 9).perm ((List.perm_middle (l₁ := [_, _]) (l₂ := rs)).symm)
    refine (rTake_yes hb 900001 (by decide) (by decide) _ [zz2, zz1] (by simp [zz_name]) M1 (fun x hx => by cases hx) (fun s hs => Or.inl rfl) (fun wq u L' hq => hq.litK (by simp) (by decide) M1) (by decide)).mono ?_
    rintro e w' ⟨u, rfl, hh⟩
    exact ⟨rfl, u, (hh.perm (List.perm_middle (l₁ := [_, _]) (l₂ := rs))).drop⟩
  have C2 : Hid (∀ xb wq v, Has B w (BlockR xb [v] :: LR v L1 :: rs) wq → Calls Tryd.prog 11 #[.pointer (some ⟨xb, 0, none⟩), .int .i64 900002, .slice (some ⟨wq.heap.size, 0, none⟩) 1 1] (wq.alloc (.cells #[.string ⟨#[122, 122, 45, 51]⟩] 9)) fun e w' => e = .returned (.tuple #[.string ⟨#[]⟩, .bool true]) ∧ ∃ v, Hid (Has B w (BlockR xb [v] :: LR v L0 :: rs) w')) := fun xb wq v h => by
    have hb := (h.box ([zz3].map fun s => Value.string s) 9).perm ((List.perm_middle (l₁ := [_, _]) (l₂ := rs)).symm)
    refine (rTake_yes hb 900002 (by decide) (by decide) _ [zz3] (by simp [zz_name]) M3 (like_small like1 names1) (fun s hs => by rw [like1.eq]; exact first_none first3 s hs) (fun wq u L' hq => hq.litK (by simp) (by decide) M3) (by have := len1; simp; omega)).mono ?_
    rintro e w' ⟨u, rfl, hh⟩
    exact ⟨rfl, u, (hh.perm (List.perm_middle (l₁ := [_, _]) (l₂ := rs))).drop⟩
  clear h M1 M3
  go_enter Tryd.func8, Tryd.ntmps8
  go_wp2_with fail
  refine C0.out.mono ?_
  rintro e w1 ⟨xb, rfl, h1⟩
  have D1 := C1.out xb w1 h1.out
  clear C0 C1 h1
  go_wp2_with fail
  refine D1.mono ?_
  rintro e w2 ⟨rfl, v2, h2⟩
  have D2 := C2.out xb w2 v2 h2.out
  clear D1 C2 h2
  go_wp2_with fail
  refine D2.mono ?_
  rintro e w3 ⟨rfl, v3, h3⟩
  clear D2
  go_wp2_with fail
  go_ret
  exact ⟨xb, v3, rfl, h3.out⟩
end Go.Proofs.YthdloddcljbjhaaDoor
