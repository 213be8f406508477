/- A retry of the program's in memory; the walks of New, Delay, the fields' functions, waits, waitOn. -/
import Derived.Test.YteadnjagandkfaaRCallW
set_option linter.unusedVariables false
set_option maxRecDepth 100000
namespace Go.Proofs.Yteadnjagandkfaa
open Go.RowKit
open WheelMath RetryMath
open Go.Maps (Keyed)

/-- The cells of a retry: how long, when, the deadline, the tries, the wheels. -/
def rcells (qt bm ba bb : Nat) (dl : Int) : List Value := [.func (.func 28) #[] #[.pointer (some ⟨qt, 0, none⟩)], .func (.func 30) #[] #[], .int .i64 dl, .map (some bm), .pointer (some ⟨ba, 0, none⟩), .pointer (some ⟨bb, 0, none⟩)]
/-- Where it lies. -/
structure Pl where
  q : Nat
  qt : Nat
  bm : Nat
  ba : Nat
  bb : Nat
  v : Value
abbrev Rt (p : Pl) (n : Nat) (tab : List Int) (dl : Int) (f : Tb) (ra rl : List T) (rs : List Res) : List Res :=
  BlockR p.q (rcells p.qt p.bm p.ba p.bb dl) :: BlockR p.qt [p.v] :: IRowR p.v tab :: MapR p.bm n f :: WhR p.ba ra :: WhR p.bb rl :: rs
section
variable {p : Pl} {n : Nat} {tab : List Int} {dl : Int} {f : Tb} {ra rl : List T} {rs : List Res}
theorem rt_map : (Rt p n tab dl f ra rl rs).Perm (MapR p.bm n f :: BlockR p.q (rcells p.qt p.bm p.ba p.bb dl) :: BlockR p.qt [p.v] :: IRowR p.v tab :: WhR p.ba ra :: WhR p.bb rl :: rs) := List.perm_middle (l₁ := [_, _, _]) (l₂ := WhR p.ba ra :: WhR p.bb rl :: rs) (a := MapR p.bm n f)
theorem rt_again : (Rt p n tab dl f ra rl rs).Perm (WhR p.ba ra :: BlockR p.q (rcells p.qt p.bm p.ba p.bb dl) :: BlockR p.qt [p.v] :: IRowR p.v tab :: MapR p.bm n f :: WhR p.bb rl :: rs) := List.perm_middle (l₁ := [_, _, _, _]) (l₂ := WhR p.bb rl :: rs) (a := WhR p.ba ra)
theorem rt_late : (Rt p n tab dl f ra rl rs).Perm (WhR p.bb rl :: BlockR p.q (rcells p.qt p.bm p.ba p.bb dl) :: BlockR p.qt [p.v] :: IRowR p.v tab :: MapR p.bm n f :: WhR p.ba ra :: rs) := List.perm_middle (l₁ := [_, _, _, _, _]) (l₂ := rs) (a := WhR p.bb rl)
theorem rt_back {r : Res} : (r :: Rt p n tab dl f ra rl rs).Perm (Rt p n tab dl f ra rl (r :: rs)) := (List.perm_middle (l₁ := [_, _, _, _, _, _]) (l₂ := rs) (a := r)).symm
end
section
variable {B : Nat} {w wr : World} {p : Pl} {n : Nat} {tab : List Int} {dl : Int} {f : Tb} {ra rl : List T} {rs : List Res}
theorem Has.rcell (h : Has B w (Rt p n tab dl f ra rl rs) wr) : wr.cell? ⟨p.q, 0, none⟩ = some (.func (.func 28) #[] #[.pointer (some ⟨p.qt, 0, none⟩)]) ∧ wr.cell? ⟨p.q, 1, none⟩ = some (.func (.func 30) #[] #[]) ∧ wr.cell? ⟨p.q, 2, none⟩ = some (.int .i64 dl) ∧
    wr.cell? ⟨p.q, 3, none⟩ = some (.map (some p.bm)) ∧ wr.cell? ⟨p.q, 4, none⟩ = some (.pointer (some ⟨p.ba, 0, none⟩)) ∧ wr.cell? ⟨p.q, 5, none⟩ = some (.pointer (some ⟨p.bb, 0, none⟩)) :=
  ⟨(h.cell List.mem_cons_self 0 _ rfl).1, (h.cell List.mem_cons_self 1 _ rfl).1, (h.cell List.mem_cons_self 2 _ rfl).1, (h.cell List.mem_cons_self 3 _ rfl).1, (h.cell List.mem_cons_self 4 _ rfl).1, (h.cell List.mem_cons_self 5 _ rfl).1⟩
theorem waits_any (h : Has B w (Rt p n tab dl f ra rl rs) wr) (id : Int) (hid : I64 id) :
    Calls Try.prog 34 #[.pointer (some ⟨p.q, 0, none⟩), .int .i64 id] wr fun e w' => e = .returned (.bool (f id).isSome) ∧ w' = wr := by
  obtain ⟨_, _, _, c3, _, _⟩ := h.rcell
  obtain ⟨D, hD, hA⟩ := has_map h (bm := p.bm) (n := n) (f := f) (by simp)
  have HA : Hid (AgrI D f) := hA
  have HI : Hid (I64 id) := hid
  clear h hA hid
  go_enter Try.func34, Try.ntmps34
  go_wp2_with (at_lookup; refine wpList_who (P := Try.prog) _ rfl _ _ rfl p.bm n D f rfl hD HA.out id rfl HI.out ?_)
  go_ret
  exact ⟨rfl, rfl⟩
theorem delay_any (h : Has B w (Rt p n tab dl f ra rl rs) wr) (ht : may tab = true) (k : Int) (hk : 0 ≤ k) (hk2 : k ≤ 9223372036854775807) :
    Calls Try.prog 28 #[.int .i64 k, .pointer (some ⟨p.qt, 0, none⟩)] wr fun e w' => e = .returned (.int .i64 (dly tab k)) ∧ w' = wr := by
  have c0 := (h.cell (q := p.qt) (vs := [p.v]) (by simp) 0 _ rfl).1
  have hr : IRow wr p.v tab := h.irow (by simp)
  obtain ⟨hl1, hl8, _⟩ := may_bounds ht
  have C : Hid (Calls Try.prog 29 #[p.v, .int .i64 k] wr fun e w' => e = .returned (.int .i64 (dly tab k)) ∧ w' = wr) := delayOf_any p.v tab hl1 hl8 k hk hk2 wr hr
  obtain ⟨ao, cap, hv, _⟩ := hr
  rw [hv] at c0 C
  clear h ht hl1 hl8 hv
  go_enter Try.func28, Try.ntmps28
  go_wp2_with fail
  refine C.out.mono ?_
  rintro e w1 ⟨rfl, hw⟩
  rw [hw]
  clear hw w1 C
  go_wp2
  go_ret
  exact ⟨rfl, rfl⟩
set_option maxHeartbeats 4000000 in
theorem waitOn_any (h : Has B w (Rt p n tab dl f ra rl rs) wr) (ht : may tab = true) (id k now : Int) (h1 : 1 ≤ id) (h2 : id ≤ 60) (hk : 0 ≤ k) (hk2 : k ≤ 9223372036854775807) (hn : Tick now) (hcap : n ≤ 1152921504606846976) (hg : WheelMath.Good ra) :
    Calls Try.prog 35 #[.pointer (some ⟨p.q, 0, none⟩), .int .i64 id, .int .i64 k, .int .i64 now] wr fun e w' => e = .returned (.tuple #[]) ∧ Has B w (Rt p (n + 1) tab dl (updT f id (some k)) (aSet ra id (later now (dly tab k))).1 rl rs) w' := by
  obtain ⟨c0, c1, _, c3, c4, _⟩ := h.rcell
  obtain ⟨D, hD, hA⟩ := has_map h (bm := p.bm) (n := n) (f := f) (by simp)
  have hb := dly_bounds ht k
  have HN : Hid (∀ w5, w5.ownsMap Try.prog 3 (plainElem Try.prog 3) p.bm (n + 1) (D.put (kI id) (.lit (.int .i64 k))) → wr.grownBy w5 (some p.bm) → Has B w (Rt p (n + 1) tab dl (updT f id (some k)) ra rl rs) w5) := fun w5 ho hgr =>
    ((h.perm rt_map).mapTo ho (hA.put id k) (chg_map hgr)).perm rt_map.symm
  have C1 : Hid (∀ wq, Has B w (Rt p (n + 1) tab dl (updT f id (some k)) ra rl rs) wq → Calls Try.prog 28 #[.int .i64 k, .pointer (some ⟨p.qt, 0, none⟩)] wq fun e w' => e = .returned (.int .i64 (dly tab k)) ∧ w'.cell? ⟨p.q, 0, none⟩ = some (.func (.func 28) #[] #[.pointer (some ⟨p.qt, 0, none⟩)]) ∧ w'.cell? ⟨p.q, 1, none⟩ = some (.func (.func 30) #[] #[]) ∧ w'.cell? ⟨p.q, 4, none⟩ = some (.pointer (some ⟨p.ba, 0, none⟩)) ∧ Has B w (Rt p (n + 1) tab dl (updT f id (some k)) ra rl rs) w') := fun wq hq =>
    (delay_any hq ht k hk hk2).mono (fun e w' ⟨he, hw⟩ => by rw [hw]; exact ⟨he, hq.rcell.1, hq.rcell.2.1, hq.rcell.2.2.2.2.1, hq⟩)
  have C2 : Hid (∀ wq, Has B w (Rt p (n + 1) tab dl (updT f id (some k)) ra rl rs) wq → Calls Try.prog 30 #[.int .i64 now, .int .i64 (dly tab k)] wq fun e w' => e = .returned (.int .i64 (later now (dly tab k))) ∧ w'.cell? ⟨p.q, 0, none⟩ = some (.func (.func 28) #[] #[.pointer (some ⟨p.qt, 0, none⟩)]) ∧ w'.cell? ⟨p.q, 1, none⟩ = some (.func (.func 30) #[] #[]) ∧ w'.cell? ⟨p.q, 4, none⟩ = some (.pointer (some ⟨p.ba, 0, none⟩)) ∧ Has B w (Rt p (n + 1) tab dl (updT f id (some k)) ra rl rs) w') := fun wq hq =>
    (addTicks_any now (dly tab k) hn (by omega) (by omega) wq).mono (fun e w' ⟨he, hw⟩ => by rw [hw]; exact ⟨he, hq.rcell.1, hq.rcell.2.1, hq.rcell.2.2.2.2.1, hq⟩)
  have C3 : Hid (∀ wq, Has B w (Rt p (n + 1) tab dl (updT f id (some k)) ra rl rs) wq → Calls Try.prog 36 #[.pointer (some ⟨p.ba, 0, none⟩), .int .i64 id, .int .i64 (later now (dly tab k))] wq fun e w' => e = .returned (.int .i64 (aSet ra id (later now (dly tab k))).2) ∧ w'.cell? ⟨p.q, 0, none⟩ = some (.func (.func 28) #[] #[.pointer (some ⟨p.qt, 0, none⟩)]) ∧ w'.cell? ⟨p.q, 1, none⟩ = some (.func (.func 30) #[] #[]) ∧ w'.cell? ⟨p.q, 4, none⟩ = some (.pointer (some ⟨p.ba, 0, none⟩)) ∧ Has B w (Rt p (n + 1) tab dl (updT f id (some k)) (aSet ra id (later now (dly tab k))).1 rl rs) w') := fun wq hq =>
    (wset_any (hq.perm rt_again) hg id _).mono (fun e w' ⟨he, hh⟩ => by
      have hx : Has B w (Rt p (n + 1) tab dl (updT f id (some k)) (aSet ra id (later now (dly tab k))).1 rl rs) w' := hh.perm rt_again.symm
      exact ⟨he, hx.rcell.1, hx.rcell.2.1, hx.rcell.2.2.2.2.1, hx⟩)
  have hkey : keyOf Try.prog 3 (.int .i64 id) = some (kI id) := keyI (by unfold I64; omega)
  have HV : Hid ((Lit.int .i64 k).wf = true) := wfI (by unfold I64; omega)
  generalize later now (dly tab k) = t at *
  generalize dly tab k = d at *
  clear h hA ht hb hg hn
  go_enter Try.func35, Try.ntmps35
  go_wp2_with (at_mapUpdate; refine wpList_mapUpdate_own _ rfl _ _ _ 52 rfl 3 3 lawI Try.underlying52 _ p.bm n D rfl hD (by unfold maxLen; omega) _ _ _ rfl rfl hkey _ [] (plainElem_int Try.underlying3 HV.out) ?_)
  intro w5 ho hgr
  have HS := HN.out w5 ho hgr
  obtain ⟨k0, k1, _, _, k4, _⟩ := HS.rcell
  have HT : Has B w (Rt p (n + 1) tab dl (updT f id (some k)) ra rl rs) w5.drew := HS.below (Below.refl _ _).drew
  clear ho hgr HN HS hD c0 c1 c3 c4 hkey HV
  go_wp2_with fail
  go_region_held3 (fun w' => w'.cell? ⟨p.q, 0, none⟩ = some (.func (.func 28) #[] #[.pointer (some ⟨p.qt, 0, none⟩)]) ∧ w'.cell? ⟨p.q, 1, none⟩ = some (.func (.func 30) #[] #[]) ∧ w'.cell? ⟨p.q, 4, none⟩ = some (.pointer (some ⟨p.ba, 0, none⟩))) (go_keep) (first | (go_at_call 28; refine (C1.out _ HT).mono ?_; rintro e w6 ⟨rfl, m0, m1, m4, HT2⟩) | (go_at_call 30; refine (C2.out _ HT2).mono ?_; rintro e w7 ⟨rfl, n0, n1, n4, HT3⟩) | (go_at_call 36; refine (C3.out _ HT3).mono ?_; rintro e w8 ⟨rfl, q0, q1, q4, HT4⟩))
  all_goals go_wp2
  all_goals refine bodyPost_end (results_none rfl _ _ _) rfl ?_
  all_goals exact ⟨rfl, HT4⟩
end
end Go.Proofs.Yteadnjagandkfaa
