/- The walk of Drop: a range over the map that strikes what one instance has. -/
import Derived.Test.YthdloddcljbjhaaDoorTakeW
set_option linter.unusedVariables false
set_option maxRecDepth 100000
namespace Go.Proofs.YthdloddcljbjhaaDoor
open Go.RowKit CheckMath
open Go.Maps (Keyed)

/-- What is left of T where the keys of i that are not to come any more are struck. -/
def dropT (T : Hd) (i : Int) (left : Lit → Bool) : Hd := fun x => if T x = i ∧ left (kl x) = false then 0 else T x
def dropped (T : Hd) (i : Int) : Hd := fun x => if T x = i then 0 else T x
def gone (left : Lit → Bool) (s : ByteArray) : Lit → Bool := fun z => left z && !z.sameKey (kl s)
theorem gone_same (left : Lit → Bool) (s : ByteArray) : gone left s (kl s) = false := by unfold gone; rw [WideAt.sameKey_self (kl_key s)]; simp
theorem gone_other (left : Lit → Bool) {s x : ByteArray} (h : x ≠ s) : gone left s (kl x) = left (kl x) := by
  unfold gone
  rw [Go.Maps.sameKey_ne (fun e => h (kl_inj e))]
  simp
theorem dropT_struck (T : Hd) (i : Int) (left : Lit → Bool) (s : ByteArray) (h : T s = i) : setT (dropT T i left) s 0 = dropT T i (gone left s) := by
  funext x
  unfold setT dropT
  by_cases e : x = s
  · subst e; rw [if_pos rfl, if_pos ⟨h, gone_same _ _⟩]
  · rw [if_neg e, gone_other left e]
theorem dropT_stays (T : Hd) (i : Int) (left : Lit → Bool) (s : ByteArray) (h : ¬ T s = i) : dropT T i left = dropT T i (gone left s) := by
  funext x
  unfold dropT
  by_cases e : x = s
  · subst e; rw [if_neg (fun c => h c.1), if_neg (fun c => h c.1)]
  · rw [gone_other left e]
theorem dropT_end (T : Hd) (i : Int) (left : Lit → Bool) (h : ∀ k, left k = false) : dropT T i left = dropped T i := by
  funext x; unfold dropT dropped; simp [h]
theorem dropT_start {D : DataW Unit} {T : Hd} (h : Agr D T) (i : Int) : dropT T i (Go.Maps.has D) = T := by
  funext x
  unfold dropT
  by_cases c : T x = i ∧ Go.Maps.has D (kl x) = false
  · rw [if_pos c]
    have := (h.2 x).1
    rw [c.2] at this
    apply Classical.byContradiction
    intro h0
    exact absurd (this.2 (fun e => h0 e.symm)) (by decide)
  · rw [if_neg c]
/-- The keys that are struck so far. -/
def Struck (T : Hd) (i : Int) (left : Lit → Bool) (K : List ByteArray) : Prop := K.Nodup ∧ ∀ s, s ∈ K ↔ (T s ≠ 0 ∧ T s = i ∧ left (kl s) = false)
theorem struck_start {D : DataW Unit} {T : Hd} (h : Agr D T) (i : Int) : Struck T i (Go.Maps.has D) [] := by
  refine ⟨List.nodup_nil, fun s => ⟨fun hs => absurd hs List.not_mem_nil, fun ⟨h0, _, h1⟩ => ?_⟩⟩
  rw [(h.2 s).1.2 h0] at h1
  cases h1
theorem Struck.more {T : Hd} {i : Int} {left : Lit → Bool} {K : List ByteArray} (h : Struck T i left K) (s : ByteArray) (h0 : T s ≠ 0) (h1 : T s = i) (hl : left (kl s) = true) : Struck T i (gone left s) (s :: K) := by
  refine ⟨List.nodup_cons.2 ⟨fun hm => ?_, h.1⟩, fun x => ?_⟩
  · have := ((h.2 s).1 hm).2.2
    rw [hl] at this; cases this
  · rw [List.mem_cons, h.2 x]
    by_cases e : x = s
    · subst e
      exact ⟨fun _ => ⟨h0, h1, gone_same _ _⟩, fun _ => Or.inl rfl⟩
    · rw [gone_other left e]
      exact ⟨fun c => c.resolve_left e, Or.inr⟩
theorem Struck.stay {T : Hd} {i : Int} {left : Lit → Bool} {K : List ByteArray} (h : Struck T i left K) (s : ByteArray) (h1 : ¬ T s = i) : Struck T i (gone left s) K := by
  refine ⟨h.1, fun x => ?_⟩
  rw [h.2 x]
  by_cases e : x = s
  · subst e
    exact ⟨fun c => absurd c.2.1 h1, fun c => absurd c.2.1 h1⟩
  · rw [gone_other left e]
/-- 'for key, holder := range m' of a table's map: the step. -/
theorem wpList_next_tab (w : World) {ops : Array Oper} {rest : List Oper} {o : Oper} {a : Act} {Q : Exit → Act → World → Prop} (hg : o.guard = none) (it : Operand) (hop : o.op = Op.next it false) (b r n : Nat) (D : DataW Unit) (left : Lit → Bool) (cnt : Nat)
    (hit : a.eval it = .pointer (some ⟨r, 0, none⟩)) (h : w.ranges Tryd.prog 9 (plainElem Tryd.prog 3) b r n D left cnt)
    (hDone : cnt = 0 → (∀ kl, left kl = false) → wpList Tryd.prog ops Q rest (a.put o.dst (.tuple #[.bool false])) w)
    (hMore : ∀ (s : ByteArray) (c : Int) (w' : World) (cnt' : Nat), s.size ≤ maxLen → left (kl s) = true → (∀ zd, D.atKey (kl s) zd = .lit (.int .i64 c)) → w'.ranges Tryd.prog 9 (plainElem Tryd.prog 3) b r n D (gone left s) cnt' → cnt' < cnt →
      w.grownBy w' (some r) → w'.heap.size = w.heap.size → (Instr.entry (.pointer (some ⟨r, 0, none⟩))).run Tryd.prog w' = .ok (.tuple #[.string s, .int .i64 c]) w' → wpList Tryd.prog ops Q rest (a.put o.dst (.tuple #[.bool true, .string s, .int .i64 c])) w') :
    wpList Tryd.prog ops Q (o :: rest) a w :=
  wpList_next_ranges w hg it hop 9 law (plainElem Tryd.prog 3) Value.string (Value.int .i64) (fun key kl hkey => by obtain ⟨s, rfl, _, _⟩ := Go.WideMaps.string_of_keyOf Tryd.underlying9 hkey; exact ⟨s, rfl⟩) (fun v y hv => by obtain ⟨c, rfl, _⟩ := plainElem_int_inv Tryd.underlying3 hv; exact ⟨c, rfl⟩)
    b r n D left cnt hit h hDone (fun x c kl' y w' cnt' hkey hlk hv hat hrg hlt hgr hsz hen => by
      obtain ⟨x', ex, rfl, hsz2⟩ := Go.WideMaps.string_of_keyOf Tryd.underlying9 hkey
      cases ex
      obtain ⟨c', ec, rfl, hwc⟩ := plainElem_int_inv Tryd.underlying3 hv
      cases ec
      exact hMore x c w' cnt' hsz2 hlk hat hrg hlt hgr hsz hen)
/-- What the entry tells of T. -/
theorem next_tells {D : DataW Unit} {T : Hd} {i : Int} {left : Lit → Bool} {s : ByteArray} {c : Int} (hA : Agr D (dropT T i left)) (hl : left (kl s) = true) (hat : ∀ zd, D.atKey (kl s) zd = .lit (.int .i64 c)) : T s = c ∧ c ≠ 0 := by
  have e1 : dropT T i left s = T s := by unfold dropT; rw [if_neg (fun h => by rw [hl] at h; exact absurd h.2 (by decide))]
  have e2 := (hA.2 s).2.symm.trans (hat _)
  injection e2 with e2; injection e2 with _ e2
  have h0 := (hA.2 s).1.1 (Go.Maps.has_true_of_atKey hat)
  rw [e1] at e2 h0
  exact ⟨e2, e2 ▸ h0⟩
theorem cnt_le {w : World} {b r n cnt : Nat} {D : DataW Unit} {left : Lit → Bool} {k : TypeId} {R : Value → Option (DataW Unit × List MemPlace)} (h : w.ranges Tryd.prog k R b r n D left cnt) : cnt ≤ n := by
  obtain ⟨es, _, _, seen, _, _, _, hs, _, _, _, hc, _⟩ := h
  have : (leftOf es seen).size ≤ es.size := Array.size_filter_le
  omega
set_option maxHeartbeats 4000000 in
theorem drop_any {B : Nat} {w wo : World} {rs : List Res} {tb n : Nat} {T : Hd} (h : Has B w (TabR tb n T :: rs) wo) (i : Int) (hn : n ≤ 1152921504606846976) :
    Calls Tryd.prog 14 #[.pointer (some ⟨tb, 0, none⟩), .int .i64 i] wo fun e w' => ∃ K : List ByteArray, K.Nodup ∧ (∀ s, s ∈ K ↔ (T s ≠ 0 ∧ T s = i)) ∧ e = .returned (.int .i64 (K.length : Int)) ∧ Has B w (TabR tb n (dropped T i) :: rs) w' := by
  obtain ⟨bm, h1⟩ := has_get h List.mem_cons_self
  obtain ⟨D, hD, hA⟩ := h1.own
  have c0 := h1.cell
  have htb := block_lt_of_cell h1.cell
  have hoff := h1.off
  have HE : Hid (∀ w2 D2, w2.ownsMap Tryd.prog 9 (plainElem Tryd.prog 3) bm n D2 → Agr D2 (dropped T i) → wo.grownBy w2 (some bm) → Has B w (TabR tb n (dropped T i) :: rs) w2) := fun w2 D2 ho hA hg => h.tabPut h1 ho hA hg
  have HS : Hid (Agr D (dropT T i (Go.Maps.has D)) ∧ Struck T i (Go.Maps.has D) []) := by
    refine ⟨?_, struck_start hA i⟩
    rw [dropT_start hA i]; exact hA
  have HC : Hid (∀ wq, wo.grownBy wq (some bm) → wq.cell? ⟨tb, 0, none⟩ = some (.map (some bm))) := fun wq hg => (World.cell?_of_block (w := wo) (a := ⟨tb, 0, none⟩) (hg.block tb htb (fun e => hoff (Option.some.inj e)))).trans c0
  clear h h1 hA htb hoff
  go_enter Tryd.func14, Tryd.ntmps14
  go_wp2_with (first
    | (at_range; refine wpList_range_own _ rfl _ 46 rfl 9 3 law Tryd.underlying46 _ bm n _ rfl hD ?_; intro w0 hrg0 hg0 hs0)
    | go_in)
  have hcn := cnt_le hrg0
  go_frame
  go_loopw [5] (fun k wq => ∃ (left : Lit → Bool) (cnt : Nat) (D2 : DataW Unit) (K : List ByteArray), wq.ranges Tryd.prog 9 (plainElem Tryd.prog 3) bm wo.heap.size n D2 left cnt ∧ k = .int .i64 (K.length : Int) ∧ K.length + cnt ≤ n ∧ Hid (Agr D2 (dropT T i left)) ∧ Hid (Struck T i left K) ∧ Hid (wo.grownBy wq (some bm)))
    (fun _ wq => wq.rangeLeft bm wo.heap.size)
  case atStart => exact ⟨_, _, _, [], hrg0, rfl, by simpa using hcn, HS.out.1, HS.out.2, hg0.but _⟩
  case round =>
    obtain ⟨left, cnt, D2, K, hrg, rfl, hcnt, HA, HK, HG⟩ := hrel
    clear HS hrg0 hg0 hs0 c0 hcn hD
    go_wp2_with (first
      | (at_next; refine wpList_next_tab _ rfl _ rfl bm wo.heap.size n _ _ _ rfl hrg ?_ ?_)
      | go_in)
    · intro _ hl0
      have HF : Hid (Has B w (TabR tb n (dropped T i) :: rs) _) := HE.out _ D2 hrg.owns (by have x := HA.out; rw [dropT_end T i left hl0] at x; exact x) HG.out
      have HM : Hid (∀ s, s ∈ K ↔ (T s ≠ 0 ∧ T s = i)) := fun s => by rw [HK.out.2 s]; simp [hl0]
      clear hl0 HE HC
      go_wp2_with fail
      go_ret
      exact ⟨K, HK.out.1, HM.out, rfl, HF.out⟩
    · intro s c w1 cnt1 hsz hlx hat hrg1 hlt hg1 hs1 hen
      have HG1 : Hid (wo.grownBy w1 (some bm)) := HG.out.andThen hg1 (fun j hj => by cases hj; exact Or.inl (Nat.le_refl _))
      have d0 := HC.out w1 HG1.out
      have hT := next_tells HA.out hlx hat
      have hkey := key_mk s hsz
      by_cases hci : c = i
      · have HA2 : Hid (Agr (D2.del (kl s)) (dropT T i (gone left s))) := by
          have x := HA.out.del s
          rw [dropT_struck T i left s (hT.1.trans hci)] at x
          exact x
        have HK2 : Hid (Struck T i (gone left s) (s :: K)) := HK.out.more s (by rw [hT.1]; exact hT.2) (hT.1.trans hci) hlx
        subst hci
        clear HA HK hlx hat hT hg1 HG
        go_wp2_with (first
          | (at_delete; refine wpList_delete_ranges _ rfl _ _ 46 9 rfl 3 law Tryd.underlying46 _ bm wo.heap.size n _ _ _ rfl hrg1 _ _ rfl hkey ?_; intro w2 cnt2 hrg2 hle hturn; go_frame)
          | go_in)
        rw [show (fun z => gone left s z && !z.sameKey (kl s)) = gone left s from Go.Maps.strike_twice left (kl s)] at hrg2
        go_roundw
        case rel => exact ⟨_, cnt2, _, s :: K, hrg2, by go_num, by simp only [List.length_cons]; omega, HA2, HK2, HG1.out.andThen hturn.grown (fun j hj => by cases hj; exact Or.inr rfl)⟩
        case measure => rw [hrg2.left_eq, hrg.left_eq]; omega
      · have HA2 : Hid (Agr D2 (dropT T i (gone left s))) := by
          have x := HA.out
          rw [dropT_stays T i left s (by rw [hT.1]; exact hci)] at x
          exact x
        have HK2 : Hid (Struck T i (gone left s) K) := HK.out.stay s (by rw [hT.1]; exact hci)
        clear HA HK hlx hat hT hg1 HG
        go_wp2_with fail
        go_roundw
        case rel => exact ⟨_, cnt1, _, K, hrg1, rfl, by omega, HA2, HK2, HG1⟩
        case measure => rw [hrg1.left_eq, hrg.left_eq]; exact hlt
end Go.Proofs.YthdloddcljbjhaaDoor
