/- The walk of Held: what one instance has is collected, and sorted by a contract that is a premise here. -/
import Derived.Test.YthdloddcljbjhaaDoorDropW
set_option linter.unusedVariables false
set_option maxRecDepth 100000
namespace Go.Proofs.YthdloddcljbjhaaDoor
open Go.RowKit CheckMath
open Go.Maps (Keyed)

theorem infoS : (Tryd.prog.info? 9).map (fun i => (i.zero, i.size, i.bytes)) = some (some (.string ⟨#[]⟩), 1, 16) := by kernel_rfl
theorem info_parts {P : Program} {t : TypeId} {z : Option Value} {s b : Nat} (h : (P.info? t).map (fun i => (i.zero, i.size, i.bytes)) = some (z, s, b)) : ∃ i, P.info? t = some i ∧ i.zero = z ∧ i.size = s ∧ i.bytes = b := by
  cases hi : P.info? t with
  | none => rw [hi] at h; cases h
  | some i =>
    rw [hi] at h
    simp only [Option.map_some, Option.some.injEq, Prod.mk.injEq] at h
    exact ⟨i, rfl, h.1, h.2.1, h.2.2⟩
theorem one_str (s : ByteArray) : ∀ u ∈ [Value.string s], u.oneCell' = true := by intro u hu; simp at hu; subst hu; rfl
/-- A row of texts of one's own. -/
def KR (v : Value) (l : List ByteArray) : Res where
  inv w F := w.ownsRow 0 9 1 v l.length (l.map fun s => .string s) ∧ F = fun k => v.ownBlock = some k
  lt := by rintro w F ⟨h, rfl⟩ k hk; exact (h.lt k hk).2
  chg := by rintro w w' F S ⟨h, rfl⟩ hc hS; exact ⟨own_chg h hc (fun g hg => hS g hg), rfl⟩
theorem Has.ownK {B : Nat} {w wr : World} {v : Value} {l : List ByteArray} {rs : List Res} (h : Has B w rs wr) (hm : KR v l ∈ rs) : wr.ownsRow 0 9 1 v l.length (l.map fun s => .string s) := by
  obtain ⟨F, ⟨ho, _⟩, _⟩ := h.get hm
  exact ho
theorem Has.growK {B : Nat} {w wr w2 : World} {v v' : Value} {xs ys : List ByteArray} {rs : List Res} (h : Has B w (KR v xs :: rs) wr)
    (ho : w2.ownsRow 0 9 1 v' ys.length (ys.map fun s => .string s)) (hw : ∀ g, v'.ownBlock = some g → v.ownBlock = some g ∨ wr.heap.size ≤ g) (hc : Chg (fun k => v.ownBlock = some k) wr w2) : Has B w (KR v' ys :: rs) w2 := by
  refine h.turn (new := [KR v' ys]) ?_
  rintro F ⟨_, rfl⟩
  exact ⟨_, Hold.one ⟨ho, rfl⟩, hc, hw⟩
theorem ranges_chg {S : Nat → Prop} {w w' : World} {b r n cnt : Nat} {D : DataW Unit} {left : Lit → Bool} {k : TypeId} {R : Value → Option (DataW Unit × List MemPlace)} (h : w.ranges Tryd.prog k R b r n D left cnt) (hc : Chg S w w') (hb : ¬ S b) (hr : ¬ S r) : w'.ranges Tryd.prog k R b r n D left cnt := by
  have h1 := h.owns.lt
  have h2 := h.lt
  obtain ⟨es, clock, since, seen, c0, e1, F, hs, hD, e2, rest⟩ := h
  exact ⟨es, clock, since, seen, c0, (hc.block b h1 hb).trans e1, F, hs, hD, (hc.block r h2 hr).trans e2, rest⟩
/-- A table whose map is gone through. -/
def RangeR (tb bm r n : Nat) (T : Hd) (left : Lit → Bool) (cnt : Nat) : Res where
  inv w F := w.cell? ⟨tb, 0, none⟩ = some (.map (some bm)) ∧ tb ≠ bm ∧ tb ≠ r ∧ (∃ D : DataW Unit, w.ranges Tryd.prog 9 (plainElem Tryd.prog 3) bm r n D left cnt ∧ Agr D T) ∧ F = fun k => k = tb ∨ k = bm ∨ k = r
  lt := by
    rintro w F ⟨h1, _, _, ⟨D, h2, _⟩, rfl⟩ k (rfl | rfl | rfl)
    · exact block_lt_of_cell h1
    · exact h2.owns.lt
    · exact h2.lt
  chg := by
    rintro w w' F S ⟨h1, h3, h4, ⟨D, h2, h5⟩, rfl⟩ hc hS
    refine ⟨(World.cell?_of_block (w := w) (a := ⟨tb, 0, none⟩) (hc.block tb (block_lt_of_cell h1) (hS tb (Or.inl rfl)))).trans h1, h3, h4, ⟨D, ranges_chg h2 hc (hS bm (Or.inr (Or.inl rfl))) (hS r (Or.inr (Or.inr rfl))), h5⟩, rfl⟩
section
variable {B : Nat} {w wr w2 : World} {tb bm r n cnt cnt2 : Nat} {T : Hd} {left left2 : Lit → Bool} {rs : List Res} {D : DataW Unit}
theorem Has.ranged (h : Has B w (TabR tb n T :: rs) wr) (h1 : TabIn wr tb bm n T) (hr : w2.ranges Tryd.prog 9 (plainElem Tryd.prog 3) bm wr.heap.size n D left cnt) (hA : Agr D T) (hg : wr.grownBy w2 none) : Has B w (RangeR tb bm wr.heap.size n T left cnt :: rs) w2 := by
  refine h.turn (new := [RangeR tb bm wr.heap.size n T left cnt]) ?_
  rintro F ⟨bm', h', rfl⟩
  have e : bm' = bm := by have := h'.cell.symm.trans h1.cell; simpa using this
  subst e
  have hlt := block_lt_of_cell h1.cell
  have hc := chg_grown hg
  refine ⟨_, Hold.one ⟨?_, h1.off, Nat.ne_of_lt hlt, ⟨D, hr, hA⟩, rfl⟩, hc.mono (fun k _ e => by cases e), fun k hk => ?_⟩
  · exact (World.cell?_of_block (w := wr) (a := ⟨tb, 0, none⟩) (hc.block tb hlt (fun e => by cases e))).trans h1.cell
  · rcases hk with e | e | e
    · exact Or.inl (Or.inl e)
    · exact Or.inl (Or.inr e)
    · right; omega
theorem Has.range (h : Has B w rs wr) (hm : RangeR tb bm r n T left cnt ∈ rs) : ∃ D : DataW Unit, wr.ranges Tryd.prog 9 (plainElem Tryd.prog 3) bm r n D left cnt ∧ Agr D T := by
  obtain ⟨F, ⟨_, _, _, hD, _⟩, _⟩ := h.get hm
  exact hD
theorem Has.rangeOn (h : Has B w (RangeR tb bm r n T left cnt :: rs) wr) (hr : w2.ranges Tryd.prog 9 (plainElem Tryd.prog 3) bm r n D left2 cnt2) (hA : Agr D T) (hg : wr.grownBy w2 (some r)) : Has B w (RangeR tb bm r n T left2 cnt2 :: rs) w2 := by
  refine h.turn (new := [RangeR tb bm r n T left2 cnt2]) ?_
  rintro F ⟨h1, h3, h4, _, rfl⟩
  have hc := chg_grown hg
  refine ⟨_, Hold.one ⟨?_, h3, h4, ⟨D, hr, hA⟩, rfl⟩, hc.mono (fun k _ e => by injection e with e; exact Or.inr (Or.inr e.symm)), fun k hk => Or.inl hk⟩
  exact (World.cell?_of_block (w := wr) (a := ⟨tb, 0, none⟩) (hc.block tb (block_lt_of_cell h1) (fun e => by injection e with e; exact h4 e.symm))).trans h1
theorem Has.rangeEnd (h : Has B w (RangeR tb bm r n T left cnt :: rs) wr) : Has B w (TabR tb n T :: rs) wr := by
  refine h.turn (new := [TabR tb n T]) ?_
  rintro F ⟨h1, h3, h4, ⟨D, hr, hA⟩, rfl⟩
  refine ⟨_, Hold.one ⟨bm, ⟨h1, h3, D, hr.owns, hA⟩, rfl⟩, Chg.refl _ _, fun k hk => ?_⟩
  rcases hk with e | e
  · exact Or.inl (Or.inl e)
  · exact Or.inl (Or.inr (Or.inl e))
end
/-- The contract of the sort, as Held wants it. -/
def Sorts (B : Nat) (w : World) (rs : List Res) (S : List ByteArray → List ByteArray → Prop) : Prop := ∀ (wq : World) (v : Value) (l : List ByteArray), (∀ s, s ∈ l → s.size ≤ 1048576) → l.length ≤ 1152921504606846976 → Has B w (KR v l :: rs) wq →
  Calls Tryd.prog 30 #[v, .func (.func 31) #[] #[]] wq fun e w' => e = .returned (.tuple #[]) ∧ ∃ l', S l l' ∧ Has B w (KR v l' :: rs) w'
set_option maxHeartbeats 4000000 in
theorem held_any {B : Nat} {w w0 : World} {rs : List Res} {tb n : Nat} {T : Hd} {S : List ByteArray → List ByteArray → Prop} (h : Has B w (TabR tb n T :: rs) w0) (i : Int) (hn : n ≤ 1048576) (hz : ∀ s, T s ≠ 0 → s.size ≤ 1048576) (hsort : Sorts B w (TabR tb n T :: rs) S) :
    Calls Tryd.prog 18 #[.pointer (some ⟨tb, 0, none⟩), .int .i64 i] w0 fun e w' => ∃ (K K' : List ByteArray) (v : Value), K.Nodup ∧ (∀ s, s ∈ K ↔ (T s ≠ 0 ∧ T s = i)) ∧ K.length ≤ n ∧ S K K' ∧ e = .returned v ∧ Has B w (KR v K' :: TabR tb n T :: rs) w' := by
  obtain ⟨bm, h1⟩ := has_get h List.mem_cons_self
  obtain ⟨D0, hD, hA⟩ := h1.own
  have c0 := h1.cell
  have H0 : Hid (∀ w2 left cnt, w2.ranges Tryd.prog 9 (plainElem Tryd.prog 3) bm w0.heap.size n D0 left cnt → w0.grownBy w2 none → Has B w (RangeR tb bm w0.heap.size n T left cnt :: rs) w2) := fun w2 left cnt hr hg => h.ranged h1 hr hA hg
  have HS : Hid (Struck T i (Go.Maps.has D0) []) := struck_start hA i
  have HZ : Hid (∀ s, T s ≠ 0 → s.size ≤ 1048576) := hz
  have HSO : Hid (Sorts B w (TabR tb n T :: rs) S) := hsort
  obtain ⟨i0, hi, hz0, hz1, hz2⟩ := info_parts infoS
  clear h h1 hA hz hsort
  go_enter Tryd.func18, Tryd.ntmps18
  go_wp2_with (first
    | (at_range; refine wpList_range_own _ rfl _ 46 rfl 9 3 law Tryd.underlying46 _ bm n _ rfl hD ?_; intro w1 hrg0 hg0 hs0)
    | go_in)
  have hcn := cnt_le hrg0
  have HH0 : Hid (Has B w (KR (.slice none 0 0) [] :: RangeR tb bm w0.heap.size n T (Go.Maps.has D0) (Go.Maps.size D0) :: rs) w1) := (H0.out w1 _ _ hrg0 hg0).add (new := [KR (.slice none 0 0) []]) (Below.refl _ _) (Hold.one ⟨World.ownsRow_nil _ _ _ _, rfl⟩) (fun k hk => by cases hk)
  go_frame
  go_loopw [5] (fun k wr => ∃ (left : Lit → Bool) (cnt : Nat) (K : List ByteArray), Hid (Has B w (KR k K :: RangeR tb bm w0.heap.size n T left cnt :: rs) wr) ∧ K.length + cnt ≤ n ∧ Hid (Struck T i left K))
    (fun _ wr => wr.rangeLeft bm w0.heap.size)
  case atStart => exact ⟨_, _, [], HH0, by simpa using hcn, HS⟩
  case round =>
    obtain ⟨left, cnt, K, HH, hcnt, HK⟩ := hrel
    clear HS HH0 hrg0 hg0 hs0 c0 hcn hD H0
    obtain ⟨D, hrg, hA⟩ := HH.out.range (List.mem_cons_of_mem _ List.mem_cons_self)
    have HA : Hid (Agr D T) := hA
    clear hA
    go_wp2_with (first
      | (at_next; refine wpList_next_tab _ rfl _ rfl bm w0.heap.size n _ _ _ rfl hrg ?_ ?_)
      | go_in)
    · intro _ hl0
      have HM : Hid (∀ s, s ∈ K ↔ (T s ≠ 0 ∧ T s = i)) := fun s => by rw [HK.out.2 s]; simp [hl0]
      have HT := (HH.out.perm (List.Perm.swap _ _ _)).rangeEnd.perm (List.Perm.swap _ _ _)
      have C := HSO.out wr _ K (fun s hs => HZ.out s ((HM.out s).1 hs).1) (by omega) HT
      clear hl0 HT HA hrg HH
      go_wp2_with fail
      refine C.mono ?_
      rintro e w2 ⟨rfl, K', hS, hT⟩
      have HT : Hid (Has B w (KR _ K' :: TabR tb n T :: rs) w2) := hT
      have HSS : Hid (S K K') := hS
      clear hS hT C
      go_wp2_with fail
      go_ret
      exact ⟨K, K', _, HK.out.1, HM.out, by omega, HSS.out, rfl, HT.out⟩
    · intro s c w2 cnt1 hsz hlx hat hrg1 hlt hg1 hs1 hen
      have HH1 : Hid (Has B w (KR _ K :: RangeR tb bm w0.heap.size n T (gone left s) cnt1 :: rs) w2) := ((HH.out.perm (List.Perm.swap _ _ _)).rangeOn hrg1 HA.out hg1).perm (List.Perm.swap _ _ _)
      have e0 : dropT T i (fun _ => true) = T := by funext x; unfold dropT; simp
      have hT : T s = c ∧ c ≠ 0 := by
        have hA := HA.out
        rw [← e0] at hA
        have x := next_tells (i := i) (left := fun _ => true) hA rfl hat
        exact x
      by_cases hci : c = i
      · have HK2 : Hid (Struck T i (gone left s) (K ++ [s])) := by
          have x := HK.out.more s (by rw [hT.1]; exact hT.2) (hT.1.trans hci) hlx
          refine ⟨(List.perm_append_comm (l₁ := [s]) (l₂ := K)).nodup_iff.1 x.1, fun y => ?_⟩
          rw [← x.2 y]
          simp [or_comm]
        obtain ⟨ao, cap, hv, -⟩ := own_form (HH1.out.ownK List.mem_cons_self)
        subst hci
        clear HK hlx hat hT hg1 hs1 HA e0 HH
        subst hv
        rcases ao with _ | ag
        all_goals (
          have H2 : Hid (Has B w (KR _ K :: RangeR tb bm w0.heap.size n T (gone left s) cnt1 :: rs) (w2.alloc (.cells #[.string s] 9))) := HH1.out.below ((Below.refl _ _).alloc (Nat.le_refl _) _)
          have HO : Hid ((w2.alloc (.cells #[.string s] 9)).ownsRow 0 9 1 _ K.length (K.map fun s => .string s)) := H2.out.ownK List.mem_cons_self
          go_wp2_with (at_builtin; refine wpList_append_more _ rfl _ _ 27 rfl 0 9 i0 (.string ⟨#[]⟩) 1 16 Tryd.underlying27 hi hz0 hz1 hz2 rfl (by decide) (.slice _ K.length cap) K.length (K.map fun s => .string s) rfl HO.out ⟨_, 0, none⟩ 1 1 [.string s] rfl rfl (one_new _ _ _) (one_str _) (by decide) (by unfold maxLen; omega) (by omega) ?_)
          intro g6 c6 w6 hown6 hwh6 hch6
          have H6 : Hid (Has B w (KR (.slice (some ⟨g6, 0, none⟩) (K ++ [s]).length c6) (K ++ [s]) :: RangeR tb bm w0.heap.size n T (gone left s) cnt1 :: rs) w6) := H2.out.growK (by rw [List.map_append, List.length_append]; simpa using hown6) (fun g hg => by
            have e : g6 = g := by simpa [Value.ownBlock] using hg
            rw [← e, World.size_alloc]; exact hwh6) hch6
          have hlen : (K ++ [s]).length = K.length + 1 := by simp
          clear H2 HO hown6 hwh6 hch6 HH1
          go_wp2_with fail
          go_roundw
          case rel => exact ⟨_, cnt1, K ++ [s], by rw [← hlen]; exact H6, by rw [hlen]; omega, HK2⟩
          case measure =>
            obtain ⟨D2, hr2, _⟩ := H6.out.range (List.mem_cons_of_mem _ List.mem_cons_self)
            rw [hr2.left_eq, hrg.left_eq]; exact hlt)
      · have HK2 : Hid (Struck T i (gone left s) K) := HK.out.stay s (by rw [hT.1]; exact hci)
        clear HK hlx hat hT hg1 hs1 HA e0 HH
        go_wp2_with fail
        go_roundw
        case rel => exact ⟨_, cnt1, K, HH1, by omega, HK2⟩
        case measure => rw [hrg1.left_eq, hrg.left_eq]; exact hlt
end Go.Proofs.YthdloddcljbjhaaDoor
