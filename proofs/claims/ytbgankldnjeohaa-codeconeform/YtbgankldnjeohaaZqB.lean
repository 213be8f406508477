/- The texts NtGet, OfR, OfE, OfL, OfN, OfV, OfX, NtForm, OfRd, OneW, TabS, OneL, OneForm, one behind the other. -/
import Derived.Test.YtbgankldnjeohaaZqA
import Derived.Test.YtbgankldnjeohaaLiveG
import Derived.Test.YtbgankldnjeohaaTabW
import Derived.KernelRfl
import Derived.Test.YtbgankldnjeohaaArgs
/- read of a note's form, and of one with something behind it; ReadNote and What of it. -/
set_option linter.unusedVariables false
set_option linter.unusedSimpArgs false
set_option maxRecDepth 100000
namespace Go.Proofs.Ytbgankldnjeohaa.Pl
open Go.RowKit Go.Proofs.Ytbgankldnjeohaa

section
variable {B : Nat} {w wr : World} {rs : List Res}
set_option maxHeartbeats 2000000 in
theorem valueN_any {q : Nat} {k i s t p c : Int} {K M : ByteArray} {v : Int} {X : ByteArray} {l : List UInt8} {S : ByteArray} {r : List UInt8} (hS : S.size ≤ 4611686018427387904) (hG : GoodN k i s t p c K M v X l) (he : S.data.toList = l ++ r) (h : Has B w (RdR q S 0 :: rs) wr) :
    Calls Try.prog 25 #[.pointer (some ⟨q, 0, none⟩)] wr fun e w' => e = .returned (.iface 56 (.agg (vF k i s t p c K M v X).toArray)) ∧ Hid (Has B w (RdR q S l.length :: rs) w') := by
  obtain ⟨g1, g2, g3, ⟨l', rfl⟩, g5⟩ := hG
  have hl : S.data.toList.length = S.size := Array.length_toList
  have hz : S.size ≠ 0 := by rw [← hl, he]; simp
  have hz1 : (1 : Int) ≤ (S.size : Int) := by omega
  have hem := emp_no S hz
  have hc : S.data.toList = 78 :: (l' ++ r) := he
  have k1 := head_is hc 76
  have k2 := head_is hc 69
  have k3 := head_is hc 78
  rw [show ((78 : UInt8) == 76) = false from by decide] at k1
  rw [show ((78 : UInt8) == 69) = false from by decide] at k2
  rw [show ((78 : UInt8) == 78) = true from by decide] at k3
  have H1 : Hid (Has B w (RdR q S 1 :: rs) (wr.setCell ⟨q, 1, none⟩ (.int .i64 1))) := h.put 1 (by simp) (.int .i64 1)
  have D1 : Hid (Calls Try.prog 34 #[.pointer (some ⟨q, 0, none⟩)] (wr.setCell ⟨q, 1, none⟩ (.int .i64 1)) fun e w' => e = .returned (.agg (vF k i s t p c K M v X).toArray) ∧ Hid (Has B w (RdR q S (78 :: l').length :: rs) w')) := g3 S r hS he B w rs _ q H1.out
  obtain ⟨c0, _⟩ := h.bcell (q := q) (vs := [.string S, .int .i64 0]) List.mem_cons_self 0 _ rfl
  obtain ⟨c1, f1⟩ := h.bcell (q := q) (vs := [.string S, .int .i64 0]) List.mem_cons_self 1 _ rfl
  clear h H1 he hc hl g1 g2 g3 g5
  go_enter Try.func25, Try.ntmps25
  go_wp2_with fail
  refine D1.out.mono ?_
  rintro e w2 ⟨rfl, H2⟩
  clear D1
  go_wp2_with fail
  go_ret
  exact ⟨rfl, H2⟩
set_option maxHeartbeats 2000000 in
theorem readN_ok {k i s t p c : Int} {K M : ByteArray} {v : Int} {X : ByteArray} {l : List UInt8} {S : ByteArray} (hS : S.size ≤ 4611686018427387904) (hG : GoodN k i s t p c K M v X l) (he : S.data.toList = l) (h : Has B w rs wr) :
    Calls Try.prog 19 #[.string S] wr fun e w' => e = .returned (.iface 56 (.agg #[.int .i64 k, .int .i64 i, .int .i64 s, .int .i64 t, .int .i64 p, .int .i64 c, .string K, .string M, .int .i64 v, .string X])) ∧ Hid (Has B w rs w') := by
  have hl : S.data.toList.length = S.size := Array.length_toList
  obtain ⟨L, hL⟩ : ∃ L, l.length = L := ⟨_, rfl⟩
  have hLS : S.size = L := by rw [← hl, he, hL]
  have hmf : ∀ (fn : Fn) (first cap : Array Value) (w : World), (Instr.makeFunc fn first cap).run Try.prog w = .ok (.func fn first cap) w := fun _ _ _ _ => rfl
  have hmm := m_note_may
  have H1 : Hid (Has B w (RdR (wr.heap.size + 1) S 0 :: BlockR wr.heap.size [.nilIface] :: rs) ((wr.alloc (.cells #[.nilIface] 52)).alloc (.cells #[.string S, .int .i64 0] 65))) := by
    have x := (h.box [.nilIface] 52).box [.string S, .int .i64 0] 65
    rw [World.size_alloc] at x
    exact x
  have D1 : Hid (Calls Try.prog 25 #[.pointer (some ⟨wr.heap.size + 1, 0, none⟩)] ((wr.alloc (.cells #[.nilIface] 52)).alloc (.cells #[.string S, .int .i64 0] 65)) fun e w' => e = .returned (.iface 56 (.agg (vF k i s t p c K M v X).toArray)) ∧ Hid (Has B w (RdR (wr.heap.size + 1) S L :: BlockR wr.heap.size [.nilIface] :: rs) w')) := by
    have x := valueN_any (r := []) hS hG (by rw [List.append_nil]; exact he) H1.out
    rw [hL] at x
    exact x
  have CM : Hid (∀ wq, Calls Try.prog 91 #[.agg #[.int .i64 k, .int .i64 i, .int .i64 s, .int .i64 t, .int .i64 p, .int .i64 c, .string K, .string M, .int .i64 v, .string X]] wq fun e w' => e = .returned (.bool true) ∧ Below wq.heap.size wq w') := hG.2.1
  clear h H1 he hG hl hL
  go_enter_defers Try.func19, Try.ntmps19
  go_wp2_with fail
  refine D1.out.mono ?_
  rintro e w2 ⟨rfl, H2⟩
  clear D1
  have hvn : (vF k i s t p c K M v X).toArray = #[.int .i64 k, .int .i64 i, .int .i64 s, .int .i64 t, .int .i64 p, .int .i64 c, .string K, .string M, .int .i64 v, .string X] := rfl
  rw [hvn]
  clear hvn
  have H2p := H2.out.perm (List.Perm.swap _ _ _)
  obtain ⟨c0, f0⟩ := H2p.bcell (q := wr.heap.size) (vs := [.nilIface]) (by simp) 0 _ rfl
  have HP : Hid (Has B w (BlockR wr.heap.size [(.iface 56 (.agg #[.int .i64 k, .int .i64 i, .int .i64 s, .int .i64 t, .int .i64 p, .int .i64 c, .string K, .string M, .int .i64 v, .string X]))] :: RdR (wr.heap.size + 1) S L :: rs) (w2.setCell ⟨wr.heap.size, 0, none⟩ (.iface 56 (.agg #[.int .i64 k, .int .i64 i, .int .i64 s, .int .i64 t, .int .i64 p, .int .i64 c, .string K, .string M, .int .i64 v, .string X])))) := H2p.put 0 (by simp) _
  obtain ⟨x0, _⟩ := HP.out.bcell (q := wr.heap.size) (vs := [(.iface 56 (.agg #[.int .i64 k, .int .i64 i, .int .i64 s, .int .i64 t, .int .i64 p, .int .i64 c, .string K, .string M, .int .i64 v, .string X]))]) (by simp) 0 _ rfl
  clear H2 H2p
  go_wp2_with fail
  refine (CM.out _).mono ?_
  rintro e w3 ⟨rfl, hb⟩
  have HQ : Hid (Has B w (BlockR wr.heap.size [(.iface 56 (.agg #[.int .i64 k, .int .i64 i, .int .i64 s, .int .i64 t, .int .i64 p, .int .i64 c, .string K, .string M, .int .i64 v, .string X]))] :: RdR (wr.heap.size + 1) S L :: rs) w3) := HP.out.below hb
  clear HP hb x0 c0 f0 CM
  obtain ⟨y0, g0⟩ := HQ.out.bcell (q := wr.heap.size) (vs := [(.iface 56 (.agg #[.int .i64 k, .int .i64 i, .int .i64 s, .int .i64 t, .int .i64 p, .int .i64 c, .string K, .string M, .int .i64 v, .string X]))]) (by simp) 0 _ rfl
  obtain ⟨y1, _⟩ := HQ.out.bcell (q := wr.heap.size + 1) (vs := [.string S, .int .i64 (L : Int)]) (List.mem_cons_of_mem _ List.mem_cons_self) 1 (.int .i64 (L : Int)) rfl
  have y2 : (w3.setCell ⟨wr.heap.size, 0, none⟩ (.iface 56 (.agg #[.int .i64 k, .int .i64 i, .int .i64 s, .int .i64 t, .int .i64 p, .int .i64 c, .string K, .string M, .int .i64 v, .string X]))).cell? ⟨wr.heap.size, 0, none⟩ = some (.iface 56 (.agg #[.int .i64 k, .int .i64 i, .int .i64 s, .int .i64 t, .int .i64 p, .int .i64 c, .string K, .string M, .int .i64 v, .string X])) := World.cell?_setCell_same _ _ _ y0
  have HZ : Hid (Has B w rs (w3.setCell ⟨wr.heap.size, 0, none⟩ (.iface 56 (.agg #[.int .i64 k, .int .i64 i, .int .i64 s, .int .i64 t, .int .i64 p, .int .i64 c, .string K, .string M, .int .i64 v, .string X])))) := (HQ.out.put 0 (by simp) (.iface 56 (.agg #[.int .i64 k, .int .i64 i, .int .i64 s, .int .i64 t, .int .i64 p, .int .i64 c, .string K, .string M, .int .i64 v, .string X]))).drop.drop
  clear HQ
  subst hLS
  go_wp2_with fail
  refine leaves_cons (f := 24) (args := #[.pointer (some ⟨wr.heap.size, 0, none⟩)]) (by simp) (by simp [go_sem]) ?_
  refine (catch_idle ⟨wr.heap.size, 0, none⟩ _).mono ?_
  rintro e u' w'' ⟨rfl, rfl, rfl⟩
  simp [Leaves, settle, results, Try.results19, go_sem, y2]
  exact HZ
set_option maxHeartbeats 2000000 in
theorem readN_more {k i s t p c : Int} {K M : ByteArray} {v : Int} {X : ByteArray} {l : List UInt8} {S : ByteArray} {r : List UInt8} (hS : S.size ≤ 4611686018427387904) (hG : GoodN k i s t p c K M v X l) (hr : r ≠ []) (he : S.data.toList = l ++ r) (h : Has B w rs wr) :
    Calls Try.prog 19 #[.string S] wr fun e w' => e = .returned .nilIface ∧ Hid (Has B w rs w') := by
  have hl : S.data.toList.length = S.size := Array.length_toList
  obtain ⟨L, hL⟩ : ∃ L, l.length = L := ⟨_, rfl⟩
  have hLS : ((L : Int) == (S.size : Int)) = false := beq_eq_false_iff_ne.2 (by
    have h1 : S.size = L + r.length := by
      have h0 := congrArg List.length he
      rw [List.length_append, hL, hl] at h0
      exact h0
    have h2 : 0 < r.length := by cases r with | nil => exact absurd rfl hr | cons _ _ => simp
    omega)
  have hmf : ∀ (fn : Fn) (first cap : Array Value) (w : World), (Instr.makeFunc fn first cap).run Try.prog w = .ok (.func fn first cap) w := fun _ _ _ _ => rfl
  have hmm := m_note_may
  have H1 : Hid (Has B w (RdR (wr.heap.size + 1) S 0 :: BlockR wr.heap.size [.nilIface] :: rs) ((wr.alloc (.cells #[.nilIface] 52)).alloc (.cells #[.string S, .int .i64 0] 65))) := by
    have x := (h.box [.nilIface] 52).box [.string S, .int .i64 0] 65
    rw [World.size_alloc] at x
    exact x
  have D1 : Hid (Calls Try.prog 25 #[.pointer (some ⟨wr.heap.size + 1, 0, none⟩)] ((wr.alloc (.cells #[.nilIface] 52)).alloc (.cells #[.string S, .int .i64 0] 65)) fun e w' => e = .returned (.iface 56 (.agg (vF k i s t p c K M v X).toArray)) ∧ Hid (Has B w (RdR (wr.heap.size + 1) S L :: BlockR wr.heap.size [.nilIface] :: rs) w')) := by
    have x := valueN_any (r := r) hS hG (by exact he) H1.out
    rw [hL] at x
    exact x
  have CM : Hid (∀ wq, Calls Try.prog 91 #[.agg #[.int .i64 k, .int .i64 i, .int .i64 s, .int .i64 t, .int .i64 p, .int .i64 c, .string K, .string M, .int .i64 v, .string X]] wq fun e w' => e = .returned (.bool true) ∧ Below wq.heap.size wq w') := hG.2.1
  clear h H1 he hG hl hL
  go_enter_defers Try.func19, Try.ntmps19
  go_wp2_with fail
  refine D1.out.mono ?_
  rintro e w2 ⟨rfl, H2⟩
  clear D1
  have hvn : (vF k i s t p c K M v X).toArray = #[.int .i64 k, .int .i64 i, .int .i64 s, .int .i64 t, .int .i64 p, .int .i64 c, .string K, .string M, .int .i64 v, .string X] := rfl
  rw [hvn]
  clear hvn
  have H2p := H2.out.perm (List.Perm.swap _ _ _)
  obtain ⟨c0, f0⟩ := H2p.bcell (q := wr.heap.size) (vs := [.nilIface]) (by simp) 0 _ rfl
  have HP : Hid (Has B w (BlockR wr.heap.size [(.iface 56 (.agg #[.int .i64 k, .int .i64 i, .int .i64 s, .int .i64 t, .int .i64 p, .int .i64 c, .string K, .string M, .int .i64 v, .string X]))] :: RdR (wr.heap.size + 1) S L :: rs) (w2.setCell ⟨wr.heap.size, 0, none⟩ (.iface 56 (.agg #[.int .i64 k, .int .i64 i, .int .i64 s, .int .i64 t, .int .i64 p, .int .i64 c, .string K, .string M, .int .i64 v, .string X])))) := H2p.put 0 (by simp) _
  obtain ⟨x0, _⟩ := HP.out.bcell (q := wr.heap.size) (vs := [(.iface 56 (.agg #[.int .i64 k, .int .i64 i, .int .i64 s, .int .i64 t, .int .i64 p, .int .i64 c, .string K, .string M, .int .i64 v, .string X]))]) (by simp) 0 _ rfl
  clear H2 H2p
  go_wp2_with fail
  refine (CM.out _).mono ?_
  rintro e w3 ⟨rfl, hb⟩
  have HQ : Hid (Has B w (BlockR wr.heap.size [(.iface 56 (.agg #[.int .i64 k, .int .i64 i, .int .i64 s, .int .i64 t, .int .i64 p, .int .i64 c, .string K, .string M, .int .i64 v, .string X]))] :: RdR (wr.heap.size + 1) S L :: rs) w3) := HP.out.below hb
  clear HP hb x0 c0 f0 CM
  obtain ⟨y0, g0⟩ := HQ.out.bcell (q := wr.heap.size) (vs := [(.iface 56 (.agg #[.int .i64 k, .int .i64 i, .int .i64 s, .int .i64 t, .int .i64 p, .int .i64 c, .string K, .string M, .int .i64 v, .string X]))]) (by simp) 0 _ rfl
  obtain ⟨y1, _⟩ := HQ.out.bcell (q := wr.heap.size + 1) (vs := [.string S, .int .i64 (L : Int)]) (List.mem_cons_of_mem _ List.mem_cons_self) 1 (.int .i64 (L : Int)) rfl
  have y2 : (w3.setCell ⟨wr.heap.size, 0, none⟩ .nilIface).cell? ⟨wr.heap.size, 0, none⟩ = some .nilIface := World.cell?_setCell_same _ _ _ y0
  have HZ : Hid (Has B w rs (w3.setCell ⟨wr.heap.size, 0, none⟩ .nilIface)) := (HQ.out.put 0 (by simp) .nilIface).drop.drop
  clear HQ
  go_wp2_with fail
  refine (giveUp_any _).mono ?_
  rintro e w4 ⟨rfl, hw4⟩
  rw [hw4]
  clear hw4
  go_wp2_with fail
  refine leaves_cons (f := 24) (args := #[.pointer (some ⟨wr.heap.size, 0, none⟩)]) (by simp) (by simp [go_sem]) ?_
  refine (catch_finds ⟨wr.heap.size, 0, none⟩ _ _ y0 g0).mono ?_
  rintro e u' w'' ⟨rfl, rfl, rfl⟩
  simp [Leaves, settle, results, Try.results19, go_sem, y2]
  exact HZ
theorem ta_note_letter (x : Array Value) (w : World) : (Instr.typeAssert (.iface 56 (.agg x)) 52 49 true).run Try.prog w = .ok (.tuple #[.agg #[.int .i64 0, .int .i64 0, .int .i64 0, .int .i64 0, .int .i64 0, .slice none 0 0], .bool false]) w := by kernel_rfl
theorem ta_note_event (x : Array Value) (w : World) : (Instr.typeAssert (.iface 56 (.agg x)) 52 55 true).run Try.prog w = .ok (.tuple #[.agg #[.int .i64 0, .int .i64 0, .int .i64 0, .slice none 0 0], .bool false]) w := by kernel_rfl
theorem whatN_ok {k i s t p c : Int} {K M : ByteArray} {v : Int} {X : ByteArray} {l : List UInt8} {S : ByteArray} (hS : S.size ≤ 4611686018427387904) (hG : GoodN k i s t p c K M v X l) (he : S.data.toList = l) (h : Has B w rs wr) :
    Calls Try.prog 11 #[.string S] wr fun e w' => e = .returned (.int .i64 3) ∧ Hid (Has B w rs w') := by
  have D1 : Hid (Calls Try.prog 19 #[.string S] wr fun e w' => e = .returned (.iface 56 (.agg #[.int .i64 k, .int .i64 i, .int .i64 s, .int .i64 t, .int .i64 p, .int .i64 c, .string K, .string M, .int .i64 v, .string X])) ∧ Hid (Has B w rs w')) := readN_ok hS hG he h
  have hta := ta_note
  have htl := ta_note_letter
  have hte := ta_note_event
  clear h he hG
  go_enter Try.func11, Try.ntmps11
  go_wp2_with fail
  refine D1.out.mono ?_
  rintro e w2 ⟨rfl, H2⟩
  clear D1
  go_wp2_with fail
  go_ret
  exact ⟨rfl, H2⟩
set_option maxHeartbeats 2000000 in
theorem readNoteN_ok {k i s t p c : Int} {K M : ByteArray} {v : Int} {X : ByteArray} {l : List UInt8} {S : ByteArray} (hS : S.size ≤ 4611686018427387904) (hG : GoodN k i s t p c K M v X l) (he : S.data.toList = l) (h : Has B w rs wr) :
    Calls Try.prog 17 #[.string S] wr fun e w' => e = .returned (.tuple #[.agg #[.int .i64 k, .int .i64 i, .int .i64 s, .int .i64 t, .int .i64 p, .int .i64 c, .string K, .string M, .int .i64 v, .string X], .int .i64 0]) ∧ Hid (Has B w rs w') := by
  have H0 : Hid (Has B w (BlockR wr.heap.size zN :: rs) (wr.alloc (.cells #[.int .i64 0, .int .i64 0, .int .i64 0, .int .i64 0, .int .i64 0, .int .i64 0, .string ⟨#[]⟩, .string ⟨#[]⟩, .int .i64 0, .string ⟨#[]⟩] 35))) := h.box zN 35
  have D1 : Hid (Calls Try.prog 19 #[.string S] (wr.alloc (.cells #[.int .i64 0, .int .i64 0, .int .i64 0, .int .i64 0, .int .i64 0, .int .i64 0, .string ⟨#[]⟩, .string ⟨#[]⟩, .int .i64 0, .string ⟨#[]⟩] 35)) fun e w' => e = .returned (.iface 56 (.agg #[.int .i64 k, .int .i64 i, .int .i64 s, .int .i64 t, .int .i64 p, .int .i64 c, .string K, .string M, .int .i64 v, .string X])) ∧ Hid (Has B w (BlockR wr.heap.size zN :: rs) w')) := readN_ok hS hG he H0.out
  obtain ⟨rb, hrb⟩ : ∃ rb, wr.heap.size = rb := ⟨_, rfl⟩
  rw [hrb] at D1
  clear h H0 he hG
  have hta := ta_note
  go_enter Try.func17, Try.ntmps17
  go_wp2_with fail
  refine D1.out.mono ?_
  rintro e w2 ⟨rfl, h2⟩
  clear hrb D1
  have H2 : Hid (Has B w (BlockR rb zN :: BlockR w2.heap.size (vF k i s t p c K M v X) :: rs) (w2.alloc (.cells #[.int .i64 k, .int .i64 i, .int .i64 s, .int .i64 t, .int .i64 p, .int .i64 c, .string K, .string M, .int .i64 v, .string X] 56))) := (h2.out.box (vF k i s t p c K M v X) 56).perm (List.Perm.swap _ _ _)
  clear h2
  go_upto_region 4 with fail
  generalize (w2.alloc (.cells #[.int .i64 k, .int .i64 i, .int .i64 s, .int .i64 t, .int .i64 p, .int .i64 c, .string K, .string M, .int .i64 v, .string X] 56)) = w3 at *
  generalize w2.heap.size = nb at *
  obtain ⟨x0, _⟩ := H2.out.bcell (q := nb) (vs := (vF k i s t p c K M v X)) (by simp) 0 _ rfl
  obtain ⟨x1, _⟩ := H2.out.bcell (q := nb) (vs := (vF k i s t p c K M v X)) (by simp) 1 _ rfl
  obtain ⟨x2, _⟩ := H2.out.bcell (q := nb) (vs := (vF k i s t p c K M v X)) (by simp) 2 _ rfl
  obtain ⟨x3, _⟩ := H2.out.bcell (q := nb) (vs := (vF k i s t p c K M v X)) (by simp) 3 _ rfl
  obtain ⟨x4, _⟩ := H2.out.bcell (q := nb) (vs := (vF k i s t p c K M v X)) (by simp) 4 _ rfl
  obtain ⟨x5, _⟩ := H2.out.bcell (q := nb) (vs := (vF k i s t p c K M v X)) (by simp) 5 _ rfl
  obtain ⟨x6, _⟩ := H2.out.bcell (q := nb) (vs := (vF k i s t p c K M v X)) (by simp) 6 _ rfl
  obtain ⟨x7, _⟩ := H2.out.bcell (q := nb) (vs := (vF k i s t p c K M v X)) (by simp) 7 _ rfl
  obtain ⟨x8, _⟩ := H2.out.bcell (q := nb) (vs := (vF k i s t p c K M v X)) (by simp) 8 _ rfl
  obtain ⟨x9, _⟩ := H2.out.bcell (q := nb) (vs := (vF k i s t p c K M v X)) (by simp) 9 _ rfl
  obtain ⟨y0, g0⟩ := H2.out.bcell (q := rb) (vs := zN) (by simp) 0 _ rfl
  obtain ⟨y1, g1⟩ := H2.out.bcell (q := rb) (vs := zN) (by simp) 1 _ rfl
  obtain ⟨y2, g2⟩ := H2.out.bcell (q := rb) (vs := zN) (by simp) 2 _ rfl
  obtain ⟨y3, g3⟩ := H2.out.bcell (q := rb) (vs := zN) (by simp) 3 _ rfl
  obtain ⟨y4, g4⟩ := H2.out.bcell (q := rb) (vs := zN) (by simp) 4 _ rfl
  obtain ⟨y5, g5⟩ := H2.out.bcell (q := rb) (vs := zN) (by simp) 5 _ rfl
  obtain ⟨y6, g6⟩ := H2.out.bcell (q := rb) (vs := zN) (by simp) 6 _ rfl
  obtain ⟨y7, g7⟩ := H2.out.bcell (q := rb) (vs := zN) (by simp) 7 _ rfl
  obtain ⟨y8, g8⟩ := H2.out.bcell (q := rb) (vs := zN) (by simp) 8 _ rfl
  obtain ⟨y9, g9⟩ := H2.out.bcell (q := rb) (vs := zN) (by simp) 9 _ rfl
  have HQ : Hid (Has B w (BlockR rb (vF k i s t p c K M v X) :: BlockR nb (vF k i s t p c K M v X) :: rs) (setAll rb 0 (vF k i s t p c K M v X) w3)) := Has.puts (vF k i s t p c K M v X) [] zN H2.out rfl
  clear H2 hta
  go_wp2_with fail
  have HC : Hid (∀ j u, (vF k i s t p c K M v X)[j]? = some u → (setAll rb 0 (vF k i s t p c K M v X) w3).cell? ⟨rb, j, none⟩ = some u) := fun j u hu => (HQ.out.bcell (q := rb) (vs := (vF k i s t p c K M v X)) (by simp) j u hu).1
  refine bodyPost_ret (results_row_tmp rfl _ _ rb (vF k i s t p c K M v X) _ rfl HC.out Try.underlying35 rfl (by kernel_rfl)) rfl ⟨rfl, ?_⟩
  exact HQ.out.drop.drop
end
end Go.Proofs.Ytbgankldnjeohaa.Pl

/- Reading at any place of any text: a number, a text, a list, or whoever reads gives up. -/
set_option linter.unusedVariables false
set_option linter.unusedSimpArgs false
set_option maxRecDepth 100000
namespace Go.Proofs.Ytbgankldnjeohaa.Pl
open Go.RowKit Go.Proofs.Ytbgankldnjeohaa

section
variable {B : Nat} {w wr : World} {rs : List Res}
theorem drop_of {l f : List UInt8} {c : Nat} (h : l.take c = f) : l = f ++ l.drop c := by rw [← h, List.take_append_drop]
theorem step_of {S : ByteArray} {a c : Nat} {f : List UInt8} (ha : a ≤ S.size) (h1 : (S.data.toList.drop a).take c = f) (h2 : c ≤ (S.data.toList.drop a).length) : a + c ≤ S.size ∧ S.data.toList.drop a = f ++ S.data.toList.drop (a + c) := by
  have hl : S.data.toList.length = S.size := Array.length_toList
  rw [List.length_drop, hl] at h2
  refine ⟨by omega, ?_⟩
  have := drop_of h1
  rw [List.drop_drop] at this
  exact this
theorem numG {q a : Nat} {S : ByteArray} (hS : S.size ≤ 4611686018427387904) (ha : a ≤ S.size) (h : Has B w (RdR q S a :: rs) wr) :
    Calls Try.prog 37 #[.pointer (some ⟨q, 0, none⟩)] wr fun en w' => (en = gave ∧ Hid (Has B w (RdR q S a :: rs) w')) ∨ ∃ n b : Nat, n ≤ 1125899906842624 ∧ b ≤ S.size ∧ S.data.toList.drop a = PackMath.num n ++ S.data.toList.drop b ∧ en = .returned (.int .i64 (n : Int)) ∧ Hid (Has B w (RdR q S b :: rs) w') := by
  obtain ⟨n, c, e, ht⟩ : ∃ n c e, PackMath.tn (S.data.toList.drop a) = (n, c, e) := ⟨_, _, _, rfl⟩
  by_cases he : e = 0
  · subst he
    obtain ⟨o1, o2, o3, o4, o5, _⟩ := PackMath.tn_ok ht
    obtain ⟨s1, s2⟩ := step_of ha o3 o4
    exact (numR_ok hS ha h ht).mono fun en w' ⟨he, hh⟩ => Or.inr ⟨n, a + c, o1, s1, s2, he, hh⟩
  · exact (numR_no hS ha h ht he).mono fun en w' ⟨he, hh⟩ => Or.inl ⟨he, hh⟩
theorem keysG {q a : Nat} {S : ByteArray} (hS : S.size ≤ 4611686018427387904) (ha : a ≤ S.size) (h : Has B w (RdR q S a :: rs) wr) :
    Calls Try.prog 38 #[.pointer (some ⟨q, 0, none⟩)] wr fun en w' => (en = gave ∧ Hid (Has B w (RdR q S a :: rs) w')) ∨ ∃ (xs : List (List UInt8)) (b : Nat) (ao : Option Addr) (cap : Nat), xs.length ≤ 4000 ∧ (∀ s ∈ xs, s.length ≤ 2000) ∧ b ≤ S.size ∧ S.data.toList.drop a = PackMath.lst xs ++ S.data.toList.drop b ∧ en = .returned (.slice ao xs.length cap) ∧ Hid (Has B w (RdR q S b :: TR (.slice ao xs.length cap) xs :: rs) w') := by
  obtain ⟨xs, c, e, ht⟩ : ∃ n c e, PackMath.tl (S.data.toList.drop a) = (n, c, e) := ⟨_, _, _, rfl⟩
  by_cases he : e = 0
  · subst he
    obtain ⟨o1, o2, o3, o4, o5, _⟩ := PackMath.tl_ok ht
    obtain ⟨s1, s2⟩ := step_of ha o4 o5
    refine (keysR_ok hS ha h ht).mono ?_
    rintro en w' ⟨v, rfl, ⟨ao, cap, rfl⟩, hh⟩
    exact Or.inr ⟨xs, a + c, ao, cap, o1, o2, s1, s2, rfl, hh⟩
  · exact (keysR_no hS ha h ht he).mono fun en w' ⟨he, hh⟩ => Or.inl ⟨he, hh⟩
set_option maxHeartbeats 1000000 in
theorem wordR_no {q a c e : Nat} {S : ByteArray} {l : List UInt8} (hS : S.size ≤ 4611686018427387904) (ha : a ≤ S.size) (h : Has B w (RdR q S a :: rs) wr) (ht : PackMath.tt (S.data.toList.drop a) = (l, c, e)) (he : e ≠ 0) :
    Calls Try.prog 39 #[.pointer (some ⟨q, 0, none⟩)] wr fun en w' => en = gave ∧ Hid (Has B w (RdR q S a :: rs) w') := by
  have HD : Hid (∀ m, Has B w (RdR q S a :: rs) (wr.drewN m)) := fun m => h.below (below_drewN (Below.refl _ _) m)
  have HT : Hid (∀ w, Calls Try.prog 45 #[.string S, .int .i64 (a : Int)] w fun en w' => en = .returned (.tuple #[.string ⟨l.toArray⟩, .int .i64 0, .int .i64 (e : Int)]) ∧ w' = w) := fun w => by
    have x := Pk.takeText_any S a hS ha w
    rw [Pk.ttV_of ht, if_neg he] at x
    exact x
  have CP : Hid (∀ wq, Calls Try.prog 43 #[.pointer (some ⟨q, 0, none⟩), .int .i64 0, .int .i64 (e : Int)] wq fun en w' => en = gave ∧ w' = wq) := fun wq => pass_no (by omega) wq
  obtain ⟨c0, f0⟩ := h.bcell (q := q) (vs := [.string S, .int .i64 (a : Int)]) List.mem_cons_self 0 _ rfl
  obtain ⟨c1, f1⟩ := h.bcell (q := q) (vs := [.string S, .int .i64 (a : Int)]) List.mem_cons_self 1 _ rfl
  clear h ht hS ha he
  go_enter Try.func39, Try.ntmps39
  go_wp2_with fail
  go_quiet ((go_at_call 45; exact Calls.quiet_of_same (HT.out _)))
  go_wp2_with fail
  refine (CP.out _).mono ?_
  rintro en w2 ⟨rfl, hw2⟩
  rw [hw2]
  go_wp2_with fail
  exact bodyPost_dies rfl ⟨rfl, HD.out _⟩
theorem wordG {q a : Nat} {S : ByteArray} (hS : S.size ≤ 4611686018427387904) (ha : a ≤ S.size) (h : Has B w (RdR q S a :: rs) wr) :
    Calls Try.prog 39 #[.pointer (some ⟨q, 0, none⟩)] wr fun en w' => (en = gave ∧ Hid (Has B w (RdR q S a :: rs) w')) ∨ ∃ (Y : ByteArray) (b : Nat), Y.size ≤ 2000 ∧ b ≤ S.size ∧ S.data.toList.drop a = PackMath.txt Y.data.toList ++ S.data.toList.drop b ∧ en = .returned (.string Y) ∧ Hid (Has B w (RdR q S b :: rs) w') := by
  obtain ⟨l, c, e, ht⟩ : ∃ n c e, PackMath.tt (S.data.toList.drop a) = (n, c, e) := ⟨_, _, _, rfl⟩
  by_cases he : e = 0
  · subst he
    obtain ⟨o1, o3, o4, o5, _⟩ := PackMath.tt_ok ht
    obtain ⟨s1, s2⟩ := step_of ha o4 o5
    refine (wordR_ok hS ha h ht).mono fun en w' ⟨he, hh⟩ => Or.inr ⟨⟨l.toArray⟩, a + c, ?_, s1, ?_, he, hh⟩
    · show l.toArray.size ≤ 2000
      simpa using o1
    · rw [s2]
  · exact (wordR_no hS ha h ht he).mono fun en w' ⟨he, hh⟩ => Or.inl ⟨he, hh⟩
end
end Go.Proofs.Ytbgankldnjeohaa.Pl

/- Reading an event, of any text: it gives up, or what comes out stands in the text. -/
set_option linter.unusedVariables false
set_option linter.unusedSimpArgs false
set_option maxRecDepth 100000
namespace Go.Proofs.Ytbgankldnjeohaa.Pl
open Go.RowKit Go.Proofs.Ytbgankldnjeohaa

section
variable {B : Nat} {w wr : World} {rs : List Res}
set_option maxHeartbeats 2000000 in
theorem eventG {q : Nat} {S : ByteArray} (hS : S.size ≤ 4611686018427387904) (h1 : 1 ≤ S.size) (h : Has B w (RdR q S 1 :: rs) wr) :
    Calls Try.prog 33 #[.pointer (some ⟨q, 0, none⟩)] wr fun en w' => (en = gave ∧ Hid (Has B w rs w')) ∨ ∃ (k i s : Nat) (xs : List (List UInt8)) (b : Nat) (ao : Option Addr) (cap : Nat), xs.length ≤ 4000 ∧ (∀ x ∈ xs, x.length ≤ 2000) ∧ b ≤ S.size ∧ S.data.toList.drop 1 = (evL k i s xs).tail ++ S.data.toList.drop b ∧
      en = .returned (.agg (vV k i s (.slice ao xs.length cap)).toArray) ∧ Hid (Has B w (RdR q S b :: TR (.slice ao xs.length cap) xs :: rs) w') := by
  have H0 : Hid (Has B w (RdR q S 1 :: BlockR (wr.heap.size + 1) (vV 0 0 0 nilS) :: BlockR wr.heap.size (vV 0 0 0 nilS) :: rs) ((wr.alloc (.cells #[.int .i64 0, .int .i64 0, .int .i64 0, .slice none 0 0] 55)).alloc (.cells #[.int .i64 0, .int .i64 0, .int .i64 0, .slice none 0 0] 55))) := by
    have x := ((h.box (vV 0 0 0 nilS) 55).box (vV 0 0 0 nilS) 55)
    rw [World.size_alloc] at x
    exact x.perm ((List.perm_middle (l₁ := [_, _]) (l₂ := rs)))
  obtain ⟨rb, hrb⟩ : ∃ rb, wr.heap.size = rb := ⟨_, rfl⟩
  clear h
  rw [hrb] at H0
  obtain ⟨nb, hnb⟩ : ∃ nb, rb + 1 = nb := ⟨_, rfl⟩
  have HR : Hid (wr.heap.size = rb) := hrb
  have HNB : Hid (rb + 1 = nb) := hnb
  rw [hnb] at H0
  clear hrb hnb
  have E0 := numG hS h1 H0.out
  clear H0
  go_enter Try.func33, Try.ntmps33
  go_wp2_with fail
  rw [HR.out, HNB.out]
  clear HR HNB
  refine E0.mono ?_
  clear E0
  rintro en v1 (⟨rfl, G1⟩ | ⟨k, b1, mk, hb1, d1, rfl, G1⟩)
  · have HZ : Hid (Has B w rs v1) := G1.out.drop.drop.drop
    clear G1
    go_wp2_with fail
    exact bodyPost_dies rfl (Or.inl ⟨rfl, HZ⟩)
  obtain ⟨e1, f1⟩ := G1.out.bcell (q := nb) (vs := (vV 0 0 0 nilS)) (by simp) 0 _ rfl
  have P1 : Hid (Has B w (RdR q S b1 :: BlockR nb (vV (k : Int) 0 0 nilS) :: BlockR rb (vV 0 0 0 nilS) :: rs) (v1.setCell ⟨nb, 0, none⟩ (.int .i64 (k : Int)))) := ((G1.out.perm (List.Perm.swap _ _ _)).put 0 (by simp [vV]) (.int .i64 (k : Int))).perm (List.Perm.swap _ _ _)
  obtain ⟨e0, _⟩ := P1.out.bcell (q := nb) (vs := (vV (k : Int) 0 0 nilS)) (by simp) 0 _ rfl
  clear G1
  have E2 := numG hS hb1 P1.out
  go_wp2_with fail
  refine E2.mono ?_
  clear E2
  rintro en v2 (⟨rfl, G2⟩ | ⟨i, b2, mi, hb2, d2, rfl, G2⟩)
  · have HZ : Hid (Has B w rs v2) := G2.out.drop.drop.drop
    clear G2
    go_wp2_with fail
    exact bodyPost_dies rfl (Or.inl ⟨rfl, HZ⟩)
  try clear e0
  try clear e1 f1
  obtain ⟨e1, f1⟩ := G2.out.bcell (q := nb) (vs := (vV (k : Int) 0 0 nilS)) (by simp) 1 _ rfl
  have P2 : Hid (Has B w (RdR q S b2 :: BlockR nb (vV (k : Int) (i : Int) 0 nilS) :: BlockR rb (vV 0 0 0 nilS) :: rs) (v2.setCell ⟨nb, 1, none⟩ (.int .i64 (i : Int)))) := ((G2.out.perm (List.Perm.swap _ _ _)).put 1 (by simp [vV]) (.int .i64 (i : Int))).perm (List.Perm.swap _ _ _)
  obtain ⟨e0, _⟩ := P2.out.bcell (q := nb) (vs := (vV (k : Int) (i : Int) 0 nilS)) (by simp) 0 _ rfl
  clear G2
  clear P1
  by_cases h6 : k = 6
  · skip
    have y6' : ((k : Int) == 6) = true := by rw [h6]; rfl
    have y6b : ((k : Int) != 6) = false := by simp [bne, y6']
    have q6 : Hid (k = 6) := h6
    clear h6
    have HPZ : Hid (Has B w (BlockR rb (vV 0 0 0 nilS) :: RdR q S b2 :: BlockR nb (vV (k : Int) (i : Int) 0 nilS) :: rs) (v2.setCell ⟨nb, 1, none⟩ (.int .i64 (i : Int)))) := P2.out.perm (List.perm_middle (l₁ := [_, _]) (l₂ := rs))
    clear P2
    try clear e0
    obtain ⟨x0, _⟩ := HPZ.out.bcell (q := nb) (vs := (vV (k : Int) (i : Int) 0 nilS)) (by simp) 0 _ rfl
    obtain ⟨x1, _⟩ := HPZ.out.bcell (q := nb) (vs := (vV (k : Int) (i : Int) 0 nilS)) (by simp) 1 _ rfl
    obtain ⟨x2, _⟩ := HPZ.out.bcell (q := nb) (vs := (vV (k : Int) (i : Int) 0 nilS)) (by simp) 2 _ rfl
    obtain ⟨x3, _⟩ := HPZ.out.bcell (q := nb) (vs := (vV (k : Int) (i : Int) 0 nilS)) (by simp) 3 _ rfl
    obtain ⟨y0, g0⟩ := HPZ.out.bcell (q := rb) (vs := (vV 0 0 0 nilS)) (by simp) 0 _ rfl
    obtain ⟨y1, g1⟩ := HPZ.out.bcell (q := rb) (vs := (vV 0 0 0 nilS)) (by simp) 1 _ rfl
    obtain ⟨y2, g2⟩ := HPZ.out.bcell (q := rb) (vs := (vV 0 0 0 nilS)) (by simp) 2 _ rfl
    obtain ⟨y3, g3⟩ := HPZ.out.bcell (q := rb) (vs := (vV 0 0 0 nilS)) (by simp) 3 _ rfl
    have HQ : Hid (Has B w (BlockR rb (vV (k : Int) (i : Int) 0 nilS) :: RdR q S b2 :: BlockR nb (vV (k : Int) (i : Int) 0 nilS) :: rs) (setAll rb 0 (vV (k : Int) (i : Int) 0 nilS) (v2.setCell ⟨nb, 1, none⟩ (.int .i64 (i : Int))))) := Has.puts (vV (k : Int) (i : Int) 0 nilS) [] (vV 0 0 0 nilS) HPZ.out rfl
    clear HPZ
    go_wp2_with fail
    have HC : Hid (∀ j u, (vV (k : Int) (i : Int) 0 nilS)[j]? = some u → (setAll rb 0 (vV (k : Int) (i : Int) 0 nilS) (v2.setCell ⟨nb, 1, none⟩ (.int .i64 (i : Int)))).cell? ⟨rb, j, none⟩ = some u) := fun j u hu => (HQ.out.bcell (q := rb) (vs := (vV (k : Int) (i : Int) 0 nilS)) (by simp) j u hu).1
    refine bodyPost_ret (results_row rfl _ _ rb (vV (k : Int) (i : Int) 0 nilS) _ rfl HC.out Try.underlying55 rfl (by kernel_rfl)) rfl (by
      refine Or.inr ⟨k, i, 0, [], b2, none, 0, by simp, by simp, hb2, ?_, rfl, ?_⟩
      · rw [d1, d2]
        have h6 := q6.out; subst h6; simp [evL, numsL]
      · exact (((HQ.out.drop.perm (List.Perm.swap _ _ _)).drop).nilT).perm (List.Perm.swap _ _ _))
  · skip
    have n6' : ((k : Int) == 6) = false := beq_eq_false_iff_ne.2 (by omega)
    have n6b : ((k : Int) != 6) = true := by simp [bne, n6']
    have E3 := numG hS hb2 P2.out
    go_wp2_with fail
    refine E3.mono ?_
    clear E3
    rintro en v3 (⟨rfl, G3⟩ | ⟨s, b3, ms, hb3, d3, rfl, G3⟩)
    · have HZ : Hid (Has B w rs v3) := G3.out.drop.drop.drop
      clear G3
      go_wp2_with fail
      exact bodyPost_dies rfl (Or.inl ⟨rfl, HZ⟩)
    try clear e0
    try clear e1 f1
    obtain ⟨e1, f1⟩ := G3.out.bcell (q := nb) (vs := (vV (k : Int) (i : Int) 0 nilS)) (by simp) 2 _ rfl
    have P3 : Hid (Has B w (RdR q S b3 :: BlockR nb (vV (k : Int) (i : Int) (s : Int) nilS) :: BlockR rb (vV 0 0 0 nilS) :: rs) (v3.setCell ⟨nb, 2, none⟩ (.int .i64 (s : Int)))) := ((G3.out.perm (List.Perm.swap _ _ _)).put 2 (by simp [vV]) (.int .i64 (s : Int))).perm (List.Perm.swap _ _ _)
    obtain ⟨e0, _⟩ := P3.out.bcell (q := nb) (vs := (vV (k : Int) (i : Int) (s : Int) nilS)) (by simp) 0 _ rfl
    clear G3
    clear P2
    by_cases h1k : k = 1
    · skip
      have y1' : ((k : Int) == 1) = true := by rw [h1k]; rfl
      have q1 : Hid (k = 1) := h1k
      clear h1k
      have E4 := keysG hS hb3 P3.out
      go_wp2_with fail
      refine E4.mono ?_
      clear E4
      rintro en v4 (⟨rfl, G4⟩ | ⟨xs, b4, ao, cap, hx1, hx2, hb4, d4, rfl, G4⟩)
      · have HZ : Hid (Has B w rs v4) := G4.out.drop.drop.drop
        clear G4
        go_wp2_with fail
        exact bodyPost_dies rfl (Or.inl ⟨rfl, HZ⟩)
      try clear e0
      try clear e1 f1
      have HX := G4.out.perm (List.perm_middle (l₁ := [_, _]) (a := BlockR nb (vV (k : Int) (i : Int) (s : Int) nilS)))
      obtain ⟨e1, f1⟩ := HX.bcell (q := nb) (vs := (vV (k : Int) (i : Int) (s : Int) nilS)) (by simp) 3 _ rfl
      have P4 : Hid (Has B w (BlockR nb (vV (k : Int) (i : Int) (s : Int) (.slice ao xs.length cap)) :: RdR q S b4 :: TR (.slice ao xs.length cap) xs :: BlockR rb (vV 0 0 0 nilS) :: rs) (v4.setCell ⟨nb, 3, none⟩ (.slice ao xs.length cap))) := HX.put 3 (by simp [vV]) (.slice ao xs.length cap)
      obtain ⟨e0, _⟩ := P4.out.bcell (q := nb) (vs := (vV (k : Int) (i : Int) (s : Int) (.slice ao xs.length cap))) (by simp) 0 _ rfl
      have HPZ : Hid (Has B w (BlockR rb (vV 0 0 0 nilS) :: BlockR nb (vV (k : Int) (i : Int) (s : Int) (.slice ao xs.length cap)) :: RdR q S b4 :: TR (.slice ao xs.length cap) xs :: rs) (v4.setCell ⟨nb, 3, none⟩ (.slice ao xs.length cap))) := P4.out.perm (List.perm_middle (l₁ := [_, _, _]) (l₂ := rs))
      clear HX P4 G4 P3
      try clear e0
      obtain ⟨x0, _⟩ := HPZ.out.bcell (q := nb) (vs := (vV (k : Int) (i : Int) (s : Int) (.slice ao xs.length cap))) (by simp) 0 _ rfl
      obtain ⟨x1, _⟩ := HPZ.out.bcell (q := nb) (vs := (vV (k : Int) (i : Int) (s : Int) (.slice ao xs.length cap))) (by simp) 1 _ rfl
      obtain ⟨x2, _⟩ := HPZ.out.bcell (q := nb) (vs := (vV (k : Int) (i : Int) (s : Int) (.slice ao xs.length cap))) (by simp) 2 _ rfl
      obtain ⟨x3, _⟩ := HPZ.out.bcell (q := nb) (vs := (vV (k : Int) (i : Int) (s : Int) (.slice ao xs.length cap))) (by simp) 3 _ rfl
      obtain ⟨y0, g0⟩ := HPZ.out.bcell (q := rb) (vs := (vV 0 0 0 nilS)) (by simp) 0 _ rfl
      obtain ⟨y1, g1⟩ := HPZ.out.bcell (q := rb) (vs := (vV 0 0 0 nilS)) (by simp) 1 _ rfl
      obtain ⟨y2, g2⟩ := HPZ.out.bcell (q := rb) (vs := (vV 0 0 0 nilS)) (by simp) 2 _ rfl
      obtain ⟨y3, g3⟩ := HPZ.out.bcell (q := rb) (vs := (vV 0 0 0 nilS)) (by simp) 3 _ rfl
      have HQ : Hid (Has B w (BlockR rb (vV (k : Int) (i : Int) (s : Int) (.slice ao xs.length cap)) :: BlockR nb (vV (k : Int) (i : Int) (s : Int) (.slice ao xs.length cap)) :: RdR q S b4 :: TR (.slice ao xs.length cap) xs :: rs) (setAll rb 0 (vV (k : Int) (i : Int) (s : Int) (.slice ao xs.length cap)) (v4.setCell ⟨nb, 3, none⟩ (.slice ao xs.length cap)))) := Has.puts (vV (k : Int) (i : Int) (s : Int) (.slice ao xs.length cap)) [] (vV 0 0 0 nilS) HPZ.out rfl
      clear HPZ
      go_wp2_with fail
      have HC : Hid (∀ j u, (vV (k : Int) (i : Int) (s : Int) (.slice ao xs.length cap))[j]? = some u → (setAll rb 0 (vV (k : Int) (i : Int) (s : Int) (.slice ao xs.length cap)) (v4.setCell ⟨nb, 3, none⟩ (.slice ao xs.length cap))).cell? ⟨rb, j, none⟩ = some u) := fun j u hu => (HQ.out.bcell (q := rb) (vs := (vV (k : Int) (i : Int) (s : Int) (.slice ao xs.length cap))) (by simp) j u hu).1
      refine bodyPost_ret (results_row rfl _ _ rb (vV (k : Int) (i : Int) (s : Int) (.slice ao xs.length cap)) _ rfl HC.out Try.underlying55 rfl (by kernel_rfl)) rfl (by
        refine Or.inr ⟨k, i, s, xs, b4, ao, cap, hx1, hx2, hb4, ?_, rfl, ?_⟩
        · rw [d1, d2, d3, d4]
          have h1k := q1.out; subst h1k; simp [evL, numsL]
        · exact HQ.out.drop.drop)
    · skip
      have n1' : ((k : Int) == 1) = false := beq_eq_false_iff_ne.2 (by omega)
      have n1b : ((k : Int) != 1) = true := by simp [bne, n1']
      have HPZ : Hid (Has B w (BlockR rb (vV 0 0 0 nilS) :: RdR q S b3 :: BlockR nb (vV (k : Int) (i : Int) (s : Int) nilS) :: rs) (v3.setCell ⟨nb, 2, none⟩ (.int .i64 (s : Int)))) := P3.out.perm (List.perm_middle (l₁ := [_, _]) (l₂ := rs))
      clear P3
      try clear e0
      obtain ⟨x0, _⟩ := HPZ.out.bcell (q := nb) (vs := (vV (k : Int) (i : Int) (s : Int) nilS)) (by simp) 0 _ rfl
      obtain ⟨x1, _⟩ := HPZ.out.bcell (q := nb) (vs := (vV (k : Int) (i : Int) (s : Int) nilS)) (by simp) 1 _ rfl
      obtain ⟨x2, _⟩ := HPZ.out.bcell (q := nb) (vs := (vV (k : Int) (i : Int) (s : Int) nilS)) (by simp) 2 _ rfl
      obtain ⟨x3, _⟩ := HPZ.out.bcell (q := nb) (vs := (vV (k : Int) (i : Int) (s : Int) nilS)) (by simp) 3 _ rfl
      obtain ⟨y0, g0⟩ := HPZ.out.bcell (q := rb) (vs := (vV 0 0 0 nilS)) (by simp) 0 _ rfl
      obtain ⟨y1, g1⟩ := HPZ.out.bcell (q := rb) (vs := (vV 0 0 0 nilS)) (by simp) 1 _ rfl
      obtain ⟨y2, g2⟩ := HPZ.out.bcell (q := rb) (vs := (vV 0 0 0 nilS)) (by simp) 2 _ rfl
      obtain ⟨y3, g3⟩ := HPZ.out.bcell (q := rb) (vs := (vV 0 0 0 nilS)) (by simp) 3 _ rfl
      have HQ : Hid (Has B w (BlockR rb (vV (k : Int) (i : Int) (s : Int) nilS) :: RdR q S b3 :: BlockR nb (vV (k : Int) (i : Int) (s : Int) nilS) :: rs) (setAll rb 0 (vV (k : Int) (i : Int) (s : Int) nilS) (v3.setCell ⟨nb, 2, none⟩ (.int .i64 (s : Int))))) := Has.puts (vV (k : Int) (i : Int) (s : Int) nilS) [] (vV 0 0 0 nilS) HPZ.out rfl
      clear HPZ
      go_wp2_with fail
      have HC : Hid (∀ j u, (vV (k : Int) (i : Int) (s : Int) nilS)[j]? = some u → (setAll rb 0 (vV (k : Int) (i : Int) (s : Int) nilS) (v3.setCell ⟨nb, 2, none⟩ (.int .i64 (s : Int)))).cell? ⟨rb, j, none⟩ = some u) := fun j u hu => (HQ.out.bcell (q := rb) (vs := (vV (k : Int) (i : Int) (s : Int) nilS)) (by simp) j u hu).1
      refine bodyPost_ret (results_row rfl _ _ rb (vV (k : Int) (i : Int) (s : Int) nilS) _ rfl HC.out Try.underlying55 rfl (by kernel_rfl)) rfl (by
        refine Or.inr ⟨k, i, s, [], b3, none, 0, by simp, by simp, hb3, ?_, rfl, ?_⟩
        · rw [d1, d2, d3]
          simp [evL, numsL, h6, h1k]
        · exact (((HQ.out.drop.perm (List.Perm.swap _ _ _)).drop).nilT).perm (List.Perm.swap _ _ _))
end
end Go.Proofs.Ytbgankldnjeohaa.Pl

/- Reading a letter, of any text: it gives up, or what comes out stands in the text. -/
set_option linter.unusedVariables false
set_option linter.unusedSimpArgs false
set_option maxRecDepth 100000
namespace Go.Proofs.Ytbgankldnjeohaa.Pl
open Go.RowKit Go.Proofs.Ytbgankldnjeohaa

section
variable {B : Nat} {w wr : World} {rs : List Res}
set_option maxHeartbeats 2000000 in
theorem letterG {q : Nat} {S : ByteArray} (hS : S.size ≤ 4611686018427387904) (h1 : 1 ≤ S.size) (h : Has B w (RdR q S 1 :: rs) wr) :
    Calls Try.prog 32 #[.pointer (some ⟨q, 0, none⟩)] wr fun en w' => (en = gave ∧ Hid (Has B w rs w')) ∨ ∃ (k p i s o : Nat) (xs : List (List UInt8)) (b : Nat) (ao : Option Addr) (cap : Nat), xs.length ≤ 4000 ∧ (∀ x ∈ xs, x.length ≤ 2000) ∧ b ≤ S.size ∧ S.data.toList.drop 1 = (ltL k p i s o xs).tail ++ S.data.toList.drop b ∧
      en = .returned (.agg (vL k p i s o (.slice ao xs.length cap)).toArray) ∧ Hid (Has B w (RdR q S b :: TR (.slice ao xs.length cap) xs :: rs) w') := by
  have H0 : Hid (Has B w (RdR q S 1 :: BlockR (wr.heap.size + 1) (vL 0 0 0 0 0 nilS) :: BlockR wr.heap.size (vL 0 0 0 0 0 nilS) :: rs) ((wr.alloc (.cells #[.int .i64 0, .int .i64 0, .int .i64 0, .int .i64 0, .int .i64 0, .slice none 0 0] 49)).alloc (.cells #[.int .i64 0, .int .i64 0, .int .i64 0, .int .i64 0, .int .i64 0, .slice none 0 0] 49))) := by
    have x := ((h.box (vL 0 0 0 0 0 nilS) 49).box (vL 0 0 0 0 0 nilS) 49)
    rw [World.size_alloc] at x
    exact x.perm ((List.perm_middle (l₁ := [_, _]) (l₂ := rs)))
  obtain ⟨rb, hrb⟩ : ∃ rb, wr.heap.size = rb := ⟨_, rfl⟩
  clear h
  rw [hrb] at H0
  obtain ⟨nb, hnb⟩ : ∃ nb, rb + 1 = nb := ⟨_, rfl⟩
  have HR : Hid (wr.heap.size = rb) := hrb
  have HNB : Hid (rb + 1 = nb) := hnb
  rw [hnb] at H0
  clear hrb hnb
  have E0 := numG hS h1 H0.out
  clear H0
  go_enter Try.func32, Try.ntmps32
  go_wp2_with fail
  rw [HR.out, HNB.out]
  clear HR HNB
  refine E0.mono ?_
  clear E0
  rintro en v1 (⟨rfl, G1⟩ | ⟨k, b1, mk, hb1, d1, rfl, G1⟩)
  · have HZ : Hid (Has B w rs v1) := G1.out.drop.drop.drop
    clear G1
    go_wp2_with fail
    exact bodyPost_dies rfl (Or.inl ⟨rfl, HZ⟩)
  obtain ⟨e1, f1⟩ := G1.out.bcell (q := nb) (vs := (vL 0 0 0 0 0 nilS)) (by simp) 0 _ rfl
  have P1 : Hid (Has B w (RdR q S b1 :: BlockR nb (vL (k : Int) 0 0 0 0 nilS) :: BlockR rb (vL 0 0 0 0 0 nilS) :: rs) (v1.setCell ⟨nb, 0, none⟩ (.int .i64 (k : Int)))) := ((G1.out.perm (List.Perm.swap _ _ _)).put 0 (by simp [vL]) (.int .i64 (k : Int))).perm (List.Perm.swap _ _ _)
  obtain ⟨e0, _⟩ := P1.out.bcell (q := nb) (vs := (vL (k : Int) 0 0 0 0 nilS)) (by simp) 0 _ rfl
  clear G1
  have E2 := numG hS hb1 P1.out
  go_wp2_with fail
  refine E2.mono ?_
  clear E2
  rintro en v2 (⟨rfl, G2⟩ | ⟨p, b2, mp, hb2, d2, rfl, G2⟩)
  · have HZ : Hid (Has B w rs v2) := G2.out.drop.drop.drop
    clear G2
    go_wp2_with fail
    exact bodyPost_dies rfl (Or.inl ⟨rfl, HZ⟩)
  try clear e0
  try clear e1 f1
  obtain ⟨e1, f1⟩ := G2.out.bcell (q := nb) (vs := (vL (k : Int) 0 0 0 0 nilS)) (by simp) 1 _ rfl
  have P2 : Hid (Has B w (RdR q S b2 :: BlockR nb (vL (k : Int) (p : Int) 0 0 0 nilS) :: BlockR rb (vL 0 0 0 0 0 nilS) :: rs) (v2.setCell ⟨nb, 1, none⟩ (.int .i64 (p : Int)))) := ((G2.out.perm (List.Perm.swap _ _ _)).put 1 (by simp [vL]) (.int .i64 (p : Int))).perm (List.Perm.swap _ _ _)
  obtain ⟨e0, _⟩ := P2.out.bcell (q := nb) (vs := (vL (k : Int) (p : Int) 0 0 0 nilS)) (by simp) 0 _ rfl
  clear G2
  clear P1
  have E3 := numG hS hb2 P2.out
  go_wp2_with fail
  refine E3.mono ?_
  clear E3
  rintro en v3 (⟨rfl, G3⟩ | ⟨i, b3, mi, hb3, d3, rfl, G3⟩)
  · have HZ : Hid (Has B w rs v3) := G3.out.drop.drop.drop
    clear G3
    go_wp2_with fail
    exact bodyPost_dies rfl (Or.inl ⟨rfl, HZ⟩)
  try clear e0
  try clear e1 f1
  obtain ⟨e1, f1⟩ := G3.out.bcell (q := nb) (vs := (vL (k : Int) (p : Int) 0 0 0 nilS)) (by simp) 2 _ rfl
  have P3 : Hid (Has B w (RdR q S b3 :: BlockR nb (vL (k : Int) (p : Int) (i : Int) 0 0 nilS) :: BlockR rb (vL 0 0 0 0 0 nilS) :: rs) (v3.setCell ⟨nb, 2, none⟩ (.int .i64 (i : Int)))) := ((G3.out.perm (List.Perm.swap _ _ _)).put 2 (by simp [vL]) (.int .i64 (i : Int))).perm (List.Perm.swap _ _ _)
  obtain ⟨e0, _⟩ := P3.out.bcell (q := nb) (vs := (vL (k : Int) (p : Int) (i : Int) 0 0 nilS)) (by simp) 0 _ rfl
  clear G3
  clear P2
  by_cases h3 : k = 3
  · skip
    have y3' : ((k : Int) == 3) = true := by rw [h3]; rfl
    have y3b : ((k : Int) != 3) = false := by simp [bne, y3']
    have q3 : Hid (k = 3) := h3
    clear h3
    have HPZ : Hid (Has B w (BlockR rb (vL 0 0 0 0 0 nilS) :: RdR q S b3 :: BlockR nb (vL (k : Int) (p : Int) (i : Int) 0 0 nilS) :: rs) (v3.setCell ⟨nb, 2, none⟩ (.int .i64 (i : Int)))) := P3.out.perm (List.perm_middle (l₁ := [_, _]) (l₂ := rs))
    clear P3
    try clear e0
    obtain ⟨x0, _⟩ := HPZ.out.bcell (q := nb) (vs := (vL (k : Int) (p : Int) (i : Int) 0 0 nilS)) (by simp) 0 _ rfl
    obtain ⟨x1, _⟩ := HPZ.out.bcell (q := nb) (vs := (vL (k : Int) (p : Int) (i : Int) 0 0 nilS)) (by simp) 1 _ rfl
    obtain ⟨x2, _⟩ := HPZ.out.bcell (q := nb) (vs := (vL (k : Int) (p : Int) (i : Int) 0 0 nilS)) (by simp) 2 _ rfl
    obtain ⟨x3, _⟩ := HPZ.out.bcell (q := nb) (vs := (vL (k : Int) (p : Int) (i : Int) 0 0 nilS)) (by simp) 3 _ rfl
    obtain ⟨x4, _⟩ := HPZ.out.bcell (q := nb) (vs := (vL (k : Int) (p : Int) (i : Int) 0 0 nilS)) (by simp) 4 _ rfl
    obtain ⟨x5, _⟩ := HPZ.out.bcell (q := nb) (vs := (vL (k : Int) (p : Int) (i : Int) 0 0 nilS)) (by simp) 5 _ rfl
    obtain ⟨y0, g0⟩ := HPZ.out.bcell (q := rb) (vs := (vL 0 0 0 0 0 nilS)) (by simp) 0 _ rfl
    obtain ⟨y1, g1⟩ := HPZ.out.bcell (q := rb) (vs := (vL 0 0 0 0 0 nilS)) (by simp) 1 _ rfl
    obtain ⟨y2, g2⟩ := HPZ.out.bcell (q := rb) (vs := (vL 0 0 0 0 0 nilS)) (by simp) 2 _ rfl
    obtain ⟨y3, g3⟩ := HPZ.out.bcell (q := rb) (vs := (vL 0 0 0 0 0 nilS)) (by simp) 3 _ rfl
    obtain ⟨y4, g4⟩ := HPZ.out.bcell (q := rb) (vs := (vL 0 0 0 0 0 nilS)) (by simp) 4 _ rfl
    obtain ⟨y5, g5⟩ := HPZ.out.bcell (q := rb) (vs := (vL 0 0 0 0 0 nilS)) (by simp) 5 _ rfl
    have HQ : Hid (Has B w (BlockR rb (vL (k : Int) (p : Int) (i : Int) 0 0 nilS) :: RdR q S b3 :: BlockR nb (vL (k : Int) (p : Int) (i : Int) 0 0 nilS) :: rs) (setAll rb 0 (vL (k : Int) (p : Int) (i : Int) 0 0 nilS) (v3.setCell ⟨nb, 2, none⟩ (.int .i64 (i : Int))))) := Has.puts (vL (k : Int) (p : Int) (i : Int) 0 0 nilS) [] (vL 0 0 0 0 0 nilS) HPZ.out rfl
    clear HPZ
    go_wp2_with fail
    have HC : Hid (∀ j u, (vL (k : Int) (p : Int) (i : Int) 0 0 nilS)[j]? = some u → (setAll rb 0 (vL (k : Int) (p : Int) (i : Int) 0 0 nilS) (v3.setCell ⟨nb, 2, none⟩ (.int .i64 (i : Int)))).cell? ⟨rb, j, none⟩ = some u) := fun j u hu => (HQ.out.bcell (q := rb) (vs := (vL (k : Int) (p : Int) (i : Int) 0 0 nilS)) (by simp) j u hu).1
    refine bodyPost_ret (results_row rfl _ _ rb (vL (k : Int) (p : Int) (i : Int) 0 0 nilS) _ rfl HC.out Try.underlying49 rfl (by kernel_rfl)) rfl (by
      refine Or.inr ⟨k, p, i, 0, 0, [], b3, none, 0, by simp, by simp, hb3, ?_, rfl, ?_⟩
      · rw [d1, d2, d3]
        have h3 := q3.out; subst h3; simp [ltL, numsL]
      · exact (((HQ.out.drop.perm (List.Perm.swap _ _ _)).drop).nilT).perm (List.Perm.swap _ _ _))
  by_cases h9 : k = 9
  · skip
    have n3' : ((k : Int) == 3) = false := beq_eq_false_iff_ne.2 (by omega)
    have n3b : ((k : Int) != 3) = true := by simp [bne, n3']
    have y9' : ((k : Int) == 9) = true := by rw [h9]; rfl
    have y9b : ((k : Int) != 9) = false := by simp [bne, y9']
    have q9 : Hid (k = 9) := h9
    clear h9
    have HPZ : Hid (Has B w (BlockR rb (vL 0 0 0 0 0 nilS) :: RdR q S b3 :: BlockR nb (vL (k : Int) (p : Int) (i : Int) 0 0 nilS) :: rs) (v3.setCell ⟨nb, 2, none⟩ (.int .i64 (i : Int)))) := P3.out.perm (List.perm_middle (l₁ := [_, _]) (l₂ := rs))
    clear P3
    try clear e0
    obtain ⟨x0, _⟩ := HPZ.out.bcell (q := nb) (vs := (vL (k : Int) (p : Int) (i : Int) 0 0 nilS)) (by simp) 0 _ rfl
    obtain ⟨x1, _⟩ := HPZ.out.bcell (q := nb) (vs := (vL (k : Int) (p : Int) (i : Int) 0 0 nilS)) (by simp) 1 _ rfl
    obtain ⟨x2, _⟩ := HPZ.out.bcell (q := nb) (vs := (vL (k : Int) (p : Int) (i : Int) 0 0 nilS)) (by simp) 2 _ rfl
    obtain ⟨x3, _⟩ := HPZ.out.bcell (q := nb) (vs := (vL (k : Int) (p : Int) (i : Int) 0 0 nilS)) (by simp) 3 _ rfl
    obtain ⟨x4, _⟩ := HPZ.out.bcell (q := nb) (vs := (vL (k : Int) (p : Int) (i : Int) 0 0 nilS)) (by simp) 4 _ rfl
    obtain ⟨x5, _⟩ := HPZ.out.bcell (q := nb) (vs := (vL (k : Int) (p : Int) (i : Int) 0 0 nilS)) (by simp) 5 _ rfl
    obtain ⟨y0, g0⟩ := HPZ.out.bcell (q := rb) (vs := (vL 0 0 0 0 0 nilS)) (by simp) 0 _ rfl
    obtain ⟨y1, g1⟩ := HPZ.out.bcell (q := rb) (vs := (vL 0 0 0 0 0 nilS)) (by simp) 1 _ rfl
    obtain ⟨y2, g2⟩ := HPZ.out.bcell (q := rb) (vs := (vL 0 0 0 0 0 nilS)) (by simp) 2 _ rfl
    obtain ⟨y3, g3⟩ := HPZ.out.bcell (q := rb) (vs := (vL 0 0 0 0 0 nilS)) (by simp) 3 _ rfl
    obtain ⟨y4, g4⟩ := HPZ.out.bcell (q := rb) (vs := (vL 0 0 0 0 0 nilS)) (by simp) 4 _ rfl
    obtain ⟨y5, g5⟩ := HPZ.out.bcell (q := rb) (vs := (vL 0 0 0 0 0 nilS)) (by simp) 5 _ rfl
    have HQ : Hid (Has B w (BlockR rb (vL (k : Int) (p : Int) (i : Int) 0 0 nilS) :: RdR q S b3 :: BlockR nb (vL (k : Int) (p : Int) (i : Int) 0 0 nilS) :: rs) (setAll rb 0 (vL (k : Int) (p : Int) (i : Int) 0 0 nilS) (v3.setCell ⟨nb, 2, none⟩ (.int .i64 (i : Int))))) := Has.puts (vL (k : Int) (p : Int) (i : Int) 0 0 nilS) [] (vL 0 0 0 0 0 nilS) HPZ.out rfl
    clear HPZ
    go_wp2_with fail
    have HC : Hid (∀ j u, (vL (k : Int) (p : Int) (i : Int) 0 0 nilS)[j]? = some u → (setAll rb 0 (vL (k : Int) (p : Int) (i : Int) 0 0 nilS) (v3.setCell ⟨nb, 2, none⟩ (.int .i64 (i : Int)))).cell? ⟨rb, j, none⟩ = some u) := fun j u hu => (HQ.out.bcell (q := rb) (vs := (vL (k : Int) (p : Int) (i : Int) 0 0 nilS)) (by simp) j u hu).1
    refine bodyPost_ret (results_row rfl _ _ rb (vL (k : Int) (p : Int) (i : Int) 0 0 nilS) _ rfl HC.out Try.underlying49 rfl (by kernel_rfl)) rfl (by
      refine Or.inr ⟨k, p, i, 0, 0, [], b3, none, 0, by simp, by simp, hb3, ?_, rfl, ?_⟩
      · rw [d1, d2, d3]
        have h9 := q9.out; subst h9; simp [ltL, numsL]
      · exact (((HQ.out.drop.perm (List.Perm.swap _ _ _)).drop).nilT).perm (List.Perm.swap _ _ _))
  have n3' : ((k : Int) == 3) = false := beq_eq_false_iff_ne.2 (by omega)
  have n3b : ((k : Int) != 3) = true := by simp [bne, n3']
  have n9' : ((k : Int) == 9) = false := beq_eq_false_iff_ne.2 (by omega)
  have n9b : ((k : Int) != 9) = true := by simp [bne, n9']
  have E4 := numG hS hb3 P3.out
  go_wp2_with fail
  refine E4.mono ?_
  clear E4
  rintro en v4 (⟨rfl, G4⟩ | ⟨s, b4, ms, hb4, d4, rfl, G4⟩)
  · have HZ : Hid (Has B w rs v4) := G4.out.drop.drop.drop
    clear G4
    go_wp2_with fail
    exact bodyPost_dies rfl (Or.inl ⟨rfl, HZ⟩)
  try clear e0
  try clear e1 f1
  obtain ⟨e1, f1⟩ := G4.out.bcell (q := nb) (vs := (vL (k : Int) (p : Int) (i : Int) 0 0 nilS)) (by simp) 3 _ rfl
  have P4 : Hid (Has B w (RdR q S b4 :: BlockR nb (vL (k : Int) (p : Int) (i : Int) (s : Int) 0 nilS) :: BlockR rb (vL 0 0 0 0 0 nilS) :: rs) (v4.setCell ⟨nb, 3, none⟩ (.int .i64 (s : Int)))) := ((G4.out.perm (List.Perm.swap _ _ _)).put 3 (by simp [vL]) (.int .i64 (s : Int))).perm (List.Perm.swap _ _ _)
  obtain ⟨e0, _⟩ := P4.out.bcell (q := nb) (vs := (vL (k : Int) (p : Int) (i : Int) (s : Int) 0 nilS)) (by simp) 0 _ rfl
  clear G4
  clear P3
  by_cases h1k : k = 1
  · skip
    have y1' : ((k : Int) == 1) = true := by rw [h1k]; rfl
    have q1 : Hid (k = 1) := h1k
    clear h1k
    have E5 := numG hS hb4 P4.out
    go_wp2_with fail
    refine E5.mono ?_
    clear E5
    rintro en v5 (⟨rfl, G5⟩ | ⟨o, b5, mo, hb5, d5, rfl, G5⟩)
    · have HZ : Hid (Has B w rs v5) := G5.out.drop.drop.drop
      clear G5
      go_wp2_with fail
      exact bodyPost_dies rfl (Or.inl ⟨rfl, HZ⟩)
    try clear e0
    try clear e1 f1
    obtain ⟨e1, f1⟩ := G5.out.bcell (q := nb) (vs := (vL (k : Int) (p : Int) (i : Int) (s : Int) 0 nilS)) (by simp) 4 _ rfl
    have P5 : Hid (Has B w (RdR q S b5 :: BlockR nb (vL (k : Int) (p : Int) (i : Int) (s : Int) (o : Int) nilS) :: BlockR rb (vL 0 0 0 0 0 nilS) :: rs) (v5.setCell ⟨nb, 4, none⟩ (.int .i64 (o : Int)))) := ((G5.out.perm (List.Perm.swap _ _ _)).put 4 (by simp [vL]) (.int .i64 (o : Int))).perm (List.Perm.swap _ _ _)
    obtain ⟨e0, _⟩ := P5.out.bcell (q := nb) (vs := (vL (k : Int) (p : Int) (i : Int) (s : Int) (o : Int) nilS)) (by simp) 0 _ rfl
    clear G5
    clear P4
    have E6 := keysG hS hb5 P5.out
    go_wp2_with fail
    refine E6.mono ?_
    clear E6
    rintro en v6 (⟨rfl, G6⟩ | ⟨xs, b6, ao, cap, hx1, hx2, hb6, d6, rfl, G6⟩)
    · have HZ : Hid (Has B w rs v6) := G6.out.drop.drop.drop
      clear G6
      go_wp2_with fail
      exact bodyPost_dies rfl (Or.inl ⟨rfl, HZ⟩)
    try clear e0
    try clear e1 f1
    have HX := G6.out.perm (List.perm_middle (l₁ := [_, _]) (a := BlockR nb (vL (k : Int) (p : Int) (i : Int) (s : Int) (o : Int) nilS)))
    obtain ⟨e1, f1⟩ := HX.bcell (q := nb) (vs := (vL (k : Int) (p : Int) (i : Int) (s : Int) (o : Int) nilS)) (by simp) 5 _ rfl
    have P6 : Hid (Has B w (BlockR nb (vL (k : Int) (p : Int) (i : Int) (s : Int) (o : Int) (.slice ao xs.length cap)) :: RdR q S b6 :: TR (.slice ao xs.length cap) xs :: BlockR rb (vL 0 0 0 0 0 nilS) :: rs) (v6.setCell ⟨nb, 5, none⟩ (.slice ao xs.length cap))) := HX.put 5 (by simp [vL]) (.slice ao xs.length cap)
    obtain ⟨e0, _⟩ := P6.out.bcell (q := nb) (vs := (vL (k : Int) (p : Int) (i : Int) (s : Int) (o : Int) (.slice ao xs.length cap))) (by simp) 0 _ rfl
    have HPZ : Hid (Has B w (BlockR rb (vL 0 0 0 0 0 nilS) :: BlockR nb (vL (k : Int) (p : Int) (i : Int) (s : Int) (o : Int) (.slice ao xs.length cap)) :: RdR q S b6 :: TR (.slice ao xs.length cap) xs :: rs) (v6.setCell ⟨nb, 5, none⟩ (.slice ao xs.length cap))) := P6.out.perm (List.perm_middle (l₁ := [_, _, _]) (l₂ := rs))
    clear HX P6 G6 P5
    try clear e0
    obtain ⟨x0, _⟩ := HPZ.out.bcell (q := nb) (vs := (vL (k : Int) (p : Int) (i : Int) (s : Int) (o : Int) (.slice ao xs.length cap))) (by simp) 0 _ rfl
    obtain ⟨x1, _⟩ := HPZ.out.bcell (q := nb) (vs := (vL (k : Int) (p : Int) (i : Int) (s : Int) (o : Int) (.slice ao xs.length cap))) (by simp) 1 _ rfl
    obtain ⟨x2, _⟩ := HPZ.out.bcell (q := nb) (vs := (vL (k : Int) (p : Int) (i : Int) (s : Int) (o : Int) (.slice ao xs.length cap))) (by simp) 2 _ rfl
    obtain ⟨x3, _⟩ := HPZ.out.bcell (q := nb) (vs := (vL (k : Int) (p : Int) (i : Int) (s : Int) (o : Int) (.slice ao xs.length cap))) (by simp) 3 _ rfl
    obtain ⟨x4, _⟩ := HPZ.out.bcell (q := nb) (vs := (vL (k : Int) (p : Int) (i : Int) (s : Int) (o : Int) (.slice ao xs.length cap))) (by simp) 4 _ rfl
    obtain ⟨x5, _⟩ := HPZ.out.bcell (q := nb) (vs := (vL (k : Int) (p : Int) (i : Int) (s : Int) (o : Int) (.slice ao xs.length cap))) (by simp) 5 _ rfl
    obtain ⟨y0, g0⟩ := HPZ.out.bcell (q := rb) (vs := (vL 0 0 0 0 0 nilS)) (by simp) 0 _ rfl
    obtain ⟨y1, g1⟩ := HPZ.out.bcell (q := rb) (vs := (vL 0 0 0 0 0 nilS)) (by simp) 1 _ rfl
    obtain ⟨y2, g2⟩ := HPZ.out.bcell (q := rb) (vs := (vL 0 0 0 0 0 nilS)) (by simp) 2 _ rfl
    obtain ⟨y3, g3⟩ := HPZ.out.bcell (q := rb) (vs := (vL 0 0 0 0 0 nilS)) (by simp) 3 _ rfl
    obtain ⟨y4, g4⟩ := HPZ.out.bcell (q := rb) (vs := (vL 0 0 0 0 0 nilS)) (by simp) 4 _ rfl
    obtain ⟨y5, g5⟩ := HPZ.out.bcell (q := rb) (vs := (vL 0 0 0 0 0 nilS)) (by simp) 5 _ rfl
    have HQ : Hid (Has B w (BlockR rb (vL (k : Int) (p : Int) (i : Int) (s : Int) (o : Int) (.slice ao xs.length cap)) :: BlockR nb (vL (k : Int) (p : Int) (i : Int) (s : Int) (o : Int) (.slice ao xs.length cap)) :: RdR q S b6 :: TR (.slice ao xs.length cap) xs :: rs) (setAll rb 0 (vL (k : Int) (p : Int) (i : Int) (s : Int) (o : Int) (.slice ao xs.length cap)) (v6.setCell ⟨nb, 5, none⟩ (.slice ao xs.length cap)))) := Has.puts (vL (k : Int) (p : Int) (i : Int) (s : Int) (o : Int) (.slice ao xs.length cap)) [] (vL 0 0 0 0 0 nilS) HPZ.out rfl
    clear HPZ
    go_wp2_with fail
    have HC : Hid (∀ j u, (vL (k : Int) (p : Int) (i : Int) (s : Int) (o : Int) (.slice ao xs.length cap))[j]? = some u → (setAll rb 0 (vL (k : Int) (p : Int) (i : Int) (s : Int) (o : Int) (.slice ao xs.length cap)) (v6.setCell ⟨nb, 5, none⟩ (.slice ao xs.length cap))).cell? ⟨rb, j, none⟩ = some u) := fun j u hu => (HQ.out.bcell (q := rb) (vs := (vL (k : Int) (p : Int) (i : Int) (s : Int) (o : Int) (.slice ao xs.length cap))) (by simp) j u hu).1
    refine bodyPost_ret (results_row rfl _ _ rb (vL (k : Int) (p : Int) (i : Int) (s : Int) (o : Int) (.slice ao xs.length cap)) _ rfl HC.out Try.underlying49 rfl (by kernel_rfl)) rfl (by
      refine Or.inr ⟨k, p, i, s, o, xs, b6, ao, cap, hx1, hx2, hb6, ?_, rfl, ?_⟩
      · rw [d1, d2, d3, d4, d5, d6]
        have h1k := q1.out; subst h1k; simp [ltL, numsL]
      · exact HQ.out.drop.drop)
  · skip
    have n1' : ((k : Int) == 1) = false := beq_eq_false_iff_ne.2 (by omega)
    have n1b : ((k : Int) != 1) = true := by simp [bne, n1']
    have HPZ : Hid (Has B w (BlockR rb (vL 0 0 0 0 0 nilS) :: RdR q S b4 :: BlockR nb (vL (k : Int) (p : Int) (i : Int) (s : Int) 0 nilS) :: rs) (v4.setCell ⟨nb, 3, none⟩ (.int .i64 (s : Int)))) := P4.out.perm (List.perm_middle (l₁ := [_, _]) (l₂ := rs))
    clear P4
    try clear e0
    obtain ⟨x0, _⟩ := HPZ.out.bcell (q := nb) (vs := (vL (k : Int) (p : Int) (i : Int) (s : Int) 0 nilS)) (by simp) 0 _ rfl
    obtain ⟨x1, _⟩ := HPZ.out.bcell (q := nb) (vs := (vL (k : Int) (p : Int) (i : Int) (s : Int) 0 nilS)) (by simp) 1 _ rfl
    obtain ⟨x2, _⟩ := HPZ.out.bcell (q := nb) (vs := (vL (k : Int) (p : Int) (i : Int) (s : Int) 0 nilS)) (by simp) 2 _ rfl
    obtain ⟨x3, _⟩ := HPZ.out.bcell (q := nb) (vs := (vL (k : Int) (p : Int) (i : Int) (s : Int) 0 nilS)) (by simp) 3 _ rfl
    obtain ⟨x4, _⟩ := HPZ.out.bcell (q := nb) (vs := (vL (k : Int) (p : Int) (i : Int) (s : Int) 0 nilS)) (by simp) 4 _ rfl
    obtain ⟨x5, _⟩ := HPZ.out.bcell (q := nb) (vs := (vL (k : Int) (p : Int) (i : Int) (s : Int) 0 nilS)) (by simp) 5 _ rfl
    obtain ⟨y0, g0⟩ := HPZ.out.bcell (q := rb) (vs := (vL 0 0 0 0 0 nilS)) (by simp) 0 _ rfl
    obtain ⟨y1, g1⟩ := HPZ.out.bcell (q := rb) (vs := (vL 0 0 0 0 0 nilS)) (by simp) 1 _ rfl
    obtain ⟨y2, g2⟩ := HPZ.out.bcell (q := rb) (vs := (vL 0 0 0 0 0 nilS)) (by simp) 2 _ rfl
    obtain ⟨y3, g3⟩ := HPZ.out.bcell (q := rb) (vs := (vL 0 0 0 0 0 nilS)) (by simp) 3 _ rfl
    obtain ⟨y4, g4⟩ := HPZ.out.bcell (q := rb) (vs := (vL 0 0 0 0 0 nilS)) (by simp) 4 _ rfl
    obtain ⟨y5, g5⟩ := HPZ.out.bcell (q := rb) (vs := (vL 0 0 0 0 0 nilS)) (by simp) 5 _ rfl
    have HQ : Hid (Has B w (BlockR rb (vL (k : Int) (p : Int) (i : Int) (s : Int) 0 nilS) :: RdR q S b4 :: BlockR nb (vL (k : Int) (p : Int) (i : Int) (s : Int) 0 nilS) :: rs) (setAll rb 0 (vL (k : Int) (p : Int) (i : Int) (s : Int) 0 nilS) (v4.setCell ⟨nb, 3, none⟩ (.int .i64 (s : Int))))) := Has.puts (vL (k : Int) (p : Int) (i : Int) (s : Int) 0 nilS) [] (vL 0 0 0 0 0 nilS) HPZ.out rfl
    clear HPZ
    go_wp2_with fail
    have HC : Hid (∀ j u, (vL (k : Int) (p : Int) (i : Int) (s : Int) 0 nilS)[j]? = some u → (setAll rb 0 (vL (k : Int) (p : Int) (i : Int) (s : Int) 0 nilS) (v4.setCell ⟨nb, 3, none⟩ (.int .i64 (s : Int)))).cell? ⟨rb, j, none⟩ = some u) := fun j u hu => (HQ.out.bcell (q := rb) (vs := (vL (k : Int) (p : Int) (i : Int) (s : Int) 0 nilS)) (by simp) j u hu).1
    refine bodyPost_ret (results_row rfl _ _ rb (vL (k : Int) (p : Int) (i : Int) (s : Int) 0 nilS) _ rfl HC.out Try.underlying49 rfl (by kernel_rfl)) rfl (by
      refine Or.inr ⟨k, p, i, s, 0, [], b4, none, 0, by simp, by simp, hb4, ?_, rfl, ?_⟩
      · rw [d1, d2, d3, d4]
        simp [ltL, numsL, h1k, h3, h9]
      · exact (((HQ.out.drop.perm (List.Perm.swap _ _ _)).drop).nilT).perm (List.Perm.swap _ _ _))
end
end Go.Proofs.Ytbgankldnjeohaa.Pl

/- Reading a note, of any text: it gives up, or what comes out stands in the text. -/
set_option linter.unusedVariables false
set_option linter.unusedSimpArgs false
set_option maxRecDepth 100000
namespace Go.Proofs.Ytbgankldnjeohaa.Pl
open Go.RowKit Go.Proofs.Ytbgankldnjeohaa

/-- What a note's form holds behind its mark. -/
def ofN (k i s t p c : Nat) (K M : ByteArray) (v : Nat) (X : ByteArray) : List UInt8 :=
  if k = 1 then numsL [1] ++ PackMath.txt X.data.toList else if k = 2 then numsL [2, i] ++ (PackMath.txt K.data.toList ++ (PackMath.txt M.data.toList ++ PackMath.num v)) else if k = 5 then numsL [5, i, s] else if k = 6 then numsL [6, i, s, t] else if k = 8 then numsL [8, i, p] else if k = 9 then numsL [9, i, t, c] else numsL [k, i]
section
variable {B : Nat} {w wr : World} {rs : List Res}
set_option maxHeartbeats 2000000 in
theorem noteG {q : Nat} {S : ByteArray} (hS : S.size ≤ 4611686018427387904) (h1 : 1 ≤ S.size) (h : Has B w (RdR q S 1 :: rs) wr) :
    Calls Try.prog 34 #[.pointer (some ⟨q, 0, none⟩)] wr fun en w' => (en = gave ∧ Hid (Has B w rs w')) ∨ ∃ (k i s t p c : Nat) (K M : ByteArray) (v : Nat) (X : ByteArray) (b : Nat), X.size ≤ 2000 ∧ b ≤ S.size ∧ S.data.toList.drop 1 = ofN k i s t p c K M v X ++ S.data.toList.drop b ∧
      en = .returned (.agg (vF k i s t p c K M v X).toArray) ∧ Hid (Has B w (RdR q S b :: rs) w') := by
  have H0 : Hid (Has B w (RdR q S 1 :: BlockR wr.heap.size zN :: rs) (wr.alloc (.cells #[.int .i64 0, .int .i64 0, .int .i64 0, .int .i64 0, .int .i64 0, .int .i64 0, .string ⟨#[]⟩, .string ⟨#[]⟩, .int .i64 0, .string ⟨#[]⟩] 56))) := (h.box zN 56).perm (List.Perm.swap _ _ _)
  have E0 := numG hS h1 H0.out
  obtain ⟨rb, hrb⟩ : ∃ rb, wr.heap.size = rb := ⟨_, rfl⟩
  have HR : Hid (wr.heap.size = rb) := hrb
  clear h H0
  rw [hrb] at E0
  clear hrb
  go_enter Try.func34, Try.ntmps34
  go_wp2_with fail
  rw [HR.out]
  clear HR
  refine E0.mono ?_
  clear E0
  rintro en v1 (⟨rfl, G1⟩ | ⟨k, b1, mk, hb1, d1, rfl, G1⟩)
  · have HZ : Hid (Has B w rs v1) := G1.out.drop.drop
    clear G1
    go_wp2_with fail
    exact bodyPost_dies rfl (Or.inl ⟨rfl, HZ⟩)
  obtain ⟨u1, hu1⟩ : ∃ u1, u1 = v1.alloc (.cells #[.int .i64 (k : Int), .int .i64 0, .int .i64 0, .int .i64 0, .int .i64 0, .int .i64 0, .string ⟨#[]⟩, .string ⟨#[]⟩, .int .i64 0, .string ⟨#[]⟩] 56) := ⟨_, rfl⟩
  obtain ⟨nb, hnb⟩ : ∃ nb, nb = v1.heap.size := ⟨_, rfl⟩
  have P1 : Hid (Has B w (RdR q S b1 :: BlockR nb (vF (k : Int) 0 0 0 0 0 ⟨#[]⟩ ⟨#[]⟩ 0 ⟨#[]⟩) :: BlockR rb zN :: rs) u1) := by
    rw [hu1, hnb]
    exact (G1.out.box (vF (k : Int) 0 0 0 0 0 ⟨#[]⟩ ⟨#[]⟩ 0 ⟨#[]⟩) 56).perm (List.Perm.swap _ _ _)
  have HU : Hid (u1 = v1.alloc (.cells #[.int .i64 (k : Int), .int .i64 0, .int .i64 0, .int .i64 0, .int .i64 0, .int .i64 0, .string ⟨#[]⟩, .string ⟨#[]⟩, .int .i64 0, .string ⟨#[]⟩] 56)) := hu1
  have HNB : Hid (nb = v1.heap.size) := hnb
  clear hu1 hnb G1
  obtain ⟨e0, _⟩ := P1.out.bcell (q := nb) (vs := (vF (k : Int) 0 0 0 0 0 ⟨#[]⟩ ⟨#[]⟩ 0 ⟨#[]⟩)) (by simp) 0 _ rfl
  go_upto_region 2 with fail
  rw [← HU.out, ← HNB.out]
  clear HU HNB
  by_cases h1k : k = 1
  · skip
    have y1' : ((k : Int) == 1) = true := by rw [h1k]; rfl
    have q1 : Hid (k = 1) := h1k
    clear h1k
    have E2 := wordG hS hb1 P1.out
    go_wp2_with fail
    refine E2.mono ?_
    clear E2
    rintro en v2 (⟨rfl, G2⟩ | ⟨X, b2, sX, hb2, d2, rfl, G2⟩)
    · have HZ : Hid (Has B w rs v2) := G2.out.drop.drop.drop
      clear G2
      go_wp2_with fail
      exact bodyPost_dies rfl (Or.inl ⟨rfl, HZ⟩)
    try clear e0
    try clear e1 f1
    obtain ⟨e1, f1⟩ := G2.out.bcell (q := nb) (vs := (vF (k : Int) 0 0 0 0 0 ⟨#[]⟩ ⟨#[]⟩ 0 ⟨#[]⟩)) (by simp) 9 _ rfl
    have P2 : Hid (Has B w (RdR q S b2 :: BlockR nb (vF (k : Int) 0 0 0 0 0 ⟨#[]⟩ ⟨#[]⟩ 0 X) :: BlockR rb zN :: rs) (v2.setCell ⟨nb, 9, none⟩ (.string X))) := ((G2.out.perm (List.Perm.swap _ _ _)).put 9 (by simp [vF]) (.string X)).perm (List.Perm.swap _ _ _)
    obtain ⟨e0, _⟩ := P2.out.bcell (q := nb) (vs := (vF (k : Int) 0 0 0 0 0 ⟨#[]⟩ ⟨#[]⟩ 0 X)) (by simp) 0 _ rfl
    clear G2
    clear P1
    have HPZ : Hid (Has B w (BlockR rb zN :: RdR q S b2 :: BlockR nb (vF (k : Int) 0 0 0 0 0 ⟨#[]⟩ ⟨#[]⟩ 0 X) :: rs) (v2.setCell ⟨nb, 9, none⟩ (.string X))) := P2.out.perm (List.perm_middle (l₁ := [_, _]) (l₂ := rs))
    clear P2
    try clear e0
    obtain ⟨x0, _⟩ := HPZ.out.bcell (q := nb) (vs := (vF (k : Int) 0 0 0 0 0 ⟨#[]⟩ ⟨#[]⟩ 0 X)) (by simp) 0 _ rfl
    obtain ⟨x1, _⟩ := HPZ.out.bcell (q := nb) (vs := (vF (k : Int) 0 0 0 0 0 ⟨#[]⟩ ⟨#[]⟩ 0 X)) (by simp) 1 _ rfl
    obtain ⟨x2, _⟩ := HPZ.out.bcell (q := nb) (vs := (vF (k : Int) 0 0 0 0 0 ⟨#[]⟩ ⟨#[]⟩ 0 X)) (by simp) 2 _ rfl
    obtain ⟨x3, _⟩ := HPZ.out.bcell (q := nb) (vs := (vF (k : Int) 0 0 0 0 0 ⟨#[]⟩ ⟨#[]⟩ 0 X)) (by simp) 3 _ rfl
    obtain ⟨x4, _⟩ := HPZ.out.bcell (q := nb) (vs := (vF (k : Int) 0 0 0 0 0 ⟨#[]⟩ ⟨#[]⟩ 0 X)) (by simp) 4 _ rfl
    obtain ⟨x5, _⟩ := HPZ.out.bcell (q := nb) (vs := (vF (k : Int) 0 0 0 0 0 ⟨#[]⟩ ⟨#[]⟩ 0 X)) (by simp) 5 _ rfl
    obtain ⟨x6, _⟩ := HPZ.out.bcell (q := nb) (vs := (vF (k : Int) 0 0 0 0 0 ⟨#[]⟩ ⟨#[]⟩ 0 X)) (by simp) 6 _ rfl
    obtain ⟨x7, _⟩ := HPZ.out.bcell (q := nb) (vs := (vF (k : Int) 0 0 0 0 0 ⟨#[]⟩ ⟨#[]⟩ 0 X)) (by simp) 7 _ rfl
    obtain ⟨x8, _⟩ := HPZ.out.bcell (q := nb) (vs := (vF (k : Int) 0 0 0 0 0 ⟨#[]⟩ ⟨#[]⟩ 0 X)) (by simp) 8 _ rfl
    obtain ⟨x9, _⟩ := HPZ.out.bcell (q := nb) (vs := (vF (k : Int) 0 0 0 0 0 ⟨#[]⟩ ⟨#[]⟩ 0 X)) (by simp) 9 _ rfl
    obtain ⟨y0, g0⟩ := HPZ.out.bcell (q := rb) (vs := zN) (by simp) 0 _ rfl
    obtain ⟨y1, g1⟩ := HPZ.out.bcell (q := rb) (vs := zN) (by simp) 1 _ rfl
    obtain ⟨y2, g2⟩ := HPZ.out.bcell (q := rb) (vs := zN) (by simp) 2 _ rfl
    obtain ⟨y3, g3⟩ := HPZ.out.bcell (q := rb) (vs := zN) (by simp) 3 _ rfl
    obtain ⟨y4, g4⟩ := HPZ.out.bcell (q := rb) (vs := zN) (by simp) 4 _ rfl
    obtain ⟨y5, g5⟩ := HPZ.out.bcell (q := rb) (vs := zN) (by simp) 5 _ rfl
    obtain ⟨y6, g6⟩ := HPZ.out.bcell (q := rb) (vs := zN) (by simp) 6 _ rfl
    obtain ⟨y7, g7⟩ := HPZ.out.bcell (q := rb) (vs := zN) (by simp) 7 _ rfl
    obtain ⟨y8, g8⟩ := HPZ.out.bcell (q := rb) (vs := zN) (by simp) 8 _ rfl
    obtain ⟨y9, g9⟩ := HPZ.out.bcell (q := rb) (vs := zN) (by simp) 9 _ rfl
    have HQ : Hid (Has B w (BlockR rb (vF (k : Int) 0 0 0 0 0 ⟨#[]⟩ ⟨#[]⟩ 0 X) :: RdR q S b2 :: BlockR nb (vF (k : Int) 0 0 0 0 0 ⟨#[]⟩ ⟨#[]⟩ 0 X) :: rs) (setAll rb 0 (vF (k : Int) 0 0 0 0 0 ⟨#[]⟩ ⟨#[]⟩ 0 X) (v2.setCell ⟨nb, 9, none⟩ (.string X)))) := Has.puts (vF (k : Int) 0 0 0 0 0 ⟨#[]⟩ ⟨#[]⟩ 0 X) [] zN HPZ.out rfl
    clear HPZ
    go_wp2_with fail
    have HC : Hid (∀ j u, (vF (k : Int) 0 0 0 0 0 ⟨#[]⟩ ⟨#[]⟩ 0 X)[j]? = some u → (setAll rb 0 (vF (k : Int) 0 0 0 0 0 ⟨#[]⟩ ⟨#[]⟩ 0 X) (v2.setCell ⟨nb, 9, none⟩ (.string X))).cell? ⟨rb, j, none⟩ = some u) := fun j u hu => (HQ.out.bcell (q := rb) (vs := (vF (k : Int) 0 0 0 0 0 ⟨#[]⟩ ⟨#[]⟩ 0 X)) (by simp) j u hu).1
    refine bodyPost_ret (results_row rfl _ _ rb (vF (k : Int) 0 0 0 0 0 ⟨#[]⟩ ⟨#[]⟩ 0 X) _ rfl HC.out Try.underlying56 rfl (by kernel_rfl)) rfl (by
      refine Or.inr ⟨k, 0, 0, 0, 0, 0, ⟨#[]⟩, ⟨#[]⟩, 0, X, b2, sX, hb2, ?_, rfl, ?_⟩
      · rw [d1, d2]
        have h1k := q1.out; subst h1k; simp [ofN, numsL]
      · exact (HQ.out.drop.perm (List.Perm.swap _ _ _)).drop)
  · skip
    have n1' : ((k : Int) == 1) = false := beq_eq_false_iff_ne.2 (by omega)
    have E3 := numG hS hb1 P1.out
    go_wp2_with fail
    refine E3.mono ?_
    clear E3
    rintro en v3 (⟨rfl, G3⟩ | ⟨i, b3, mi, hb3, d3, rfl, G3⟩)
    · have HZ : Hid (Has B w rs v3) := G3.out.drop.drop.drop
      clear G3
      go_wp2_with fail
      exact bodyPost_dies rfl (Or.inl ⟨rfl, HZ⟩)
    try clear e0
    try clear e1 f1
    obtain ⟨e1, f1⟩ := G3.out.bcell (q := nb) (vs := (vF (k : Int) 0 0 0 0 0 ⟨#[]⟩ ⟨#[]⟩ 0 ⟨#[]⟩)) (by simp) 1 _ rfl
    have P3 : Hid (Has B w (RdR q S b3 :: BlockR nb (vF (k : Int) (i : Int) 0 0 0 0 ⟨#[]⟩ ⟨#[]⟩ 0 ⟨#[]⟩) :: BlockR rb zN :: rs) (v3.setCell ⟨nb, 1, none⟩ (.int .i64 (i : Int)))) := ((G3.out.perm (List.Perm.swap _ _ _)).put 1 (by simp [vF]) (.int .i64 (i : Int))).perm (List.Perm.swap _ _ _)
    obtain ⟨e0, _⟩ := P3.out.bcell (q := nb) (vs := (vF (k : Int) (i : Int) 0 0 0 0 ⟨#[]⟩ ⟨#[]⟩ 0 ⟨#[]⟩)) (by simp) 0 _ rfl
    clear G3
    clear P1
    by_cases h2 : k = 2
    · skip
      have y2' : ((k : Int) == 2) = true := by rw [h2]; rfl
      have q2 : Hid (k = 2) := h2
      clear h2
      have E4 := wordG hS hb3 P3.out
      go_wp2_with fail
      refine E4.mono ?_
      clear E4
      rintro en v4 (⟨rfl, G4⟩ | ⟨K, b4, sK, hb4, d4, rfl, G4⟩)
      · have HZ : Hid (Has B w rs v4) := G4.out.drop.drop.drop
        clear G4
        go_wp2_with fail
        exact bodyPost_dies rfl (Or.inl ⟨rfl, HZ⟩)
      try clear e0
      try clear e1 f1
      obtain ⟨e1, f1⟩ := G4.out.bcell (q := nb) (vs := (vF (k : Int) (i : Int) 0 0 0 0 ⟨#[]⟩ ⟨#[]⟩ 0 ⟨#[]⟩)) (by simp) 6 _ rfl
      have P4 : Hid (Has B w (RdR q S b4 :: BlockR nb (vF (k : Int) (i : Int) 0 0 0 0 K ⟨#[]⟩ 0 ⟨#[]⟩) :: BlockR rb zN :: rs) (v4.setCell ⟨nb, 6, none⟩ (.string K))) := ((G4.out.perm (List.Perm.swap _ _ _)).put 6 (by simp [vF]) (.string K)).perm (List.Perm.swap _ _ _)
      obtain ⟨e0, _⟩ := P4.out.bcell (q := nb) (vs := (vF (k : Int) (i : Int) 0 0 0 0 K ⟨#[]⟩ 0 ⟨#[]⟩)) (by simp) 0 _ rfl
      clear G4
      clear P3
      have E5 := wordG hS hb4 P4.out
      go_wp2_with fail
      refine E5.mono ?_
      clear E5
      rintro en v5 (⟨rfl, G5⟩ | ⟨M, b5, sM, hb5, d5, rfl, G5⟩)
      · have HZ : Hid (Has B w rs v5) := G5.out.drop.drop.drop
        clear G5
        go_wp2_with fail
        exact bodyPost_dies rfl (Or.inl ⟨rfl, HZ⟩)
      try clear e0
      try clear e1 f1
      obtain ⟨e1, f1⟩ := G5.out.bcell (q := nb) (vs := (vF (k : Int) (i : Int) 0 0 0 0 K ⟨#[]⟩ 0 ⟨#[]⟩)) (by simp) 7 _ rfl
      have P5 : Hid (Has B w (RdR q S b5 :: BlockR nb (vF (k : Int) (i : Int) 0 0 0 0 K M 0 ⟨#[]⟩) :: BlockR rb zN :: rs) (v5.setCell ⟨nb, 7, none⟩ (.string M))) := ((G5.out.perm (List.Perm.swap _ _ _)).put 7 (by simp [vF]) (.string M)).perm (List.Perm.swap _ _ _)
      obtain ⟨e0, _⟩ := P5.out.bcell (q := nb) (vs := (vF (k : Int) (i : Int) 0 0 0 0 K M 0 ⟨#[]⟩)) (by simp) 0 _ rfl
      clear G5
      clear P4
      have E6 := numG hS hb5 P5.out
      go_wp2_with fail
      refine E6.mono ?_
      clear E6
      rintro en v6 (⟨rfl, G6⟩ | ⟨v, b6, mv, hb6, d6, rfl, G6⟩)
      · have HZ : Hid (Has B w rs v6) := G6.out.drop.drop.drop
        clear G6
        go_wp2_with fail
        exact bodyPost_dies rfl (Or.inl ⟨rfl, HZ⟩)
      try clear e0
      try clear e1 f1
      obtain ⟨e1, f1⟩ := G6.out.bcell (q := nb) (vs := (vF (k : Int) (i : Int) 0 0 0 0 K M 0 ⟨#[]⟩)) (by simp) 8 _ rfl
      have P6 : Hid (Has B w (RdR q S b6 :: BlockR nb (vF (k : Int) (i : Int) 0 0 0 0 K M (v : Int) ⟨#[]⟩) :: BlockR rb zN :: rs) (v6.setCell ⟨nb, 8, none⟩ (.int .i64 (v : Int)))) := ((G6.out.perm (List.Perm.swap _ _ _)).put 8 (by simp [vF]) (.int .i64 (v : Int))).perm (List.Perm.swap _ _ _)
      obtain ⟨e0, _⟩ := P6.out.bcell (q := nb) (vs := (vF (k : Int) (i : Int) 0 0 0 0 K M (v : Int) ⟨#[]⟩)) (by simp) 0 _ rfl
      clear G6
      clear P5
      have HPZ : Hid (Has B w (BlockR rb zN :: RdR q S b6 :: BlockR nb (vF (k : Int) (i : Int) 0 0 0 0 K M (v : Int) ⟨#[]⟩) :: rs) (v6.setCell ⟨nb, 8, none⟩ (.int .i64 (v : Int)))) := P6.out.perm (List.perm_middle (l₁ := [_, _]) (l₂ := rs))
      clear P6
      try clear e0
      obtain ⟨x0, _⟩ := HPZ.out.bcell (q := nb) (vs := (vF (k : Int) (i : Int) 0 0 0 0 K M (v : Int) ⟨#[]⟩)) (by simp) 0 _ rfl
      obtain ⟨x1, _⟩ := HPZ.out.bcell (q := nb) (vs := (vF (k : Int) (i : Int) 0 0 0 0 K M (v : Int) ⟨#[]⟩)) (by simp) 1 _ rfl
      obtain ⟨x2, _⟩ := HPZ.out.bcell (q := nb) (vs := (vF (k : Int) (i : Int) 0 0 0 0 K M (v : Int) ⟨#[]⟩)) (by simp) 2 _ rfl
      obtain ⟨x3, _⟩ := HPZ.out.bcell (q := nb) (vs := (vF (k : Int) (i : Int) 0 0 0 0 K M (v : Int) ⟨#[]⟩)) (by simp) 3 _ rfl
      obtain ⟨x4, _⟩ := HPZ.out.bcell (q := nb) (vs := (vF (k : Int) (i : Int) 0 0 0 0 K M (v : Int) ⟨#[]⟩)) (by simp) 4 _ rfl
      obtain ⟨x5, _⟩ := HPZ.out.bcell (q := nb) (vs := (vF (k : Int) (i : Int) 0 0 0 0 K M (v : Int) ⟨#[]⟩)) (by simp) 5 _ rfl
      obtain ⟨x6, _⟩ := HPZ.out.bcell (q := nb) (vs := (vF (k : Int) (i : Int) 0 0 0 0 K M (v : Int) ⟨#[]⟩)) (by simp) 6 _ rfl
      obtain ⟨x7, _⟩ := HPZ.out.bcell (q := nb) (vs := (vF (k : Int) (i : Int) 0 0 0 0 K M (v : Int) ⟨#[]⟩)) (by simp) 7 _ rfl
      obtain ⟨x8, _⟩ := HPZ.out.bcell (q := nb) (vs := (vF (k : Int) (i : Int) 0 0 0 0 K M (v : Int) ⟨#[]⟩)) (by simp) 8 _ rfl
      obtain ⟨x9, _⟩ := HPZ.out.bcell (q := nb) (vs := (vF (k : Int) (i : Int) 0 0 0 0 K M (v : Int) ⟨#[]⟩)) (by simp) 9 _ rfl
      obtain ⟨y0, g0⟩ := HPZ.out.bcell (q := rb) (vs := zN) (by simp) 0 _ rfl
      obtain ⟨y1, g1⟩ := HPZ.out.bcell (q := rb) (vs := zN) (by simp) 1 _ rfl
      obtain ⟨y2, g2⟩ := HPZ.out.bcell (q := rb) (vs := zN) (by simp) 2 _ rfl
      obtain ⟨y3, g3⟩ := HPZ.out.bcell (q := rb) (vs := zN) (by simp) 3 _ rfl
      obtain ⟨y4, g4⟩ := HPZ.out.bcell (q := rb) (vs := zN) (by simp) 4 _ rfl
      obtain ⟨y5, g5⟩ := HPZ.out.bcell (q := rb) (vs := zN) (by simp) 5 _ rfl
      obtain ⟨y6, g6⟩ := HPZ.out.bcell (q := rb) (vs := zN) (by simp) 6 _ rfl
      obtain ⟨y7, g7⟩ := HPZ.out.bcell (q := rb) (vs := zN) (by simp) 7 _ rfl
      obtain ⟨y8, g8⟩ := HPZ.out.bcell (q := rb) (vs := zN) (by simp) 8 _ rfl
      obtain ⟨y9, g9⟩ := HPZ.out.bcell (q := rb) (vs := zN) (by simp) 9 _ rfl
      have HQ : Hid (Has B w (BlockR rb (vF (k : Int) (i : Int) 0 0 0 0 K M (v : Int) ⟨#[]⟩) :: RdR q S b6 :: BlockR nb (vF (k : Int) (i : Int) 0 0 0 0 K M (v : Int) ⟨#[]⟩) :: rs) (setAll rb 0 (vF (k : Int) (i : Int) 0 0 0 0 K M (v : Int) ⟨#[]⟩) (v6.setCell ⟨nb, 8, none⟩ (.int .i64 (v : Int))))) := Has.puts (vF (k : Int) (i : Int) 0 0 0 0 K M (v : Int) ⟨#[]⟩) [] zN HPZ.out rfl
      clear HPZ
      go_wp2_with fail
      have HC : Hid (∀ j u, (vF (k : Int) (i : Int) 0 0 0 0 K M (v : Int) ⟨#[]⟩)[j]? = some u → (setAll rb 0 (vF (k : Int) (i : Int) 0 0 0 0 K M (v : Int) ⟨#[]⟩) (v6.setCell ⟨nb, 8, none⟩ (.int .i64 (v : Int)))).cell? ⟨rb, j, none⟩ = some u) := fun j u hu => (HQ.out.bcell (q := rb) (vs := (vF (k : Int) (i : Int) 0 0 0 0 K M (v : Int) ⟨#[]⟩)) (by simp) j u hu).1
      refine bodyPost_ret (results_row rfl _ _ rb (vF (k : Int) (i : Int) 0 0 0 0 K M (v : Int) ⟨#[]⟩) _ rfl HC.out Try.underlying56 rfl (by kernel_rfl)) rfl (by
        refine Or.inr ⟨k, i, 0, 0, 0, 0, K, M, v, ⟨#[]⟩, b6, (by decide), hb6, ?_, rfl, ?_⟩
        · rw [d1, d3, d4, d5, d6]
          have h2 := q2.out; subst h2; simp [ofN, numsL]
        · exact (HQ.out.drop.perm (List.Perm.swap _ _ _)).drop)
    by_cases h5 : k = 5
    · skip
      have n2' : ((k : Int) == 2) = false := beq_eq_false_iff_ne.2 (by omega)
      have y5' : ((k : Int) == 5) = true := by rw [h5]; rfl
      have q5 : Hid (k = 5) := h5
      clear h5
      have E7 := numG hS hb3 P3.out
      go_wp2_with fail
      refine E7.mono ?_
      clear E7
      rintro en v7 (⟨rfl, G7⟩ | ⟨s, b7, ms, hb7, d7, rfl, G7⟩)
      · have HZ : Hid (Has B w rs v7) := G7.out.drop.drop.drop
        clear G7
        go_wp2_with fail
        exact bodyPost_dies rfl (Or.inl ⟨rfl, HZ⟩)
      try clear e0
      try clear e1 f1
      obtain ⟨e1, f1⟩ := G7.out.bcell (q := nb) (vs := (vF (k : Int) (i : Int) 0 0 0 0 ⟨#[]⟩ ⟨#[]⟩ 0 ⟨#[]⟩)) (by simp) 2 _ rfl
      have P7 : Hid (Has B w (RdR q S b7 :: BlockR nb (vF (k : Int) (i : Int) (s : Int) 0 0 0 ⟨#[]⟩ ⟨#[]⟩ 0 ⟨#[]⟩) :: BlockR rb zN :: rs) (v7.setCell ⟨nb, 2, none⟩ (.int .i64 (s : Int)))) := ((G7.out.perm (List.Perm.swap _ _ _)).put 2 (by simp [vF]) (.int .i64 (s : Int))).perm (List.Perm.swap _ _ _)
      obtain ⟨e0, _⟩ := P7.out.bcell (q := nb) (vs := (vF (k : Int) (i : Int) (s : Int) 0 0 0 ⟨#[]⟩ ⟨#[]⟩ 0 ⟨#[]⟩)) (by simp) 0 _ rfl
      clear G7
      clear P3
      have HPZ : Hid (Has B w (BlockR rb zN :: RdR q S b7 :: BlockR nb (vF (k : Int) (i : Int) (s : Int) 0 0 0 ⟨#[]⟩ ⟨#[]⟩ 0 ⟨#[]⟩) :: rs) (v7.setCell ⟨nb, 2, none⟩ (.int .i64 (s : Int)))) := P7.out.perm (List.perm_middle (l₁ := [_, _]) (l₂ := rs))
      clear P7
      try clear e0
      obtain ⟨x0, _⟩ := HPZ.out.bcell (q := nb) (vs := (vF (k : Int) (i : Int) (s : Int) 0 0 0 ⟨#[]⟩ ⟨#[]⟩ 0 ⟨#[]⟩)) (by simp) 0 _ rfl
      obtain ⟨x1, _⟩ := HPZ.out.bcell (q := nb) (vs := (vF (k : Int) (i : Int) (s : Int) 0 0 0 ⟨#[]⟩ ⟨#[]⟩ 0 ⟨#[]⟩)) (by simp) 1 _ rfl
      obtain ⟨x2, _⟩ := HPZ.out.bcell (q := nb) (vs := (vF (k : Int) (i : Int) (s : Int) 0 0 0 ⟨#[]⟩ ⟨#[]⟩ 0 ⟨#[]⟩)) (by simp) 2 _ rfl
      obtain ⟨x3, _⟩ := HPZ.out.bcell (q := nb) (vs := (vF (k : Int) (i : Int) (s : Int) 0 0 0 ⟨#[]⟩ ⟨#[]⟩ 0 ⟨#[]⟩)) (by simp) 3 _ rfl
      obtain ⟨x4, _⟩ := HPZ.out.bcell (q := nb) (vs := (vF (k : Int) (i : Int) (s : Int) 0 0 0 ⟨#[]⟩ ⟨#[]⟩ 0 ⟨#[]⟩)) (by simp) 4 _ rfl
      obtain ⟨x5, _⟩ := HPZ.out.bcell (q := nb) (vs := (vF (k : Int) (i : Int) (s : Int) 0 0 0 ⟨#[]⟩ ⟨#[]⟩ 0 ⟨#[]⟩)) (by simp) 5 _ rfl
      obtain ⟨x6, _⟩ := HPZ.out.bcell (q := nb) (vs := (vF (k : Int) (i : Int) (s : Int) 0 0 0 ⟨#[]⟩ ⟨#[]⟩ 0 ⟨#[]⟩)) (by simp) 6 _ rfl
      obtain ⟨x7, _⟩ := HPZ.out.bcell (q := nb) (vs := (vF (k : Int) (i : Int) (s : Int) 0 0 0 ⟨#[]⟩ ⟨#[]⟩ 0 ⟨#[]⟩)) (by simp) 7 _ rfl
      obtain ⟨x8, _⟩ := HPZ.out.bcell (q := nb) (vs := (vF (k : Int) (i : Int) (s : Int) 0 0 0 ⟨#[]⟩ ⟨#[]⟩ 0 ⟨#[]⟩)) (by simp) 8 _ rfl
      obtain ⟨x9, _⟩ := HPZ.out.bcell (q := nb) (vs := (vF (k : Int) (i : Int) (s : Int) 0 0 0 ⟨#[]⟩ ⟨#[]⟩ 0 ⟨#[]⟩)) (by simp) 9 _ rfl
      obtain ⟨y0, g0⟩ := HPZ.out.bcell (q := rb) (vs := zN) (by simp) 0 _ rfl
      obtain ⟨y1, g1⟩ := HPZ.out.bcell (q := rb) (vs := zN) (by simp) 1 _ rfl
      obtain ⟨y2, g2⟩ := HPZ.out.bcell (q := rb) (vs := zN) (by simp) 2 _ rfl
      obtain ⟨y3, g3⟩ := HPZ.out.bcell (q := rb) (vs := zN) (by simp) 3 _ rfl
      obtain ⟨y4, g4⟩ := HPZ.out.bcell (q := rb) (vs := zN) (by simp) 4 _ rfl
      obtain ⟨y5, g5⟩ := HPZ.out.bcell (q := rb) (vs := zN) (by simp) 5 _ rfl
      obtain ⟨y6, g6⟩ := HPZ.out.bcell (q := rb) (vs := zN) (by simp) 6 _ rfl
      obtain ⟨y7, g7⟩ := HPZ.out.bcell (q := rb) (vs := zN) (by simp) 7 _ rfl
      obtain ⟨y8, g8⟩ := HPZ.out.bcell (q := rb) (vs := zN) (by simp) 8 _ rfl
      obtain ⟨y9, g9⟩ := HPZ.out.bcell (q := rb) (vs := zN) (by simp) 9 _ rfl
      have HQ : Hid (Has B w (BlockR rb (vF (k : Int) (i : Int) (s : Int) 0 0 0 ⟨#[]⟩ ⟨#[]⟩ 0 ⟨#[]⟩) :: RdR q S b7 :: BlockR nb (vF (k : Int) (i : Int) (s : Int) 0 0 0 ⟨#[]⟩ ⟨#[]⟩ 0 ⟨#[]⟩) :: rs) (setAll rb 0 (vF (k : Int) (i : Int) (s : Int) 0 0 0 ⟨#[]⟩ ⟨#[]⟩ 0 ⟨#[]⟩) (v7.setCell ⟨nb, 2, none⟩ (.int .i64 (s : Int))))) := Has.puts (vF (k : Int) (i : Int) (s : Int) 0 0 0 ⟨#[]⟩ ⟨#[]⟩ 0 ⟨#[]⟩) [] zN HPZ.out rfl
      clear HPZ
      go_wp2_with fail
      have HC : Hid (∀ j u, (vF (k : Int) (i : Int) (s : Int) 0 0 0 ⟨#[]⟩ ⟨#[]⟩ 0 ⟨#[]⟩)[j]? = some u → (setAll rb 0 (vF (k : Int) (i : Int) (s : Int) 0 0 0 ⟨#[]⟩ ⟨#[]⟩ 0 ⟨#[]⟩) (v7.setCell ⟨nb, 2, none⟩ (.int .i64 (s : Int)))).cell? ⟨rb, j, none⟩ = some u) := fun j u hu => (HQ.out.bcell (q := rb) (vs := (vF (k : Int) (i : Int) (s : Int) 0 0 0 ⟨#[]⟩ ⟨#[]⟩ 0 ⟨#[]⟩)) (by simp) j u hu).1
      refine bodyPost_ret (results_row rfl _ _ rb (vF (k : Int) (i : Int) (s : Int) 0 0 0 ⟨#[]⟩ ⟨#[]⟩ 0 ⟨#[]⟩) _ rfl HC.out Try.underlying56 rfl (by kernel_rfl)) rfl (by
        refine Or.inr ⟨k, i, s, 0, 0, 0, ⟨#[]⟩, ⟨#[]⟩, 0, ⟨#[]⟩, b7, (by decide), hb7, ?_, rfl, ?_⟩
        · rw [d1, d3, d7]
          have h5 := q5.out; subst h5; simp [ofN, numsL]
        · exact (HQ.out.drop.perm (List.Perm.swap _ _ _)).drop)
    by_cases h6 : k = 6
    · skip
      have n2' : ((k : Int) == 2) = false := beq_eq_false_iff_ne.2 (by omega)
      have n5' : ((k : Int) == 5) = false := beq_eq_false_iff_ne.2 (by omega)
      have y6' : ((k : Int) == 6) = true := by rw [h6]; rfl
      have q6 : Hid (k = 6) := h6
      clear h6
      have E8 := numG hS hb3 P3.out
      go_wp2_with fail
      refine E8.mono ?_
      clear E8
      rintro en v8 (⟨rfl, G8⟩ | ⟨s, b8, ms, hb8, d8, rfl, G8⟩)
      · have HZ : Hid (Has B w rs v8) := G8.out.drop.drop.drop
        clear G8
        go_wp2_with fail
        exact bodyPost_dies rfl (Or.inl ⟨rfl, HZ⟩)
      try clear e0
      try clear e1 f1
      obtain ⟨e1, f1⟩ := G8.out.bcell (q := nb) (vs := (vF (k : Int) (i : Int) 0 0 0 0 ⟨#[]⟩ ⟨#[]⟩ 0 ⟨#[]⟩)) (by simp) 2 _ rfl
      have P8 : Hid (Has B w (RdR q S b8 :: BlockR nb (vF (k : Int) (i : Int) (s : Int) 0 0 0 ⟨#[]⟩ ⟨#[]⟩ 0 ⟨#[]⟩) :: BlockR rb zN :: rs) (v8.setCell ⟨nb, 2, none⟩ (.int .i64 (s : Int)))) := ((G8.out.perm (List.Perm.swap _ _ _)).put 2 (by simp [vF]) (.int .i64 (s : Int))).perm (List.Perm.swap _ _ _)
      obtain ⟨e0, _⟩ := P8.out.bcell (q := nb) (vs := (vF (k : Int) (i : Int) (s : Int) 0 0 0 ⟨#[]⟩ ⟨#[]⟩ 0 ⟨#[]⟩)) (by simp) 0 _ rfl
      clear G8
      clear P3
      have E9 := numG hS hb8 P8.out
      go_wp2_with fail
      refine E9.mono ?_
      clear E9
      rintro en v9 (⟨rfl, G9⟩ | ⟨t, b9, mt, hb9, d9, rfl, G9⟩)
      · have HZ : Hid (Has B w rs v9) := G9.out.drop.drop.drop
        clear G9
        go_wp2_with fail
        exact bodyPost_dies rfl (Or.inl ⟨rfl, HZ⟩)
      try clear e0
      try clear e1 f1
      obtain ⟨e1, f1⟩ := G9.out.bcell (q := nb) (vs := (vF (k : Int) (i : Int) (s : Int) 0 0 0 ⟨#[]⟩ ⟨#[]⟩ 0 ⟨#[]⟩)) (by simp) 3 _ rfl
      have P9 : Hid (Has B w (RdR q S b9 :: BlockR nb (vF (k : Int) (i : Int) (s : Int) (t : Int) 0 0 ⟨#[]⟩ ⟨#[]⟩ 0 ⟨#[]⟩) :: BlockR rb zN :: rs) (v9.setCell ⟨nb, 3, none⟩ (.int .i64 (t : Int)))) := ((G9.out.perm (List.Perm.swap _ _ _)).put 3 (by simp [vF]) (.int .i64 (t : Int))).perm (List.Perm.swap _ _ _)
      obtain ⟨e0, _⟩ := P9.out.bcell (q := nb) (vs := (vF (k : Int) (i : Int) (s : Int) (t : Int) 0 0 ⟨#[]⟩ ⟨#[]⟩ 0 ⟨#[]⟩)) (by simp) 0 _ rfl
      clear G9
      clear P8
      have HPZ : Hid (Has B w (BlockR rb zN :: RdR q S b9 :: BlockR nb (vF (k : Int) (i : Int) (s : Int) (t : Int) 0 0 ⟨#[]⟩ ⟨#[]⟩ 0 ⟨#[]⟩) :: rs) (v9.setCell ⟨nb, 3, none⟩ (.int .i64 (t : Int)))) := P9.out.perm (List.perm_middle (l₁ := [_, _]) (l₂ := rs))
      clear P9
      try clear e0
      obtain ⟨x0, _⟩ := HPZ.out.bcell (q := nb) (vs := (vF (k : Int) (i : Int) (s : Int) (t : Int) 0 0 ⟨#[]⟩ ⟨#[]⟩ 0 ⟨#[]⟩)) (by simp) 0 _ rfl
      obtain ⟨x1, _⟩ := HPZ.out.bcell (q := nb) (vs := (vF (k : Int) (i : Int) (s : Int) (t : Int) 0 0 ⟨#[]⟩ ⟨#[]⟩ 0 ⟨#[]⟩)) (by simp) 1 _ rfl
      obtain ⟨x2, _⟩ := HPZ.out.bcell (q := nb) (vs := (vF (k : Int) (i : Int) (s : Int) (t : Int) 0 0 ⟨#[]⟩ ⟨#[]⟩ 0 ⟨#[]⟩)) (by simp) 2 _ rfl
      obtain ⟨x3, _⟩ := HPZ.out.bcell (q := nb) (vs := (vF (k : Int) (i : Int) (s : Int) (t : Int) 0 0 ⟨#[]⟩ ⟨#[]⟩ 0 ⟨#[]⟩)) (by simp) 3 _ rfl
      obtain ⟨x4, _⟩ := HPZ.out.bcell (q := nb) (vs := (vF (k : Int) (i : Int) (s : Int) (t : Int) 0 0 ⟨#[]⟩ ⟨#[]⟩ 0 ⟨#[]⟩)) (by simp) 4 _ rfl
      obtain ⟨x5, _⟩ := HPZ.out.bcell (q := nb) (vs := (vF (k : Int) (i : Int) (s : Int) (t : Int) 0 0 ⟨#[]⟩ ⟨#[]⟩ 0 ⟨#[]⟩)) (by simp) 5 _ rfl
      obtain ⟨x6, _⟩ := HPZ.out.bcell (q := nb) (vs := (vF (k : Int) (i : Int) (s : Int) (t : Int) 0 0 ⟨#[]⟩ ⟨#[]⟩ 0 ⟨#[]⟩)) (by simp) 6 _ rfl
      obtain ⟨x7, _⟩ := HPZ.out.bcell (q := nb) (vs := (vF (k : Int) (i : Int) (s : Int) (t : Int) 0 0 ⟨#[]⟩ ⟨#[]⟩ 0 ⟨#[]⟩)) (by simp) 7 _ rfl
      obtain ⟨x8, _⟩ := HPZ.out.bcell (q := nb) (vs := (vF (k : Int) (i : Int) (s : Int) (t : Int) 0 0 ⟨#[]⟩ ⟨#[]⟩ 0 ⟨#[]⟩)) (by simp) 8 _ rfl
      obtain ⟨x9, _⟩ := HPZ.out.bcell (q := nb) (vs := (vF (k : Int) (i : Int) (s : Int) (t : Int) 0 0 ⟨#[]⟩ ⟨#[]⟩ 0 ⟨#[]⟩)) (by simp) 9 _ rfl
      obtain ⟨y0, g0⟩ := HPZ.out.bcell (q := rb) (vs := zN) (by simp) 0 _ rfl
      obtain ⟨y1, g1⟩ := HPZ.out.bcell (q := rb) (vs := zN) (by simp) 1 _ rfl
      obtain ⟨y2, g2⟩ := HPZ.out.bcell (q := rb) (vs := zN) (by simp) 2 _ rfl
      obtain ⟨y3, g3⟩ := HPZ.out.bcell (q := rb) (vs := zN) (by simp) 3 _ rfl
      obtain ⟨y4, g4⟩ := HPZ.out.bcell (q := rb) (vs := zN) (by simp) 4 _ rfl
      obtain ⟨y5, g5⟩ := HPZ.out.bcell (q := rb) (vs := zN) (by simp) 5 _ rfl
      obtain ⟨y6, g6⟩ := HPZ.out.bcell (q := rb) (vs := zN) (by simp) 6 _ rfl
      obtain ⟨y7, g7⟩ := HPZ.out.bcell (q := rb) (vs := zN) (by simp) 7 _ rfl
      obtain ⟨y8, g8⟩ := HPZ.out.bcell (q := rb) (vs := zN) (by simp) 8 _ rfl
      obtain ⟨y9, g9⟩ := HPZ.out.bcell (q := rb) (vs := zN) (by simp) 9 _ rfl
      have HQ : Hid (Has B w (BlockR rb (vF (k : Int) (i : Int) (s : Int) (t : Int) 0 0 ⟨#[]⟩ ⟨#[]⟩ 0 ⟨#[]⟩) :: RdR q S b9 :: BlockR nb (vF (k : Int) (i : Int) (s : Int) (t : Int) 0 0 ⟨#[]⟩ ⟨#[]⟩ 0 ⟨#[]⟩) :: rs) (setAll rb 0 (vF (k : Int) (i : Int) (s : Int) (t : Int) 0 0 ⟨#[]⟩ ⟨#[]⟩ 0 ⟨#[]⟩) (v9.setCell ⟨nb, 3, none⟩ (.int .i64 (t : Int))))) := Has.puts (vF (k : Int) (i : Int) (s : Int) (t : Int) 0 0 ⟨#[]⟩ ⟨#[]⟩ 0 ⟨#[]⟩) [] zN HPZ.out rfl
      clear HPZ
      go_wp2_with fail
      have HC : Hid (∀ j u, (vF (k : Int) (i : Int) (s : Int) (t : Int) 0 0 ⟨#[]⟩ ⟨#[]⟩ 0 ⟨#[]⟩)[j]? = some u → (setAll rb 0 (vF (k : Int) (i : Int) (s : Int) (t : Int) 0 0 ⟨#[]⟩ ⟨#[]⟩ 0 ⟨#[]⟩) (v9.setCell ⟨nb, 3, none⟩ (.int .i64 (t : Int)))).cell? ⟨rb, j, none⟩ = some u) := fun j u hu => (HQ.out.bcell (q := rb) (vs := (vF (k : Int) (i : Int) (s : Int) (t : Int) 0 0 ⟨#[]⟩ ⟨#[]⟩ 0 ⟨#[]⟩)) (by simp) j u hu).1
      refine bodyPost_ret (results_row rfl _ _ rb (vF (k : Int) (i : Int) (s : Int) (t : Int) 0 0 ⟨#[]⟩ ⟨#[]⟩ 0 ⟨#[]⟩) _ rfl HC.out Try.underlying56 rfl (by kernel_rfl)) rfl (by
        refine Or.inr ⟨k, i, s, t, 0, 0, ⟨#[]⟩, ⟨#[]⟩, 0, ⟨#[]⟩, b9, (by decide), hb9, ?_, rfl, ?_⟩
        · rw [d1, d3, d8, d9]
          have h6 := q6.out; subst h6; simp [ofN, numsL]
        · exact (HQ.out.drop.perm (List.Perm.swap _ _ _)).drop)
    by_cases h8 : k = 8
    · skip
      have n2' : ((k : Int) == 2) = false := beq_eq_false_iff_ne.2 (by omega)
      have n5' : ((k : Int) == 5) = false := beq_eq_false_iff_ne.2 (by omega)
      have n6' : ((k : Int) == 6) = false := beq_eq_false_iff_ne.2 (by omega)
      have y8' : ((k : Int) == 8) = true := by rw [h8]; rfl
      have q8 : Hid (k = 8) := h8
      clear h8
      have E10 := numG hS hb3 P3.out
      go_wp2_with fail
      refine E10.mono ?_
      clear E10
      rintro en v10 (⟨rfl, G10⟩ | ⟨p, b10, mp, hb10, d10, rfl, G10⟩)
      · have HZ : Hid (Has B w rs v10) := G10.out.drop.drop.drop
        clear G10
        go_wp2_with fail
        exact bodyPost_dies rfl (Or.inl ⟨rfl, HZ⟩)
      try clear e0
      try clear e1 f1
      obtain ⟨e1, f1⟩ := G10.out.bcell (q := nb) (vs := (vF (k : Int) (i : Int) 0 0 0 0 ⟨#[]⟩ ⟨#[]⟩ 0 ⟨#[]⟩)) (by simp) 4 _ rfl
      have P10 : Hid (Has B w (RdR q S b10 :: BlockR nb (vF (k : Int) (i : Int) 0 0 (p : Int) 0 ⟨#[]⟩ ⟨#[]⟩ 0 ⟨#[]⟩) :: BlockR rb zN :: rs) (v10.setCell ⟨nb, 4, none⟩ (.int .i64 (p : Int)))) := ((G10.out.perm (List.Perm.swap _ _ _)).put 4 (by simp [vF]) (.int .i64 (p : Int))).perm (List.Perm.swap _ _ _)
      obtain ⟨e0, _⟩ := P10.out.bcell (q := nb) (vs := (vF (k : Int) (i : Int) 0 0 (p : Int) 0 ⟨#[]⟩ ⟨#[]⟩ 0 ⟨#[]⟩)) (by simp) 0 _ rfl
      clear G10
      clear P3
      have HPZ : Hid (Has B w (BlockR rb zN :: RdR q S b10 :: BlockR nb (vF (k : Int) (i : Int) 0 0 (p : Int) 0 ⟨#[]⟩ ⟨#[]⟩ 0 ⟨#[]⟩) :: rs) (v10.setCell ⟨nb, 4, none⟩ (.int .i64 (p : Int)))) := P10.out.perm (List.perm_middle (l₁ := [_, _]) (l₂ := rs))
      clear P10
      try clear e0
      obtain ⟨x0, _⟩ := HPZ.out.bcell (q := nb) (vs := (vF (k : Int) (i : Int) 0 0 (p : Int) 0 ⟨#[]⟩ ⟨#[]⟩ 0 ⟨#[]⟩)) (by simp) 0 _ rfl
      obtain ⟨x1, _⟩ := HPZ.out.bcell (q := nb) (vs := (vF (k : Int) (i : Int) 0 0 (p : Int) 0 ⟨#[]⟩ ⟨#[]⟩ 0 ⟨#[]⟩)) (by simp) 1 _ rfl
      obtain ⟨x2, _⟩ := HPZ.out.bcell (q := nb) (vs := (vF (k : Int) (i : Int) 0 0 (p : Int) 0 ⟨#[]⟩ ⟨#[]⟩ 0 ⟨#[]⟩)) (by simp) 2 _ rfl
      obtain ⟨x3, _⟩ := HPZ.out.bcell (q := nb) (vs := (vF (k : Int) (i : Int) 0 0 (p : Int) 0 ⟨#[]⟩ ⟨#[]⟩ 0 ⟨#[]⟩)) (by simp) 3 _ rfl
      obtain ⟨x4, _⟩ := HPZ.out.bcell (q := nb) (vs := (vF (k : Int) (i : Int) 0 0 (p : Int) 0 ⟨#[]⟩ ⟨#[]⟩ 0 ⟨#[]⟩)) (by simp) 4 _ rfl
      obtain ⟨x5, _⟩ := HPZ.out.bcell (q := nb) (vs := (vF (k : Int) (i : Int) 0 0 (p : Int) 0 ⟨#[]⟩ ⟨#[]⟩ 0 ⟨#[]⟩)) (by simp) 5 _ rfl
      obtain ⟨x6, _⟩ := HPZ.out.bcell (q := nb) (vs := (vF (k : Int) (i : Int) 0 0 (p : Int) 0 ⟨#[]⟩ ⟨#[]⟩ 0 ⟨#[]⟩)) (by simp) 6 _ rfl
      obtain ⟨x7, _⟩ := HPZ.out.bcell (q := nb) (vs := (vF (k : Int) (i : Int) 0 0 (p : Int) 0 ⟨#[]⟩ ⟨#[]⟩ 0 ⟨#[]⟩)) (by simp) 7 _ rfl
      obtain ⟨x8, _⟩ := HPZ.out.bcell (q := nb) (vs := (vF (k : Int) (i : Int) 0 0 (p : Int) 0 ⟨#[]⟩ ⟨#[]⟩ 0 ⟨#[]⟩)) (by simp) 8 _ rfl
      obtain ⟨x9, _⟩ := HPZ.out.bcell (q := nb) (vs := (vF (k : Int) (i : Int) 0 0 (p : Int) 0 ⟨#[]⟩ ⟨#[]⟩ 0 ⟨#[]⟩)) (by simp) 9 _ rfl
      obtain ⟨y0, g0⟩ := HPZ.out.bcell (q := rb) (vs := zN) (by simp) 0 _ rfl
      obtain ⟨y1, g1⟩ := HPZ.out.bcell (q := rb) (vs := zN) (by simp) 1 _ rfl
      obtain ⟨y2, g2⟩ := HPZ.out.bcell (q := rb) (vs := zN) (by simp) 2 _ rfl
      obtain ⟨y3, g3⟩ := HPZ.out.bcell (q := rb) (vs := zN) (by simp) 3 _ rfl
      obtain ⟨y4, g4⟩ := HPZ.out.bcell (q := rb) (vs := zN) (by simp) 4 _ rfl
      obtain ⟨y5, g5⟩ := HPZ.out.bcell (q := rb) (vs := zN) (by simp) 5 _ rfl
      obtain ⟨y6, g6⟩ := HPZ.out.bcell (q := rb) (vs := zN) (by simp) 6 _ rfl
      obtain ⟨y7, g7⟩ := HPZ.out.bcell (q := rb) (vs := zN) (by simp) 7 _ rfl
      obtain ⟨y8, g8⟩ := HPZ.out.bcell (q := rb) (vs := zN) (by simp) 8 _ rfl
      obtain ⟨y9, g9⟩ := HPZ.out.bcell (q := rb) (vs := zN) (by simp) 9 _ rfl
      have HQ : Hid (Has B w (BlockR rb (vF (k : Int) (i : Int) 0 0 (p : Int) 0 ⟨#[]⟩ ⟨#[]⟩ 0 ⟨#[]⟩) :: RdR q S b10 :: BlockR nb (vF (k : Int) (i : Int) 0 0 (p : Int) 0 ⟨#[]⟩ ⟨#[]⟩ 0 ⟨#[]⟩) :: rs) (setAll rb 0 (vF (k : Int) (i : Int) 0 0 (p : Int) 0 ⟨#[]⟩ ⟨#[]⟩ 0 ⟨#[]⟩) (v10.setCell ⟨nb, 4, none⟩ (.int .i64 (p : Int))))) := Has.puts (vF (k : Int) (i : Int) 0 0 (p : Int) 0 ⟨#[]⟩ ⟨#[]⟩ 0 ⟨#[]⟩) [] zN HPZ.out rfl
      clear HPZ
      go_wp2_with fail
      have HC : Hid (∀ j u, (vF (k : Int) (i : Int) 0 0 (p : Int) 0 ⟨#[]⟩ ⟨#[]⟩ 0 ⟨#[]⟩)[j]? = some u → (setAll rb 0 (vF (k : Int) (i : Int) 0 0 (p : Int) 0 ⟨#[]⟩ ⟨#[]⟩ 0 ⟨#[]⟩) (v10.setCell ⟨nb, 4, none⟩ (.int .i64 (p : Int)))).cell? ⟨rb, j, none⟩ = some u) := fun j u hu => (HQ.out.bcell (q := rb) (vs := (vF (k : Int) (i : Int) 0 0 (p : Int) 0 ⟨#[]⟩ ⟨#[]⟩ 0 ⟨#[]⟩)) (by simp) j u hu).1
      refine bodyPost_ret (results_row rfl _ _ rb (vF (k : Int) (i : Int) 0 0 (p : Int) 0 ⟨#[]⟩ ⟨#[]⟩ 0 ⟨#[]⟩) _ rfl HC.out Try.underlying56 rfl (by kernel_rfl)) rfl (by
        refine Or.inr ⟨k, i, 0, 0, p, 0, ⟨#[]⟩, ⟨#[]⟩, 0, ⟨#[]⟩, b10, (by decide), hb10, ?_, rfl, ?_⟩
        · rw [d1, d3, d10]
          have h8 := q8.out; subst h8; simp [ofN, numsL]
        · exact (HQ.out.drop.perm (List.Perm.swap _ _ _)).drop)
    by_cases h9 : k = 9
    · skip
      have n2' : ((k : Int) == 2) = false := beq_eq_false_iff_ne.2 (by omega)
      have n5' : ((k : Int) == 5) = false := beq_eq_false_iff_ne.2 (by omega)
      have n6' : ((k : Int) == 6) = false := beq_eq_false_iff_ne.2 (by omega)
      have n8' : ((k : Int) == 8) = false := beq_eq_false_iff_ne.2 (by omega)
      have y9' : ((k : Int) == 9) = true := by rw [h9]; rfl
      have q9 : Hid (k = 9) := h9
      clear h9
      have E11 := numG hS hb3 P3.out
      go_wp2_with fail
      refine E11.mono ?_
      clear E11
      rintro en v11 (⟨rfl, G11⟩ | ⟨t, b11, mt, hb11, d11, rfl, G11⟩)
      · have HZ : Hid (Has B w rs v11) := G11.out.drop.drop.drop
        clear G11
        go_wp2_with fail
        exact bodyPost_dies rfl (Or.inl ⟨rfl, HZ⟩)
      try clear e0
      try clear e1 f1
      obtain ⟨e1, f1⟩ := G11.out.bcell (q := nb) (vs := (vF (k : Int) (i : Int) 0 0 0 0 ⟨#[]⟩ ⟨#[]⟩ 0 ⟨#[]⟩)) (by simp) 3 _ rfl
      have P11 : Hid (Has B w (RdR q S b11 :: BlockR nb (vF (k : Int) (i : Int) 0 (t : Int) 0 0 ⟨#[]⟩ ⟨#[]⟩ 0 ⟨#[]⟩) :: BlockR rb zN :: rs) (v11.setCell ⟨nb, 3, none⟩ (.int .i64 (t : Int)))) := ((G11.out.perm (List.Perm.swap _ _ _)).put 3 (by simp [vF]) (.int .i64 (t : Int))).perm (List.Perm.swap _ _ _)
      obtain ⟨e0, _⟩ := P11.out.bcell (q := nb) (vs := (vF (k : Int) (i : Int) 0 (t : Int) 0 0 ⟨#[]⟩ ⟨#[]⟩ 0 ⟨#[]⟩)) (by simp) 0 _ rfl
      clear G11
      clear P3
      have E12 := numG hS hb11 P11.out
      go_wp2_with fail
      refine E12.mono ?_
      clear E12
      rintro en v12 (⟨rfl, G12⟩ | ⟨c, b12, mc, hb12, d12, rfl, G12⟩)
      · have HZ : Hid (Has B w rs v12) := G12.out.drop.drop.drop
        clear G12
        go_wp2_with fail
        exact bodyPost_dies rfl (Or.inl ⟨rfl, HZ⟩)
      try clear e0
      try clear e1 f1
      obtain ⟨e1, f1⟩ := G12.out.bcell (q := nb) (vs := (vF (k : Int) (i : Int) 0 (t : Int) 0 0 ⟨#[]⟩ ⟨#[]⟩ 0 ⟨#[]⟩)) (by simp) 5 _ rfl
      have P12 : Hid (Has B w (RdR q S b12 :: BlockR nb (vF (k : Int) (i : Int) 0 (t : Int) 0 (c : Int) ⟨#[]⟩ ⟨#[]⟩ 0 ⟨#[]⟩) :: BlockR rb zN :: rs) (v12.setCell ⟨nb, 5, none⟩ (.int .i64 (c : Int)))) := ((G12.out.perm (List.Perm.swap _ _ _)).put 5 (by simp [vF]) (.int .i64 (c : Int))).perm (List.Perm.swap _ _ _)
      obtain ⟨e0, _⟩ := P12.out.bcell (q := nb) (vs := (vF (k : Int) (i : Int) 0 (t : Int) 0 (c : Int) ⟨#[]⟩ ⟨#[]⟩ 0 ⟨#[]⟩)) (by simp) 0 _ rfl
      clear G12
      clear P11
      have HPZ : Hid (Has B w (BlockR rb zN :: RdR q S b12 :: BlockR nb (vF (k : Int) (i : Int) 0 (t : Int) 0 (c : Int) ⟨#[]⟩ ⟨#[]⟩ 0 ⟨#[]⟩) :: rs) (v12.setCell ⟨nb, 5, none⟩ (.int .i64 (c : Int)))) := P12.out.perm (List.perm_middle (l₁ := [_, _]) (l₂ := rs))
      clear P12
      try clear e0
      obtain ⟨x0, _⟩ := HPZ.out.bcell (q := nb) (vs := (vF (k : Int) (i : Int) 0 (t : Int) 0 (c : Int) ⟨#[]⟩ ⟨#[]⟩ 0 ⟨#[]⟩)) (by simp) 0 _ rfl
      obtain ⟨x1, _⟩ := HPZ.out.bcell (q := nb) (vs := (vF (k : Int) (i : Int) 0 (t : Int) 0 (c : Int) ⟨#[]⟩ ⟨#[]⟩ 0 ⟨#[]⟩)) (by simp) 1 _ rfl
      obtain ⟨x2, _⟩ := HPZ.out.bcell (q := nb) (vs := (vF (k : Int) (i : Int) 0 (t : Int) 0 (c : Int) ⟨#[]⟩ ⟨#[]⟩ 0 ⟨#[]⟩)) (by simp) 2 _ rfl
      obtain ⟨x3, _⟩ := HPZ.out.bcell (q := nb) (vs := (vF (k : Int) (i : Int) 0 (t : Int) 0 (c : Int) ⟨#[]⟩ ⟨#[]⟩ 0 ⟨#[]⟩)) (by simp) 3 _ rfl
      obtain ⟨x4, _⟩ := HPZ.out.bcell (q := nb) (vs := (vF (k : Int) (i : Int) 0 (t : Int) 0 (c : Int) ⟨#[]⟩ ⟨#[]⟩ 0 ⟨#[]⟩)) (by simp) 4 _ rfl
      obtain ⟨x5, _⟩ := HPZ.out.bcell (q := nb) (vs := (vF (k : Int) (i : Int) 0 (t : Int) 0 (c : Int) ⟨#[]⟩ ⟨#[]⟩ 0 ⟨#[]⟩)) (by simp) 5 _ rfl
      obtain ⟨x6, _⟩ := HPZ.out.bcell (q := nb) (vs := (vF (k : Int) (i : Int) 0 (t : Int) 0 (c : Int) ⟨#[]⟩ ⟨#[]⟩ 0 ⟨#[]⟩)) (by simp) 6 _ rfl
      obtain ⟨x7, _⟩ := HPZ.out.bcell (q := nb) (vs := (vF (k : Int) (i : Int) 0 (t : Int) 0 (c : Int) ⟨#[]⟩ ⟨#[]⟩ 0 ⟨#[]⟩)) (by simp) 7 _ rfl
      obtain ⟨x8, _⟩ := HPZ.out.bcell (q := nb) (vs := (vF (k : Int) (i : Int) 0 (t : Int) 0 (c : Int) ⟨#[]⟩ ⟨#[]⟩ 0 ⟨#[]⟩)) (by simp) 8 _ rfl
      obtain ⟨x9, _⟩ := HPZ.out.bcell (q := nb) (vs := (vF (k : Int) (i : Int) 0 (t : Int) 0 (c : Int) ⟨#[]⟩ ⟨#[]⟩ 0 ⟨#[]⟩)) (by simp) 9 _ rfl
      obtain ⟨y0, g0⟩ := HPZ.out.bcell (q := rb) (vs := zN) (by simp) 0 _ rfl
      obtain ⟨y1, g1⟩ := HPZ.out.bcell (q := rb) (vs := zN) (by simp) 1 _ rfl
      obtain ⟨y2, g2⟩ := HPZ.out.bcell (q := rb) (vs := zN) (by simp) 2 _ rfl
      obtain ⟨y3, g3⟩ := HPZ.out.bcell (q := rb) (vs := zN) (by simp) 3 _ rfl
      obtain ⟨y4, g4⟩ := HPZ.out.bcell (q := rb) (vs := zN) (by simp) 4 _ rfl
      obtain ⟨y5, g5⟩ := HPZ.out.bcell (q := rb) (vs := zN) (by simp) 5 _ rfl
      obtain ⟨y6, g6⟩ := HPZ.out.bcell (q := rb) (vs := zN) (by simp) 6 _ rfl
      obtain ⟨y7, g7⟩ := HPZ.out.bcell (q := rb) (vs := zN) (by simp) 7 _ rfl
      obtain ⟨y8, g8⟩ := HPZ.out.bcell (q := rb) (vs := zN) (by simp) 8 _ rfl
      obtain ⟨y9, g9⟩ := HPZ.out.bcell (q := rb) (vs := zN) (by simp) 9 _ rfl
      have HQ : Hid (Has B w (BlockR rb (vF (k : Int) (i : Int) 0 (t : Int) 0 (c : Int) ⟨#[]⟩ ⟨#[]⟩ 0 ⟨#[]⟩) :: RdR q S b12 :: BlockR nb (vF (k : Int) (i : Int) 0 (t : Int) 0 (c : Int) ⟨#[]⟩ ⟨#[]⟩ 0 ⟨#[]⟩) :: rs) (setAll rb 0 (vF (k : Int) (i : Int) 0 (t : Int) 0 (c : Int) ⟨#[]⟩ ⟨#[]⟩ 0 ⟨#[]⟩) (v12.setCell ⟨nb, 5, none⟩ (.int .i64 (c : Int))))) := Has.puts (vF (k : Int) (i : Int) 0 (t : Int) 0 (c : Int) ⟨#[]⟩ ⟨#[]⟩ 0 ⟨#[]⟩) [] zN HPZ.out rfl
      clear HPZ
      go_wp2_with fail
      have HC : Hid (∀ j u, (vF (k : Int) (i : Int) 0 (t : Int) 0 (c : Int) ⟨#[]⟩ ⟨#[]⟩ 0 ⟨#[]⟩)[j]? = some u → (setAll rb 0 (vF (k : Int) (i : Int) 0 (t : Int) 0 (c : Int) ⟨#[]⟩ ⟨#[]⟩ 0 ⟨#[]⟩) (v12.setCell ⟨nb, 5, none⟩ (.int .i64 (c : Int)))).cell? ⟨rb, j, none⟩ = some u) := fun j u hu => (HQ.out.bcell (q := rb) (vs := (vF (k : Int) (i : Int) 0 (t : Int) 0 (c : Int) ⟨#[]⟩ ⟨#[]⟩ 0 ⟨#[]⟩)) (by simp) j u hu).1
      refine bodyPost_ret (results_row rfl _ _ rb (vF (k : Int) (i : Int) 0 (t : Int) 0 (c : Int) ⟨#[]⟩ ⟨#[]⟩ 0 ⟨#[]⟩) _ rfl HC.out Try.underlying56 rfl (by kernel_rfl)) rfl (by
        refine Or.inr ⟨k, i, 0, t, 0, c, ⟨#[]⟩, ⟨#[]⟩, 0, ⟨#[]⟩, b12, (by decide), hb12, ?_, rfl, ?_⟩
        · rw [d1, d3, d11, d12]
          have h9 := q9.out; subst h9; simp [ofN, numsL]
        · exact (HQ.out.drop.perm (List.Perm.swap _ _ _)).drop)
    have n2' : ((k : Int) == 2) = false := beq_eq_false_iff_ne.2 (by omega)
    have n5' : ((k : Int) == 5) = false := beq_eq_false_iff_ne.2 (by omega)
    have n6' : ((k : Int) == 6) = false := beq_eq_false_iff_ne.2 (by omega)
    have n8' : ((k : Int) == 8) = false := beq_eq_false_iff_ne.2 (by omega)
    have n9' : ((k : Int) == 9) = false := beq_eq_false_iff_ne.2 (by omega)
    have HPZ : Hid (Has B w (BlockR rb zN :: RdR q S b3 :: BlockR nb (vF (k : Int) (i : Int) 0 0 0 0 ⟨#[]⟩ ⟨#[]⟩ 0 ⟨#[]⟩) :: rs) (v3.setCell ⟨nb, 1, none⟩ (.int .i64 (i : Int)))) := P3.out.perm (List.perm_middle (l₁ := [_, _]) (l₂ := rs))
    clear P3
    try clear e0
    obtain ⟨x0, _⟩ := HPZ.out.bcell (q := nb) (vs := (vF (k : Int) (i : Int) 0 0 0 0 ⟨#[]⟩ ⟨#[]⟩ 0 ⟨#[]⟩)) (by simp) 0 _ rfl
    obtain ⟨x1, _⟩ := HPZ.out.bcell (q := nb) (vs := (vF (k : Int) (i : Int) 0 0 0 0 ⟨#[]⟩ ⟨#[]⟩ 0 ⟨#[]⟩)) (by simp) 1 _ rfl
    obtain ⟨x2, _⟩ := HPZ.out.bcell (q := nb) (vs := (vF (k : Int) (i : Int) 0 0 0 0 ⟨#[]⟩ ⟨#[]⟩ 0 ⟨#[]⟩)) (by simp) 2 _ rfl
    obtain ⟨x3, _⟩ := HPZ.out.bcell (q := nb) (vs := (vF (k : Int) (i : Int) 0 0 0 0 ⟨#[]⟩ ⟨#[]⟩ 0 ⟨#[]⟩)) (by simp) 3 _ rfl
    obtain ⟨x4, _⟩ := HPZ.out.bcell (q := nb) (vs := (vF (k : Int) (i : Int) 0 0 0 0 ⟨#[]⟩ ⟨#[]⟩ 0 ⟨#[]⟩)) (by simp) 4 _ rfl
    obtain ⟨x5, _⟩ := HPZ.out.bcell (q := nb) (vs := (vF (k : Int) (i : Int) 0 0 0 0 ⟨#[]⟩ ⟨#[]⟩ 0 ⟨#[]⟩)) (by simp) 5 _ rfl
    obtain ⟨x6, _⟩ := HPZ.out.bcell (q := nb) (vs := (vF (k : Int) (i : Int) 0 0 0 0 ⟨#[]⟩ ⟨#[]⟩ 0 ⟨#[]⟩)) (by simp) 6 _ rfl
    obtain ⟨x7, _⟩ := HPZ.out.bcell (q := nb) (vs := (vF (k : Int) (i : Int) 0 0 0 0 ⟨#[]⟩ ⟨#[]⟩ 0 ⟨#[]⟩)) (by simp) 7 _ rfl
    obtain ⟨x8, _⟩ := HPZ.out.bcell (q := nb) (vs := (vF (k : Int) (i : Int) 0 0 0 0 ⟨#[]⟩ ⟨#[]⟩ 0 ⟨#[]⟩)) (by simp) 8 _ rfl
    obtain ⟨x9, _⟩ := HPZ.out.bcell (q := nb) (vs := (vF (k : Int) (i : Int) 0 0 0 0 ⟨#[]⟩ ⟨#[]⟩ 0 ⟨#[]⟩)) (by simp) 9 _ rfl
    obtain ⟨y0, g0⟩ := HPZ.out.bcell (q := rb) (vs := zN) (by simp) 0 _ rfl
    obtain ⟨y1, g1⟩ := HPZ.out.bcell (q := rb) (vs := zN) (by simp) 1 _ rfl
    obtain ⟨y2, g2⟩ := HPZ.out.bcell (q := rb) (vs := zN) (by simp) 2 _ rfl
    obtain ⟨y3, g3⟩ := HPZ.out.bcell (q := rb) (vs := zN) (by simp) 3 _ rfl
    obtain ⟨y4, g4⟩ := HPZ.out.bcell (q := rb) (vs := zN) (by simp) 4 _ rfl
    obtain ⟨y5, g5⟩ := HPZ.out.bcell (q := rb) (vs := zN) (by simp) 5 _ rfl
    obtain ⟨y6, g6⟩ := HPZ.out.bcell (q := rb) (vs := zN) (by simp) 6 _ rfl
    obtain ⟨y7, g7⟩ := HPZ.out.bcell (q := rb) (vs := zN) (by simp) 7 _ rfl
    obtain ⟨y8, g8⟩ := HPZ.out.bcell (q := rb) (vs := zN) (by simp) 8 _ rfl
    obtain ⟨y9, g9⟩ := HPZ.out.bcell (q := rb) (vs := zN) (by simp) 9 _ rfl
    have HQ : Hid (Has B w (BlockR rb (vF (k : Int) (i : Int) 0 0 0 0 ⟨#[]⟩ ⟨#[]⟩ 0 ⟨#[]⟩) :: RdR q S b3 :: BlockR nb (vF (k : Int) (i : Int) 0 0 0 0 ⟨#[]⟩ ⟨#[]⟩ 0 ⟨#[]⟩) :: rs) (setAll rb 0 (vF (k : Int) (i : Int) 0 0 0 0 ⟨#[]⟩ ⟨#[]⟩ 0 ⟨#[]⟩) (v3.setCell ⟨nb, 1, none⟩ (.int .i64 (i : Int))))) := Has.puts (vF (k : Int) (i : Int) 0 0 0 0 ⟨#[]⟩ ⟨#[]⟩ 0 ⟨#[]⟩) [] zN HPZ.out rfl
    clear HPZ
    go_wp2_with fail
    have HC : Hid (∀ j u, (vF (k : Int) (i : Int) 0 0 0 0 ⟨#[]⟩ ⟨#[]⟩ 0 ⟨#[]⟩)[j]? = some u → (setAll rb 0 (vF (k : Int) (i : Int) 0 0 0 0 ⟨#[]⟩ ⟨#[]⟩ 0 ⟨#[]⟩) (v3.setCell ⟨nb, 1, none⟩ (.int .i64 (i : Int)))).cell? ⟨rb, j, none⟩ = some u) := fun j u hu => (HQ.out.bcell (q := rb) (vs := (vF (k : Int) (i : Int) 0 0 0 0 ⟨#[]⟩ ⟨#[]⟩ 0 ⟨#[]⟩)) (by simp) j u hu).1
    refine bodyPost_ret (results_row rfl _ _ rb (vF (k : Int) (i : Int) 0 0 0 0 ⟨#[]⟩ ⟨#[]⟩ 0 ⟨#[]⟩) _ rfl HC.out Try.underlying56 rfl (by kernel_rfl)) rfl (by
      refine Or.inr ⟨k, i, 0, 0, 0, 0, ⟨#[]⟩, ⟨#[]⟩, 0, ⟨#[]⟩, b3, (by decide), hb3, ?_, rfl, ?_⟩
      · rw [d1, d3]
        simp [ofN, numsL, h1k, h2, h5, h6, h8, h9]
      · exact (HQ.out.drop.perm (List.Perm.swap _ _ _)).drop)
end
end Go.Proofs.Ytbgankldnjeohaa.Pl

/- Reading a value, of any text: it gives up, or what comes out stands in the text. -/
set_option linter.unusedVariables false
set_option linter.unusedSimpArgs false
set_option maxRecDepth 100000
namespace Go.Proofs.Ytbgankldnjeohaa.Pl
open Go.RowKit Go.Proofs.Ytbgankldnjeohaa

section
variable {B : Nat} {w wr : World} {rs : List Res}
set_option maxHeartbeats 2000000 in
theorem valueG_L {q : Nat} {S : ByteArray} {m : List UInt8} (hS : S.size ≤ 4611686018427387904) (hc : S.data.toList = 76 :: m) (h : Has B w (RdR q S 0 :: rs) wr) :
    Calls Try.prog 25 #[.pointer (some ⟨q, 0, none⟩)] wr fun en w' => (en = gave ∧ Hid (Has B w rs w')) ∨ ∃ (k p i s o : Nat) (xs : List (List UInt8)) (b : Nat) (ao : Option Addr) (cap : Nat), xs.length ≤ 4000 ∧ (∀ x ∈ xs, x.length ≤ 2000) ∧ b ≤ S.size ∧ S.data.toList = ltL k p i s o xs ++ S.data.toList.drop b ∧ en = .returned (.iface 49 (.agg (vL k p i s o (.slice ao xs.length cap)).toArray)) ∧ Hid (Has B w (RdR q S b :: TR (.slice ao xs.length cap) xs :: rs) w') := by
  have hl : S.data.toList.length = S.size := Array.length_toList
  have hz : S.size ≠ 0 := by rw [← hl, hc]; simp
  have hz1 : (1 : Int) ≤ (S.size : Int) := by omega
  have hem := emp_no S hz
  have k76 := head_is hc 76
  rw [show ((76 : UInt8) == 76) = true from by decide] at k76
  have H1 : Hid (Has B w (RdR q S 1 :: rs) (wr.setCell ⟨q, 1, none⟩ (.int .i64 1))) := h.put 1 (by simp) (.int .i64 1)
  have D1 := letterG hS (by omega) H1.out
  obtain ⟨c0, _⟩ := h.bcell (q := q) (vs := [.string S, .int .i64 0]) List.mem_cons_self 0 _ rfl
  obtain ⟨c1, f1⟩ := h.bcell (q := q) (vs := [.string S, .int .i64 0]) List.mem_cons_self 1 _ rfl
  have hd : Hid (S.data.toList = 76 :: S.data.toList.drop 1) := by
    have y : S.data.toList = 76 :: S.data.toList.drop 1 := by rw [hc]; rfl
    exact y
  clear h H1 hc hl
  go_enter Try.func25, Try.ntmps25
  go_wp2_with fail
  refine D1.mono ?_
  rintro en w2 (⟨rfl, H2⟩ | ⟨k, p, i, s, o, xs, b, ao, cap, x1, x2, x3, x4, rfl, H2⟩)
  · clear D1
    go_wp2_with fail
    exact bodyPost_dies rfl (Or.inl ⟨rfl, H2⟩)
  · clear D1
    go_wp2_with fail
    go_ret
    exact Or.inr ⟨k, p, i, s, o, xs, b, ao, cap, x1, x2, x3, hd.out.trans (by rw [x4]; rfl), rfl, H2⟩
set_option maxHeartbeats 2000000 in
theorem valueG_E {q : Nat} {S : ByteArray} {m : List UInt8} (hS : S.size ≤ 4611686018427387904) (hc : S.data.toList = 69 :: m) (h : Has B w (RdR q S 0 :: rs) wr) :
    Calls Try.prog 25 #[.pointer (some ⟨q, 0, none⟩)] wr fun en w' => (en = gave ∧ Hid (Has B w rs w')) ∨ ∃ (k i s : Nat) (xs : List (List UInt8)) (b : Nat) (ao : Option Addr) (cap : Nat), xs.length ≤ 4000 ∧ (∀ x ∈ xs, x.length ≤ 2000) ∧ b ≤ S.size ∧ S.data.toList = evL k i s xs ++ S.data.toList.drop b ∧ en = .returned (.iface 55 (.agg (vV k i s (.slice ao xs.length cap)).toArray)) ∧ Hid (Has B w (RdR q S b :: TR (.slice ao xs.length cap) xs :: rs) w') := by
  have hl : S.data.toList.length = S.size := Array.length_toList
  have hz : S.size ≠ 0 := by rw [← hl, hc]; simp
  have hz1 : (1 : Int) ≤ (S.size : Int) := by omega
  have hem := emp_no S hz
  have k76 := head_is hc 76
  rw [show ((69 : UInt8) == 76) = false from by decide] at k76
  have k69 := head_is hc 69
  rw [show ((69 : UInt8) == 69) = true from by decide] at k69
  have H1 : Hid (Has B w (RdR q S 1 :: rs) (wr.setCell ⟨q, 1, none⟩ (.int .i64 1))) := h.put 1 (by simp) (.int .i64 1)
  have D1 := eventG hS (by omega) H1.out
  obtain ⟨c0, _⟩ := h.bcell (q := q) (vs := [.string S, .int .i64 0]) List.mem_cons_self 0 _ rfl
  obtain ⟨c1, f1⟩ := h.bcell (q := q) (vs := [.string S, .int .i64 0]) List.mem_cons_self 1 _ rfl
  have hd : Hid (S.data.toList = 69 :: S.data.toList.drop 1) := by
    have y : S.data.toList = 69 :: S.data.toList.drop 1 := by rw [hc]; rfl
    exact y
  clear h H1 hc hl
  go_enter Try.func25, Try.ntmps25
  go_wp2_with fail
  refine D1.mono ?_
  rintro en w2 (⟨rfl, H2⟩ | ⟨k, i, s, xs, b, ao, cap, x1, x2, x3, x4, rfl, H2⟩)
  · clear D1
    go_wp2_with fail
    exact bodyPost_dies rfl (Or.inl ⟨rfl, H2⟩)
  · clear D1
    go_wp2_with fail
    go_ret
    exact Or.inr ⟨k, i, s, xs, b, ao, cap, x1, x2, x3, hd.out.trans (by rw [x4]; rfl), rfl, H2⟩
set_option maxHeartbeats 2000000 in
theorem valueG_N {q : Nat} {S : ByteArray} {m : List UInt8} (hS : S.size ≤ 4611686018427387904) (hc : S.data.toList = 78 :: m) (h : Has B w (RdR q S 0 :: rs) wr) :
    Calls Try.prog 25 #[.pointer (some ⟨q, 0, none⟩)] wr fun en w' => (en = gave ∧ Hid (Has B w rs w')) ∨ ∃ (k i s t p c : Nat) (K M : ByteArray) (v : Nat) (X : ByteArray) (b : Nat), X.size ≤ 2000 ∧ b ≤ S.size ∧ S.data.toList = (78 :: ofN k i s t p c K M v X) ++ S.data.toList.drop b ∧ en = .returned (.iface 56 (.agg (vF k i s t p c K M v X).toArray)) ∧ Hid (Has B w (RdR q S b :: rs) w') := by
  have hl : S.data.toList.length = S.size := Array.length_toList
  have hz : S.size ≠ 0 := by rw [← hl, hc]; simp
  have hz1 : (1 : Int) ≤ (S.size : Int) := by omega
  have hem := emp_no S hz
  have k76 := head_is hc 76
  rw [show ((78 : UInt8) == 76) = false from by decide] at k76
  have k69 := head_is hc 69
  rw [show ((78 : UInt8) == 69) = false from by decide] at k69
  have k78 := head_is hc 78
  rw [show ((78 : UInt8) == 78) = true from by decide] at k78
  have H1 : Hid (Has B w (RdR q S 1 :: rs) (wr.setCell ⟨q, 1, none⟩ (.int .i64 1))) := h.put 1 (by simp) (.int .i64 1)
  have D1 := noteG hS (by omega) H1.out
  obtain ⟨c0, _⟩ := h.bcell (q := q) (vs := [.string S, .int .i64 0]) List.mem_cons_self 0 _ rfl
  obtain ⟨c1, f1⟩ := h.bcell (q := q) (vs := [.string S, .int .i64 0]) List.mem_cons_self 1 _ rfl
  have hd : Hid (S.data.toList = 78 :: S.data.toList.drop 1) := by
    have y : S.data.toList = 78 :: S.data.toList.drop 1 := by rw [hc]; rfl
    exact y
  clear h H1 hc hl
  go_enter Try.func25, Try.ntmps25
  go_wp2_with fail
  refine D1.mono ?_
  rintro en w2 (⟨rfl, H2⟩ | ⟨k, i, s, t, p, c, K, M, v, X, b, xX, x3, x4, rfl, H2⟩)
  · clear D1
    go_wp2_with fail
    exact bodyPost_dies rfl (Or.inl ⟨rfl, H2⟩)
  · clear D1
    go_wp2_with fail
    go_ret
    exact Or.inr ⟨k, i, s, t, p, c, K, M, v, X, b, xX, x3, hd.out.trans (by rw [x4]; first | done | rfl), rfl, H2⟩
set_option maxHeartbeats 2000000 in
theorem valueG_0 {q : Nat} {S : ByteArray} (hc : ∀ m, S.data.toList ≠ 76 :: m ∧ S.data.toList ≠ 69 :: m ∧ S.data.toList ≠ 78 :: m) (h : Has B w (RdR q S 0 :: rs) wr) :
    Calls Try.prog 25 #[.pointer (some ⟨q, 0, none⟩)] wr fun en w' => en = gave ∧ Hid (Has B w rs w') := by
  have hl : S.data.toList.length = S.size := Array.length_toList
  obtain ⟨c0, _⟩ := h.bcell (q := q) (vs := [.string S, .int .i64 0]) List.mem_cons_self 0 _ rfl
  obtain ⟨c1, f1⟩ := h.bcell (q := q) (vs := [.string S, .int .i64 0]) List.mem_cons_self 1 _ rfl
  have H0 : Hid (Has B w rs wr) := h.drop
  have H1 : Hid (Has B w rs (wr.setCell ⟨q, 1, none⟩ (.int .i64 1))) := (h.put 1 (by simp) (.int .i64 1)).drop
  by_cases hz : S.size = 0
  · have hem := emp_yes S hz
    clear h hc hl H1
    go_enter Try.func25, Try.ntmps25
    go_wp2_with fail
    refine (giveUp_any _).mono ?_
    rintro en w2 ⟨rfl, hw⟩
    rw [hw]
    go_wp2_with fail
    exact bodyPost_dies rfl ⟨rfl, H0⟩
  · have hz1 : (1 : Int) ≤ (S.size : Int) := by omega
    have hem := emp_no S hz
    obtain ⟨b, m, hb⟩ : ∃ b m, S.data.toList = b :: m := by
      cases e : S.data.toList with
      | nil => rw [e] at hl; simp at hl; omega
      | cons b m => exact ⟨b, m, rfl⟩
    have k76 := head_is hb 76
    have k69 := head_is hb 69
    have k78 := head_is hb 78
    rw [show (b == (76 : UInt8)) = false from beq_eq_false_iff_ne.2 (fun e => (hc m).1 (by rw [hb, e]))] at k76
    rw [show (b == (69 : UInt8)) = false from beq_eq_false_iff_ne.2 (fun e => (hc m).2.1 (by rw [hb, e]))] at k69
    rw [show (b == (78 : UInt8)) = false from beq_eq_false_iff_ne.2 (fun e => (hc m).2.2 (by rw [hb, e]))] at k78
    clear h hc hl H0 hb
    go_enter Try.func25, Try.ntmps25
    go_wp2_with fail
    refine (giveUp_any _).mono ?_
    rintro en w2 ⟨rfl, hw⟩
    rw [hw]
    go_wp2_with fail
    exact bodyPost_dies rfl ⟨rfl, H1⟩
end
end Go.Proofs.Ytbgankldnjeohaa.Pl

/- ReadLetter, ReadEvent, ReadNote where read answers something else; What of a letter. -/
set_option linter.unusedVariables false
set_option linter.unusedSimpArgs false
set_option maxRecDepth 100000
namespace Go.Proofs.Ytbgankldnjeohaa.Pl
open Go.RowKit Go.Proofs.Ytbgankldnjeohaa

theorem ta_l_e (x : Array Value) (w : World) : (Instr.typeAssert (.iface 49 (.agg x)) 52 55 true).run Try.prog w = .ok (.tuple #[.agg #[.int .i64 0, .int .i64 0, .int .i64 0, .slice none 0 0], .bool false]) w := by kernel_rfl
theorem ta_l_n (x : Array Value) (w : World) : (Instr.typeAssert (.iface 49 (.agg x)) 52 56 true).run Try.prog w = .ok (.tuple #[.agg #[.int .i64 0, .int .i64 0, .int .i64 0, .int .i64 0, .int .i64 0, .int .i64 0, .string ⟨#[]⟩, .string ⟨#[]⟩, .int .i64 0, .string ⟨#[]⟩], .bool false]) w := by kernel_rfl
theorem ta_e_n (x : Array Value) (w : World) : (Instr.typeAssert (.iface 55 (.agg x)) 52 56 true).run Try.prog w = .ok (.tuple #[.agg #[.int .i64 0, .int .i64 0, .int .i64 0, .int .i64 0, .int .i64 0, .int .i64 0, .string ⟨#[]⟩, .string ⟨#[]⟩, .int .i64 0, .string ⟨#[]⟩], .bool false]) w := by kernel_rfl
section
variable {B : Nat} {w wr : World} {rs : List Res}
set_option maxHeartbeats 2000000 in
theorem readLetter_not {S : ByteArray}
    (C : ∀ (rs : List Res) (wr : World), Hid (Has B w rs wr) → Calls Try.prog 19 #[.string S] wr fun e w' => ∃ u, (∀ w, (Instr.typeAssert u 52 49 true).run Try.prog w = .ok (.tuple #[.agg #[.int .i64 0, .int .i64 0, .int .i64 0, .int .i64 0, .int .i64 0, .slice none 0 0], .bool false]) w) ∧ e = .returned u ∧ Hid (Has B w rs w')) (h : Has B w rs wr) :
    Calls Try.prog 9 #[.string S] wr fun e w' => e = .returned (.tuple #[.agg #[.int .i64 0, .int .i64 0, .int .i64 0, .int .i64 0, .int .i64 0, .slice none 0 0], .int .i64 70]) ∧ Hid (Has B w rs w') := by
  have H0 : Hid (Has B w (BlockR wr.heap.size (vL 0 0 0 0 0 nilS) :: rs) (wr.alloc (.cells #[.int .i64 0, .int .i64 0, .int .i64 0, .int .i64 0, .int .i64 0, .slice none 0 0] 24))) := h.box (vL 0 0 0 0 0 nilS) 24
  have D1 : Hid (Calls Try.prog 19 #[.string S] (wr.alloc (.cells #[.int .i64 0, .int .i64 0, .int .i64 0, .int .i64 0, .int .i64 0, .slice none 0 0] 24)) fun e w' => ∃ u, (∀ w, (Instr.typeAssert u 52 49 true).run Try.prog w = .ok (.tuple #[.agg #[.int .i64 0, .int .i64 0, .int .i64 0, .int .i64 0, .int .i64 0, .slice none 0 0], .bool false]) w) ∧ e = .returned u ∧ Hid (Has B w (BlockR wr.heap.size (vL 0 0 0 0 0 nilS) :: rs) w')) := C _ _ H0
  obtain ⟨rb, hrb⟩ : ∃ rb, wr.heap.size = rb := ⟨_, rfl⟩
  rw [hrb] at D1
  clear h H0 C
  go_enter Try.func9, Try.ntmps9
  go_wp2_with fail
  refine D1.out.mono ?_
  rintro e w2 ⟨u, hta, rfl, h2⟩
  clear hrb D1
  have H2 : Hid (Has B w (BlockR rb (vL 0 0 0 0 0 nilS) :: rs) (w2.alloc (.cells #[.int .i64 0, .int .i64 0, .int .i64 0, .int .i64 0, .int .i64 0, .slice none 0 0] 49))) := h2.out.below (by go_grown)
  clear h2
  go_upto_region 3 with fail
  generalize (w2.alloc (.cells #[.int .i64 0, .int .i64 0, .int .i64 0, .int .i64 0, .int .i64 0, .slice none 0 0] 49)) = w3 at *
  obtain ⟨y0, g0⟩ := H2.out.bcell (q := rb) (vs := (vL 0 0 0 0 0 nilS)) (by simp) 0 _ rfl
  obtain ⟨y1, g1⟩ := H2.out.bcell (q := rb) (vs := (vL 0 0 0 0 0 nilS)) (by simp) 1 _ rfl
  obtain ⟨y2, g2⟩ := H2.out.bcell (q := rb) (vs := (vL 0 0 0 0 0 nilS)) (by simp) 2 _ rfl
  obtain ⟨y3, g3⟩ := H2.out.bcell (q := rb) (vs := (vL 0 0 0 0 0 nilS)) (by simp) 3 _ rfl
  obtain ⟨y4, g4⟩ := H2.out.bcell (q := rb) (vs := (vL 0 0 0 0 0 nilS)) (by simp) 4 _ rfl
  obtain ⟨y5, g5⟩ := H2.out.bcell (q := rb) (vs := (vL 0 0 0 0 0 nilS)) (by simp) 5 _ rfl
  have HQ : Hid (Has B w (BlockR rb (vL 0 0 0 0 0 nilS) :: rs) (setAll rb 0 (vL 0 0 0 0 0 nilS) w3)) := Has.puts (vL 0 0 0 0 0 nilS) [] (vL 0 0 0 0 0 nilS) H2.out rfl
  clear H2 hta
  go_wp2_with fail
  have HC : Hid (∀ j u, ((vL 0 0 0 0 0 nilS))[j]? = some u → (setAll rb 0 (vL 0 0 0 0 0 nilS) w3).cell? ⟨rb, j, none⟩ = some u) := fun j u hu => (HQ.out.bcell (q := rb) (vs := (vL 0 0 0 0 0 nilS)) (by simp) j u hu).1
  refine bodyPost_ret (results_row_tmp rfl _ _ rb (vL 0 0 0 0 0 nilS) _ rfl HC.out Try.underlying24 rfl (by kernel_rfl)) rfl ⟨rfl, ?_⟩
  exact HQ.out.drop
set_option maxHeartbeats 2000000 in
theorem readEvent_not {S : ByteArray}
    (C : ∀ (rs : List Res) (wr : World), Hid (Has B w rs wr) → Calls Try.prog 19 #[.string S] wr fun e w' => ∃ u, (∀ w, (Instr.typeAssert u 52 55 true).run Try.prog w = .ok (.tuple #[.agg #[.int .i64 0, .int .i64 0, .int .i64 0, .slice none 0 0], .bool false]) w) ∧ e = .returned u ∧ Hid (Has B w rs w')) (h : Has B w rs wr) :
    Calls Try.prog 15 #[.string S] wr fun e w' => e = .returned (.tuple #[.agg #[.int .i64 0, .int .i64 0, .int .i64 0, .slice none 0 0], .int .i64 70]) ∧ Hid (Has B w rs w') := by
  have H0 : Hid (Has B w (BlockR wr.heap.size (vV 0 0 0 nilS) :: rs) (wr.alloc (.cells #[.int .i64 0, .int .i64 0, .int .i64 0, .slice none 0 0] 39))) := h.box (vV 0 0 0 nilS) 39
  have D1 : Hid (Calls Try.prog 19 #[.string S] (wr.alloc (.cells #[.int .i64 0, .int .i64 0, .int .i64 0, .slice none 0 0] 39)) fun e w' => ∃ u, (∀ w, (Instr.typeAssert u 52 55 true).run Try.prog w = .ok (.tuple #[.agg #[.int .i64 0, .int .i64 0, .int .i64 0, .slice none 0 0], .bool false]) w) ∧ e = .returned u ∧ Hid (Has B w (BlockR wr.heap.size (vV 0 0 0 nilS) :: rs) w')) := C _ _ H0
  obtain ⟨rb, hrb⟩ : ∃ rb, wr.heap.size = rb := ⟨_, rfl⟩
  rw [hrb] at D1
  clear h H0 C
  go_enter Try.func15, Try.ntmps15
  go_wp2_with fail
  refine D1.out.mono ?_
  rintro e w2 ⟨u, hta, rfl, h2⟩
  clear hrb D1
  have H2 : Hid (Has B w (BlockR rb (vV 0 0 0 nilS) :: rs) (w2.alloc (.cells #[.int .i64 0, .int .i64 0, .int .i64 0, .slice none 0 0] 55))) := h2.out.below (by go_grown)
  clear h2
  go_upto_region 3 with fail
  generalize (w2.alloc (.cells #[.int .i64 0, .int .i64 0, .int .i64 0, .slice none 0 0] 55)) = w3 at *
  obtain ⟨y0, g0⟩ := H2.out.bcell (q := rb) (vs := (vV 0 0 0 nilS)) (by simp) 0 _ rfl
  obtain ⟨y1, g1⟩ := H2.out.bcell (q := rb) (vs := (vV 0 0 0 nilS)) (by simp) 1 _ rfl
  obtain ⟨y2, g2⟩ := H2.out.bcell (q := rb) (vs := (vV 0 0 0 nilS)) (by simp) 2 _ rfl
  obtain ⟨y3, g3⟩ := H2.out.bcell (q := rb) (vs := (vV 0 0 0 nilS)) (by simp) 3 _ rfl
  have HQ : Hid (Has B w (BlockR rb (vV 0 0 0 nilS) :: rs) (setAll rb 0 (vV 0 0 0 nilS) w3)) := Has.puts (vV 0 0 0 nilS) [] (vV 0 0 0 nilS) H2.out rfl
  clear H2 hta
  go_wp2_with fail
  have HC : Hid (∀ j u, ((vV 0 0 0 nilS))[j]? = some u → (setAll rb 0 (vV 0 0 0 nilS) w3).cell? ⟨rb, j, none⟩ = some u) := fun j u hu => (HQ.out.bcell (q := rb) (vs := (vV 0 0 0 nilS)) (by simp) j u hu).1
  refine bodyPost_ret (results_row_tmp rfl _ _ rb (vV 0 0 0 nilS) _ rfl HC.out Try.underlying39 rfl (by kernel_rfl)) rfl ⟨rfl, ?_⟩
  exact HQ.out.drop
set_option maxHeartbeats 2000000 in
theorem readNote_not {S : ByteArray}
    (C : ∀ (rs : List Res) (wr : World), Hid (Has B w rs wr) → Calls Try.prog 19 #[.string S] wr fun e w' => ∃ u, (∀ w, (Instr.typeAssert u 52 56 true).run Try.prog w = .ok (.tuple #[.agg #[.int .i64 0, .int .i64 0, .int .i64 0, .int .i64 0, .int .i64 0, .int .i64 0, .string ⟨#[]⟩, .string ⟨#[]⟩, .int .i64 0, .string ⟨#[]⟩], .bool false]) w) ∧ e = .returned u ∧ Hid (Has B w rs w')) (h : Has B w rs wr) :
    Calls Try.prog 17 #[.string S] wr fun e w' => e = .returned (.tuple #[.agg #[.int .i64 0, .int .i64 0, .int .i64 0, .int .i64 0, .int .i64 0, .int .i64 0, .string ⟨#[]⟩, .string ⟨#[]⟩, .int .i64 0, .string ⟨#[]⟩], .int .i64 70]) ∧ Hid (Has B w rs w') := by
  have H0 : Hid (Has B w (BlockR wr.heap.size zN :: rs) (wr.alloc (.cells #[.int .i64 0, .int .i64 0, .int .i64 0, .int .i64 0, .int .i64 0, .int .i64 0, .string ⟨#[]⟩, .string ⟨#[]⟩, .int .i64 0, .string ⟨#[]⟩] 35))) := h.box zN 35
  have D1 : Hid (Calls Try.prog 19 #[.string S] (wr.alloc (.cells #[.int .i64 0, .int .i64 0, .int .i64 0, .int .i64 0, .int .i64 0, .int .i64 0, .string ⟨#[]⟩, .string ⟨#[]⟩, .int .i64 0, .string ⟨#[]⟩] 35)) fun e w' => ∃ u, (∀ w, (Instr.typeAssert u 52 56 true).run Try.prog w = .ok (.tuple #[.agg #[.int .i64 0, .int .i64 0, .int .i64 0, .int .i64 0, .int .i64 0, .int .i64 0, .string ⟨#[]⟩, .string ⟨#[]⟩, .int .i64 0, .string ⟨#[]⟩], .bool false]) w) ∧ e = .returned u ∧ Hid (Has B w (BlockR wr.heap.size zN :: rs) w')) := C _ _ H0
  obtain ⟨rb, hrb⟩ : ∃ rb, wr.heap.size = rb := ⟨_, rfl⟩
  rw [hrb] at D1
  clear h H0 C
  go_enter Try.func17, Try.ntmps17
  go_wp2_with fail
  refine D1.out.mono ?_
  rintro e w2 ⟨u, hta, rfl, h2⟩
  clear hrb D1
  have H2 : Hid (Has B w (BlockR rb zN :: rs) (w2.alloc (.cells #[.int .i64 0, .int .i64 0, .int .i64 0, .int .i64 0, .int .i64 0, .int .i64 0, .string ⟨#[]⟩, .string ⟨#[]⟩, .int .i64 0, .string ⟨#[]⟩] 56))) := h2.out.below (by go_grown)
  clear h2
  go_upto_region 3 with fail
  generalize (w2.alloc (.cells #[.int .i64 0, .int .i64 0, .int .i64 0, .int .i64 0, .int .i64 0, .int .i64 0, .string ⟨#[]⟩, .string ⟨#[]⟩, .int .i64 0, .string ⟨#[]⟩] 56)) = w3 at *
  obtain ⟨y0, g0⟩ := H2.out.bcell (q := rb) (vs := zN) (by simp) 0 _ rfl
  obtain ⟨y1, g1⟩ := H2.out.bcell (q := rb) (vs := zN) (by simp) 1 _ rfl
  obtain ⟨y2, g2⟩ := H2.out.bcell (q := rb) (vs := zN) (by simp) 2 _ rfl
  obtain ⟨y3, g3⟩ := H2.out.bcell (q := rb) (vs := zN) (by simp) 3 _ rfl
  obtain ⟨y4, g4⟩ := H2.out.bcell (q := rb) (vs := zN) (by simp) 4 _ rfl
  obtain ⟨y5, g5⟩ := H2.out.bcell (q := rb) (vs := zN) (by simp) 5 _ rfl
  obtain ⟨y6, g6⟩ := H2.out.bcell (q := rb) (vs := zN) (by simp) 6 _ rfl
  obtain ⟨y7, g7⟩ := H2.out.bcell (q := rb) (vs := zN) (by simp) 7 _ rfl
  obtain ⟨y8, g8⟩ := H2.out.bcell (q := rb) (vs := zN) (by simp) 8 _ rfl
  obtain ⟨y9, g9⟩ := H2.out.bcell (q := rb) (vs := zN) (by simp) 9 _ rfl
  have HQ : Hid (Has B w (BlockR rb zN :: rs) (setAll rb 0 zN w3)) := Has.puts zN [] zN H2.out rfl
  clear H2 hta
  go_wp2_with fail
  have HC : Hid (∀ j u, (zN)[j]? = some u → (setAll rb 0 zN w3).cell? ⟨rb, j, none⟩ = some u) := fun j u hu => (HQ.out.bcell (q := rb) (vs := zN) (by simp) j u hu).1
  refine bodyPost_ret (results_row_tmp rfl _ _ rb zN _ rfl HC.out Try.underlying35 rfl (by kernel_rfl)) rfl ⟨rfl, ?_⟩
  exact HQ.out.drop
end
end Go.Proofs.Ytbgankldnjeohaa.Pl

/- The forms of the notes that may be, in plain words: good, for any kind. -/
set_option linter.unusedVariables false
set_option linter.unusedSimpArgs false
set_option maxRecDepth 100000
namespace Go.Proofs.Ytbgankldnjeohaa.Pl
open Go.RowKit Go.Proofs.Ytbgankldnjeohaa

theorem goodF_of {k i s t p c : Int} {K M : ByteArray} {v : Int} {X : ByteArray} {l : List UInt8}
    (C1 : ∀ w, Calls Try.prog 91 #[.agg #[.int .i64 k, .int .i64 i, .int .i64 s, .int .i64 t, .int .i64 p, .int .i64 c, .string K, .string M, .int .i64 v, .string X]] w fun e w' => e = .returned (.bool (Nt.may ⟨k, i, s, t, p, c, K, M, v, X⟩)) ∧ Below w.heap.size w w')
    (hm : Nt.may ⟨k, i, s, t, p, c, K, M, v, X⟩ = true)
    (C2 : ∀ w, Calls Try.prog 90 #[.agg #[.int .i64 k, .int .i64 i, .int .i64 s, .int .i64 t, .int .i64 p, .int .i64 c, .string K, .string M, .int .i64 v, .string X]] w fun e w' => e = .returned (bstr (78 :: l)) ∧ Below w.heap.size w w')
    (hr : RdN (78 :: l) (vF k i s t p c K M v X)) (hl : l.length < 10000) : GoodN k i s t p c K M v X (78 :: l) := by
  rw [hm] at C1
  exact ⟨fun w => note_call (fun w => write_yes _ _ _ _ _ w (m_note_may _) (m_note_form _) e_note_may e_note_form C1 C2), C1, hr, ⟨l, rfl⟩, hl⟩
theorem goodF1 (i s t p c : Int) (K M : ByteArray) (v : Int) (X : ByteArray) (hX : X.size ≤ 140737488351232) (hm : Nt.may ⟨1, i, s, t, p, c, K, M, v, X⟩ = true) : ∃ l, l = 78 :: ofN 1 i.toNat s.toNat t.toNat p.toNat c.toNat K M v.toNat X ∧ GoodN 1 i s t p c K M v X l := by
  have bX : X.size ≤ 2000 := by
    have h := hm
    simp [Nt.may, btw] at h
    omega
  have zi : i = 0 := by
    have h := hm
    simp [Nt.may, em] at h
    simp [h]
  have zs : s = 0 := by
    have h := hm
    simp [Nt.may, em] at h
    simp [h]
  have zt : t = 0 := by
    have h := hm
    simp [Nt.may, em] at h
    simp [h]
  have zp : p = 0 := by
    have h := hm
    simp [Nt.may, em] at h
    simp [h]
  have zc : c = 0 := by
    have h := hm
    simp [Nt.may, em] at h
    simp [h]
  have zK : K = ⟨#[]⟩ := by
    have h := hm
    simp [Nt.may, em] at h
    simp [h]
  have zM : M = ⟨#[]⟩ := by
    have h := hm
    simp [Nt.may, em] at h
    simp [h]
  have zv : v = 0 := by
    have h := hm
    simp [Nt.may, em] at h
    simp [h]
  subst zi zs zt zp zc zK zM zv
  refine ⟨_, (by simp [ofN, numsL]), goodF_of (may1 0 0 0 0 0 ⟨#[]⟩ ⟨#[]⟩ 0 X hX) hm (formN1 0 0 0 0 0 ⟨#[]⟩ ⟨#[]⟩ 0 X bX) (rdN1 X bX) ?_⟩
  rw [List.length_append]
  have h1 := nums_le (xs := [1]) (fun x hx => by simp at hx; omega) (by simp)
  have h2 := txt_le X bX
  have h3 : (numsL [1]).length ≤ 8 := by have := nums_len [1] (fun x hx => by simp at hx; omega); simpa using this
  omega
theorem goodF2 (i s t p c : Int) (K M : ByteArray) (v : Int) (X : ByteArray) (hm : Nt.may ⟨2, i, s, t, p, c, K, M, v, X⟩ = true) : ∃ l, l = 78 :: ofN 2 i.toNat s.toNat t.toNat p.toNat c.toNat K M v.toNat X ∧ GoodN 2 i s t p c K M v X l := by
  have bi : 0 ≤ i ∧ i ≤ 60 := by
    have h := hm
    simp [Nt.may, btw] at h
    omega
  have bv : 0 ≤ v ∧ v ≤ 16 := by
    have h := hm
    simp [Nt.may, btw] at h
    omega
  have h := hm
  simp [Nt.may, btw] at h
  have bK : K.size ≤ 32 := isNm_size (by simp [h])
  have bM : M.size ≤ 32 := isNm_size (by simp [h])
  clear h
  have zs : s = 0 := by
    have h := hm
    simp [Nt.may, em] at h
    simp [h]
  have zt : t = 0 := by
    have h := hm
    simp [Nt.may, em] at h
    simp [h]
  have zp : p = 0 := by
    have h := hm
    simp [Nt.may, em] at h
    simp [h]
  have zc : c = 0 := by
    have h := hm
    simp [Nt.may, em] at h
    simp [h]
  have zX : X = ⟨#[]⟩ := by
    have h := hm
    simp [Nt.may, em] at h
    simp [h]
  subst zs zt zp zc zX
  obtain ⟨i, rfl⟩ := Int.eq_ofNat_of_zero_le bi.1
  obtain ⟨v, rfl⟩ := Int.eq_ofNat_of_zero_le bv.1
  refine ⟨_, (by simp [ofN, numsL]), goodF_of (may2 (i : Int) 0 0 0 0 K M (v : Int) ⟨#[]⟩) hm (formN2 i v (by omega) (by omega) 0 0 0 0 K M ⟨#[]⟩ (by omega) (by omega)) (rdN2 i v K M (by omega) (by omega) (by omega) (by omega)) ?_⟩
  simp only [List.length_append]
  have h2 := txt_le K (by omega)
  have h3 := txt_le M (by omega)
  have h4 : (numsL [2, i]).length ≤ 16 := by have := nums_len [2, i] (fun x hx => by simp at hx; omega); simpa using this
  have h5 : (numsL [v]).length ≤ 8 := by have := nums_len [v] (fun x hx => by simp at hx; omega); simpa using this
  omega
theorem goodF3 (i s t p c : Int) (K M : ByteArray) (v : Int) (X : ByteArray) (hX : X.size ≤ 140737488351232) (hm : Nt.may ⟨3, i, s, t, p, c, K, M, v, X⟩ = true) : ∃ l, l = 78 :: ofN 3 i.toNat s.toNat t.toNat p.toNat c.toNat K M v.toNat X ∧ GoodN 3 i s t p c K M v X l := by
  have bi : 0 ≤ i ∧ i ≤ 60 := by
    have h := hm
    simp [Nt.may, btw] at h
    omega
  have zs : s = 0 := by
    have h := hm
    simp [Nt.may, em] at h
    simp [h]
  have zt : t = 0 := by
    have h := hm
    simp [Nt.may, em] at h
    simp [h]
  have zp : p = 0 := by
    have h := hm
    simp [Nt.may, em] at h
    simp [h]
  have zc : c = 0 := by
    have h := hm
    simp [Nt.may, em] at h
    simp [h]
  have zK : K = ⟨#[]⟩ := by
    have h := hm
    simp [Nt.may, em] at h
    simp [h]
  have zM : M = ⟨#[]⟩ := by
    have h := hm
    simp [Nt.may, em] at h
    simp [h]
  have zv : v = 0 := by
    have h := hm
    simp [Nt.may, em] at h
    simp [h]
  have zX : X = ⟨#[]⟩ := by
    have h := hm
    simp [Nt.may, em] at h
    simp [h]
  subst zs zt zp zc zK zM zv zX
  obtain ⟨i, rfl⟩ := Int.eq_ofNat_of_zero_le bi.1
  exact ⟨_, (by simp [ofN, numsL]), goodF_of (may3 (i : Int) 0 0 0 0 ⟨#[]⟩ ⟨#[]⟩ 0 ⟨#[]⟩ (by decide)) hm (formN3 i (by omega) 0 0 0 0 ⟨#[]⟩ ⟨#[]⟩ 0 ⟨#[]⟩) (rdN3 i (by omega)) (nums_le (fun x hx => by simp at hx; omega) (by simp))⟩
theorem goodF4 (i s t p c : Int) (K M : ByteArray) (v : Int) (X : ByteArray) (hX : X.size ≤ 140737488351232) (hm : Nt.may ⟨4, i, s, t, p, c, K, M, v, X⟩ = true) : ∃ l, l = 78 :: ofN 4 i.toNat s.toNat t.toNat p.toNat c.toNat K M v.toNat X ∧ GoodN 4 i s t p c K M v X l := by
  have bi : 0 ≤ i ∧ i ≤ 60 := by
    have h := hm
    simp [Nt.may, btw] at h
    omega
  have zs : s = 0 := by
    have h := hm
    simp [Nt.may, em] at h
    simp [h]
  have zt : t = 0 := by
    have h := hm
    simp [Nt.may, em] at h
    simp [h]
  have zp : p = 0 := by
    have h := hm
    simp [Nt.may, em] at h
    simp [h]
  have zc : c = 0 := by
    have h := hm
    simp [Nt.may, em] at h
    simp [h]
  have zK : K = ⟨#[]⟩ := by
    have h := hm
    simp [Nt.may, em] at h
    simp [h]
  have zM : M = ⟨#[]⟩ := by
    have h := hm
    simp [Nt.may, em] at h
    simp [h]
  have zv : v = 0 := by
    have h := hm
    simp [Nt.may, em] at h
    simp [h]
  have zX : X = ⟨#[]⟩ := by
    have h := hm
    simp [Nt.may, em] at h
    simp [h]
  subst zs zt zp zc zK zM zv zX
  obtain ⟨i, rfl⟩ := Int.eq_ofNat_of_zero_le bi.1
  exact ⟨_, (by simp [ofN, numsL]), goodF_of (may4 (i : Int) 0 0 0 0 ⟨#[]⟩ ⟨#[]⟩ 0 ⟨#[]⟩ (by decide)) hm (formN4 i (by omega) 0 0 0 0 ⟨#[]⟩ ⟨#[]⟩ 0 ⟨#[]⟩) (rdN4 i (by omega)) (nums_le (fun x hx => by simp at hx; omega) (by simp))⟩
theorem goodF5 (i s t p c : Int) (K M : ByteArray) (v : Int) (X : ByteArray) (hX : X.size ≤ 140737488351232) (hm : Nt.may ⟨5, i, s, t, p, c, K, M, v, X⟩ = true) : ∃ l, l = 78 :: ofN 5 i.toNat s.toNat t.toNat p.toNat c.toNat K M v.toNat X ∧ GoodN 5 i s t p c K M v X l := by
  have bi : 0 ≤ i ∧ i ≤ 60 := by
    have h := hm
    simp [Nt.may, btw] at h
    omega
  have bs : 0 ≤ s ∧ s ≤ 7 := by
    have h := hm
    simp [Nt.may, btw] at h
    omega
  have zt : t = 0 := by
    have h := hm
    simp [Nt.may, em] at h
    simp [h]
  have zp : p = 0 := by
    have h := hm
    simp [Nt.may, em] at h
    simp [h]
  have zc : c = 0 := by
    have h := hm
    simp [Nt.may, em] at h
    simp [h]
  have zK : K = ⟨#[]⟩ := by
    have h := hm
    simp [Nt.may, em] at h
    simp [h]
  have zM : M = ⟨#[]⟩ := by
    have h := hm
    simp [Nt.may, em] at h
    simp [h]
  have zv : v = 0 := by
    have h := hm
    simp [Nt.may, em] at h
    simp [h]
  have zX : X = ⟨#[]⟩ := by
    have h := hm
    simp [Nt.may, em] at h
    simp [h]
  subst zt zp zc zK zM zv zX
  obtain ⟨i, rfl⟩ := Int.eq_ofNat_of_zero_le bi.1
  obtain ⟨s, rfl⟩ := Int.eq_ofNat_of_zero_le bs.1
  exact ⟨_, (by simp [ofN, numsL]), goodF_of (may5 (i : Int) (s : Int) 0 0 0 ⟨#[]⟩ ⟨#[]⟩ 0 ⟨#[]⟩ (by decide)) hm (formN5 i s (by omega) (by omega) 0 0 0 ⟨#[]⟩ ⟨#[]⟩ 0 ⟨#[]⟩) (rdN5 i s (by omega) (by omega)) (nums_le (fun x hx => by simp at hx; omega) (by simp))⟩
theorem goodF6 (i s t p c : Int) (K M : ByteArray) (v : Int) (X : ByteArray) (hX : X.size ≤ 140737488351232) (hm : Nt.may ⟨6, i, s, t, p, c, K, M, v, X⟩ = true) : ∃ l, l = 78 :: ofN 6 i.toNat s.toNat t.toNat p.toNat c.toNat K M v.toNat X ∧ GoodN 6 i s t p c K M v X l := by
  have bi : 0 ≤ i ∧ i ≤ 60 := by
    have h := hm
    simp [Nt.may, btw] at h
    omega
  have bs : 0 ≤ s ∧ s ≤ 7 := by
    have h := hm
    simp [Nt.may, btw] at h
    omega
  have bt : 0 ≤ t ∧ t ≤ 5 := by
    have h := hm
    simp [Nt.may, btw] at h
    omega
  have zp : p = 0 := by
    have h := hm
    simp [Nt.may, em] at h
    simp [h]
  have zc : c = 0 := by
    have h := hm
    simp [Nt.may, em] at h
    simp [h]
  have zK : K = ⟨#[]⟩ := by
    have h := hm
    simp [Nt.may, em] at h
    simp [h]
  have zM : M = ⟨#[]⟩ := by
    have h := hm
    simp [Nt.may, em] at h
    simp [h]
  have zv : v = 0 := by
    have h := hm
    simp [Nt.may, em] at h
    simp [h]
  have zX : X = ⟨#[]⟩ := by
    have h := hm
    simp [Nt.may, em] at h
    simp [h]
  subst zp zc zK zM zv zX
  obtain ⟨i, rfl⟩ := Int.eq_ofNat_of_zero_le bi.1
  obtain ⟨s, rfl⟩ := Int.eq_ofNat_of_zero_le bs.1
  obtain ⟨t, rfl⟩ := Int.eq_ofNat_of_zero_le bt.1
  exact ⟨_, (by simp [ofN, numsL]), goodF_of (may6 (i : Int) (s : Int) (t : Int) 0 0 ⟨#[]⟩ ⟨#[]⟩ 0 ⟨#[]⟩ (by decide)) hm (formN6 i s t (by omega) (by omega) (by omega) 0 0 ⟨#[]⟩ ⟨#[]⟩ 0 ⟨#[]⟩) (rdN6 i s t (by omega) (by omega) (by omega)) (nums_le (fun x hx => by simp at hx; omega) (by simp))⟩
theorem goodF7 (i s t p c : Int) (K M : ByteArray) (v : Int) (X : ByteArray) (hX : X.size ≤ 140737488351232) (hm : Nt.may ⟨7, i, s, t, p, c, K, M, v, X⟩ = true) : ∃ l, l = 78 :: ofN 7 i.toNat s.toNat t.toNat p.toNat c.toNat K M v.toNat X ∧ GoodN 7 i s t p c K M v X l := by
  have bi : 0 ≤ i ∧ i ≤ 60 := by
    have h := hm
    simp [Nt.may, btw] at h
    omega
  have zs : s = 0 := by
    have h := hm
    simp [Nt.may, em] at h
    simp [h]
  have zt : t = 0 := by
    have h := hm
    simp [Nt.may, em] at h
    simp [h]
  have zp : p = 0 := by
    have h := hm
    simp [Nt.may, em] at h
    simp [h]
  have zc : c = 0 := by
    have h := hm
    simp [Nt.may, em] at h
    simp [h]
  have zK : K = ⟨#[]⟩ := by
    have h := hm
    simp [Nt.may, em] at h
    simp [h]
  have zM : M = ⟨#[]⟩ := by
    have h := hm
    simp [Nt.may, em] at h
    simp [h]
  have zv : v = 0 := by
    have h := hm
    simp [Nt.may, em] at h
    simp [h]
  have zX : X = ⟨#[]⟩ := by
    have h := hm
    simp [Nt.may, em] at h
    simp [h]
  subst zs zt zp zc zK zM zv zX
  obtain ⟨i, rfl⟩ := Int.eq_ofNat_of_zero_le bi.1
  exact ⟨_, (by simp [ofN, numsL]), goodF_of (may7 (i : Int) 0 0 0 0 ⟨#[]⟩ ⟨#[]⟩ 0 ⟨#[]⟩ (by decide)) hm (formN7 i (by omega) 0 0 0 0 ⟨#[]⟩ ⟨#[]⟩ 0 ⟨#[]⟩) (rdN7 i (by omega)) (nums_le (fun x hx => by simp at hx; omega) (by simp))⟩
theorem goodF8 (i s t p c : Int) (K M : ByteArray) (v : Int) (X : ByteArray) (hX : X.size ≤ 140737488351232) (hm : Nt.may ⟨8, i, s, t, p, c, K, M, v, X⟩ = true) : ∃ l, l = 78 :: ofN 8 i.toNat s.toNat t.toNat p.toNat c.toNat K M v.toNat X ∧ GoodN 8 i s t p c K M v X l := by
  have bi : 0 ≤ i ∧ i ≤ 60 := by
    have h := hm
    simp [Nt.may, btw] at h
    omega
  have bp : 0 ≤ p ∧ p ≤ 3 := by
    have h := hm
    simp [Nt.may, btw] at h
    omega
  have zs : s = 0 := by
    have h := hm
    simp [Nt.may, em] at h
    simp [h]
  have zt : t = 0 := by
    have h := hm
    simp [Nt.may, em] at h
    simp [h]
  have zc : c = 0 := by
    have h := hm
    simp [Nt.may, em] at h
    simp [h]
  have zK : K = ⟨#[]⟩ := by
    have h := hm
    simp [Nt.may, em] at h
    simp [h]
  have zM : M = ⟨#[]⟩ := by
    have h := hm
    simp [Nt.may, em] at h
    simp [h]
  have zv : v = 0 := by
    have h := hm
    simp [Nt.may, em] at h
    simp [h]
  have zX : X = ⟨#[]⟩ := by
    have h := hm
    simp [Nt.may, em] at h
    simp [h]
  subst zs zt zc zK zM zv zX
  obtain ⟨i, rfl⟩ := Int.eq_ofNat_of_zero_le bi.1
  obtain ⟨p, rfl⟩ := Int.eq_ofNat_of_zero_le bp.1
  exact ⟨_, (by simp [ofN, numsL]), goodF_of (may8 (i : Int) 0 0 (p : Int) 0 ⟨#[]⟩ ⟨#[]⟩ 0 ⟨#[]⟩ (by decide)) hm (formN8 i p (by omega) (by omega) 0 0 0 ⟨#[]⟩ ⟨#[]⟩ 0 ⟨#[]⟩) (rdN8 i p (by omega) (by omega)) (nums_le (fun x hx => by simp at hx; omega) (by simp))⟩
theorem goodF9 (i s t p c : Int) (K M : ByteArray) (v : Int) (X : ByteArray) (hX : X.size ≤ 140737488351232) (hm : Nt.may ⟨9, i, s, t, p, c, K, M, v, X⟩ = true) : ∃ l, l = 78 :: ofN 9 i.toNat s.toNat t.toNat p.toNat c.toNat K M v.toNat X ∧ GoodN 9 i s t p c K M v X l := by
  have bi : 0 ≤ i ∧ i ≤ 60 := by
    have h := hm
    simp [Nt.may, btw] at h
    omega
  have he : (0 ≤ t ∧ t ≤ 6) ∧ (0 ≤ c ∧ c ≤ 4) := by
    have h := hm
    simp [Nt.may, btw] at h
    have h9 := h.1.2
    unfold endB btw at h9
    split at h9
    · simp at h9; omega
    · split at h9
      · simp at h9; omega
      · cases h9
  obtain ⟨bt, bc⟩ := he
  have zs : s = 0 := by
    have h := hm
    simp [Nt.may, em] at h
    simp [h]
  have zp : p = 0 := by
    have h := hm
    simp [Nt.may, em] at h
    simp [h]
  have zK : K = ⟨#[]⟩ := by
    have h := hm
    simp [Nt.may, em] at h
    simp [h]
  have zM : M = ⟨#[]⟩ := by
    have h := hm
    simp [Nt.may, em] at h
    simp [h]
  have zv : v = 0 := by
    have h := hm
    simp [Nt.may, em] at h
    simp [h]
  have zX : X = ⟨#[]⟩ := by
    have h := hm
    simp [Nt.may, em] at h
    simp [h]
  subst zs zp zK zM zv zX
  obtain ⟨i, rfl⟩ := Int.eq_ofNat_of_zero_le bi.1
  obtain ⟨t, rfl⟩ := Int.eq_ofNat_of_zero_le bt.1
  obtain ⟨c, rfl⟩ := Int.eq_ofNat_of_zero_le bc.1
  exact ⟨_, (by simp [ofN, numsL]), goodF_of (may9 (i : Int) 0 (t : Int) 0 (c : Int) ⟨#[]⟩ ⟨#[]⟩ 0 ⟨#[]⟩ (by decide)) hm (formN9 i t c (by omega) (by omega) (by omega) 0 0 ⟨#[]⟩ ⟨#[]⟩ 0 ⟨#[]⟩) (rdN9 i t c (by omega) (by omega) (by omega)) (nums_le (fun x hx => by simp at hx; omega) (by simp))⟩
theorem goodF (k i s t p c : Nat) (K M : ByteArray) (v : Nat) (X : ByteArray) (hX : X.size ≤ 140737488351232) (hm : Nt.may ⟨k, i, s, t, p, c, K, M, v, X⟩ = true) : GoodN k i s t p c K M v X (78 :: ofN k i s t p c K M v X) := by
  have go : ∀ l, l = 78 :: ofN k (i : Int).toNat (s : Int).toNat (t : Int).toNat (p : Int).toNat (c : Int).toNat K M (v : Int).toNat X → GoodN k i s t p c K M v X l → GoodN k i s t p c K M v X (78 :: ofN k i s t p c K M v X) := fun l hl hg => by
    simp only [Int.toNat_natCast] at hl
    rw [← hl]
    exact hg
  by_cases k1 : k = 1
  · subst k1
    obtain ⟨l, hl, hg⟩ := goodF1 (i : Int) s t p c K M v X hX hm
    exact go l hl hg
  by_cases k2 : k = 2
  · subst k2
    obtain ⟨l, hl, hg⟩ := goodF2 (i : Int) s t p c K M v X hm
    exact go l hl hg
  by_cases k3 : k = 3
  · subst k3
    obtain ⟨l, hl, hg⟩ := goodF3 (i : Int) s t p c K M v X hX hm
    exact go l hl hg
  by_cases k4 : k = 4
  · subst k4
    obtain ⟨l, hl, hg⟩ := goodF4 (i : Int) s t p c K M v X hX hm
    exact go l hl hg
  by_cases k5 : k = 5
  · subst k5
    obtain ⟨l, hl, hg⟩ := goodF5 (i : Int) s t p c K M v X hX hm
    exact go l hl hg
  by_cases k6 : k = 6
  · subst k6
    obtain ⟨l, hl, hg⟩ := goodF6 (i : Int) s t p c K M v X hX hm
    exact go l hl hg
  by_cases k7 : k = 7
  · subst k7
    obtain ⟨l, hl, hg⟩ := goodF7 (i : Int) s t p c K M v X hX hm
    exact go l hl hg
  by_cases k8 : k = 8
  · subst k8
    obtain ⟨l, hl, hg⟩ := goodF8 (i : Int) s t p c K M v X hX hm
    exact go l hl hg
  by_cases k9 : k = 9
  · subst k9
    obtain ⟨l, hl, hg⟩ := goodF9 (i : Int) s t p c K M v X hX hm
    exact go l hl hg
  exfalso
  have h1 : ((k : Int) = 1) = False := eq_false (by omega)
  have h2 : ((k : Int) = 2) = False := eq_false (by omega)
  have h3 : ((k : Int) = 3) = False := eq_false (by omega)
  have h4 : ((k : Int) = 4) = False := eq_false (by omega)
  have h5 : ((k : Int) = 5) = False := eq_false (by omega)
  have h6 : ((k : Int) = 6) = False := eq_false (by omega)
  have h7 : ((k : Int) = 7) = False := eq_false (by omega)
  have h8 : ((k : Int) = 8) = False := eq_false (by omega)
  have h9 : ((k : Int) = 9) = False := eq_false (by omega)
  simp [Nt.may, h1, h2, h3, h4, h5, h6, h7, h8, h9] at hm
end Go.Proofs.Ytbgankldnjeohaa.Pl

/- read of a text that is no form of what may be: it answers nil. -/
set_option linter.unusedVariables false
set_option linter.unusedSimpArgs false
set_option maxRecDepth 100000
namespace Go.Proofs.Ytbgankldnjeohaa.Pl
open Go.RowKit Go.Proofs.Ytbgankldnjeohaa

theorem mayN_any (k i s t p c : Int) (K M : ByteArray) (v : Int) (X : ByteArray) (hX : X.size ≤ 140737488351232) (w : World) :
    Calls Try.prog 91 #[.agg #[.int .i64 k, .int .i64 i, .int .i64 s, .int .i64 t, .int .i64 p, .int .i64 c, .string K, .string M, .int .i64 v, .string X]] w fun e w' => e = .returned (.bool (Nt.may ⟨k, i, s, t, p, c, K, M, v, X⟩)) ∧ Below w.heap.size w w' := by
  by_cases k1 : k = 1
  · subst k1
    exact may1 i s t p c K M v X hX w
  by_cases k2 : k = 2
  · subst k2
    exact may2 i s t p c K M v X w
  by_cases k3 : k = 3
  · subst k3
    exact may3 i s t p c K M v X hX w
  by_cases k4 : k = 4
  · subst k4
    exact may4 i s t p c K M v X hX w
  by_cases k5 : k = 5
  · subst k5
    exact may5 i s t p c K M v X hX w
  by_cases k6 : k = 6
  · subst k6
    exact may6 i s t p c K M v X hX w
  by_cases k7 : k = 7
  · subst k7
    exact may7 i s t p c K M v X hX w
  by_cases k8 : k = 8
  · subst k8
    exact may8 i s t p c K M v X hX w
  by_cases k9 : k = 9
  · subst k9
    exact may9 i s t p c K M v X hX w
  exact may0 k i s t p c K M v X hX k1 k2 k3 k4 k5 k6 k7 k8 k9 w
theorem not_all {S : ByteArray} {b : Nat} {f : List UInt8} (h1 : b ≤ S.size) (h2 : S.data.toList = f ++ S.data.toList.drop b) (h3 : S.data.toList ≠ f) : ((b : Int) == (S.size : Int)) = false := by
  refine beq_eq_false_iff_ne.2 fun e => h3 ?_
  have hb : b = S.size := by omega
  have hl : S.data.toList.length = S.size := Array.length_toList
  have hd : S.data.toList.drop b = [] := List.drop_eq_nil_of_le (by omega)
  rw [hd, List.append_nil] at h2
  exact h2
section
variable {B : Nat} {w wr : World} {rs : List Res}
set_option maxHeartbeats 4000000 in
theorem readL_bad (t : Tb) {S : ByteArray} {m : List UInt8} (hS : S.size ≤ 4611686018427387904) (hT : Hid (TabX t w)) (hlow : Hid (0 < B ∧ 1 < B)) (hc : S.data.toList = 76 :: m) (hno : ∀ (k : Nat) (p : Nat) (i : Nat) (s : Nat) (o : Nat) (xs : List (List UInt8)), ltMay t k p i s o xs = true → S.data.toList ≠ ltL k p i s o xs) (h : Has B w rs wr) :
    Calls Try.prog 19 #[.string S] wr fun e w' => e = .returned .nilIface ∧ Hid (Has B w rs w') := by
  have hmf : ∀ (fn : Fn) (first cap : Array Value) (w : World), (Instr.makeFunc fn first cap).run Try.prog w = .ok (.func fn first cap) w := fun _ _ _ _ => rfl
  have hmm := m_letter_may
  have H1 : Hid (Has B w (RdR (wr.heap.size + 1) S 0 :: BlockR wr.heap.size [.nilIface] :: rs) ((wr.alloc (.cells #[.nilIface] 52)).alloc (.cells #[.string S, .int .i64 0] 65))) := by
    have x := (h.box [.nilIface] 52).box [.string S, .int .i64 0] 65
    rw [World.size_alloc] at x
    exact x
  have D1 := valueG_L hS hc H1.out
  have CM : Hid (∀ (k : Nat) (p : Nat) (i : Nat) (s : Nat) (o : Nat) (xs : List (List UInt8)) ao cap wq, xs.length ≤ 4000 → (∀ x ∈ xs, x.length ≤ 2000) → Below B w wq → B ≤ wq.heap.size → SRow wq (.slice ao xs.length cap) xs → Calls Try.prog 62 #[.agg #[.int .i64 (k : Int), .int .i64 (p : Int), .int .i64 (i : Int), .int .i64 (s : Int), .int .i64 (o : Int), .slice ao xs.length cap]] wq fun e w' => e = .returned (.bool (ltMay t k p i s o xs)) ∧ Below wq.heap.size wq w') := fun k p i s o xs ao cap wq hx hxs hb hz hS2 =>
    ltMay_any t (k : Int) p i s o (.slice ao xs.length cap) xs (by omega) (fun x hx => by have := hxs x hx; omega) wq (hT.out.below hb hlow.out) ⟨Nat.lt_of_lt_of_le hlow.out.1 hz, Nat.lt_of_lt_of_le hlow.out.2 hz⟩ hS2
  have HNO : Hid (∀ (k : Nat) (p : Nat) (i : Nat) (s : Nat) (o : Nat) (xs : List (List UInt8)), ltMay t k p i s o xs = true → S.data.toList ≠ ltL k p i s o xs) := hno
  clear h H1 hc hno hT
  go_enter_defers Try.func19, Try.ntmps19
  go_wp2_with fail
  refine D1.mono ?_
  rintro e w2 (⟨rfl, H2⟩ | ⟨k, p, i, s, o, xs, b, ao, cap, x1, x2, x3, x4, rfl, H2⟩)
  · clear D1 CM HNO
    obtain ⟨y0, g0⟩ := H2.out.bcell (q := wr.heap.size) (vs := [.nilIface]) (by simp) 0 _ rfl
    have y2 : (w2.setCell ⟨wr.heap.size, 0, none⟩ .nilIface).cell? ⟨wr.heap.size, 0, none⟩ = some .nilIface := World.cell?_setCell_same _ _ _ y0
    have HZ : Hid (Has B w rs (w2.setCell ⟨wr.heap.size, 0, none⟩ .nilIface)) := (H2.out.put 0 (by simp) .nilIface).drop
    clear H2
    go_wp2_with fail
    refine leaves_cons (f := 24) (args := #[.pointer (some ⟨wr.heap.size, 0, none⟩)]) (by simp) (by simp [go_sem]) ?_
    refine (catch_finds ⟨wr.heap.size, 0, none⟩ _ _ y0 g0).mono ?_
    rintro e u' w'' ⟨rfl, rfl, rfl⟩
    simp [Leaves, settle, results, Try.results19, go_sem, y2]
    exact HZ
  · clear D1
    have hvn : (vL k p i s o (.slice ao xs.length cap)).toArray = #[.int .i64 (k : Int), .int .i64 (p : Int), .int .i64 (i : Int), .int .i64 (s : Int), .int .i64 (o : Int), .slice ao xs.length cap] := rfl
    rw [hvn]
    clear hvn
    have H2p := H2.out.perm (List.perm_middle (l₁ := [_, _]) (a := BlockR wr.heap.size [.nilIface]))
    obtain ⟨c0, f0⟩ := H2p.bcell (q := wr.heap.size) (vs := [.nilIface]) (by simp) 0 _ rfl
    have HP : Hid (Has B w (BlockR wr.heap.size [(.iface 49 (.agg #[.int .i64 (k : Int), .int .i64 (p : Int), .int .i64 (i : Int), .int .i64 (s : Int), .int .i64 (o : Int), .slice ao xs.length cap]))] :: RdR (wr.heap.size + 1) S b :: TR (.slice ao xs.length cap) xs :: rs) (w2.setCell ⟨wr.heap.size, 0, none⟩ (.iface 49 (.agg #[.int .i64 (k : Int), .int .i64 (p : Int), .int .i64 (i : Int), .int .i64 (s : Int), .int .i64 (o : Int), .slice ao xs.length cap])))) := H2p.put 0 (by simp) _
    obtain ⟨x0, _⟩ := HP.out.bcell (q := wr.heap.size) (vs := [(.iface 49 (.agg #[.int .i64 (k : Int), .int .i64 (p : Int), .int .i64 (i : Int), .int .i64 (s : Int), .int .i64 (o : Int), .slice ao xs.length cap]))]) (by simp) 0 _ rfl
    clear H2 H2p
    go_wp2_with fail
    refine (CM.out k p i s o xs ao cap _ x1 x2 HP.out.bel HP.out.size (HP.out.srowT (by simp))).mono ?_
    rintro e w3 ⟨rfl, hb⟩
    have HQ : Hid (Has B w (BlockR wr.heap.size [(.iface 49 (.agg #[.int .i64 (k : Int), .int .i64 (p : Int), .int .i64 (i : Int), .int .i64 (s : Int), .int .i64 (o : Int), .slice ao xs.length cap]))] :: RdR (wr.heap.size + 1) S b :: TR (.slice ao xs.length cap) xs :: rs) w3) := HP.out.below hb
    clear HP hb x0 c0 f0 CM
    obtain ⟨y0, g0⟩ := HQ.out.bcell (q := wr.heap.size) (vs := [(.iface 49 (.agg #[.int .i64 (k : Int), .int .i64 (p : Int), .int .i64 (i : Int), .int .i64 (s : Int), .int .i64 (o : Int), .slice ao xs.length cap]))]) (by simp) 0 _ rfl
    obtain ⟨y1, _⟩ := HQ.out.bcell (q := wr.heap.size + 1) (vs := [.string S, .int .i64 (b : Int)]) (List.mem_cons_of_mem _ List.mem_cons_self) 1 (.int .i64 (b : Int)) rfl
    have y2 : (w3.setCell ⟨wr.heap.size, 0, none⟩ .nilIface).cell? ⟨wr.heap.size, 0, none⟩ = some .nilIface := World.cell?_setCell_same _ _ _ y0
    have HZ : Hid (Has B w rs (w3.setCell ⟨wr.heap.size, 0, none⟩ .nilIface)) := (HQ.out.put 0 (by simp) .nilIface).drop.drop.drop
    cases hm : ltMay t k p i s o xs with
    | true =>
      have hne := not_all x3 x4 (HNO.out k p i s o xs hm)
      clear x4 HNO
      clear HQ
      go_wp2_with fail
      refine (giveUp_any _).mono ?_
      rintro e w4 ⟨rfl, hw4⟩
      rw [hw4]
      clear hw4
      go_wp2_with fail
      refine leaves_cons (f := 24) (args := #[.pointer (some ⟨wr.heap.size, 0, none⟩)]) (by simp) (by simp [go_sem]) ?_
      refine (catch_finds ⟨wr.heap.size, 0, none⟩ _ _ y0 g0).mono ?_
      rintro e u' w'' ⟨rfl, rfl, rfl⟩
      simp [Leaves, settle, results, Try.results19, go_sem, y2]
      exact HZ
    | false =>
      clear x4 HNO
      clear HQ
      go_wp2_with fail
      refine (giveUp_any _).mono ?_
      rintro e w4 ⟨rfl, hw4⟩
      rw [hw4]
      clear hw4
      go_wp2_with fail
      refine leaves_cons (f := 24) (args := #[.pointer (some ⟨wr.heap.size, 0, none⟩)]) (by simp) (by simp [go_sem]) ?_
      refine (catch_finds ⟨wr.heap.size, 0, none⟩ _ _ y0 g0).mono ?_
      rintro e u' w'' ⟨rfl, rfl, rfl⟩
      simp [Leaves, settle, results, Try.results19, go_sem, y2]
      exact HZ
set_option maxHeartbeats 4000000 in
theorem readE_bad (t : Tb) {S : ByteArray} {m : List UInt8} (hS : S.size ≤ 4611686018427387904) (hT : Hid (TabX t w)) (hlow : Hid (0 < B ∧ 1 < B)) (hc : S.data.toList = 69 :: m) (hno : ∀ (k : Nat) (i : Nat) (s : Nat) (xs : List (List UInt8)), evMay t k i s xs = true → S.data.toList ≠ evL k i s xs) (h : Has B w rs wr) :
    Calls Try.prog 19 #[.string S] wr fun e w' => e = .returned .nilIface ∧ Hid (Has B w rs w') := by
  have hmf : ∀ (fn : Fn) (first cap : Array Value) (w : World), (Instr.makeFunc fn first cap).run Try.prog w = .ok (.func fn first cap) w := fun _ _ _ _ => rfl
  have hmm := m_event_may
  have H1 : Hid (Has B w (RdR (wr.heap.size + 1) S 0 :: BlockR wr.heap.size [.nilIface] :: rs) ((wr.alloc (.cells #[.nilIface] 52)).alloc (.cells #[.string S, .int .i64 0] 65))) := by
    have x := (h.box [.nilIface] 52).box [.string S, .int .i64 0] 65
    rw [World.size_alloc] at x
    exact x
  have D1 := valueG_E hS hc H1.out
  have CM : Hid (∀ (k : Nat) (i : Nat) (s : Nat) (xs : List (List UInt8)) ao cap wq, xs.length ≤ 4000 → (∀ x ∈ xs, x.length ≤ 2000) → Below B w wq → B ≤ wq.heap.size → SRow wq (.slice ao xs.length cap) xs → Calls Try.prog 89 #[.agg #[.int .i64 (k : Int), .int .i64 (i : Int), .int .i64 (s : Int), .slice ao xs.length cap]] wq fun e w' => e = .returned (.bool (evMay t k i s xs)) ∧ Below wq.heap.size wq w') := fun k i s xs ao cap wq hx hxs hb hz hS2 =>
    evMay_any t (k : Int) i s (.slice ao xs.length cap) xs (by omega) (fun x hx => by have := hxs x hx; omega) wq (hT.out.below hb hlow.out) ⟨Nat.lt_of_lt_of_le hlow.out.1 hz, Nat.lt_of_lt_of_le hlow.out.2 hz⟩ hS2
  have HNO : Hid (∀ (k : Nat) (i : Nat) (s : Nat) (xs : List (List UInt8)), evMay t k i s xs = true → S.data.toList ≠ evL k i s xs) := hno
  clear h H1 hc hno hT
  go_enter_defers Try.func19, Try.ntmps19
  go_wp2_with fail
  refine D1.mono ?_
  rintro e w2 (⟨rfl, H2⟩ | ⟨k, i, s, xs, b, ao, cap, x1, x2, x3, x4, rfl, H2⟩)
  · clear D1 CM HNO
    obtain ⟨y0, g0⟩ := H2.out.bcell (q := wr.heap.size) (vs := [.nilIface]) (by simp) 0 _ rfl
    have y2 : (w2.setCell ⟨wr.heap.size, 0, none⟩ .nilIface).cell? ⟨wr.heap.size, 0, none⟩ = some .nilIface := World.cell?_setCell_same _ _ _ y0
    have HZ : Hid (Has B w rs (w2.setCell ⟨wr.heap.size, 0, none⟩ .nilIface)) := (H2.out.put 0 (by simp) .nilIface).drop
    clear H2
    go_wp2_with fail
    refine leaves_cons (f := 24) (args := #[.pointer (some ⟨wr.heap.size, 0, none⟩)]) (by simp) (by simp [go_sem]) ?_
    refine (catch_finds ⟨wr.heap.size, 0, none⟩ _ _ y0 g0).mono ?_
    rintro e u' w'' ⟨rfl, rfl, rfl⟩
    simp [Leaves, settle, results, Try.results19, go_sem, y2]
    exact HZ
  · clear D1
    have hvn : (vV k i s (.slice ao xs.length cap)).toArray = #[.int .i64 (k : Int), .int .i64 (i : Int), .int .i64 (s : Int), .slice ao xs.length cap] := rfl
    rw [hvn]
    clear hvn
    have H2p := H2.out.perm (List.perm_middle (l₁ := [_, _]) (a := BlockR wr.heap.size [.nilIface]))
    obtain ⟨c0, f0⟩ := H2p.bcell (q := wr.heap.size) (vs := [.nilIface]) (by simp) 0 _ rfl
    have HP : Hid (Has B w (BlockR wr.heap.size [(.iface 55 (.agg #[.int .i64 (k : Int), .int .i64 (i : Int), .int .i64 (s : Int), .slice ao xs.length cap]))] :: RdR (wr.heap.size + 1) S b :: TR (.slice ao xs.length cap) xs :: rs) (w2.setCell ⟨wr.heap.size, 0, none⟩ (.iface 55 (.agg #[.int .i64 (k : Int), .int .i64 (i : Int), .int .i64 (s : Int), .slice ao xs.length cap])))) := H2p.put 0 (by simp) _
    obtain ⟨x0, _⟩ := HP.out.bcell (q := wr.heap.size) (vs := [(.iface 55 (.agg #[.int .i64 (k : Int), .int .i64 (i : Int), .int .i64 (s : Int), .slice ao xs.length cap]))]) (by simp) 0 _ rfl
    clear H2 H2p
    go_wp2_with fail
    refine (CM.out k i s xs ao cap _ x1 x2 HP.out.bel HP.out.size (HP.out.srowT (by simp))).mono ?_
    rintro e w3 ⟨rfl, hb⟩
    have HQ : Hid (Has B w (BlockR wr.heap.size [(.iface 55 (.agg #[.int .i64 (k : Int), .int .i64 (i : Int), .int .i64 (s : Int), .slice ao xs.length cap]))] :: RdR (wr.heap.size + 1) S b :: TR (.slice ao xs.length cap) xs :: rs) w3) := HP.out.below hb
    clear HP hb x0 c0 f0 CM
    obtain ⟨y0, g0⟩ := HQ.out.bcell (q := wr.heap.size) (vs := [(.iface 55 (.agg #[.int .i64 (k : Int), .int .i64 (i : Int), .int .i64 (s : Int), .slice ao xs.length cap]))]) (by simp) 0 _ rfl
    obtain ⟨y1, _⟩ := HQ.out.bcell (q := wr.heap.size + 1) (vs := [.string S, .int .i64 (b : Int)]) (List.mem_cons_of_mem _ List.mem_cons_self) 1 (.int .i64 (b : Int)) rfl
    have y2 : (w3.setCell ⟨wr.heap.size, 0, none⟩ .nilIface).cell? ⟨wr.heap.size, 0, none⟩ = some .nilIface := World.cell?_setCell_same _ _ _ y0
    have HZ : Hid (Has B w rs (w3.setCell ⟨wr.heap.size, 0, none⟩ .nilIface)) := (HQ.out.put 0 (by simp) .nilIface).drop.drop.drop
    cases hm : evMay t k i s xs with
    | true =>
      have hne := not_all x3 x4 (HNO.out k i s xs hm)
      clear x4 HNO
      clear HQ
      go_wp2_with fail
      refine (giveUp_any _).mono ?_
      rintro e w4 ⟨rfl, hw4⟩
      rw [hw4]
      clear hw4
      go_wp2_with fail
      refine leaves_cons (f := 24) (args := #[.pointer (some ⟨wr.heap.size, 0, none⟩)]) (by simp) (by simp [go_sem]) ?_
      refine (catch_finds ⟨wr.heap.size, 0, none⟩ _ _ y0 g0).mono ?_
      rintro e u' w'' ⟨rfl, rfl, rfl⟩
      simp [Leaves, settle, results, Try.results19, go_sem, y2]
      exact HZ
    | false =>
      clear x4 HNO
      clear HQ
      go_wp2_with fail
      refine (giveUp_any _).mono ?_
      rintro e w4 ⟨rfl, hw4⟩
      rw [hw4]
      clear hw4
      go_wp2_with fail
      refine leaves_cons (f := 24) (args := #[.pointer (some ⟨wr.heap.size, 0, none⟩)]) (by simp) (by simp [go_sem]) ?_
      refine (catch_finds ⟨wr.heap.size, 0, none⟩ _ _ y0 g0).mono ?_
      rintro e u' w'' ⟨rfl, rfl, rfl⟩
      simp [Leaves, settle, results, Try.results19, go_sem, y2]
      exact HZ
set_option maxHeartbeats 4000000 in
theorem readN_bad {S : ByteArray} {m : List UInt8} (hS : S.size ≤ 4611686018427387904) (hc : S.data.toList = 78 :: m) (hno : ∀ (k : Nat) (i : Nat) (s : Nat) (t : Nat) (p : Nat) (c : Nat) (K : ByteArray) (M : ByteArray) (v : Nat) (X : ByteArray), X.size ≤ 2000 → Nt.may ⟨k, i, s, t, p, c, K, M, v, X⟩ = true → S.data.toList ≠ (78 :: ofN k i s t p c K M v X)) (h : Has B w rs wr) :
    Calls Try.prog 19 #[.string S] wr fun e w' => e = .returned .nilIface ∧ Hid (Has B w rs w') := by
  have hmf : ∀ (fn : Fn) (first cap : Array Value) (w : World), (Instr.makeFunc fn first cap).run Try.prog w = .ok (.func fn first cap) w := fun _ _ _ _ => rfl
  have hmm := m_note_may
  have H1 : Hid (Has B w (RdR (wr.heap.size + 1) S 0 :: BlockR wr.heap.size [.nilIface] :: rs) ((wr.alloc (.cells #[.nilIface] 52)).alloc (.cells #[.string S, .int .i64 0] 65))) := by
    have x := (h.box [.nilIface] 52).box [.string S, .int .i64 0] 65
    rw [World.size_alloc] at x
    exact x
  have D1 := valueG_N hS hc H1.out
  have CM : Hid (∀ (k : Nat) (i : Nat) (s : Nat) (t : Nat) (p : Nat) (c : Nat) (K : ByteArray) (M : ByteArray) (v : Nat) (X : ByteArray) wq, X.size ≤ 2000 → Calls Try.prog 91 #[.agg #[.int .i64 (k : Int), .int .i64 (i : Int), .int .i64 (s : Int), .int .i64 (t : Int), .int .i64 (p : Int), .int .i64 (c : Int), .string K, .string M, .int .i64 (v : Int), .string X]] wq fun e w' => e = .returned (.bool (Nt.may ⟨k, i, s, t, p, c, K, M, v, X⟩)) ∧ Below wq.heap.size wq w') := fun k i s t p c K M v X wq hX =>
    mayN_any k i s t p c K M v X (by omega) wq
  have HNO : Hid (∀ (k : Nat) (i : Nat) (s : Nat) (t : Nat) (p : Nat) (c : Nat) (K : ByteArray) (M : ByteArray) (v : Nat) (X : ByteArray), X.size ≤ 2000 → Nt.may ⟨k, i, s, t, p, c, K, M, v, X⟩ = true → S.data.toList ≠ (78 :: ofN k i s t p c K M v X)) := hno
  clear h H1 hc hno
  go_enter_defers Try.func19, Try.ntmps19
  go_wp2_with fail
  refine D1.mono ?_
  rintro e w2 (⟨rfl, H2⟩ | ⟨k, i, s, t, p, c, K, M, v, X, b, xX, x3, x4, rfl, H2⟩)
  · clear D1 CM HNO
    obtain ⟨y0, g0⟩ := H2.out.bcell (q := wr.heap.size) (vs := [.nilIface]) (by simp) 0 _ rfl
    have y2 : (w2.setCell ⟨wr.heap.size, 0, none⟩ .nilIface).cell? ⟨wr.heap.size, 0, none⟩ = some .nilIface := World.cell?_setCell_same _ _ _ y0
    have HZ : Hid (Has B w rs (w2.setCell ⟨wr.heap.size, 0, none⟩ .nilIface)) := (H2.out.put 0 (by simp) .nilIface).drop
    clear H2
    go_wp2_with fail
    refine leaves_cons (f := 24) (args := #[.pointer (some ⟨wr.heap.size, 0, none⟩)]) (by simp) (by simp [go_sem]) ?_
    refine (catch_finds ⟨wr.heap.size, 0, none⟩ _ _ y0 g0).mono ?_
    rintro e u' w'' ⟨rfl, rfl, rfl⟩
    simp [Leaves, settle, results, Try.results19, go_sem, y2]
    exact HZ
  · clear D1
    have hvn : (vF k i s t p c K M v X).toArray = #[.int .i64 (k : Int), .int .i64 (i : Int), .int .i64 (s : Int), .int .i64 (t : Int), .int .i64 (p : Int), .int .i64 (c : Int), .string K, .string M, .int .i64 (v : Int), .string X] := rfl
    rw [hvn]
    clear hvn
    have H2p := H2.out.perm (List.perm_middle (l₁ := [_]) (a := BlockR wr.heap.size [.nilIface]))
    obtain ⟨c0, f0⟩ := H2p.bcell (q := wr.heap.size) (vs := [.nilIface]) (by simp) 0 _ rfl
    have HP : Hid (Has B w (BlockR wr.heap.size [(.iface 56 (.agg #[.int .i64 (k : Int), .int .i64 (i : Int), .int .i64 (s : Int), .int .i64 (t : Int), .int .i64 (p : Int), .int .i64 (c : Int), .string K, .string M, .int .i64 (v : Int), .string X]))] :: RdR (wr.heap.size + 1) S b :: rs) (w2.setCell ⟨wr.heap.size, 0, none⟩ (.iface 56 (.agg #[.int .i64 (k : Int), .int .i64 (i : Int), .int .i64 (s : Int), .int .i64 (t : Int), .int .i64 (p : Int), .int .i64 (c : Int), .string K, .string M, .int .i64 (v : Int), .string X])))) := H2p.put 0 (by simp) _
    obtain ⟨x0, _⟩ := HP.out.bcell (q := wr.heap.size) (vs := [(.iface 56 (.agg #[.int .i64 (k : Int), .int .i64 (i : Int), .int .i64 (s : Int), .int .i64 (t : Int), .int .i64 (p : Int), .int .i64 (c : Int), .string K, .string M, .int .i64 (v : Int), .string X]))]) (by simp) 0 _ rfl
    clear H2 H2p
    go_wp2_with fail
    refine (CM.out k i s t p c K M v X _ xX).mono ?_
    rintro e w3 ⟨rfl, hb⟩
    have HQ : Hid (Has B w (BlockR wr.heap.size [(.iface 56 (.agg #[.int .i64 (k : Int), .int .i64 (i : Int), .int .i64 (s : Int), .int .i64 (t : Int), .int .i64 (p : Int), .int .i64 (c : Int), .string K, .string M, .int .i64 (v : Int), .string X]))] :: RdR (wr.heap.size + 1) S b :: rs) w3) := HP.out.below hb
    clear HP hb x0 c0 f0 CM
    obtain ⟨y0, g0⟩ := HQ.out.bcell (q := wr.heap.size) (vs := [(.iface 56 (.agg #[.int .i64 (k : Int), .int .i64 (i : Int), .int .i64 (s : Int), .int .i64 (t : Int), .int .i64 (p : Int), .int .i64 (c : Int), .string K, .string M, .int .i64 (v : Int), .string X]))]) (by simp) 0 _ rfl
    obtain ⟨y1, _⟩ := HQ.out.bcell (q := wr.heap.size + 1) (vs := [.string S, .int .i64 (b : Int)]) (List.mem_cons_of_mem _ List.mem_cons_self) 1 (.int .i64 (b : Int)) rfl
    have y2 : (w3.setCell ⟨wr.heap.size, 0, none⟩ .nilIface).cell? ⟨wr.heap.size, 0, none⟩ = some .nilIface := World.cell?_setCell_same _ _ _ y0
    have HZ : Hid (Has B w rs (w3.setCell ⟨wr.heap.size, 0, none⟩ .nilIface)) := (HQ.out.put 0 (by simp) .nilIface).drop.drop
    cases hm : Nt.may ⟨k, i, s, t, p, c, K, M, v, X⟩ with
    | true =>
      have hne := not_all x3 x4 (HNO.out k i s t p c K M v X xX hm)
      clear x4 HNO
      clear HQ
      go_wp2_with fail
      refine (giveUp_any _).mono ?_
      rintro e w4 ⟨rfl, hw4⟩
      rw [hw4]
      clear hw4
      go_wp2_with fail
      refine leaves_cons (f := 24) (args := #[.pointer (some ⟨wr.heap.size, 0, none⟩)]) (by simp) (by simp [go_sem]) ?_
      refine (catch_finds ⟨wr.heap.size, 0, none⟩ _ _ y0 g0).mono ?_
      rintro e u' w'' ⟨rfl, rfl, rfl⟩
      simp [Leaves, settle, results, Try.results19, go_sem, y2]
      exact HZ
    | false =>
      clear x4 HNO
      clear HQ
      go_wp2_with fail
      refine (giveUp_any _).mono ?_
      rintro e w4 ⟨rfl, hw4⟩
      rw [hw4]
      clear hw4
      go_wp2_with fail
      refine leaves_cons (f := 24) (args := #[.pointer (some ⟨wr.heap.size, 0, none⟩)]) (by simp) (by simp [go_sem]) ?_
      refine (catch_finds ⟨wr.heap.size, 0, none⟩ _ _ y0 g0).mono ?_
      rintro e u' w'' ⟨rfl, rfl, rfl⟩
      simp [Leaves, settle, results, Try.results19, go_sem, y2]
      exact HZ
theorem read0_bad {S : ByteArray} (hc : ∀ m, S.data.toList ≠ 76 :: m ∧ S.data.toList ≠ 69 :: m ∧ S.data.toList ≠ 78 :: m) (h : Has B w rs wr) :
    Calls Try.prog 19 #[.string S] wr fun e w' => e = .returned .nilIface ∧ Hid (Has B w rs w') :=
  read_cut (fun rs q wr hq => valueG_0 hc hq.out) h
end
/-- What a text can be to read. -/
theorem read_four (t : Tb) (S : ByteArray) (hS : S.size ≤ 4611686018427387904) :
    (∃ (k p i s o : Nat) (xs : List (List UInt8)), ltMay t k p i s o xs = true ∧ S.data.toList = ltL k p i s o xs) ∨
    (∃ (k i s : Nat) (xs : List (List UInt8)), evMay t k i s xs = true ∧ S.data.toList = evL k i s xs) ∨
    (∃ (k i s t p c : Nat) (K M : ByteArray) (v : Nat) (X : ByteArray), X.size ≤ 2000 ∧ Nt.may ⟨k, i, s, t, p, c, K, M, v, X⟩ = true ∧ S.data.toList = 78 :: ofN k i s t p c K M v X) ∨
    ∀ (B : Nat) (w wr : World) (rs : List Res), Hid (TabX t w) → Hid (0 < B ∧ 1 < B) → Hid (Has B w rs wr) → Calls Try.prog 19 #[.string S] wr fun e w' => e = .returned .nilIface ∧ Hid (Has B w rs w') := by
  by_cases h1 : ∃ (k p i s o : Nat) (xs : List (List UInt8)), ltMay t k p i s o xs = true ∧ S.data.toList = ltL k p i s o xs
  · exact Or.inl h1
  by_cases h2 : ∃ (k i s : Nat) (xs : List (List UInt8)), evMay t k i s xs = true ∧ S.data.toList = evL k i s xs
  · exact Or.inr (Or.inl h2)
  by_cases h3 : ∃ (k i s t p c : Nat) (K M : ByteArray) (v : Nat) (X : ByteArray), X.size ≤ 2000 ∧ Nt.may ⟨k, i, s, t, p, c, K, M, v, X⟩ = true ∧ S.data.toList = 78 :: ofN k i s t p c K M v X
  · exact Or.inr (Or.inr (Or.inl h3))
  refine Or.inr (Or.inr (Or.inr fun B w wr rs hT hlow h => ?_))
  by_cases c1 : ∃ m, S.data.toList = 76 :: m
  · obtain ⟨m, hm⟩ := c1
    exact readL_bad t hS hT hlow hm (fun k p i s o xs a b => h1 ⟨k, p, i, s, o, xs, a, b⟩) h.out
  by_cases c2 : ∃ m, S.data.toList = 69 :: m
  · obtain ⟨m, hm⟩ := c2
    exact readE_bad t hS hT hlow hm (fun k i s xs a b => h2 ⟨k, i, s, xs, a, b⟩) h.out
  by_cases c3 : ∃ m, S.data.toList = 78 :: m
  · obtain ⟨m, hm⟩ := c3
    exact readN_bad hS hm (fun k i s t p c K M v X x a b => h3 ⟨k, i, s, t, p, c, K, M, v, X, x, a, b⟩) h.out
  exact read0_bad (fun m => ⟨fun e => c1 ⟨m, e⟩, fun e => c2 ⟨m, e⟩, fun e => c3 ⟨m, e⟩⟩) h.out
end Go.Proofs.Ytbgankldnjeohaa.Pl

/- The walk of CodecOneForm: of a letter's form, an event's, a note's, and of what is none. -/
set_option linter.unusedVariables false
set_option linter.unusedSimpArgs false
set_option maxRecDepth 100000
namespace Go.Proofs.Ytbgankldnjeohaa.Pl
open Go.RowKit Go.Proofs.Ytbgankldnjeohaa

set_option maxHeartbeats 4000000 in
theorem one_L (S : ByteArray) (w : World) (k p i s o : Int) (xs : List (List UInt8))
    (CL : Hid (∀ (R : List Res) (wq : World), Hid (Has w.heap.size w R wq) → Calls Try.prog 9 #[.string S] wq fun e w' => ∃ ao cap, e = .returned (.tuple #[.agg #[.int .i64 k, .int .i64 p, .int .i64 i, .int .i64 s, .int .i64 o, .slice ao xs.length cap], .int .i64 0]) ∧ Hid (Has w.heap.size w (TR (.slice ao xs.length cap) xs :: R) w')))
    (CC : Hid (∀ ao cap (R : List Res) (wq : World), Hid (Has w.heap.size w R wq) → TR (.slice ao xs.length cap) xs ∈ R → Calls Try.prog 7 #[.agg #[.int .i64 k, .int .i64 p, .int .i64 i, .int .i64 s, .int .i64 o, .slice ao xs.length cap]] wq fun e w' => e = .returned (.tuple #[.string S, .int .i64 0]) ∧ Hid (Has w.heap.size w R w')))
    (CE : Hid (∀ (R : List Res) (wq : World), Hid (Has w.heap.size w R wq) → Calls Try.prog 15 #[.string S] wq fun e w' => e = .returned (.tuple #[.agg #[.int .i64 0, .int .i64 0, .int .i64 0, .slice none 0 0], .int .i64 70]) ∧ Hid (Has w.heap.size w R w')))
    (CN : Hid (∀ (R : List Res) (wq : World), Hid (Has w.heap.size w R wq) → Calls Try.prog 17 #[.string S] wq fun e w' => e = .returned (.tuple #[.agg #[.int .i64 0, .int .i64 0, .int .i64 0, .int .i64 0, .int .i64 0, .int .i64 0, .string ⟨#[]⟩, .string ⟨#[]⟩, .int .i64 0, .string ⟨#[]⟩], .int .i64 70]) ∧ Hid (Has w.heap.size w R w')))
    (CW : Hid (∀ (R : List Res) (wq : World), Hid (Has w.heap.size w R wq) → Calls Try.prog 11 #[.string S] wq fun e w' => e = .returned (.int .i64 1) ∧ Hid (Has w.heap.size w R w'))) :
    Calls Try.prog 6 #[.string S] w fun e w' => e = .returned (.bool true) ∧ Below w.heap.size w w' := by
  have H0 : Hid (Has w.heap.size w [] w) := Has.start w
  go_enter Try.func6, Try.ntmps6
  go_wp2_with fail
  refine (CL.out _ _ H0).mono ?_
  rintro e u1 ⟨ao, cap, rfl, A1⟩
  clear CL H0
  have B1 : Hid (Has w.heap.size w (BlockR u1.heap.size (vL k p i s o (.slice ao xs.length cap)) :: TR (.slice ao xs.length cap) xs :: []) (u1.alloc (.cells #[.int .i64 k, .int .i64 p, .int .i64 i, .int .i64 s, .int .i64 o, .slice ao xs.length cap] 24))) := A1.out.box (vL k p i s o (.slice ao xs.length cap)) 24
  clear A1
  go_wp2_with fail
  refine (CE.out _ _ B1).mono ?_
  rintro e u2 ⟨rfl, A2⟩
  clear CE B1
  have B2 : Hid (Has w.heap.size w (BlockR u2.heap.size (vV 0 0 0 nilS) :: BlockR u1.heap.size (vL k p i s o (.slice ao xs.length cap)) :: TR (.slice ao xs.length cap) xs :: []) (u2.alloc (.cells #[.int .i64 0, .int .i64 0, .int .i64 0, .slice none 0 0] 39))) := A2.out.box (vV 0 0 0 nilS) 39
  clear A2
  go_wp2_with fail
  refine (CN.out _ _ B2).mono ?_
  rintro e u3 ⟨rfl, A3⟩
  clear CN B2
  have B3 : Hid (Has w.heap.size w (BlockR u3.heap.size zN :: BlockR u2.heap.size (vV 0 0 0 nilS) :: BlockR u1.heap.size (vL k p i s o (.slice ao xs.length cap)) :: TR (.slice ao xs.length cap) xs :: []) (u3.alloc (.cells #[.int .i64 0, .int .i64 0, .int .i64 0, .int .i64 0, .int .i64 0, .int .i64 0, .string ⟨#[]⟩, .string ⟨#[]⟩, .int .i64 0, .string ⟨#[]⟩] 35))) := A3.out.box zN 35
  clear A3
  obtain ⟨x0, _⟩ := B3.out.bcell (q := u1.heap.size) (vs := (vL k p i s o (.slice ao xs.length cap))) (by simp) 0 _ rfl
  obtain ⟨x1, _⟩ := B3.out.bcell (q := u1.heap.size) (vs := (vL k p i s o (.slice ao xs.length cap))) (by simp) 1 _ rfl
  obtain ⟨x2, _⟩ := B3.out.bcell (q := u1.heap.size) (vs := (vL k p i s o (.slice ao xs.length cap))) (by simp) 2 _ rfl
  obtain ⟨x3, _⟩ := B3.out.bcell (q := u1.heap.size) (vs := (vL k p i s o (.slice ao xs.length cap))) (by simp) 3 _ rfl
  obtain ⟨x4, _⟩ := B3.out.bcell (q := u1.heap.size) (vs := (vL k p i s o (.slice ao xs.length cap))) (by simp) 4 _ rfl
  obtain ⟨x5, _⟩ := B3.out.bcell (q := u1.heap.size) (vs := (vL k p i s o (.slice ao xs.length cap))) (by simp) 5 _ rfl
  go_wp2_with fail
  refine (CC.out ao cap _ _ B3 (by simp)).mono ?_
  rintro e u4 ⟨rfl, B4⟩
  clear CC B3 x0 x1 x2 x3 x4 x5
  go_wp2_with fail
  refine (CW.out _ _ B4).mono ?_
  rintro e u5 ⟨rfl, B5⟩
  clear CW B4
  go_wp2_with fail
  refine (live_any _).mono ?_
  rintro e u6 ⟨rfl, hb⟩
  have HZ : Hid (Below w.heap.size w u6) := B5.out.bel.trans (hb.mono B5.out.size)
  clear B5 hb
  go_wp2_with fail
  go_ret
  exact ⟨rfl, HZ.out⟩
set_option maxHeartbeats 4000000 in
theorem one_E (S : ByteArray) (w : World) (k i s : Int) (xs : List (List UInt8))
    (CL : Hid (∀ (R : List Res) (wq : World), Hid (Has w.heap.size w R wq) → Calls Try.prog 9 #[.string S] wq fun e w' => e = .returned (.tuple #[.agg #[.int .i64 0, .int .i64 0, .int .i64 0, .int .i64 0, .int .i64 0, .slice none 0 0], .int .i64 70]) ∧ Hid (Has w.heap.size w R w')))
    (CE : Hid (∀ (R : List Res) (wq : World), Hid (Has w.heap.size w R wq) → Calls Try.prog 15 #[.string S] wq fun e w' => ∃ ao cap, e = .returned (.tuple #[.agg #[.int .i64 k, .int .i64 i, .int .i64 s, .slice ao xs.length cap], .int .i64 0]) ∧ Hid (Has w.heap.size w (TR (.slice ao xs.length cap) xs :: R) w')))
    (CC : Hid (∀ ao cap (R : List Res) (wq : World), Hid (Has w.heap.size w R wq) → TR (.slice ao xs.length cap) xs ∈ R → Calls Try.prog 14 #[.agg #[.int .i64 k, .int .i64 i, .int .i64 s, .slice ao xs.length cap]] wq fun e w' => e = .returned (.tuple #[.string S, .int .i64 0]) ∧ Hid (Has w.heap.size w R w')))
    (CN : Hid (∀ (R : List Res) (wq : World), Hid (Has w.heap.size w R wq) → Calls Try.prog 17 #[.string S] wq fun e w' => e = .returned (.tuple #[.agg #[.int .i64 0, .int .i64 0, .int .i64 0, .int .i64 0, .int .i64 0, .int .i64 0, .string ⟨#[]⟩, .string ⟨#[]⟩, .int .i64 0, .string ⟨#[]⟩], .int .i64 70]) ∧ Hid (Has w.heap.size w R w')))
    (CW : Hid (∀ (R : List Res) (wq : World), Hid (Has w.heap.size w R wq) → Calls Try.prog 11 #[.string S] wq fun e w' => e = .returned (.int .i64 2) ∧ Hid (Has w.heap.size w R w'))) :
    Calls Try.prog 6 #[.string S] w fun e w' => e = .returned (.bool true) ∧ Below w.heap.size w w' := by
  have H0 : Hid (Has w.heap.size w [] w) := Has.start w
  go_enter Try.func6, Try.ntmps6
  go_wp2_with fail
  refine (CL.out _ _ H0).mono ?_
  rintro e u1 ⟨rfl, A1⟩
  clear CL H0
  have B1 : Hid (Has w.heap.size w (BlockR u1.heap.size (vL 0 0 0 0 0 nilS) :: []) (u1.alloc (.cells #[.int .i64 0, .int .i64 0, .int .i64 0, .int .i64 0, .int .i64 0, .slice none 0 0] 24))) := A1.out.box (vL 0 0 0 0 0 nilS) 24
  clear A1
  go_wp2_with fail
  refine (CE.out _ _ B1).mono ?_
  rintro e u2 ⟨ao, cap, rfl, A2⟩
  clear CE B1
  have B2 : Hid (Has w.heap.size w (BlockR u2.heap.size (vV k i s (.slice ao xs.length cap)) :: TR (.slice ao xs.length cap) xs :: BlockR u1.heap.size (vL 0 0 0 0 0 nilS) :: []) (u2.alloc (.cells #[.int .i64 k, .int .i64 i, .int .i64 s, .slice ao xs.length cap] 39))) := A2.out.box (vV k i s (.slice ao xs.length cap)) 39
  clear A2
  go_wp2_with fail
  refine (CN.out _ _ B2).mono ?_
  rintro e u3 ⟨rfl, A3⟩
  clear CN B2
  have B3 : Hid (Has w.heap.size w (BlockR u3.heap.size zN :: BlockR u2.heap.size (vV k i s (.slice ao xs.length cap)) :: TR (.slice ao xs.length cap) xs :: BlockR u1.heap.size (vL 0 0 0 0 0 nilS) :: []) (u3.alloc (.cells #[.int .i64 0, .int .i64 0, .int .i64 0, .int .i64 0, .int .i64 0, .int .i64 0, .string ⟨#[]⟩, .string ⟨#[]⟩, .int .i64 0, .string ⟨#[]⟩] 35))) := A3.out.box zN 35
  clear A3
  obtain ⟨x0, _⟩ := B3.out.bcell (q := u2.heap.size) (vs := (vV k i s (.slice ao xs.length cap))) (by simp) 0 _ rfl
  obtain ⟨x1, _⟩ := B3.out.bcell (q := u2.heap.size) (vs := (vV k i s (.slice ao xs.length cap))) (by simp) 1 _ rfl
  obtain ⟨x2, _⟩ := B3.out.bcell (q := u2.heap.size) (vs := (vV k i s (.slice ao xs.length cap))) (by simp) 2 _ rfl
  obtain ⟨x3, _⟩ := B3.out.bcell (q := u2.heap.size) (vs := (vV k i s (.slice ao xs.length cap))) (by simp) 3 _ rfl
  go_wp2_with fail
  refine (CC.out ao cap _ _ B3 (by simp)).mono ?_
  rintro e u4 ⟨rfl, B4⟩
  clear CC B3 x0 x1 x2 x3
  go_wp2_with fail
  refine (CW.out _ _ B4).mono ?_
  rintro e u5 ⟨rfl, B5⟩
  clear CW B4
  go_wp2_with fail
  refine (live_any _).mono ?_
  rintro e u6 ⟨rfl, hb⟩
  have HZ : Hid (Below w.heap.size w u6) := B5.out.bel.trans (hb.mono B5.out.size)
  clear B5 hb
  go_wp2_with fail
  go_ret
  exact ⟨rfl, HZ.out⟩
set_option maxHeartbeats 4000000 in
theorem one_N (S : ByteArray) (w : World) (k i s t p c : Int) (K M : ByteArray) (v : Int) (X : ByteArray)
    (CL : Hid (∀ (R : List Res) (wq : World), Hid (Has w.heap.size w R wq) → Calls Try.prog 9 #[.string S] wq fun e w' => e = .returned (.tuple #[.agg #[.int .i64 0, .int .i64 0, .int .i64 0, .int .i64 0, .int .i64 0, .slice none 0 0], .int .i64 70]) ∧ Hid (Has w.heap.size w R w')))
    (CE : Hid (∀ (R : List Res) (wq : World), Hid (Has w.heap.size w R wq) → Calls Try.prog 15 #[.string S] wq fun e w' => e = .returned (.tuple #[.agg #[.int .i64 0, .int .i64 0, .int .i64 0, .slice none 0 0], .int .i64 70]) ∧ Hid (Has w.heap.size w R w')))
    (CN : Hid (∀ (R : List Res) (wq : World), Hid (Has w.heap.size w R wq) → Calls Try.prog 17 #[.string S] wq fun e w' => e = .returned (.tuple #[.agg #[.int .i64 k, .int .i64 i, .int .i64 s, .int .i64 t, .int .i64 p, .int .i64 c, .string K, .string M, .int .i64 v, .string X], .int .i64 0]) ∧ Hid (Has w.heap.size w R w')))
    (CC : Hid (∀ (R : List Res) (wq : World), Hid (Has w.heap.size w R wq) → Calls Try.prog 12 #[.agg #[.int .i64 k, .int .i64 i, .int .i64 s, .int .i64 t, .int .i64 p, .int .i64 c, .string K, .string M, .int .i64 v, .string X]] wq fun e w' => e = .returned (.tuple #[.string S, .int .i64 0]) ∧ Hid (Has w.heap.size w R w')))
    (CW : Hid (∀ (R : List Res) (wq : World), Hid (Has w.heap.size w R wq) → Calls Try.prog 11 #[.string S] wq fun e w' => e = .returned (.int .i64 3) ∧ Hid (Has w.heap.size w R w'))) :
    Calls Try.prog 6 #[.string S] w fun e w' => e = .returned (.bool true) ∧ Below w.heap.size w w' := by
  have H0 : Hid (Has w.heap.size w [] w) := Has.start w
  go_enter Try.func6, Try.ntmps6
  go_wp2_with fail
  refine (CL.out _ _ H0).mono ?_
  rintro e u1 ⟨rfl, A1⟩
  clear CL H0
  have B1 : Hid (Has w.heap.size w (BlockR u1.heap.size (vL 0 0 0 0 0 nilS) :: []) (u1.alloc (.cells #[.int .i64 0, .int .i64 0, .int .i64 0, .int .i64 0, .int .i64 0, .slice none 0 0] 24))) := A1.out.box (vL 0 0 0 0 0 nilS) 24
  clear A1
  go_wp2_with fail
  refine (CE.out _ _ B1).mono ?_
  rintro e u2 ⟨rfl, A2⟩
  clear CE B1
  have B2 : Hid (Has w.heap.size w (BlockR u2.heap.size (vV 0 0 0 nilS) :: BlockR u1.heap.size (vL 0 0 0 0 0 nilS) :: []) (u2.alloc (.cells #[.int .i64 0, .int .i64 0, .int .i64 0, .slice none 0 0] 39))) := A2.out.box (vV 0 0 0 nilS) 39
  clear A2
  go_wp2_with fail
  refine (CN.out _ _ B2).mono ?_
  rintro e u3 ⟨rfl, A3⟩
  clear CN B2
  have B3 : Hid (Has w.heap.size w (BlockR u3.heap.size (vF k i s t p c K M v X) :: BlockR u2.heap.size (vV 0 0 0 nilS) :: BlockR u1.heap.size (vL 0 0 0 0 0 nilS) :: []) (u3.alloc (.cells #[.int .i64 k, .int .i64 i, .int .i64 s, .int .i64 t, .int .i64 p, .int .i64 c, .string K, .string M, .int .i64 v, .string X] 35))) := A3.out.box (vF k i s t p c K M v X) 35
  clear A3
  obtain ⟨x0, _⟩ := B3.out.bcell (q := u3.heap.size) (vs := (vF k i s t p c K M v X)) (by simp) 0 _ rfl
  obtain ⟨x1, _⟩ := B3.out.bcell (q := u3.heap.size) (vs := (vF k i s t p c K M v X)) (by simp) 1 _ rfl
  obtain ⟨x2, _⟩ := B3.out.bcell (q := u3.heap.size) (vs := (vF k i s t p c K M v X)) (by simp) 2 _ rfl
  obtain ⟨x3, _⟩ := B3.out.bcell (q := u3.heap.size) (vs := (vF k i s t p c K M v X)) (by simp) 3 _ rfl
  obtain ⟨x4, _⟩ := B3.out.bcell (q := u3.heap.size) (vs := (vF k i s t p c K M v X)) (by simp) 4 _ rfl
  obtain ⟨x5, _⟩ := B3.out.bcell (q := u3.heap.size) (vs := (vF k i s t p c K M v X)) (by simp) 5 _ rfl
  obtain ⟨x6, _⟩ := B3.out.bcell (q := u3.heap.size) (vs := (vF k i s t p c K M v X)) (by simp) 6 _ rfl
  obtain ⟨x7, _⟩ := B3.out.bcell (q := u3.heap.size) (vs := (vF k i s t p c K M v X)) (by simp) 7 _ rfl
  obtain ⟨x8, _⟩ := B3.out.bcell (q := u3.heap.size) (vs := (vF k i s t p c K M v X)) (by simp) 8 _ rfl
  obtain ⟨x9, _⟩ := B3.out.bcell (q := u3.heap.size) (vs := (vF k i s t p c K M v X)) (by simp) 9 _ rfl
  go_wp2_with fail
  refine (CC.out _ _ B3).mono ?_
  rintro e u4 ⟨rfl, B4⟩
  clear CC B3 x0 x1 x2 x3 x4 x5 x6 x7 x8 x9
  go_wp2_with fail
  refine (CW.out _ _ B4).mono ?_
  rintro e u5 ⟨rfl, B5⟩
  clear CW B4
  go_wp2_with fail
  refine (live_any _).mono ?_
  rintro e u6 ⟨rfl, hb⟩
  have HZ : Hid (Below w.heap.size w u6) := B5.out.bel.trans (hb.mono B5.out.size)
  clear B5 hb
  go_wp2_with fail
  go_ret
  exact ⟨rfl, HZ.out⟩
set_option maxHeartbeats 4000000 in
theorem one_0 (S : ByteArray) (w : World) 
    (CL : Hid (∀ (R : List Res) (wq : World), Hid (Has w.heap.size w R wq) → Calls Try.prog 9 #[.string S] wq fun e w' => e = .returned (.tuple #[.agg #[.int .i64 0, .int .i64 0, .int .i64 0, .int .i64 0, .int .i64 0, .slice none 0 0], .int .i64 70]) ∧ Hid (Has w.heap.size w R w')))
    (CE : Hid (∀ (R : List Res) (wq : World), Hid (Has w.heap.size w R wq) → Calls Try.prog 15 #[.string S] wq fun e w' => e = .returned (.tuple #[.agg #[.int .i64 0, .int .i64 0, .int .i64 0, .slice none 0 0], .int .i64 70]) ∧ Hid (Has w.heap.size w R w')))
    (CN : Hid (∀ (R : List Res) (wq : World), Hid (Has w.heap.size w R wq) → Calls Try.prog 17 #[.string S] wq fun e w' => e = .returned (.tuple #[.agg #[.int .i64 0, .int .i64 0, .int .i64 0, .int .i64 0, .int .i64 0, .int .i64 0, .string ⟨#[]⟩, .string ⟨#[]⟩, .int .i64 0, .string ⟨#[]⟩], .int .i64 70]) ∧ Hid (Has w.heap.size w R w')))
    (CW : Hid (∀ (R : List Res) (wq : World), Hid (Has w.heap.size w R wq) → Calls Try.prog 11 #[.string S] wq fun e w' => e = .returned (.int .i64 0) ∧ Hid (Has w.heap.size w R w'))) :
    Calls Try.prog 6 #[.string S] w fun e w' => e = .returned (.bool true) ∧ Below w.heap.size w w' := by
  have H0 : Hid (Has w.heap.size w [] w) := Has.start w
  go_enter Try.func6, Try.ntmps6
  go_wp2_with fail
  refine (CL.out _ _ H0).mono ?_
  rintro e u1 ⟨rfl, A1⟩
  clear CL H0
  have B1 : Hid (Has w.heap.size w (BlockR u1.heap.size (vL 0 0 0 0 0 nilS) :: []) (u1.alloc (.cells #[.int .i64 0, .int .i64 0, .int .i64 0, .int .i64 0, .int .i64 0, .slice none 0 0] 24))) := A1.out.box (vL 0 0 0 0 0 nilS) 24
  clear A1
  go_wp2_with fail
  refine (CE.out _ _ B1).mono ?_
  rintro e u2 ⟨rfl, A2⟩
  clear CE B1
  have B2 : Hid (Has w.heap.size w (BlockR u2.heap.size (vV 0 0 0 nilS) :: BlockR u1.heap.size (vL 0 0 0 0 0 nilS) :: []) (u2.alloc (.cells #[.int .i64 0, .int .i64 0, .int .i64 0, .slice none 0 0] 39))) := A2.out.box (vV 0 0 0 nilS) 39
  clear A2
  go_wp2_with fail
  refine (CN.out _ _ B2).mono ?_
  rintro e u3 ⟨rfl, A3⟩
  clear CN B2
  have B3 : Hid (Has w.heap.size w (BlockR u3.heap.size zN :: BlockR u2.heap.size (vV 0 0 0 nilS) :: BlockR u1.heap.size (vL 0 0 0 0 0 nilS) :: []) (u3.alloc (.cells #[.int .i64 0, .int .i64 0, .int .i64 0, .int .i64 0, .int .i64 0, .int .i64 0, .string ⟨#[]⟩, .string ⟨#[]⟩, .int .i64 0, .string ⟨#[]⟩] 35))) := A3.out.box zN 35
  clear A3
  go_wp2_with fail
  refine (CW.out _ _ B3).mono ?_
  rintro e u5 ⟨rfl, B5⟩
  clear CW B3
  go_wp2_with fail
  refine (live_any _).mono ?_
  rintro e u6 ⟨rfl, hb⟩
  have HZ : Hid (Below w.heap.size w u6) := B5.out.bel.trans (hb.mono B5.out.size)
  clear B5 hb
  go_wp2_with fail
  go_ret
  exact ⟨rfl, HZ.out⟩
end Go.Proofs.Ytbgankldnjeohaa.Pl

/- The two tables hold something, in any world that a row speaks of. -/
set_option linter.unusedVariables false
set_option maxRecDepth 1000000
namespace Go.Proofs.Ytbgankldnjeohaa
open Go.RowKit

theorem zero_first : ((begin Try.prog (fun _ _ => 0) default).world.heap[0]?).bind Obj.row? = some (Array.replicate 256 (.int .u8 0), 120) := by kernel_rfl
theorem zero_accept : ((begin Try.prog (fun _ _ => 0) default).world.heap[1]?).bind Obj.row? = some (Array.replicate 32 (.int .u8 0), 124) := by kernel_rfl
theorem types_first : Try.prog.cellTypes Try.prog.depth 120 = some (List.replicate 256 5) := by kernel_rfl
theorem types_accept : Try.prog.cellTypes Try.prog.depth 124 = some (List.replicate 32 5) := by kernel_rfl
theorem build_first : Try.prog.buildable 120 = true := by kernel_rfl
theorem build_accept : Try.prog.buildable 124 = true := by kernel_rfl
theorem row_u8 {W : World} {g N : Nat} {t : TypeId} {cs : Array Value} (hN : 0 < N) (hh : W.heap[g]? = some (.cells cs t)) (hs : cs.size = N) (ht : Try.prog.cellTypes Try.prog.depth t = some (List.replicate N 5)) (hr : Row.ok Try.prog W .any 0 t cs) (j : Nat) (hj : j < N) :
    ∃ n : Nat, W.cell? ⟨g, j, none⟩ = some (.int .u8 (n : Int)) ∧ n < 256 := by
  obtain ⟨ts, hts, _, hall⟩ := hr
  rw [ht] at hts
  cases hts
  have hjc : j < cs.size := by omega
  obtain ⟨u, hu, hok⟩ := hall j cs[j] (by simp [hjc])
  rw [List.length_replicate, Nat.mod_eq_of_lt hj] at hu
  have hu2 : u = 5 := by
    rw [List.getElem?_replicate] at hu
    simp [hj] at hu
    exact hu.symm
  subst hu2
  have hcell : W.cell? ⟨g, j, none⟩ = some cs[j] := by simp [World.cell?, hh, hjc]
  rw [hcell]
  unfold Cell.ok at hok
  rw [Try.underlying5] at hok
  cases hv : cs[j] <;> rw [hv] at hok <;> simp at hok
  case int k' n =>
    obtain ⟨rfl, h2⟩ := hok
    have h3 : 0 ≤ n ∧ n ≤ 255 := h2
    exact ⟨n.toNat, by rw [Int.toNat_of_nonneg h3.1], by omega⟩
def val (W : World) (g j : Nat) : Nat := match W.cell? ⟨g, j, none⟩ with
  | some (.int _ n) => n.toNat
  | _ => 0
theorem val_of {W : World} {g j n : Nat} (h : W.cell? ⟨g, j, none⟩ = some (.int .u8 (n : Int))) : val W g j = n := by unfold val; rw [h]; simp
theorem tabs_of_shape {W : World} (h : W.ShapedOpen Try.prog) : ∃ t : Tb, TabX t W ∧ (0 < W.heap.size ∧ 1 < W.heap.size) := by
  obtain ⟨cs, h1, h2, h3⟩ := h.1 0 _ _ (by decide +kernel) zero_first
  obtain ⟨ds, k1, k2, k3⟩ := h.1 1 _ _ (by decide +kernel) zero_accept
  have R1 := row_u8 (N := 256) (by omega) h1 (by rw [h2, Array.size_replicate]) types_first (h3 build_first)
  have R2 := row_u8 (N := 32) (by omega) k1 (by rw [k2, Array.size_replicate]) types_accept (k3 build_accept)
  refine ⟨⟨fun c => val W 0 c, fun i => val W 1 (2 * i), fun i => val W 1 (2 * i + 1)⟩, ⟨fun c hc => ?_, fun i hi => ⟨?_, ?_⟩⟩, ?_, ?_⟩
  · obtain ⟨n, hn, hl⟩ := R1 c hc
    show W.cell? _ = some (.int .u8 ((val W 0 c : Nat) : Int)) ∧ val W 0 c < 256
    rw [val_of hn]
    exact ⟨hn, hl⟩
  · obtain ⟨n, hn, hl⟩ := R2 (2 * i) (by omega)
    show W.cell? _ = some (.int .u8 ((val W 1 (2 * i) : Nat) : Int))
    rw [val_of hn]
    exact hn
  · obtain ⟨n, hn, hl⟩ := R2 (2 * i + 1) (by omega)
    show W.cell? _ = some (.int .u8 ((val W 1 (2 * i + 1) : Nat) : Int))
    rw [val_of hn]
    exact hn
  · exact (Array.getElem?_eq_some_iff.1 h1).1
  · exact (Array.getElem?_eq_some_iff.1 k1).1
end Go.Proofs.Ytbgankldnjeohaa

/- CodecOneForm of any text, at tables of any content. -/
set_option linter.unusedVariables false
set_option linter.unusedSimpArgs false
set_option maxRecDepth 100000
namespace Go.Proofs.Ytbgankldnjeohaa.Pl
open Go.RowKit Go.Proofs.Ytbgankldnjeohaa

theorem bstr_of {S : ByteArray} {l : List UInt8} (he : S.data.toList = l) : bstr l = .string S := by
  subst he
  simp [bstr]
theorem codecOneForm_walk (t : Tb) (S : ByteArray) (hS : S.size ≤ 140737488351232) (w : World)
    (hT : TabX t w) (hlow : 0 < w.heap.size ∧ 1 < w.heap.size) :
    Calls Try.prog 6 #[.string S] w fun e w' => e = .returned (.bool true) ∧ Below w.heap.size w w' := by
  have z : S.size ≤ 4611686018427387904 := by omega
  have low : ∀ wq : World, w.heap.size ≤ wq.heap.size → Hid (0 < wq.heap.size ∧ 1 < wq.heap.size) := fun wq h => ⟨Nat.lt_of_lt_of_le hlow.1 h, Nat.lt_of_lt_of_le hlow.2 h⟩
  have tab : ∀ wq : World, Below w.heap.size w wq → Hid (TabX t wq) := fun wq h => hT.below h hlow
  have T0 := tab w (Below.refl _ _)
  have L0 := low w (Nat.le_refl _)
  rcases read_four t S z with ⟨k, p, i, s, o, xs, hm, he⟩ | ⟨k, i, s, xs, hm, he⟩ | ⟨k, i, s, x, p, c, K, M, v, X, hX, hm, he⟩ | hN
  · have hb := bstr_of he
    refine one_L S w (k : Int) p i s o xs
      (fun R wq hq => readLetter_ok t z T0 L0 hm he hq.out)
      (fun ao cap R wq hq hmem => ?_)
      (fun R wq hq => readEvent_not (fun rs wr h => (readL_ok t z T0 L0 hm he h.out).mono fun e w' ⟨ao, cap, he, hh⟩ => ⟨_, ta_l_e _, he, hh.out.drop⟩) hq.out)
      (fun R wq hq => readNote_not (fun rs wr h => (readL_ok t z T0 L0 hm he h.out).mono fun e w' ⟨ao, cap, he, hh⟩ => ⟨_, ta_l_n _, he, hh.out.drop⟩) hq.out)
      (fun R wq hq => whatL_ok t z T0 L0 hm he hq.out)
    have x := letter_yes t k p i s o _ xs wq (tab wq hq.out.bel) (low wq hq.out.size) (hq.out.srowT hmem) hm
    rw [hb] at x
    exact x.mono fun e w' ⟨he, hb⟩ => ⟨he, hq.out.below hb⟩
  · have hb := bstr_of he
    refine one_E S w (k : Int) i s xs
      (fun R wq hq => readLetter_not (fun rs wr h => (readE_ok t z T0 L0 hm he h.out).mono fun e w' ⟨ao, cap, he, hh⟩ => ⟨_, ta_letter _, he, hh.out.drop⟩) hq.out)
      (fun R wq hq => readEvent_ok t z T0 L0 hm he hq.out)
      (fun ao cap R wq hq hmem => ?_)
      (fun R wq hq => readNote_not (fun rs wr h => (readE_ok t z T0 L0 hm he h.out).mono fun e w' ⟨ao, cap, he, hh⟩ => ⟨_, ta_e_n _, he, hh.out.drop⟩) hq.out)
      (fun R wq hq => whatE_ok t z T0 L0 hm he hq.out)
    have x := event_yes t k i s _ xs wq (tab wq hq.out.bel) (low wq hq.out.size) (hq.out.srowT hmem) hm
    rw [hb] at x
    exact x.mono fun e w' ⟨he, hb⟩ => ⟨he, hq.out.below hb⟩
  · have hb := bstr_of he
    have hG := goodF k i s x p c K M v X (by omega) hm
    refine one_N S w (k : Int) i s x p c K M v X
      (fun R wq hq => readLetter_not (fun rs wr h => (readN_ok z hG he h.out).mono fun e w' ⟨he, hh⟩ => ⟨_, ta_note_letter _, he, hh⟩) hq.out)
      (fun R wq hq => readEvent_not (fun rs wr h => (readN_ok z hG he h.out).mono fun e w' ⟨he, hh⟩ => ⟨_, ta_note_event _, he, hh⟩) hq.out)
      (fun R wq hq => readNoteN_ok z hG he hq.out)
      (fun R wq hq => ?_)
      (fun R wq hq => whatN_ok z hG he hq.out)
    have x := hG.1 wq
    rw [hb] at x
    exact x.mono fun e w' ⟨he, hb⟩ => ⟨he, hq.out.below hb⟩
  · exact one_0 S w
      (fun R wq hq => readLetter_not (fun rs wr h => (hN _ _ _ _ T0 L0 h).mono fun e w' ⟨he, hh⟩ => ⟨_, ta_nil_letter, he, hh⟩) hq.out)
      (fun R wq hq => readEvent_not (fun rs wr h => (hN _ _ _ _ T0 L0 h).mono fun e w' ⟨he, hh⟩ => ⟨_, ta_nil_event, he, hh⟩) hq.out)
      (fun R wq hq => readNote_not (fun rs wr h => (hN _ _ _ _ T0 L0 h).mono fun e w' ⟨he, hh⟩ => ⟨_, ta_nil_note, he, hh⟩) hq.out)
      (fun R wq hq => what_nil (hN _ _ _ _ T0 L0 hq))
end Go.Proofs.Ytbgankldnjeohaa.Pl

/- For every text, and whatever the tables of unicode/utf8 hold: at most one of a letter, an event and a note is read out of it, What tells which, and what was read, written again, is the text (P7.4). No conditions. -/
set_option linter.unusedVariables false
set_option maxRecDepth 100000
namespace Go.Proofs.Ytbgankldnjeohaa.codecOneForm
open Go.ChangeShapes Go.WideShapes Go.ChangeAt Go.RowKit
open Go.ChangeMaps (open_string shut_string)

theorem contract (H : Type) (enc : TypeId × Value → H) (W : World) (base : Nat) (args : Array Value) (ds gs : List (DataW H)) (before : List MemPlace)
    (hval : ∀ (j : Nat) t v, Try.f6.params[j]? = some t → args[j]? = some v → Value.okWide Try.prog W .any base t v)
    (hW : DataW.Whole enc Try.prog Try.f6.params.toList Rows.codecOneFormSpec.vars false W args.toList ds gs before)
    (hsz : (DataW.weightsEach Try.prog (Try.f6.params.toList ++ (OpenSpec.ofChange Rows.codecOneFormSpec).bare.plain.varTypes Try.prog) (ds ++ gs)).all (· ≤ reachBytes) = true) (hsh : W.ShapedOpen Try.prog) :
    Calls Try.prog 6 args W fun e W' => ∃ v, e = .returned v ∧ Rows.codecOneFormSpec.post enc Try.prog Try.f6 false true false false W args v W' := by
  have hW' := hW
  have hlt := hW.lt
  obtain ⟨p, q, hA0, hV, rfl, hfz, hnd⟩ := hW
  have hA : DataW.TrodAll enc Try.prog W 0 (fun _ => true) true Try.f6.params.toList args.toList ds p := hA0
  rw [Try.params6] at hA hval hsz
  obtain ⟨v0, vs0, d0, ds0, p0, q0, hargs, rfl, rfl, h0, r0⟩ := trodAll_cons hA
  obtain ⟨rfl, rfl, rfl⟩ := trodAll_nil r0
  obtain rfl : args = #[v0] := by cases args; simp_all
  obtain ⟨rfl, rfl⟩ := trodVars_none hV
  have g0 := h0
  obtain ⟨s0, rfl, rfl, rfl, hs0⟩ := open_string Try.underlying9 (hval 0 9 v0 rfl rfl) h0
  have hz0 : s0.size ≤ 140737488351232 := (sized_string hsz (j := 0) rfl rfl : s0.data.toList.length ≤ reachBytes)
  clear hA0 hfz hnd
  simp only [List.append_nil] at hW' hlt
  obtain ⟨t, hT, hlow⟩ := tabs_of_shape hsh
  refine (Pl.codecOneForm_walk t s0 hz0 W hT hlow).mono fun e W' ⟨he, bel⟩ => ?_
  subst he
  exact ⟨_, rfl, _, _, _, [], _, [], hW', trodAll_cons_mk (shut_bool Try.underlying4 _) trodAll_mk0, (trodAll_cons_mk (WideElems.Trod_stays Try.laidOut (by kernel_rfl) (by decide +kernel) h0 (fun p hp => by cases hp) (fun p hp => by cases hp)) trodAll_mk0), rfl, bel.frame _, fun h => by cases h⟩

theorem laid_met (os : Os) : laidMet Try.prog Rows.codecOneFormRow.laid ((holdW os).forCall (fun _ _ => 0) ⟨#[], #[Value.string ByteArray.empty], []⟩).memory :=
  laidMet_of_run' 8 (by kernel_rfl) (by kernel_rfl)
theorem reads (os : Os) {H : Type} (enc : TypeId × Value → H) : ∃ places, DataW.whole enc Try.prog ((holdW os).forCall (fun _ _ => 0) ⟨#[], #[Value.string ByteArray.empty], []⟩).memory Try.f6.params.toList Rows.codecOneFormSpec.vars false #[Value.string ByteArray.empty].toList 8 = some ([.lit (.string [])], [], places) :=
  ⟨[], by kernel_rfl⟩

set_option maxRecDepth 100000 in
theorem lifted (os : Os) (started : os.Started) (H : Type) (enc : TypeId × Value → H) (F : Stop.Interp) :
    ReturnsInHanded {} Try.checked os 6 .any ((OpenSpec.ofChange Rows.codecOneFormSpec).preRow enc Try.prog Try.f6 Rows.codecOneFormRow.domain false Rows.codecOneFormRow.laid) (((OpenSpec.ofChange Rows.codecOneFormSpec).at F).post enc Try.prog Try.f6 false true false false) := by
  obtain ⟨places, hx⟩ := reads os enc
  refine returnsInHanded_of_row (C := Try.checked) (s := (OpenSpec.ofChange Rows.codecOneFormSpec)) own started (by kernel_rfl) Try.func6
    (witness_row_at (enc := enc) (C := Try.checked) false (holdW os) #[Value.string ByteArray.empty] rfl (by kernel_rfl) (by kernel_rfl) (by kernel_rfl)
      (OpenSpec.preRow_of_cond 8 hx (by kernel_rfl) (fun k hk => by cases hk) (by kernel_rfl) (laid_met os))) ?_
  intro W base args ds gs before hval hW hcnd hcond hsz hL hsh _
  exact contract H enc W base args ds gs before hval hW hsz hsh

end Go.Proofs.Ytbgankldnjeohaa.codecOneForm
namespace Go.Proofs.Ytbgankldnjeohaa
theorem codecOneForm_holds : Rows.CodecOneFormSaid :=
  OpenClaim.holds_of_cond 6 Try.f6 rfl rfl rfl rfl rfl rfl rfl ⟨rfl, rfl, rfl, rfl, rfl⟩ rfl rfl rfl rfl rfl (by kernel_rfl) Try.func6 (by kernel_rfl)
    (of_decide_eq_true (by kernel_rfl)) (by unfold Func.isWrapper; first | (rw [if_pos (by decide +kernel)]; kernel_rfl) | (rw [if_neg (by decide +kernel)]; exact ⟨rfl, rfl⟩))
    (fun os started H enc _ F => by rw [OpenClaim.pre_eq_preRow]; exact codecOneForm.lifted os started H enc F)
#print axioms codecOneForm_holds
end Go.Proofs.Ytbgankldnjeohaa
