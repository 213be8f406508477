/- read of two fixed texts: nothing gives up, and recover finds nothing. -/
import Derived.Test.YtbgankldnjeohaaLiveC
import Derived.Test.YtbgankldnjeohaaWriteW
import Derived.Test.YtbgankldnjeohaaMayW
import Derived.Tactics
import Derived.Tactics2
import Derived.Defers
import Derived.Recover
import Derived.Laws.Pointers
set_option linter.unusedVariables false
set_option linter.unusedSimpArgs false
set_option maxRecDepth 100000
namespace Go.Proofs.Ytbgankldnjeohaa.Pl
open Go.RowKit Go.Proofs.Ytbgankldnjeohaa

theorem catch_idle (p : Addr) (w : World) :
    CallsD Try.prog 24 #[.pointer (some p)] .returning w fun e u' w' => e = .returned (.tuple #[]) ∧ u' = .returning ∧ w' = w := by
  refine callsD_of_wpS Try.func24 rfl fun c₀ cs hu => ?_
  apply wpS_seq
  apply wpS_region
  simp [wpOpsS, go_sem, recoverD, hu, Try.ntmps24, Exit.thenS]
  refine wpS_cond (t := false) (by simp [Act.eval, Array.replicate]) ?_
  simp only [Bool.false_eq_true, if_false]
  refine wpS_of_wp (wp_skip ?_)
  cases c₀
  simp_all [bodyPostS, results, Try.results24]
theorem may_fixed : Nt.may ⟨6, 5, 1, 2, 0, 0, ⟨#[]⟩, ⟨#[]⟩, 0, ⟨#[]⟩⟩ = true := by decide +kernel
section
variable {B : Nat} {w wr : World} {rs : List Res}
set_option maxHeartbeats 2000000 in
theorem read_note (h : Has B w rs wr) :
    Calls Try.prog 19 #[.string ⟨#[78, 6, 5, 1, 2]⟩] wr fun e w' => e = .returned (.iface 56 (.agg #[.int .i64 6, .int .i64 5, .int .i64 1, .int .i64 2, .int .i64 0, .int .i64 0, .string ⟨#[]⟩, .string ⟨#[]⟩, .int .i64 0, .string ⟨#[]⟩])) ∧ Has B w rs w' := by
  have hmf : ∀ (fn : Fn) (first cap : Array Value) (w : World), (Instr.makeFunc fn first cap).run Try.prog w = .ok (.func fn first cap) w := fun _ _ _ _ => rfl
  have hmm := m_note_may
  have H1 : Hid (Has B w (RdR (wr.heap.size + 1) noteS 0 :: BlockR wr.heap.size [.nilIface] :: rs) ((wr.alloc (.cells #[.nilIface] 52)).alloc (.cells #[.string ⟨#[78, 6, 5, 1, 2]⟩, .int .i64 0] 65))) := by
    have x := (h.box [.nilIface] 52).box [.string noteS, .int .i64 0] 65
    rw [World.size_alloc] at x
    exact x
  have D1 : Hid (Calls Try.prog 25 #[.pointer (some ⟨wr.heap.size + 1, 0, none⟩)] ((wr.alloc (.cells #[.nilIface] 52)).alloc (.cells #[.string ⟨#[78, 6, 5, 1, 2]⟩, .int .i64 0] 65)) fun e w' => e = .returned (.iface 56 (.agg (vN 6 5 1 2).toArray)) ∧ Hid (Has B w (RdR (wr.heap.size + 1) noteS 5 :: BlockR wr.heap.size [.nilIface] :: rs) w')) := valueR_note H1.out
  have CM : Hid (∀ wq, Calls Try.prog 91 #[.agg #[.int .i64 6, .int .i64 5, .int .i64 1, .int .i64 2, .int .i64 0, .int .i64 0, .string ⟨#[]⟩, .string ⟨#[]⟩, .int .i64 0, .string ⟨#[]⟩]] wq fun e w' => e = .returned (.bool true) ∧ Below wq.heap.size wq w') := fun wq => by
    have x := may6 5 1 2 0 0 ⟨#[]⟩ ⟨#[]⟩ 0 ⟨#[]⟩ (by decide) wq
    rw [may_fixed] at x
    exact x
  clear h H1
  go_enter_defers Try.func19, Try.ntmps19
  go_wp2_with fail
  refine D1.out.mono ?_
  rintro e w2 ⟨rfl, H2⟩
  clear D1
  have hvn : (vN 6 5 1 2).toArray = #[.int .i64 6, .int .i64 5, .int .i64 1, .int .i64 2, .int .i64 0, .int .i64 0, .string ⟨#[]⟩, .string ⟨#[]⟩, .int .i64 0, .string ⟨#[]⟩] := rfl
  rw [hvn]
  clear hvn
  obtain ⟨c0, f0⟩ := H2.out.bcell (q := wr.heap.size) (vs := [.nilIface]) (by simp) 0 _ rfl
  have HP : Hid (Has B w (BlockR wr.heap.size [(.iface 56 (.agg #[.int .i64 6, .int .i64 5, .int .i64 1, .int .i64 2, .int .i64 0, .int .i64 0, .string ⟨#[]⟩, .string ⟨#[]⟩, .int .i64 0, .string ⟨#[]⟩]))] :: RdR (wr.heap.size + 1) noteS 5 :: rs) (w2.setCell ⟨wr.heap.size, 0, none⟩ (.iface 56 (.agg #[.int .i64 6, .int .i64 5, .int .i64 1, .int .i64 2, .int .i64 0, .int .i64 0, .string ⟨#[]⟩, .string ⟨#[]⟩, .int .i64 0, .string ⟨#[]⟩])))) := (H2.out.perm (List.Perm.swap _ _ _)).put 0 (by simp) _
  obtain ⟨x0, _⟩ := HP.out.bcell (q := wr.heap.size) (vs := [(.iface 56 (.agg #[.int .i64 6, .int .i64 5, .int .i64 1, .int .i64 2, .int .i64 0, .int .i64 0, .string ⟨#[]⟩, .string ⟨#[]⟩, .int .i64 0, .string ⟨#[]⟩]))]) (by simp) 0 _ rfl
  clear H2
  go_wp2_with fail
  refine (CM.out _).mono ?_
  rintro e w3 ⟨rfl, hb⟩
  have HQ : Hid (Has B w (BlockR wr.heap.size [(.iface 56 (.agg #[.int .i64 6, .int .i64 5, .int .i64 1, .int .i64 2, .int .i64 0, .int .i64 0, .string ⟨#[]⟩, .string ⟨#[]⟩, .int .i64 0, .string ⟨#[]⟩]))] :: RdR (wr.heap.size + 1) noteS 5 :: rs) w3) := HP.out.below hb
  clear HP hb x0 c0 f0 CM
  obtain ⟨y0, g0⟩ := HQ.out.bcell (q := wr.heap.size) (vs := [(.iface 56 (.agg #[.int .i64 6, .int .i64 5, .int .i64 1, .int .i64 2, .int .i64 0, .int .i64 0, .string ⟨#[]⟩, .string ⟨#[]⟩, .int .i64 0, .string ⟨#[]⟩]))]) (by simp) 0 _ rfl
  obtain ⟨y1, _⟩ := HQ.out.bcell (q := wr.heap.size + 1) (vs := [.string noteS, .int .i64 ((5 : Nat) : Int)]) (List.mem_cons_of_mem _ List.mem_cons_self) 1 (.int .i64 5) rfl
  have HZ : Hid (Has B w rs (w3.setCell ⟨wr.heap.size, 0, none⟩ (.iface 56 (.agg #[.int .i64 6, .int .i64 5, .int .i64 1, .int .i64 2, .int .i64 0, .int .i64 0, .string ⟨#[]⟩, .string ⟨#[]⟩, .int .i64 0, .string ⟨#[]⟩])))) := (HQ.out.put 0 (by simp) (.iface 56 (.agg #[.int .i64 6, .int .i64 5, .int .i64 1, .int .i64 2, .int .i64 0, .int .i64 0, .string ⟨#[]⟩, .string ⟨#[]⟩, .int .i64 0, .string ⟨#[]⟩]))).drop.drop
  have y2 : (w3.setCell ⟨wr.heap.size, 0, none⟩ (.iface 56 (.agg #[.int .i64 6, .int .i64 5, .int .i64 1, .int .i64 2, .int .i64 0, .int .i64 0, .string ⟨#[]⟩, .string ⟨#[]⟩, .int .i64 0, .string ⟨#[]⟩]))).cell? ⟨wr.heap.size, 0, none⟩ = some (.iface 56 (.agg #[.int .i64 6, .int .i64 5, .int .i64 1, .int .i64 2, .int .i64 0, .int .i64 0, .string ⟨#[]⟩, .string ⟨#[]⟩, .int .i64 0, .string ⟨#[]⟩])) := World.cell?_setCell_same _ _ _ y0
  clear HQ
  go_wp2_with fail
  refine leaves_cons (f := 24) (args := #[.pointer (some ⟨wr.heap.size, 0, none⟩)]) (by simp) (by simp [go_sem]) ?_
  refine (catch_idle ⟨wr.heap.size, 0, none⟩ _).mono ?_
  rintro e u' w'' ⟨rfl, rfl, rfl⟩
  simp [Leaves, settle, results, Try.results19, go_sem, y2]
  exact HZ.out
end
end Go.Proofs.Ytbgankldnjeohaa.Pl
