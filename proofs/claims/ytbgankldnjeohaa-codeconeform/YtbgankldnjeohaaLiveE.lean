/- read of the event; ReadNote and What of the two texts. -/
import Derived.Test.YtbgankldnjeohaaLiveD
set_option linter.unusedVariables false
set_option linter.unusedSimpArgs false
set_option maxRecDepth 100000
namespace Go.Proofs.Ytbgankldnjeohaa.Pl
open Go.RowKit Go.Proofs.Ytbgankldnjeohaa

theorem ev_may (w : World) : Calls Try.prog 89 #[.agg #[.int .i64 6, .int .i64 5, .int .i64 0, .slice none 0 0]] w fun e w' => e = .returned (.bool true) ∧ Below w.heap.size w w' := by
  have b1 : btw 6 1 6 = true := by decide
  have b2 : btw 5 1 60 = true := by decide
  go_enter Try.func89, Try.ntmps89
  go_wp2_with (first | (go_at_call 67; refine (isID_any _ _).mono ?_; rintro e w' ⟨rfl, hw'⟩; rw [hw', b2]; clear hw' w') | (go_at_call 65; refine (between_any _ _ _ _).mono ?_; rintro e w' ⟨rfl, hw'⟩; rw [hw', b1]; clear hw' w'))
  all_goals go_ret
  all_goals exact ⟨rfl, by go_grown⟩
section
variable {B : Nat} {w wr : World} {rs : List Res}
set_option maxHeartbeats 2000000 in
theorem read_event (h : Has B w rs wr) :
    Calls Try.prog 19 #[.string ⟨#[69, 6, 5]⟩] wr fun e w' => e = .returned (.iface 55 (.agg #[.int .i64 6, .int .i64 5, .int .i64 0, .slice none 0 0])) ∧ Has B w rs w' := by
  have hmf : ∀ (fn : Fn) (first cap : Array Value) (w : World), (Instr.makeFunc fn first cap).run Try.prog w = .ok (.func fn first cap) w := fun _ _ _ _ => rfl
  have hmm := m_event_may
  have H1 : Hid (Has B w (RdR (wr.heap.size + 1) eventS 0 :: BlockR wr.heap.size [.nilIface] :: rs) ((wr.alloc (.cells #[.nilIface] 52)).alloc (.cells #[.string ⟨#[69, 6, 5]⟩, .int .i64 0] 65))) := by
    have x := (h.box [.nilIface] 52).box [.string eventS, .int .i64 0] 65
    rw [World.size_alloc] at x
    exact x
  have D1 : Hid (Calls Try.prog 25 #[.pointer (some ⟨wr.heap.size + 1, 0, none⟩)] ((wr.alloc (.cells #[.nilIface] 52)).alloc (.cells #[.string ⟨#[69, 6, 5]⟩, .int .i64 0] 65)) fun e w' => e = .returned (.iface 55 (.agg (vE 6 5 0).toArray)) ∧ Hid (Has B w (RdR (wr.heap.size + 1) eventS 3 :: BlockR wr.heap.size [.nilIface] :: rs) w')) := valueR_event H1.out
  have CM : Hid (∀ wq, Calls Try.prog 89 #[.agg #[.int .i64 6, .int .i64 5, .int .i64 0, .slice none 0 0]] wq fun e w' => e = .returned (.bool true) ∧ Below wq.heap.size wq w') := ev_may
  clear h H1
  go_enter_defers Try.func19, Try.ntmps19
  go_wp2_with fail
  refine D1.out.mono ?_
  rintro e w2 ⟨rfl, H2⟩
  clear D1
  have hvn : (vE 6 5 0).toArray = #[.int .i64 6, .int .i64 5, .int .i64 0, .slice none 0 0] := rfl
  rw [hvn]
  clear hvn
  obtain ⟨c0, f0⟩ := H2.out.bcell (q := wr.heap.size) (vs := [.nilIface]) (by simp) 0 _ rfl
  have HP : Hid (Has B w (BlockR wr.heap.size [(.iface 55 (.agg #[.int .i64 6, .int .i64 5, .int .i64 0, .slice none 0 0]))] :: RdR (wr.heap.size + 1) eventS 3 :: rs) (w2.setCell ⟨wr.heap.size, 0, none⟩ (.iface 55 (.agg #[.int .i64 6, .int .i64 5, .int .i64 0, .slice none 0 0])))) := (H2.out.perm (List.Perm.swap _ _ _)).put 0 (by simp) _
  obtain ⟨x0, _⟩ := HP.out.bcell (q := wr.heap.size) (vs := [(.iface 55 (.agg #[.int .i64 6, .int .i64 5, .int .i64 0, .slice none 0 0]))]) (by simp) 0 _ rfl
  clear H2
  go_wp2_with fail
  refine (CM.out _).mono ?_
  rintro e w3 ⟨rfl, hb⟩
  have HQ : Hid (Has B w (BlockR wr.heap.size [(.iface 55 (.agg #[.int .i64 6, .int .i64 5, .int .i64 0, .slice none 0 0]))] :: RdR (wr.heap.size + 1) eventS 3 :: rs) w3) := HP.out.below hb
  clear HP hb x0 c0 f0 CM
  obtain ⟨y0, g0⟩ := HQ.out.bcell (q := wr.heap.size) (vs := [(.iface 55 (.agg #[.int .i64 6, .int .i64 5, .int .i64 0, .slice none 0 0]))]) (by simp) 0 _ rfl
  obtain ⟨y1, _⟩ := HQ.out.bcell (q := wr.heap.size + 1) (vs := [.string eventS, .int .i64 ((3 : Nat) : Int)]) (List.mem_cons_of_mem _ List.mem_cons_self) 1 (.int .i64 3) rfl
  have HZ : Hid (Has B w rs (w3.setCell ⟨wr.heap.size, 0, none⟩ (.iface 55 (.agg #[.int .i64 6, .int .i64 5, .int .i64 0, .slice none 0 0])))) := (HQ.out.put 0 (by simp) (.iface 55 (.agg #[.int .i64 6, .int .i64 5, .int .i64 0, .slice none 0 0]))).drop.drop
  have y2 : (w3.setCell ⟨wr.heap.size, 0, none⟩ (.iface 55 (.agg #[.int .i64 6, .int .i64 5, .int .i64 0, .slice none 0 0]))).cell? ⟨wr.heap.size, 0, none⟩ = some (.iface 55 (.agg #[.int .i64 6, .int .i64 5, .int .i64 0, .slice none 0 0])) := World.cell?_setCell_same _ _ _ y0
  clear HQ
  go_wp2_with fail
  refine leaves_cons (f := 24) (args := #[.pointer (some ⟨wr.heap.size, 0, none⟩)]) (by simp) (by simp [go_sem]) ?_
  refine (catch_idle ⟨wr.heap.size, 0, none⟩ _).mono ?_
  rintro e u' w'' ⟨rfl, rfl, rfl⟩
  simp [Leaves, settle, results, Try.results19, go_sem, y2]
  exact HZ.out
end
end Go.Proofs.Ytbgankldnjeohaa.Pl
