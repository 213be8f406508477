/- The walk of the law NameRejoined. -/
import Derived.Test.YtaidoipjbgkgaabDoorLawQ
set_option linter.unusedVariables false
namespace Go.Proofs.YtaidoipjbgkgaabDoor
open Go.RowKit

/-- The lengths of words with a blank behind each. -/
def wsum (ws : List (List UInt8)) : Nat := (ws.map fun x => x.length + 1).sum
theorem wsum_cons (x : List UInt8) (ws : List (List UInt8)) : wsum (x :: ws) = x.length + 1 + wsum ws := rfl
theorem wd_sum : ∀ (ps : List (Nat × List UInt8)) (acc : List UInt8), (∀ p ∈ ps, p.2 ≠ []) → wsum (NameMath.wd ps acc) ≤ acc.length + (NameMath.flat ps).length + 1
  | [], acc, _ => by
    rw [NameMath.wd_nil]
    split
    · simp [wsum]
    · simp [wsum]
  | p :: ps, acc, h => by
    rw [NameMath.wd_cons, NameMath.flat_cons, List.length_append]
    have hp : 0 < p.2.length := List.length_pos_iff.2 (h p (List.mem_cons_self ..))
    have h1 := wd_sum ps [] (fun q hq => h q (List.mem_cons_of_mem _ hq))
    have h2 := wd_sum ps (acc ++ p.2) (fun q hq => h q (List.mem_cons_of_mem _ hq))
    rw [List.length_append] at h2
    have h0 : ([] : List UInt8).length = 0 := rfl
    split
    · split
      · omega
      · rw [wsum_cons]; omega
    · omega
theorem words_sum (l : List UInt8) : wsum (NameMath.words l) ≤ l.length + 1 := by
  have := wd_sum (NameMath.cut l) [] (NameMath.cut_ne l)
  rw [NameMath.flat_cut] at this
  rw [List.length_nil, Nat.zero_add] at this
  exact this
theorem flat_sum : ∀ ws : List (List UInt8), ((ws.map fun x => (32 : UInt8) :: x).flatten).length = wsum ws
  | [] => rfl
  | x :: ws => by
    have := flat_sum ws
    rw [wsum_cons, List.map_cons, List.flatten_cons, List.length_append, this, List.length_cons]
theorem jn_sum (ws : List (List UInt8)) : (NameMath.jn ws).length ≤ wsum ws - 1 := by
  cases ws with
  | nil => exact Nat.zero_le _
  | cons x ws =>
    show (x ++ _).length ≤ _
    rw [List.length_append, flat_sum, wsum_cons]
    omega
theorem wsum_append : ∀ (a b : List (List UInt8)), wsum (a ++ b) = wsum a + wsum b
  | [], b => by simp [wsum]
  | x :: a, b => by
    have := wsum_append a b
    rw [List.cons_append, wsum_cons, wsum_cons, this]
    omega
theorem wsum_take (ws : List (List UInt8)) (k : Nat) : wsum (ws.take k) ≤ wsum ws := by
  have := wsum_append (ws.take k) (ws.drop k)
  rw [List.take_append_drop] at this
  omega
theorem jn_step (ws : List (List UInt8)) (k : Nat) (h : k < ws.length) (h0 : 0 < k) :
    ByteArray.mk (NameMath.jn (ws.take k)).toArray ++ ⟨#[32]⟩ ++ ByteArray.mk (ws[k]).toArray = ByteArray.mk (NameMath.jn (ws.take (k + 1))).toArray := by
  have hn : ws.take k ≠ [] := by
    intro e
    have := congrArg List.length e
    rw [List.length_take, List.length_nil] at this
    omega
  rw [List.take_add_one, List.getElem?_eq_getElem h, Option.toList_some, NameMath.jn_snoc _ _ hn]
  apply ByteArray.ext
  simp [ByteArray.data_append]
theorem jn_first (ws : List (List UInt8)) (h : 0 < ws.length) : NameMath.jn (ws.take 1) = ws[0] := by
  cases ws with
  | nil => simp at h
  | cons x ws => simp [NameMath.jn]
theorem jn_step0 (ws : List (List UInt8)) (k : Nat) (h : k < ws.length) (h0 : k = 0) :
    ByteArray.mk (NameMath.jn (ws.take k)).toArray ++ ByteArray.mk (ws[k]).toArray = ByteArray.mk (NameMath.jn (ws.take (k + 1))).toArray := by
  subst h0
  rw [jn_first ws h]
  apply ByteArray.ext
  simp [ByteArray.data_append, NameMath.jn]
theorem srow_cell {w : World} {ao : Option Addr} {n cap : Nat} {xs : List (List UInt8)} (h : SRow w (.slice ao n cap) xs) (j : Nat) (hj : j < xs.length) : ∃ g, ao = some ⟨g, 0, none⟩ ∧ w.cell? ⟨g, j, none⟩ = some (strV xs[j]) := by
  obtain ⟨ao', cap', hv, hrow⟩ := h
  obtain ⟨rfl, _, rfl⟩ : ao = ao' ∧ n = xs.length ∧ cap = cap' := by simpa using hv
  exact hrow j hj
theorem srow_drewN {w : World} {v : Value} {xs : List (List UInt8)} (h : SRow w v xs) (n : Nat) : SRow (w.drewN n) v xs := by
  obtain ⟨ao, cap, rfl, hrow⟩ := h
  refine ⟨ao, cap, rfl, fun j hj => ?_⟩
  obtain ⟨g, h1, h2⟩ := hrow j hj
  exact ⟨g, h1, h2⟩
theorem own_one {w : World} {B e : Nat} {v x : Value} (h : w.ownsRow B e 1 v 1 [x]) : ∃ g cap, v = .slice (some ⟨g, 0, none⟩) 1 cap ∧ w.cell? ⟨g, 0, none⟩ = some x := by
  obtain ⟨ao, cap, rfl, _, hrow⟩ := own_row h
  obtain ⟨g, rfl, _, _, h4⟩ := hrow 0 (by omega)
  exact ⟨g, cap, rfl, h4⟩
theorem ba_ne {x : List UInt8} (h : x ≠ []) : ByteArray.mk x.toArray ≠ ⟨#[]⟩ := by
  intro e
  apply h
  have := congrArg (fun b => b.data.toList) e
  simpa using this

set_option maxHeartbeats 2000000 in
theorem nameRejoined_walk (s : ByteArray) (hs : s.size ≤ 1048576) (w : World) (hT : Tabs w) :
    Calls Tryd.prog 4 #[.string s] w fun e w' => e = .returned (.bool true) ∧ Below w.heap.size w w' := by
  have hwl := words_length s.data.toList
  have hel := words_each_length s.data.toList
  have hew := NameMath.words_each s.data.toList
  have hsum := words_sum s.data.toList
  have hl : s.data.toList.length = s.size := Array.length_toList
  rw [hl] at hwl hsum
  rw [hl] at hel
  have c1 := fun w => words_any s hs w
  generalize NameMath.words s.data.toList = ws at *
  have hjk : ∀ k, (NameMath.jn (ws.take k)).length ≤ s.size := by
    intro k
    have h1 := jn_sum (ws.take k)
    have h2 := wsum_take ws k
    omega
  have hj := hjk ws.length
  rw [List.take_length] at hj
  have c3 := fun w => words_any ⟨(NameMath.jn ws).toArray⟩ (by rw [strV_size]; omega) w
  rw [mk_data, NameMath.words_jn ws (fun w hw => (hew w hw).2)] at c3
  have C1 : Hid (∀ w, Calls Tryd.prog 12 #[.string s] w fun e w' => ∃ v, e = .returned v ∧ w'.ownsRow (w.heap.size + 1) 9 1 v ws.length (ws.map strV) ∧ Below w.heap.size w w') := c1
  have C3 : Hid (∀ w, Calls Tryd.prog 12 #[.string ⟨(NameMath.jn ws).toArray⟩] w fun e w' => ∃ v, e = .returned v ∧ w'.ownsRow (w.heap.size + 1) 9 1 v ws.length (ws.map strV) ∧ Below w.heap.size w w') := c3
  have C2 : Hid (∀ x ∈ ws, x ≠ [] ∧ ∀ w, Calls Tryd.prog 12 #[.string ⟨x.toArray⟩] w fun e w' => ∃ v, e = .returned v ∧ w'.ownsRow (w.heap.size + 1) 9 1 v 1 [strV x] ∧ Below w.heap.size w w') := by
    show ∀ x ∈ ws, _
    intro x hx
    refine ⟨(hew x hx).1, fun w => ?_⟩
    have := words_any ⟨x.toArray⟩ (by rw [strV_size]; have := hel x hx; omega) w
    rw [mk_data, (hew x hx).2] at this
    exact this
  have HEL : Hid (∀ x ∈ ws, x.length ≤ s.size) := hel
  have HJ : Hid (∀ k, (NameMath.jn (ws.take k)).length ≤ s.size) := hjk
  clear c1 c3 hl hel hew hsum hjk
  have hwl' : ws.length ≤ 140737488355328 := by omega
  go_enter Tryd.func4, Tryd.ntmps4
  go_wp2_with fail
  refine (C1.out _).mono ?_
  rintro e w1 ⟨v1, rfl, hown1, hb1⟩
  have HS1 : Hid (SRow w1 v1 ws) := srow_own hown1
  clear hown1
  obtain ⟨ao, cap, rfl, hrow0⟩ := HS1.out
  clear hrow0
  go_wp2_with fail
  go_loopw [4, 5] (fun t i wr => ∃ (k : Nat), k ≤ ws.length ∧ i = .int .i64 k ∧ t = .string ⟨(NameMath.jn (ws.take k)).toArray⟩ ∧ Hid (SRow wr (.slice ao ws.length cap) ws) ∧ Below w.heap.size w wr) (fun _ i _ => ws.length - (intOf i).toNat)
  case atStart => exact ⟨0, Nat.zero_le _, rfl, rfl, HS1, hb1⟩
  case round =>
    obtain ⟨k, hk, rfl, rfl, hS, hbw⟩ := hrel
    by_cases hlt : k < ws.length
    · obtain ⟨g, rfl, hc⟩ := srow_cell hS.out k hlt
      have hx := C2.out ws[k] (List.getElem_mem hlt)
      have hxl := HEL.out ws[k] (List.getElem_mem hlt)
      have hjl := HJ.out k
      have hst : 0 < k → ByteArray.mk (NameMath.jn (ws.take k)).toArray ++ ⟨#[32]⟩ ++ ByteArray.mk (ws[k]).toArray = ByteArray.mk (NameMath.jn (ws.take (k + 1))).toArray := fun h0 => jn_step ws k hlt h0
      have hst0 : k = 0 → ByteArray.mk (NameMath.jn (ws.take k)).toArray ++ ByteArray.mk (ws[k]).toArray = ByteArray.mk (NameMath.jn (ws.take (k + 1))).toArray := fun h0 => jn_step0 ws k hlt h0
      have hxz : (ByteArray.mk (ws[k]).toArray).size = ws[k].length := strV_size _
      have hjz : (ByteArray.mk (NameMath.jn (ws.take k)).toArray).size = (NameMath.jn (ws.take k)).length := strV_size _
      have hxn : (ByteArray.mk (ws[k]).toArray).toList.isEmpty = false := empty_no _ (by rw [strV_size]; have := List.length_pos_iff.2 hx.1; omega)
      have hxc := hx.2
      unfold strV at hc
      rw [show strV ws[k] = Value.string ⟨(ws[k]).toArray⟩ from rfl] at hxc
      generalize ByteArray.mk (NameMath.jn (ws.take k)).toArray = tk at *
      generalize htn : ByteArray.mk (NameMath.jn (ws.take (k + 1))).toArray = tn at hst hst0
      have HTN : Hid (Value.string tn = Value.string ⟨(NameMath.jn (ws.take (k + 1))).toArray⟩) := congrArg Value.string htn.symm
      clear htn
      generalize ByteArray.mk (ws[k]).toArray = y at *
      have hyz : y.size ≤ s.size := by omega
      have htz : tk.size ≤ s.size := by omega
      have HST : Hid (0 < k → tk ++ ⟨#[32]⟩ ++ y = tn) := hst
      have HST0 : Hid (k = 0 → tk ++ y = tn) := hst0
      have HXC : Hid (∀ w, Calls Tryd.prog 12 #[.string y] w fun e w' => ∃ v, e = .returned v ∧ w'.ownsRow (w.heap.size + 1) 9 1 v 1 [Value.string y] ∧ Below w.heap.size w w') := hxc
      clear hx hxc hst hst0 hxz hjz hxl hjl HJ HEL C1 C2 C3 HS1
      have i1 : (k : Int) < (ws.length : Int) := by omega
      go_wp2_with fail
      refine (HXC.out _).mono ?_
      rintro e w3 ⟨v3, rfl, hown3, hb3⟩
      obtain ⟨g3, cap3, rfl, hc3⟩ := own_one hown3
      have hck : w3.cell? ⟨g, k, none⟩ = some (.string y) := (hb3.cell (p := ⟨g, k, none⟩) (block_lt_of_cell hc)).trans hc
      have hS3 : Hid (SRow w3 (.slice (some ⟨g, 0, none⟩) ws.length cap) ws) := srow_below hS.out hb3
      have hb13 : Below w.heap.size w w3 := hbw.trans (hb3.mono hbw.size)
      clear hown3 hb3 hc hS hbw HXC
      go_wp2_with fail
      go_quiet (fail)
      rename_i nq
      have hS4 : Hid (SRow (w3.drewN nq) (.slice (some ⟨g, 0, none⟩) ws.length cap) ws) := srow_drewN hS3.out nq
      have hb14 : Below w.heap.size w (w3.drewN nq) := below_drewN hb13 nq
      clear hS3 hb13
      by_cases h0 : k = 0
      · have hd : decide ((0 : Int) < (k : Int)) = false := by simp; omega
        have hd' : decide (0 < k) = false := by simp; omega
        have he := HST0.out h0
        have HE : Hid (tk ++ y = tn) := he
        clear HST HST0 he h0
        go_wp2
        rw [HE.out]
        exact ⟨⟨k + 1, by omega, by go_num, HTN.out, hS4, hb14⟩, by simp [intOf]; omega⟩
      · have hd : (0 : Int) < (k : Int) := by omega
        have he := HST.out (by omega)
        have HE : Hid (tk ++ ⟨#[32]⟩ ++ y = tn) := he
        clear HST HST0 he h0
        go_wp2
        rw [HE.out]
        exact ⟨⟨k + 1, by omega, by go_num, HTN.out, hS4, hb14⟩, by simp [intOf]; omega⟩
    · have hkn : k = ws.length := by omega
      subst hkn
      rw [List.take_length]
      clear HS1 C1 C2 HEL HJ
      go_wp2_with fail
      refine (C3.out _).mono ?_
      rintro e w4 ⟨v4, rfl, hown4, hb4⟩
      have hs4 := srow_own hown4
      have hs14 := srow_below hS.out hb4
      have hb04 := hbw.trans (hb4.mono hbw.size)
      go_wp2_with fail
      refine (same_true ws hwl' v4 _ w4 hs4 hs14).mono ?_
      rintro e w5 ⟨rfl, q, hw5⟩
      have hb5 : Below w.heap.size w w5 := by rw [hw5]; exact below_drewN hb04 q
      have hT5 := tabs_below hT hb5
      clear hw5
      go_wp2_with fail
      refine (live_any _ hT5).mono ?_
      rintro e w6 ⟨rfl, hb6⟩
      go_wp2_with fail
      go_ret
      exact ⟨rfl, hb5.trans (hb6.mono hb5.size)⟩
end Go.Proofs.YtaidoipjbgkgaabDoor
