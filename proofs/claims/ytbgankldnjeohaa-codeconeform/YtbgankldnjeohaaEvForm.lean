/- The form of an event; codec.Event of any event, at tables of any content. -/
import Derived.Test.YtbgankldnjeohaaEvMay
import Derived.Test.YtbgankldnjeohaaBothW
import Derived.Test.YtbgankldnjeohaaWriteW
import Derived.Test.YtbgankldnjeohaaPkListW
set_option linter.unusedVariables false
set_option linter.unusedSimpArgs false
set_option maxRecDepth 100000
namespace Go.Proofs.Ytbgankldnjeohaa
open Go.RowKit Go.Lib Go.Shelf

theorem list_ok (v : Value) (xs : List (List UInt8)) (hx : xs.length ≤ 4000) (hxs : ∀ s ∈ xs, s.length ≤ 2000) (w : World) (hS : SRow w v xs) :
    Calls Try.prog 64 #[v] w fun e w' => e = .returned (.string (bA (PackMath.lst xs))) ∧ Below w.heap.size w w' := by
  have C : Hid (∀ w1, w1 = w → Calls Try.prog 71 #[v] w1 fun e w' => e = .returned (.tuple #[.string (bA (PackMath.lst xs)), .int .i64 0]) ∧ Below w1.heap.size w1 w') := fun w1 h1 => by
    subst h1
    have h := Pk.list_any v xs (by omega) (fun s hs => by have := hxs s hs; omega) w1 hS
    rw [Pk.lsV_ok xs hx hxs] at h
    exact h
  obtain ⟨ao, cap, rfl, _, _⟩ := hS
  go_enter Try.func64, Try.ntmps64
  go_wp2_with fail
  refine (C.out _ rfl).mono ?_
  rintro e w1 ⟨rfl, hb⟩
  go_wp2
  go_ret
  exact ⟨rfl, hb⟩
theorem bstr_69 (l : List UInt8) : Value.string (ByteArray.mk #[69] ++ bA l) = bstr (69 :: l) := by
  unfold bstr bA; congr 1
theorem mk69 : (⟨#[69]⟩ : ByteArray) = bA [69] := rfl
set_option maxHeartbeats 2000000 in
theorem evForm1 (i s : Int) (ao : Option Addr) (n cap : Nat) (w : World) (a b : ByteArray) (ha : a.size ≤ 64) (hb : b.size ≤ 4000)
    (C1 : Hid (∀ (w1 : World) (g : Nat), (∀ j x, (#[.int .i64 1, .int .i64 i, .int .i64 s] : Array Value)[j]? = some x → w1.cell? ⟨g, j, none⟩ = some x) → g < w1.heap.size → Hid (Left w [(0, .int .i64 1), (1, .int .i64 i), (2, .int .i64 s), (3, .slice ao n cap)] w1) → Calls Try.prog 63 #[.slice (some ⟨g, 0, none⟩) 3 3] w1 fun e w' => e = .returned (.string a) ∧ w'.cell? ⟨w.heap.size, 0, none⟩ = some (.int .i64 1) ∧ w'.cell? ⟨w.heap.size, 1, none⟩ = some (.int .i64 i) ∧ w'.cell? ⟨w.heap.size, 2, none⟩ = some (.int .i64 s) ∧ w'.cell? ⟨w.heap.size, 3, none⟩ = some (.slice ao n cap) ∧ Hid (Left w [(0, .int .i64 1), (1, .int .i64 i), (2, .int .i64 s), (3, .slice ao n cap)] w')))
    (C2 : Hid (∀ (w1 : World), Hid (Left w [(0, .int .i64 1), (1, .int .i64 i), (2, .int .i64 s), (3, .slice ao n cap)] w1) → Calls Try.prog 64 #[.slice ao n cap] w1 fun e w' => e = .returned (.string b) ∧ w'.cell? ⟨w.heap.size, 0, none⟩ = some (.int .i64 1) ∧ w'.cell? ⟨w.heap.size, 1, none⟩ = some (.int .i64 i) ∧ w'.cell? ⟨w.heap.size, 2, none⟩ = some (.int .i64 s) ∧ w'.cell? ⟨w.heap.size, 3, none⟩ = some (.slice ao n cap) ∧ Hid (Left w [(0, .int .i64 1), (1, .int .i64 i), (2, .int .i64 s), (3, .slice ao n cap)] w'))) :
    Calls Try.prog 88 #[.agg #[.int .i64 1, .int .i64 i, .int .i64 s, .slice ao n cap]] w fun e w' => e = .returned (.string (⟨#[69]⟩ ++ a ++ b)) ∧ Below w.heap.size w w' := by
  have p0 : ¬ 9223372036854775807 < (ByteArray.mk #[69]).size + a.size := by simp only [ByteArray.size_append, show (ByteArray.mk #[69]).size = 1 from rfl]; omega
  have r0 : ¬ 9223372036854775807 < 1 + a.size := by omega
  have p1 : ¬ 9223372036854775807 < ((ByteArray.mk #[69]) ++ a).size + b.size := by simp only [ByteArray.size_append, show (ByteArray.mk #[69]).size = 1 from rfl]; omega
  have r1 : ¬ 9223372036854775807 < 1 + a.size + b.size := by omega
  have HF : Hid (Left w [(0, .int .i64 1), (1, .int .i64 i), (2, .int .i64 s), (3, .slice ao n cap)] (w.alloc (.cells #[.int .i64 1, .int .i64 i, .int .i64 s, .slice ao n cap] 55))) := Left.first _ _ _ _ (by simp)
  go_enter Try.func88, Try.ntmps88
  go_wp2_with fail
  go_region_held3 (fun w' => w'.cell? ⟨w.heap.size, 0, none⟩ = some (.int .i64 1) ∧ w'.cell? ⟨w.heap.size, 1, none⟩ = some (.int .i64 i) ∧ w'.cell? ⟨w.heap.size, 2, none⟩ = some (.int .i64 s) ∧ w'.cell? ⟨w.heap.size, 3, none⟩ = some (.slice ao n cap)) (go_keep) (first | (go_at_call 63; refine (C1.out _ _ (new_cells (by simp)) (by simp) (HF.out.alloc _).draw).mono ?_; rintro e w1 ⟨rfl, m0, m1, m2, m3, HB1⟩) | (go_at_call 64; refine (C2.out _ HB1).mono ?_; rintro e w2 ⟨rfl, n0, n1, n2, n3, HB2⟩))
  all_goals go_wp2
  all_goals go_ret
  all_goals exact ⟨rfl, HB2.out.2.1⟩
set_option maxHeartbeats 1000000 in
theorem evForm6 (i s : Int) (ao : Option Addr) (n cap : Nat) (w : World) (b : ByteArray) (HL : b.size ≤ 64)
    (C : Hid (∀ (w1 : World) (g : Nat), g = w1.heap.size → Calls Try.prog 63 #[.slice (some ⟨g, 0, none⟩) 2 2] (w1.alloc (.cells #[.int .i64 6, .int .i64 i] 3)) fun e w' => e = .returned (.string b) ∧ Below w1.heap.size w1 w')) :
    Calls Try.prog 88 #[.agg #[.int .i64 6, .int .i64 i, .int .i64 s, .slice ao n cap]] w fun e w' => e = .returned (.string (⟨#[69]⟩ ++ b)) ∧ Below w.heap.size w w' := by
  go_enter Try.func88, Try.ntmps88
  go_wp2_with fail
  refine (C.out _ _ (by simp)).mono ?_
  rintro e w1 ⟨rfl, hb⟩
  go_wp2
  go_ret
  refine ⟨rfl, ?_⟩
  have h3 : Below w.heap.size w (w.alloc (.cells #[.int .i64 6, .int .i64 i, .int .i64 s, .slice ao n cap] 55)) := (Below.refl _ _).alloc (Nat.le_refl _) _
  exact h3.trans (hb.mono h3.size)
set_option maxHeartbeats 1000000 in
theorem evFormK (k i s : Int) (k1 : k ≠ 1) (k6 : k ≠ 6) (ao : Option Addr) (n cap : Nat) (w : World) (b : ByteArray) (HL : b.size ≤ 64)
    (C : Hid (∀ (w1 : World) (g : Nat), g = w1.heap.size → Calls Try.prog 63 #[.slice (some ⟨g, 0, none⟩) 3 3] (w1.alloc (.cells #[.int .i64 k, .int .i64 i, .int .i64 s] 3)) fun e w' => e = .returned (.string b) ∧ Below w1.heap.size w1 w')) :
    Calls Try.prog 88 #[.agg #[.int .i64 k, .int .i64 i, .int .i64 s, .slice ao n cap]] w fun e w' => e = .returned (.string (⟨#[69]⟩ ++ b)) ∧ Below w.heap.size w w' := by
  have k1' : (k == 1) = false := beq_eq_false_iff_ne.2 k1
  have k6' : (k == 6) = false := beq_eq_false_iff_ne.2 k6
  go_enter Try.func88, Try.ntmps88
  go_wp2_with fail
  refine (C.out _ _ (by simp)).mono ?_
  rintro e w1 ⟨rfl, hb⟩
  go_wp2
  go_ret
  refine ⟨rfl, ?_⟩
  have h3 : Below w.heap.size w (w.alloc (.cells #[.int .i64 k, .int .i64 i, .int .i64 s, .slice ao n cap] 55)) := (Below.refl _ _).alloc (Nat.le_refl _) _
  exact h3.trans (hb.mono h3.size)
/-- The form of an event. -/
def evL (k i s : Nat) (xs : List (List UInt8)) : List UInt8 := 69 :: (if k = 1 then numsL [1, i, s] ++ PackMath.lst xs else if k = 6 then numsL [6, i] else numsL [k, i, s])
theorem evForm_any (k i s : Nat) (hk : k ≤ 2000) (hi : i ≤ 2000) (hs : s ≤ 2000) (v : Value) (xs : List (List UInt8)) (hx : xs.length ≤ 2) (hxs : ∀ s ∈ xs, s.length ≤ 2000) (hl : (PackMath.lst xs).length ≤ 4000) (w : World) (hS : SRow w v xs) :
    Calls Try.prog 88 #[.agg #[.int .i64 (k : Int), .int .i64 (i : Int), .int .i64 (s : Int), v]] w fun e w' => e = .returned (bstr (evL k i s xs)) ∧ Below w.heap.size w w' := by
  obtain ⟨ao, cap, rfl, hca, hrow⟩ := id hS
  by_cases k1 : k = 1
  · subst k1
    have HS : Small [1, i, s] := small3 (by omega) hi hs
    have x := evForm1 (i : Int) (s : Int) ao xs.length cap w (bA (numsL [1, i, s])) (bA (PackMath.lst xs)) (bA_nums HS (by simp)) (by rw [bA_size]; exact hl)
      (fun w1 g hc hg hl => (nums_any w1 _ [1, i, s] (by simp) HS (nrow_of hg rfl rfl hc)).mono (fun e w' ⟨he, hb⟩ => ⟨he, (hl.out.call hb).2.2 (0, .int .i64 1) (by simp), (hl.out.call hb).2.2 (1, .int .i64 (i : Int)) (by simp), (hl.out.call hb).2.2 (2, .int .i64 (s : Int)) (by simp), (hl.out.call hb).2.2 (3, .slice ao xs.length cap) (by simp), hl.out.call hb⟩))
      (fun w1 hl => (list_ok _ xs (by omega) hxs w1 (srow_below hS hl.out.2.1)).mono (fun e w' ⟨he, hb⟩ => ⟨he, (hl.out.call hb).2.2 (0, .int .i64 1) (by simp), (hl.out.call hb).2.2 (1, .int .i64 (i : Int)) (by simp), (hl.out.call hb).2.2 (2, .int .i64 (s : Int)) (by simp), (hl.out.call hb).2.2 (3, .slice ao xs.length cap) (by simp), hl.out.call hb⟩))
    rw [mk69] at x
    simp only [bA_app, List.append_assoc] at x
    exact x
  · by_cases k6 : k = 6
    · subst k6
      have HS : Small [6, i] := small2 (by omega) hi
      have x := evForm6 (i : Int) (s : Int) ao xs.length cap w (bA (numsL [6, i])) (bA_nums HS (by simp)) (fun w1 g hg => by subst hg; exact nums_new [6, i] (by simp) HS w1 _ (by simp) _ (by simp) _)
      simp only [bstr_69] at x
      exact x
    · have HS : Small [k, i, s] := small3 hk hi hs
      have x := evFormK (k : Int) (i : Int) (s : Int) (by omega) (by omega) ao xs.length cap w (bA (numsL [k, i, s])) (bA_nums HS (by simp)) (fun w1 g hg => by subst hg; exact nums_new [k, i, s] (by simp) HS w1 _ (by simp) _ (by simp) _)
      simp only [bstr_69] at x
      have e : evL k i s xs = 69 :: numsL [k, i, s] := by unfold evL; rw [if_neg k1, if_neg k6]
      rw [e]
      exact x
theorem write_yesW (ty : TypeId) (x : Value) (fm ff : Nat) (s : ByteArray) (w : World) (hm : ∀ w, (method 229 ty x "odyssey/codec.mayBe").run Try.prog w = .ok (fm, x) w) (hf : ∀ w, (method 229 ty x "odyssey/codec.form").run Try.prog w = .ok (ff, x) w)
    (em : ∀ args w, (callFunc fm args).run Try.prog w = .ok (.enter fm args) w) (ef : ∀ args w, (callFunc ff args).run Try.prog w = .ok (.enter ff args) w)
    (C1 : Hid (Calls Try.prog fm #[x] w fun e w' => e = .returned (.bool true) ∧ Below w.heap.size w w')) (C2 : Hid (∀ w1, Below w.heap.size w w1 → Calls Try.prog ff #[x] w1 fun e w' => e = .returned (.string s) ∧ Below w1.heap.size w1 w')) :
    Calls Try.prog 18 #[.iface ty x] w fun e w' => e = .returned (.tuple #[.string s, .int .i64 0]) ∧ Below w.heap.size w w' := by
  go_enter Try.func18, Try.ntmps18
  go_wp2_with fail
  refine C1.out.mono ?_
  rintro e w1 ⟨rfl, hb1⟩
  have HB1 : Hid (Below w.heap.size w w1) := hb1
  clear C1 hb1
  go_wp2_with fail
  refine (C2.out _ HB1.out).mono ?_
  rintro e w2 ⟨rfl, hb2⟩
  have HB2 : Hid (Below w.heap.size w w2) := HB1.out.trans (hb2.mono HB1.out.size)
  clear C2 hb2 HB1
  go_wp2_with fail
  go_ret2
  exact ⟨rfl, HB2.out⟩
theorem write_noW (ty : TypeId) (x : Value) (fm : Nat) (w : World) (hm : ∀ w, (method 229 ty x "odyssey/codec.mayBe").run Try.prog w = .ok (fm, x) w) (em : ∀ args w, (callFunc fm args).run Try.prog w = .ok (.enter fm args) w)
    (C1 : Hid (Calls Try.prog fm #[x] w fun e w' => e = .returned (.bool false) ∧ Below w.heap.size w w')) :
    Calls Try.prog 18 #[.iface ty x] w fun e w' => e = .returned (.tuple #[.string ⟨#[]⟩, .int .i64 1]) ∧ Below w.heap.size w w' := by
  go_enter Try.func18, Try.ntmps18
  go_wp2_with fail
  refine C1.out.mono ?_
  rintro e w1 ⟨rfl, hb1⟩
  have HB1 : Hid (Below w.heap.size w w1) := hb1
  clear C1 hb1
  go_wp2_with fail
  go_ret2
  exact ⟨rfl, HB1.out⟩
theorem m_event_form (x : Array Value) (w : World) : (method 229 55 (.agg x) "odyssey/codec.form").run Try.prog w = .ok (88, .agg x) w := by kernel_rfl
theorem e_event_may : ∀ args w, (callFunc 89 args).run Try.prog w = .ok (.enter 89 args) w := enters_of Try.func89 (by kernel_rfl) rfl
theorem e_event_form : ∀ args w, (callFunc 88 args).run Try.prog w = .ok (.enter 88 args) w := enters_of Try.func88 (by kernel_rfl) rfl
end Go.Proofs.Ytbgankldnjeohaa
