/- A step more: a definition that may be stays one, and costs more. -/
import Derived.Test.YtaeakednekbekaaDoorTellsW
set_option linter.unusedVariables false
namespace Go.Proofs.YtaeakednekbekaaDoor
open CheckMath

def zName : ByteArray := ⟨#[122, 122, 122, 122, 122, 122, 122, 122]⟩
def zStep (q : Nat) : StepD := ⟨zName, 3, (q : Int), [], []⟩
theorem isN_z : isN zName = true := by decide +kernel
theorem nth_old {ss : List StepD} {s : StepD} {i : Nat} (h : i < ss.length) : nth (ss ++ [s]) i = nth ss i := by
  unfold nth
  rw [List.getD_eq_getElem?_getD, List.getD_eq_getElem?_getD, List.getElem?_append_left h]
theorem nth_new {ss : List StepD} {s : StepD} : nth (ss ++ [s]) ss.length = s := by
  unfold nth
  rw [List.getD_eq_getElem?_getD, List.getElem?_append_right (Nat.le_refl _)]
  simp
theorem more_fault {ss : List StepD} {q i : Nat} (hi : i < ss.length) (h : stepFault ss i = 0) : stepFault (ss ++ [zStep q]) i = 0 := by
  obtain ⟨h1, h2, h3, h4, h5, h6⟩ := fault_none h
  unfold stepFault
  rw [nth_old hi, if_neg (by simp [h1]), if_neg ?_, if_neg (by omega), if_neg (by omega), tt_yes h5, if_neg (by simp), tt_yes ?_, if_neg (by simp)]
  · intro k hk
    obtain ⟨a, b, c, d⟩ := h6 k hk
    refine ⟨a, ?_, c, d⟩
    rw [List.length_append]
    simp
    omega
  · rw [tt_no]
    · simp
    · rintro ⟨k, hk, e⟩
      rw [nth_old hi, nth_old (by omega)] at e
      exact h2 ⟨k, hk, e⟩
theorem more_fault_new {ss : List StepD} {q : Nat} (hq : q < 4) (hn : ∀ i, i < ss.length → ¬ (nth ss i).name = zName) : stepFault (ss ++ [zStep q]) ss.length = 0 := by
  unfold stepFault
  rw [nth_new, if_neg (by simp [zStep, isN_z]), if_neg ?_, if_neg (by simp [zStep]), if_neg (by simp [zStep]; omega), tt_yes (show KeysOk (zStep q) from ⟨by simp [zStep], fun i hi => by simp [zStep] at hi⟩), if_neg (by simp),
    tt_yes (show NeedsOk (zStep q).needs _ _ from fun i hi => by simp [zStep] at hi), if_neg (by simp)]
  rw [tt_no]
  · simp
  · rintro ⟨k, hk, e⟩
    rw [nth_new, nth_old hk] at e
    exact hn k hk e
theorem more_edge {ss : List StepD} {q : Nat} (hf : Needy ss) (a b : Nat) (h : CheckMath.Edge (ss ++ [zStep q]) a b) : CheckMath.Edge ss a b := by
  obtain ⟨h1, h2, h3⟩ := h
  rw [List.length_append] at h1
  simp at h1
  by_cases ha : a < ss.length
  · rw [nth_old ha] at h3
    obtain ⟨_, k2, _⟩ := hf a ha _ h3
    exact ⟨ha, by omega, h3⟩
  · have : a = ss.length := by omega
    subst this
    rw [nth_new] at h3
    simp [zStep] at h3
theorem more_fine {D : DefD} {q : Nat} (hq : q < 4) (h : Fine D) (h7 : D.steps.length < 8) (hn : ∀ i, i < D.steps.length → ¬ (nth D.steps i).name = zName) : Fine ⟨D.name, D.steps ++ [zStep q]⟩ := by
  have hl : (D.steps ++ [zStep q]).length = D.steps.length + 1 := by simp
  have hneedy := needy_of h.step
  have hc : ∀ i, i < (D.steps ++ [zStep q]).length → i < D.steps.length ∨ i = D.steps.length := fun i hi => by omega
  refine ⟨h.name, by simp, by simp only [hl]; omega, fun i hi => ?_, fun i hi hp => ?_, fun i hi hp => ?_, fun i hi hp => ?_, fun i hi hp => ?_⟩
  · rcases hc i hi with e | rfl
    · exact more_fault e (h.step i e)
    · exact more_fault_new hq hn
  · obtain ⟨p1, k, hk, p2⟩ := hp
    rcases hc i hi with e | rfl
    · change (nth (D.steps ++ [zStep q]) i).kind = 2 at p1
      change (nth (D.steps ++ [zStep q]) k).kind = 2 at p2
      rw [nth_old e] at p1
      rw [nth_old (by omega)] at p2
      exact h.pivot i e ⟨p1, k, hk, p2⟩
    · change (nth (D.steps ++ [zStep q]) D.steps.length).kind = 2 at p1
      rw [nth_new] at p1
      simp [zStep] at p1
  · obtain ⟨p1, x, hx, p2⟩ := hp
    change ¬ (nth (D.steps ++ [zStep q]) i).kind = 3 at p1
    change x ∈ (nth (D.steps ++ [zStep q]) i).needs at hx
    change ¬ (nth (D.steps ++ [zStep q]) x.toNat).kind = 1 at p2
    rcases hc i hi with e | rfl
    · rw [nth_old e] at p1 hx
      obtain ⟨k1, k2, _⟩ := hneedy i e x hx
      rw [nth_old (by omega)] at p2
      exact h.order i e ⟨p1, x, hx, p2⟩
    · rw [nth_new] at p1
      exact p1 rfl
  · have hp2 : Path (CheckMath.Edge D.steps) i i := Path.mono (fun a b e => more_edge hneedy a b e) hp
    have hi2 : i < D.steps.length := Path.lt edge_lt hp2
    exact h.ring i hi2 hp2
  · obtain ⟨p1, key, hk, p2⟩ := hp
    change (nth (D.steps ++ [zStep q]) i).kind = 3 at p1
    change key ∈ (nth (D.steps ++ [zStep q]) i).keys at hk
    rcases hc i hi with e | rfl
    · rw [nth_old e] at p1 hk
      refine h.key i e ⟨p1, key, hk, fun ht => p2 ?_⟩
      obtain ⟨k, k1, k2, k3⟩ := ht
      refine ⟨k, by simp only [hl]; omega, ?_, ?_⟩
      · change (nth (D.steps ++ [zStep q]) k).kind ≠ 3
        rw [nth_old k1]; exact k2
      · change key ∈ (nth (D.steps ++ [zStep q]) k).keys
        rw [nth_old k1]; exact k3
    · rw [nth_new] at hk
      simp [zStep] at hk
theorem more_check {D : DefD} {q : Nat} (hq : q < 4) (h : (checkM D).2 = 0) (h7 : D.steps.length < 8) (hn : ∀ i, i < D.steps.length → ¬ (nth D.steps i).name = zName) : (checkM ⟨D.name, D.steps ++ [zStep q]⟩).2 = 0 :=
  (checkM_ok _).2 (more_fine hq ((checkM_ok D).1 h) h7 hn)
/-- A step more costs more. -/
theorem rec_more (ss : List StepD) (q : Nat) (hq : q < 4) : ∀ j, j < 5 → rec5 ss j + step1 (zStep q) q j ≤ rec5 (ss ++ [zStep q]) j := by
  intro j hj
  cases e : nmd ss q with
  | true => rw [rec5_old hq rfl e j hj]; exact Nat.le_refl _
  | false => rw [rec5_new hq rfl e j hj]; omega
theorem grow_orch (ss : List StepD) (q : Nat) (hq : q < 4) : costF (rec5 ss) 0 < costF (rec5 (ss ++ [zStep q])) 0 := by
  have h := rec_more ss q hq 4 (by omega)
  have : step1 (zStep q) q 4 = 2 := rfl
  show rec5 ss 4 < rec5 (ss ++ [zStep q]) 4
  omega
theorem grow_part (ss : List StepD) (q : Nat) (hq : q < 4) : costF (rec5 ss) (1 + q) < costF (rec5 (ss ++ [zStep q])) (1 + q) := by
  have h := rec_more ss q hq q (by omega)
  have : step1 (zStep q) q q = 1 := by unfold step1; rw [if_neg (by omega), if_pos rfl]; rfl
  unfold costF
  rw [if_neg (by omega), if_neg (by omega), show 1 + q - 1 = q by omega]
  omega
theorem grow_all (ss : List StepD) (q p : Nat) (hq : q < 4) (hp : p < 4) : costF (rec5 ss) (1 + p) ≤ costF (rec5 (ss ++ [zStep q])) (1 + p) := by
  have h := rec_more ss q hq p (by omega)
  unfold costF
  rw [if_neg (by omega), if_neg (by omega), show 1 + p - 1 = p by omega]
  omega
end Go.Proofs.YtaeakednekbekaaDoor
