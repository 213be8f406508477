/- What CheckLess leans on: a definition that may be, may be with one step's needs left out; the row of its steps in memory. -/
import Derived.Test.YtbifnpemfkmckaaDoorCopyW
set_option linter.unusedVariables false
set_option maxRecDepth 100000
namespace CheckMath
def bare (s : StepD) : StepD := ⟨s.name, s.kind, s.part, s.keys, []⟩
def lessS (ss : List StepD) (j : Nat) : List StepD := ss.set j (bare (nth ss j))
theorem lessS_len (ss : List StepD) (j : Nat) : (lessS ss j).length = ss.length := by simp [lessS]
theorem lessS_at {ss : List StepD} {j : Nat} (hj : j < ss.length) : nth (lessS ss j) j = bare (nth ss j) := by simp [lessS, nth, List.getD, hj]
theorem lessS_off {ss : List StepD} {j i : Nat} (h : ¬ i = j) : nth (lessS ss j) i = nth ss i := by
  unfold lessS nth
  simp only [List.getD]
  rw [List.getElem?_set_ne (fun e => h e.symm)]
section
variable {ss : List StepD} {j : Nat} (hj : j < ss.length) (i : Nat)
include hj
theorem less_name : (nth (lessS ss j) i).name = (nth ss i).name := by
  by_cases e : i = j
  · subst e; rw [lessS_at hj]; rfl
  · rw [lessS_off e]
theorem less_kind : (nth (lessS ss j) i).kind = (nth ss i).kind := by
  by_cases e : i = j
  · subst e; rw [lessS_at hj]; rfl
  · rw [lessS_off e]
theorem less_part : (nth (lessS ss j) i).part = (nth ss i).part := by
  by_cases e : i = j
  · subst e; rw [lessS_at hj]; rfl
  · rw [lessS_off e]
theorem less_keys : (nth (lessS ss j) i).keys = (nth ss i).keys := by
  by_cases e : i = j
  · subst e; rw [lessS_at hj]; rfl
  · rw [lessS_off e]
theorem less_needs {x : Int} (h : x ∈ (nth (lessS ss j) i).needs) : x ∈ (nth ss i).needs := by
  by_cases e : i = j
  · subst e; rw [lessS_at hj] at h; simp [bare] at h
  · rw [lessS_off e] at h; exact h
end
theorem less_keysOk {ss : List StepD} {j : Nat} (hj : j < ss.length) (i : Nat) (h : KeysOk (nth ss i)) : KeysOk (nth (lessS ss j) i) := by
  unfold KeysOk KeyOk at *
  rw [less_keys hj, less_part hj]
  exact h
theorem less_needsOk {ss : List StepD} {j : Nat} (hj : j < ss.length) (i : Nat) (h : NeedsOk (nth ss i).needs i ss.length) : NeedsOk (nth (lessS ss j) i).needs i (lessS ss j).length := by
  rw [lessS_len]
  by_cases e : i = j
  · subst e
    rw [lessS_at hj]
    intro k hk
    simp [bare] at hk
  · rw [lessS_off e]; exact h
theorem less_fault {ss : List StepD} {j : Nat} (hj : j < ss.length) (i : Nat) (h : stepFault ss i = 0) : stepFault (lessS ss j) i = 0 := by
  obtain ⟨h1, h2, h3, h4, h5, h6⟩ := fault_none h
  unfold stepFault
  rw [if_neg (by rw [less_name hj, h1]; simp), tt_no (fun ⟨k, hk, e⟩ => h2 ⟨k, hk, by rwa [less_name hj, less_name hj] at e⟩), if_neg (by simp), if_neg (by rw [less_kind hj]; omega), if_neg (by rw [less_part hj]; omega), tt_yes (less_keysOk hj i h5), if_neg (by simp), tt_yes (less_needsOk hj i h6), if_neg (by simp)]
theorem less_edge {ss : List StepD} {j : Nat} (hj : j < ss.length) (a b : Nat) (h : Edge (lessS ss j) a b) : Edge ss a b := by
  obtain ⟨h1, h2, h3⟩ := h
  rw [lessS_len] at h1 h2
  exact ⟨h1, h2, less_needs hj a h3⟩
theorem less_fine {D : DefD} {j : Nat} (hj : j < D.steps.length) (h : Fine D) : Fine ⟨D.name, lessS D.steps j⟩ where
  name := h.name
  some := by show 1 ≤ (lessS D.steps j).length; rw [lessS_len]; exact h.some
  few := by show (lessS D.steps j).length ≤ 8; rw [lessS_len]; exact h.few
  step := fun i hi => less_fault hj i (h.step i (by simpa [lessS_len] using hi))
  pivot := fun i hi ⟨e, k, hk, e2⟩ => h.pivot i (by simpa [lessS_len] using hi) ⟨by rwa [less_kind hj] at e, k, hk, by rwa [less_kind hj] at e2⟩
  order := fun i hi ⟨e, x, hx, e2⟩ => h.order i (by simpa [lessS_len] using hi) ⟨by rwa [less_kind hj] at e, x, less_needs hj i hx, by rwa [less_kind hj] at e2⟩
  ring := fun i hi e => h.ring i (by simpa [lessS_len] using hi) (Path.mono (less_edge hj) e)
  key := fun i hi ⟨e, x, hx, e2⟩ => h.key i (by simpa [lessS_len] using hi) ⟨by rwa [less_kind hj] at e, x, by rwa [less_keys hj] at hx, fun ⟨k, hk, f1, f2⟩ => e2 ⟨k, by show k < (lessS D.steps j).length; rw [lessS_len]; exact hk, by rw [less_kind hj]; exact f1, by rw [less_keys hj]; exact f2⟩⟩
theorem fine_check {D : DefD} (h : Fine D) : checkM D = (-1, 0) := by
  have h2 := (checkM_ok D).2 h
  exact Prod.ext ((checkM_range D).2.2.2.2 h2) h2
end CheckMath
namespace Go.Proofs.YtbifnpemfkmckaaDoor
open Go.RowKit CheckMath

def bareC (x : Cm) : Cm := ⟨bare x.st, x.kv, .slice none 0 0⟩
theorem ccells_less : ∀ (xs : List Cm) (j : Nat) (h : j < xs.length), (ccells xs).set (j * 5 + 4) (.slice none 0 0) = ccells (xs.set j (bareC xs[j]))
  | x :: xs, 0, _ => rfl
  | x :: xs, j + 1, h => by
    have := ccells_less xs j (by simpa using h)
    have e : ccells (x :: xs) = ccell x ++ ccells xs := rfl
    have hl : (ccell x).length = 5 := rfl
    rw [e, show (j + 1) * 5 + 4 = (ccell x).length + (j * 5 + 4) by rw [hl]; omega, List.set_append_right _ _ (by omega), Nat.add_sub_cancel_left, this]
    rfl
/-- A row of steps whose own rows are known. -/
theorem drow_rows {w : World} {B : Nat} {v : Value} {ys : List Cm} (ho : w.ownsRow B 35 5 v ys.length (ccells ys)) (hl : ys.length ≤ 140737488355328) (hk : ∀ y, y ∈ ys → KRow w y.kv y.st.keys ∧ IRow w y.nv y.st.needs) : DRow w v (ys.map (·.st)) := by
  obtain ⟨ao, cap, rfl, h1, h2, h3⟩ := own_form ho
  refine ⟨ao, cap, by rw [List.length_map], by rw [List.length_map]; exact h1, fun e => (h2 e).2, by rw [List.length_map]; exact hl, fun j hj => ?_⟩
  rw [List.length_map] at hj
  cases ao with
  | none => have := (h2 rfl).1; omega
  | some p =>
    obtain ⟨g, rfl, _, k2, k3, _, _⟩ := h3 p rfl
    have hn : nth (ys.map (·.st)) j = ys[j].st := by simp [nth, List.getD, hj]
    obtain ⟨t0, t1, t2, t3, t4⟩ := ccells_at ys j hj
    obtain ⟨o1, o2⟩ := hk _ (List.getElem_mem hj)
    refine ⟨g, 0, rfl, k2, ?_⟩
    rw [hn, Nat.zero_add]
    exact ⟨by rw [k3 _ (by omega)]; exact t0, by rw [k3 _ (by omega)]; exact t1, by rw [k3 _ (by omega)]; exact t2, _, _, by rw [k3 _ (by omega)]; exact t3, by rw [k3 _ (by omega)]; exact t4, o1, o2⟩
/-- One step's needs struck. -/
theorem less_rows {B : Nat} {w wr : World} {g n cap : Nat} {xs : List Cm} {rs : List Res} (h : Has B w (rowsRes (.slice (some ⟨g, 0, none⟩) n cap) xs ++ rs) wr) (hn : n = xs.length) (hl : xs.length ≤ 140737488355328) (hok : ∀ x, x ∈ xs → StOk x.st) (j : Nat) (hj : j < xs.length) :
    DRow (wr.setCell ⟨g, j * 5 + 4, none⟩ (.slice none 0 0)) (.slice (some ⟨g, 0, none⟩) n cap) (lessS (xs.map (·.st)) j) ∧ Has B w rs (wr.setCell ⟨g, j * 5 + 4, none⟩ (.slice none 0 0)) ∧ B ≤ g := by
  subst hn
  have h0 : Has B w (OwnR 35 5 (.slice (some ⟨g, 0, none⟩) xs.length cap) xs.length (ccells xs) :: (xs.flatMap cRes ++ rs)) wr := h
  obtain ⟨F, ⟨_, hF⟩, hFB⟩ := h0.get List.mem_cons_self
  have hg : B ≤ g := hFB g (by rw [hF]; rfl)
  have h1 := h0.turn (new := [OwnR 35 5 (.slice (some ⟨g, 0, none⟩) xs.length cap) xs.length (ccells (xs.set j (bareC xs[j])))]) (w' := wr.setCell ⟨g, j * 5 + 4, none⟩ (.slice none 0 0)) (by
    rintro F ⟨ho, rfl⟩
    refine ⟨_, Hold.one ⟨?_, rfl⟩, (chg_set wr ⟨g, j * 5 + 4, none⟩ (.slice none 0 0)).mono (fun k _ e => by simp only at e; rw [e]; rfl), fun k hk => Or.inl hk⟩
    rw [← ccells_less xs j hj]
    exact own_set ho _ _)
  have hs : (xs.set j (bareC xs[j])).map (·.st) = lessS (xs.map (·.st)) j := by
    unfold lessS
    rw [List.map_set]
    congr 1
    simp [nth, List.getD, hj, bareC]
  refine ⟨?_, ?_, hg⟩
  · rw [← hs]
    have hlen : (xs.set j (bareC xs[j])).length = xs.length := by simp
    have ho := h1.own (t := 35) (size := 5) List.mem_cons_self
    have h2 := drow_rows (v := .slice (some ⟨g, 0, none⟩) xs.length cap) (ys := xs.set j (bareC xs[j])) (own_cast hlen.symm rfl ho) (by rw [hlen]; exact hl) (fun y hy => by
      rcases List.mem_or_eq_of_mem_set hy with hm | rfl
      · obtain ⟨o1, o2, o3⟩ := hok _ hm
        have hmem : ∀ r, r ∈ cRes y → r ∈ [OwnR 35 5 (.slice (some ⟨g, 0, none⟩) xs.length cap) xs.length (ccells (xs.set j (bareC xs[j])))] ++ (xs.flatMap cRes ++ rs) := fun r hr => List.mem_append_right _ (List.mem_append_left _ (List.mem_flatMap.2 ⟨y, hm, hr⟩))
        have hk := h1.own (hmem (KR y.kv y.st.keys) (by simp [cRes]))
        have hn := h1.own (hmem (NR y.nv y.st.needs) (by simp [cRes]))
        exact ⟨krow_own hk (by omega) o2, irow_own hn (by omega)⟩
      · have hm := List.getElem_mem hj
        obtain ⟨o1, o2, o3⟩ := hok _ hm
        have hmem : ∀ r, r ∈ cRes xs[j] → r ∈ [OwnR 35 5 (.slice (some ⟨g, 0, none⟩) xs.length cap) xs.length (ccells (xs.set j (bareC xs[j])))] ++ (xs.flatMap cRes ++ rs) := fun r hr => List.mem_append_right _ (List.mem_append_left _ (List.mem_flatMap.2 ⟨_, hm, hr⟩))
        have hk := h1.own (hmem (KR xs[j].kv xs[j].st.keys) (by simp [cRes]))
        have hkk : KRow _ xs[j].kv xs[j].st.keys := krow_own hk (by omega) o2
        exact ⟨hkk, none, 0, rfl, Nat.le_refl _, fun _ => rfl, by simp [bareC, bare], fun i hi => by simp [bareC, bare] at hi⟩)
    exact h2
  · have h3 : ∀ (l : List Res), Has B w (l ++ rs) (wr.setCell ⟨g, j * 5 + 4, none⟩ (.slice none 0 0)) → Has B w rs (wr.setCell ⟨g, j * 5 + 4, none⟩ (.slice none 0 0)) := by
      intro l
      induction l with
      | nil => exact fun h => h
      | cons a l ih => exact fun h => ih h.drop
    exact h3 _ h1.drop
end Go.Proofs.YtbifnpemfkmckaaDoor
