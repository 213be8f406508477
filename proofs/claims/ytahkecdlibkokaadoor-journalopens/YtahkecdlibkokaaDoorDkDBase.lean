/- Disks in memory: the program's, and the document's. -/
import Derived.Test.YtahkecdlibkokaaDoorFam
import Derived.Test.YtahkecdlibkokaaDoorDkDMath
import Derived.Lib.AppendStr
import Derived.Lib.FrozenHead
import Derived.Laws.CopyOwn
set_option linter.unusedVariables false
set_option maxRecDepth 100000
namespace Go.Proofs.YtahkecdlibkokaaDoor.Dk
open Go.RowKit
open DiskMath

/-- What a world keeps that changed within S alone, and by new blocks. -/
structure Chg (S : Nat → Prop) (w w' : World) : Prop where
  os : w'.os = w.os
  tape : w'.tape = w.tape
  output : w'.output = w.output
  size : w.heap.size ≤ w'.heap.size
  block : ∀ k, k < w.heap.size → ¬ S k → w'.heap[k]? = w.heap[k]?
/-- The program's disk at block b: V tells where the bytes of each file lie. -/
structure PDisk (w : World) (b : Nat) (V : Nat → Value) (d : DS) : Prop where
  lt : b < w.heap.size
  bytes : ∀ i, i < 4 → w.cell? ⟨b, i * 2, none⟩ = some (V i)
  safe : ∀ i, i < 4 → w.cell? ⟨b, i * 2 + 1, none⟩ = some (.int .i64 (d.S i : Int))
  room : w.cell? ⟨b, 8, none⟩ = some (.int .i64 (d.R : Int))
  free : ∀ j, w.frozen? ⟨b, j, none⟩ = false
  rows : ∀ i, i < 4 → w.ownsRow 0 5 1 (V i) (d.F i).length (cells8 (d.F i))
  apart : ∀ i j, i < 4 → j < 4 → i ≠ j → ∀ g, (V i).ownBlock = some g → (V j).ownBlock ≠ some g
  off : ∀ i, i < 4 → (V i).ownBlock ≠ some b
/-- Its blocks. -/
def fp (b : Nat) (V : Nat → Value) : Nat → Prop := fun k => k = b ∨ ∃ i, i < 4 ∧ (V i).ownBlock = some k
/-- The document's disk at block b. -/
structure RDisk (w : World) (b : Nat) (d : DS) : Prop where
  lt : b < w.heap.size
  bytes : ∀ i, i < 4 → w.cell? ⟨b, i * 2, none⟩ = some (strV (d.F i))
  safe : ∀ i, i < 4 → w.cell? ⟨b, i * 2 + 1, none⟩ = some (.int .i64 (d.S i : Int))
  room : w.cell? ⟨b, 8, none⟩ = some (.int .i64 (d.R : Int))
  free : ∀ j, w.frozen? ⟨b, j, none⟩ = false

theorem Chg.refl (S : Nat → Prop) (w : World) : Chg S w w := ⟨rfl, rfl, rfl, Nat.le_refl _, fun _ _ _ => rfl⟩
theorem Chg.mono {S T : Nat → Prop} {w w' : World} (h : Chg S w w') (hT : ∀ k, k < w.heap.size → S k → T k) : Chg T w w' :=
  ⟨h.os, h.tape, h.output, h.size, fun k hk hn => h.block k hk (fun hs => hn (hT k hk hs))⟩
theorem Chg.trans {S T : Nat → Prop} {w w' w'' : World} (h : Chg S w w') (k : Chg T w' w'') (hT : ∀ j, j < w.heap.size → T j → S j) : Chg S w w'' :=
  ⟨k.os.trans h.os, k.tape.trans h.tape, k.output.trans h.output, Nat.le_trans h.size k.size, fun j hj hn => (k.block j (Nat.lt_of_lt_of_le hj h.size) (fun ht => hn (hT j hj ht))).trans (h.block j hj hn)⟩
theorem chg_below {S : Nat → Prop} {w w' : World} (h : Below w.heap.size w w') : Chg S w w' := ⟨h.os, h.tape, h.output, h.size, fun k hk _ => h.block k hk⟩
theorem below_chg {S : Nat → Prop} {B : Nat} {w w' : World} (h : Chg S w w') (hB : B ≤ w.heap.size) (hS : ∀ k, k < B → ¬ S k) : Below B w w' := ⟨h.os, h.tape, h.output, h.size, fun k hk => h.block k (by omega) (hS k hk)⟩
theorem chg_set (w : World) (p : Addr) (u : Value) : Chg (fun k => k = p.block) w (w.setCell p u) :=
  ⟨rfl, rfl, rfl, by simp, fun k hk hn => Below.heap_setCell w p u k hn⟩
theorem chg_drew (S : Nat → Prop) (w : World) : Chg S w w.drew := ⟨rfl, rfl, rfl, Nat.le_refl _, fun _ _ _ => rfl⟩

/-- What changed elsewhere leaves a disk alone. -/
theorem pdisk_chg {S : Nat → Prop} {w w' : World} {b : Nat} {V : Nat → Value} {d : DS} (h : PDisk w b V d) (hc : Chg S w w') (hS : ∀ k, fp b V k → ¬ S k) : PDisk w' b V d := by
  have hb : w'.heap[b]? = w.heap[b]? := hc.block b h.lt (hS b (Or.inl rfl))
  refine ⟨Nat.lt_of_lt_of_le h.lt hc.size, fun i hi => ?_, fun i hi => ?_, ?_, fun j => ?_, fun i hi => ?_, h.apart, h.off⟩
  · rw [World.cell?_of_block (w := w) (a := ⟨b, i * 2, none⟩) hb]; exact h.bytes i hi
  · rw [World.cell?_of_block (w := w) (a := ⟨b, i * 2 + 1, none⟩) hb]; exact h.safe i hi
  · rw [World.cell?_of_block (w := w) (a := ⟨b, 8, none⟩) hb]; exact h.room
  · rw [World.frozen?_of_block (w := w) (a := ⟨b, j, none⟩) hb]; exact h.free j
  · have hr := h.rows i hi
    refine ⟨hr.1, ?_⟩
    rcases hr.2 with hn | ⟨g, cap, cur, hv, hbb, hgg, rest⟩
    · exact Or.inl hn
    · refine Or.inr ⟨g, cap, cur, hv, hbb, ?_, rest⟩
      rw [hc.block g (Array.getElem?_eq_some_iff.1 hgg).1 (hS g (Or.inr ⟨i, hi, by rw [hv]; rfl⟩))]
      exact hgg
theorem rdisk_chg {S : Nat → Prop} {w w' : World} {b : Nat} {d : DS} (h : RDisk w b d) (hc : Chg S w w') (hS : ¬ S b) : RDisk w' b d := by
  have hb : w'.heap[b]? = w.heap[b]? := hc.block b h.lt hS
  refine ⟨Nat.lt_of_lt_of_le h.lt hc.size, fun i hi => ?_, fun i hi => ?_, ?_, fun j => ?_⟩
  · rw [World.cell?_of_block (w := w) (a := ⟨b, i * 2, none⟩) hb]; exact h.bytes i hi
  · rw [World.cell?_of_block (w := w) (a := ⟨b, i * 2 + 1, none⟩) hb]; exact h.safe i hi
  · rw [World.cell?_of_block (w := w) (a := ⟨b, 8, none⟩) hb]; exact h.room
  · rw [World.frozen?_of_block (w := w) (a := ⟨b, j, none⟩) hb]; exact h.free j
theorem fp_lt {w : World} {b : Nat} {V : Nat → Value} {d : DS} (h : PDisk w b V d) : ∀ k, fp b V k → k < w.heap.size := by
  rintro k (rfl | ⟨i, hi, hk⟩)
  · exact h.lt
  · exact ((h.rows i hi).lt k hk).2
theorem pdisk_below {w w' : World} {b : Nat} {V : Nat → Value} {d : DS} (h : PDisk w b V d) (hb : Below w.heap.size w w') : PDisk w' b V d :=
  pdisk_chg (S := fun k => w.heap.size ≤ k) h ⟨hb.os, hb.tape, hb.output, hb.size, fun k hk _ => hb.block k hk⟩ (fun k hk => by have := fp_lt h k hk; omega)
theorem rdisk_below {w w' : World} {b : Nat} {d : DS} (h : RDisk w b d) (hb : Below w.heap.size w w') : RDisk w' b d :=
  rdisk_chg (S := fun k => w.heap.size ≤ k) h ⟨hb.os, hb.tape, hb.output, hb.size, fun k hk _ => hb.block k hk⟩ (by have := h.lt; omega)
theorem pdisk_drewN {w : World} {b : Nat} {V : Nat → Value} {d : DS} (h : PDisk w b V d) (n : Nat) : PDisk (w.drewN n) b V d := pdisk_below h (below_drewN (Below.refl _ _) n)
theorem rdisk_drewN {w : World} {b : Nat} {d : DS} (h : RDisk w b d) (n : Nat) : RDisk (w.drewN n) b d := rdisk_below h (below_drewN (Below.refl _ _) n)

/-- How many bytes are safe, written anew. -/
theorem pdisk_safe {w : World} {b : Nat} {V : Nat → Value} {d : DS} (h : PDisk w b V d) (i n : Nat) (hi : i < 4) : PDisk (w.setCell ⟨b, i * 2 + 1, none⟩ (.int .i64 (n : Int))) b V ⟨d.F, upd d.S i n, d.R⟩ := by
  have hc := chg_set w ⟨b, i * 2 + 1, none⟩ (.int .i64 (n : Int))
  have hro : ∀ j, j < 4 → ∀ g, (V j).ownBlock = some g → g ≠ b := fun j hj g hg e => h.off j hj (by rw [hg, e])
  refine ⟨by simpa using h.lt, fun j hj => ?_, fun j hj => ?_, ?_, fun j => ?_, fun j hj => ?_, h.apart, h.off⟩
  · rw [World.cell?_setCell_other w _ _ _ (by simp <;> omega)]; exact h.bytes j hj
  · by_cases e : j = i
    · subst e
      rw [World.cell?_setCell_same w _ _ (h.safe j hj)]
      simp [upd]
    · rw [World.cell?_setCell_other w _ _ _ (by simp <;> omega)]
      simp [upd, e]
      exact h.safe j hj
  · rw [World.cell?_setCell_other w _ _ _ (by simp <;> omega)]; exact h.room
  · rw [World.frozen?_setCell]; exact h.free j
  · refine (h.rows j hj).kept (row := some b) ⟨rfl, rfl, rfl, by simp, fun k hk hn => Below.heap_setCell w _ _ k (by simpa using hn)⟩ ?_
    right
    exact h.off j hj

/-- The bytes of a file, written anew. -/
theorem pdisk_row {w w' : World} {b : Nat} {V : Nat → Value} {d : DS} (h : PDisk w b V d) (i : Nat) (hi : i < 4) (hg : w.grownBy w' (V i).ownBlock) (v' : Value) (l' : List UInt8) (hv : w'.ownsRow 0 5 1 v' l'.length (cells8 l'))
    (hf : ∀ g, v'.ownBlock = some g → (V i).ownBlock = some g ∨ w.heap.size ≤ g) :
    PDisk (w'.setCell ⟨b, i * 2, none⟩ v') b (upd V i v') ⟨upd d.F i l', d.S, d.R⟩ ∧ Chg (fp b V) w (w'.setCell ⟨b, i * 2, none⟩ v') ∧ ∀ k, fp b (upd V i v') k → fp b V k ∨ w.heap.size ≤ k := by
  have hbo : some b ≠ (V i).ownBlock := fun e => h.off i hi e.symm
  have hb : w'.heap[b]? = w.heap[b]? := hg.block b h.lt hbo
  have hlt' : b < w'.heap.size := Nat.lt_of_lt_of_le h.lt hg.size
  have cell : ∀ j, w'.cell? ⟨b, j, none⟩ = w.cell? ⟨b, j, none⟩ := fun j => World.cell?_of_block (w := w) (a := ⟨b, j, none⟩) hb
  have hset : ∀ (u : Value), w'.grownBy (w'.setCell ⟨b, i * 2, none⟩ u) (some b) := fun u => ⟨rfl, rfl, rfl, by simp, fun k hk hn => Below.heap_setCell w' _ _ k (by simpa using hn)⟩
  have hvb : v'.ownBlock ≠ some b := fun e => by
    rcases hf b e with h1 | h1
    · exact h.off i hi h1
    · have := h.lt; omega
  refine ⟨⟨by simpa using hlt', fun j hj => ?_, fun j hj => ?_, ?_, fun j => ?_, fun j hj => ?_, fun j k hj hk hjk g hjg => ?_, fun j hj => ?_⟩, ?_, ?_⟩
  · by_cases e : j = i
    · subst e
      rw [World.cell?_setCell_same w' _ _ ((cell _).trans (h.bytes j hj))]
      simp [upd]
    · rw [World.cell?_setCell_other w' _ _ _ (by simp <;> omega), cell]
      simp [upd, e]
      exact h.bytes j hj
  · rw [World.cell?_setCell_other w' _ _ _ (by simp <;> omega), cell]; exact h.safe j hj
  · rw [World.cell?_setCell_other w' _ _ _ (by simp <;> omega), cell]; exact h.room
  · rw [World.frozen?_setCell, World.frozen?_of_block (w := w) (a := ⟨b, j, none⟩) hb]; exact h.free j
  · by_cases e : j = i
    · subst e
      simp only [upd, if_true]
      exact hv.kept (hset v') (Or.inr hvb)
    · simp only [upd, e, if_false]
      have h1 : w'.ownsRow 0 5 1 (V j) (d.F j).length (cells8 (d.F j)) := (h.rows j hj).kept hg (by
        cases hj' : (V j).ownBlock with
        | none => exact Or.inl rfl
        | some g =>
          refine Or.inr fun e2 => ?_
          exact h.apart j i hj hi e g hj' e2.symm)
      exact h1.kept (hset v') (Or.inr (h.off j hj))
  · by_cases ej : j = i
    · subst ej
      simp only [upd, if_true] at hjg
      have hkj : k ≠ j := fun e => hjk e.symm
      simp only [upd, hkj, if_false]
      rcases hf g hjg with h1 | h1
      · exact h.apart j k hj hk hjk g h1
      · intro e2; have := ((h.rows k hk).lt g e2).2; omega
    · simp only [upd, ej, if_false] at hjg
      by_cases ek : k = i
      · subst ek
        simp only [upd, if_true]
        intro e2
        rcases hf g e2 with h1 | h1
        · exact h.apart j k hj hk hjk g hjg h1
        · have := ((h.rows j hj).lt g hjg).2; omega
      · simp only [upd, ek, if_false]
        exact h.apart j k hj hk hjk g hjg
  · by_cases e : j = i
    · subst e; simp only [upd, if_true]; exact hvb
    · simp only [upd, e, if_false]; exact h.off j hj
  · refine ⟨hg.os, hg.tape, hg.output, by simpa using hg.size, fun k hk hn => ?_⟩
    rw [Below.heap_setCell w' _ _ k (fun e => hn (Or.inl e))]
    exact hg.block k hk (fun e => hn (Or.inr ⟨i, hi, e.symm⟩))
  · rintro k (rfl | ⟨j, hj, hk⟩)
    · exact Or.inl (Or.inl rfl)
    · by_cases e : j = i
      · subst e
        simp only [upd, if_true] at hk
        rcases hf k hk with h1 | h1
        · exact Or.inl (Or.inr ⟨j, hj, h1⟩)
        · exact Or.inr h1
      · simp only [upd, e, if_false] at hk
        exact Or.inl (Or.inr ⟨j, hj, hk⟩)
/-- Behind a call on a disk: the answer, the disk as it is now, and that nothing else changed. -/
def POk (w : World) (b : Nat) (V : Nat → Value) (d' : DS) (w' : World) : Prop :=
  ∃ V', PDisk w' b V' d' ∧ Chg (fp b V) w w' ∧ ∀ k, fp b V' k → fp b V k ∨ w.heap.size ≤ k
theorem POk.same {w w' : World} {b : Nat} {V : Nat → Value} {d : DS} (h : PDisk w' b V d) (hc : Chg (fp b V) w w') : POk w b V d w' := ⟨V, h, hc, fun k hk => Or.inl hk⟩
/-- A text put behind a row of bytes: where the new row lies. -/
theorem append_where {P : Program} (w : World) (t u ty e : TypeId) (i : TypeInfo) (ht : P.underlying t = some (.slice e)) (hu : P.underlying u = some .string) (hi : P.info? e = some i) (hz : i.zero = some (.int .u8 0))
    (hsize : i.size = 1) (hby : i.bytes = 1) (v : Value) (l : List UInt8) (hown : w.ownsRow 0 e 1 v l.length (cells8 l)) (s : ByteArray) (hbytes : l.length + s.size ≤ 140737488355328) :
    ∃ v' w', (Builtin.append_ #[t, u] ty #[v, .string s]).run P w = .ok v' w' ∧ w'.ownsRow 0 e 1 v' (l ++ s.data.toList).length (cells8 (l ++ s.data.toList)) ∧ w.grownBy w' v.ownBlock ∧
      ∀ g, v'.ownBlock = some g → v.ownBlock = some g ∨ w.heap.size ≤ g := by
  obtain ⟨v', w', hr, h2, h3, h4⟩ := Lib.run_append_own_string (P := P) w 0 t u ty e i ht hu hi hz hsize hby v l.length (cells8 l) hown s (by unfold maxLen; omega) hbytes (Nat.zero_le _)
  have hsc : Lib.strCells s = cells8 s.data.toList := by simp [Lib.strCells, cells8]
  refine ⟨v', w', hr, own_cast (by rw [List.length_append, size_data]) (by rw [hsc]; simp [cells8]) h2, h3, fun g hg => ?_⟩
  by_cases hlt : g < w.heap.size
  · left
    rcases hown.2 with ⟨rfl, h0⟩ | ⟨g0, cap, cur, rfl, hb, hgg, hnc, hcm, hcs, htake⟩
    · -- nothing there yet
      exfalso
      by_cases hs0 : s.size = 0
      · have := h4.2 ⟨rfl, hs0⟩
        rw [this] at hg
        cases hg
      · have hx := run_append_nil_string (P := P) w t u ty e i (.int .u8 0) ht hu hi hz s (by omega) (by omega) (by rw [hby]; omega)
        rw [hx] at hr
        injection hr with h5 h6
        rw [← h5] at hg
        have : w.heap.size = g := by simpa [Value.ownBlock] using hg
        omega
    · by_cases hroom : l.length + s.size ≤ cap
      · have hcs' : cur.size = cap := by simpa using hcs
        have hx := Lib.run_append_room_stringF (P := P) w t u ty e i ht hu hi hsize g0 l.length cap cur (0, 0) hgg (Nat.zero_le _) s hroom (by omega)
        rw [hx] at hr
        injection hr with h5 h6
        rw [← h5] at hg
        exact hg
      · exfalso
        have hxl : (cells8 l).length = l.length := by simp [cells8]
        have hx := Lib.run_append_grow_string (P := P) w t u ty e i (.int .u8 0) ht hu hi hz ⟨g0, 0, none⟩ l.length cap (cells8 l) (by rw [hsize, hxl]; omega) (hown.cells (g := g0) rfl) s (by omega) (by omega) (by rw [hby]; exact growslice_fits (by omega) (by omega))
        rw [hx] at hr
        injection hr with h5 h6
        rw [← h5] at hg
        have : w.heap.size = g := by simpa [Value.ownBlock] using hg
        omega
  · right; omega
theorem wpList_append_where {P : Program} (w : World) {ops : Array Oper} {rest : List Oper} {o : Oper} {a : Act} {Q : Exit → Act → World → Prop} (hgd : o.guard = none) (sl x : Operand) (t u : TypeId)
    (ho : o.op = .call { callee := .builtin .append, args := #[sl, x], argTypes := #[t, u] })
    (e : TypeId) (i : TypeInfo) (ht : P.underlying t = some (.slice e)) (hu : P.underlying u = some .string) (hi : P.info? e = some i) (hz : i.zero = some (.int .u8 0))
    (hsize : i.size = 1) (hby : i.bytes = 1) (v : Value) (l : List UInt8) (hs : a.eval sl = v) (hown : w.ownsRow 0 e 1 v l.length (cells8 l)) (s : ByteArray) (hx : a.eval x = .string s) (hbytes : l.length + s.size ≤ 140737488355328)
    (h : ∀ v' w', w'.ownsRow 0 e 1 v' (l ++ s.data.toList).length (cells8 (l ++ s.data.toList)) → w.grownBy w' v.ownBlock → (∀ g, v'.ownBlock = some g → v.ownBlock = some g ∨ w.heap.size ≤ g) → wpList P ops Q rest (a.put o.dst v') w') : wpList P ops Q (o :: rest) a w := by
  refine wpList_plain hgd fun K hK => ?_
  obtain ⟨v', w', hr, h2, h3, h4⟩ := append_where (P := P) w t u o.type e i ht hu hi hz hsize hby v l hown s hbytes
  unfold Oper.wp execOp
  simp only [ho, resolve, invoke, builtin, Sem.run_bind, Sem.run_pure, Result.andThen_ok, List.map_toArray, List.map_cons, List.map_nil, hs, hx, hr]
  exact hK _ _ (h v' w' h2 h3 h4)
end Go.Proofs.YtahkecdlibkokaaDoor.Dk