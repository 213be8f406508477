/- A pool in memory, the program's or the document's; lists of texts; the walks of the row's methods. -/
import Derived.Test.YtlhbkbjpdpofnaaRes
set_option linter.unusedVariables false
set_option maxRecDepth 100000
namespace Go.Proofs.Ytlhbkbjpdpofnaa
open Go.RowKit

abbrev Txt := ByteArray
def sv (l : List Txt) : List Value := l.map .string
theorem sv_len (l : List Txt) : (sv l).length = l.length := by simp [sv]
theorem sv_at (l : List Txt) (j : Nat) (h : j < l.length) : (sv l)[j]? = some (.string l[j]) := by simp [sv, h]
theorem sv_append (l m : List Txt) : sv (l ++ m) = sv l ++ sv m := by simp [sv]
theorem sv_one (l : List Txt) : ∀ u ∈ sv l, u.oneCell' = true := by
  intro u hu
  obtain ⟨x, _, rfl⟩ := List.mem_map.1 hu
  rfl
theorem one_str (s : Txt) : ∀ u ∈ [Value.string s], u.oneCell' = true := by intro u hu; simp at hu; subst hu; rfl
theorem infoS : (Try.prog.info? 9).map (fun i => (i.zero, i.size, i.bytes)) = some (some (.string ⟨#[]⟩), 1, 16) := by kernel_rfl

/-- A slice value that leads to the texts xs. -/
def SRow (w : World) (v : Value) (xs : List Txt) : Prop := ∃ ao cap, v = .slice ao xs.length cap ∧ xs.length ≤ cap ∧ (ao = none → cap = 0) ∧ ∀ j, (h : j < xs.length) → ∃ g o, ao = some ⟨g, o, none⟩ ∧ g < w.heap.size ∧ w.cell? ⟨g, o + j, none⟩ = some (.string xs[j])
theorem srow_own {w : World} {B e : Nat} {v : Value} {xs : List Txt} (h : w.ownsRow B e 1 v xs.length (sv xs)) : SRow w v xs := by
  obtain ⟨ao, cap, rfl, h1, h2, h3⟩ := own_form h
  refine ⟨ao, cap, rfl, h1, fun e => (h2 e).2, fun j hj => ?_⟩
  cases ao with
  | none => have := (h2 rfl).1; omega
  | some p =>
    obtain ⟨g, rfl, _, k2, k3, _, _⟩ := h3 p rfl
    exact ⟨g, 0, rfl, k2, by rw [Nat.zero_add, k3 _ (by omega)]; exact sv_at xs j hj⟩
theorem srow_below {B : Nat} {w w' : World} {v : Value} {xs : List Txt} (h : SRow w v xs) (hB : w.heap.size ≤ B) (hb : Below B w w') : SRow w' v xs := by
  obtain ⟨ao, cap, rfl, hc, hn, hr⟩ := h
  refine ⟨ao, cap, rfl, hc, hn, fun j hj => ?_⟩
  obtain ⟨g, o, h1, h2, h3⟩ := hr j hj
  exact ⟨g, o, h1, Nat.lt_of_lt_of_le h2 hb.size, (hb.cell (p := ⟨g, o + j, none⟩) (by simp only; omega)).trans h3⟩

/-- A row of texts of one's own. -/
def RowR (v : Value) (xs : List Txt) : Res where
  inv w F := w.ownsRow 0 9 1 v xs.length (sv xs) ∧ F = fun k => v.ownBlock = some k
  lt := by rintro w F ⟨h, rfl⟩ k hk; exact (h.lt k hk).2
  chg := by rintro w w' F S ⟨h, rfl⟩ hc hS; exact ⟨own_chg h hc (fun g hg => hS g hg), rfl⟩
/-- A pool at block b: v is where its texts lie. -/
structure PP (w : World) (b : Nat) (room : Int) (v : Value) (l : List Txt) : Prop where
  room : w.cell? ⟨b, 0, none⟩ = some (.int .i64 room)
  cell : w.cell? ⟨b, 1, none⟩ = some v
  free : w.frozen? ⟨b, 1, none⟩ = false
  row : w.ownsRow 0 9 1 v l.length (sv l)
  off : v.ownBlock ≠ some b
def fp (b : Nat) (v : Value) : Nat → Prop := fun k => k = b ∨ v.ownBlock = some k
theorem PP.lt {w : World} {b : Nat} {room : Int} {v : Value} {l : List Txt} (h : PP w b room v l) : b < w.heap.size := block_lt_of_cell h.cell
theorem fp_lt {w : World} {b : Nat} {room : Int} {v : Value} {l : List Txt} (h : PP w b room v l) : ∀ k, fp b v k → k < w.heap.size := by
  rintro k (rfl | hk)
  · exact h.lt
  · exact (h.row.lt k hk).2
theorem pp_chg {S : Nat → Prop} {w w' : World} {b : Nat} {room : Int} {v : Value} {l : List Txt} (h : PP w b room v l) (hc : Chg S w w') (hS : ∀ k, fp b v k → ¬ S k) : PP w' b room v l := by
  have hb : w'.heap[b]? = w.heap[b]? := hc.block b h.lt (hS b (Or.inl rfl))
  exact ⟨(World.cell?_of_block (w := w) (a := ⟨b, 0, none⟩) hb).trans h.room, (World.cell?_of_block (w := w) (a := ⟨b, 1, none⟩) hb).trans h.cell, (World.frozen?_of_block (w := w) (a := ⟨b, 1, none⟩) hb).trans h.free, own_chg h.row hc (fun g hg => hS g (Or.inr hg)), h.off⟩
theorem pp_below {w w' : World} {b : Nat} {room : Int} {v : Value} {l : List Txt} (h : PP w b room v l) (hb : Below w.heap.size w w') : PP w' b room v l := pp_chg (S := fun _ => False) h (chg_below hb) (fun _ _ h => h)
def PoolR (b : Nat) (room : Int) (l : List Txt) : Res where
  inv w F := ∃ v, PP w b room v l ∧ F = fp b v
  lt := by rintro w F ⟨v, h, rfl⟩ k hk; exact fp_lt h k hk
  chg := by rintro w w' F S ⟨v, h, rfl⟩ hc hS; exact ⟨v, pp_chg h hc hS, rfl⟩
/-- Behind a call that writes: the pool as it is now, and that nothing else changed. -/
def POk (w : World) (b : Nat) (room : Int) (v : Value) (l' : List Txt) (w' : World) : Prop := ∃ v', PP w' b room v' l' ∧ Chg (fp b v) w w' ∧ ∀ k, fp b v' k → fp b v k ∨ w.heap.size ≤ k
theorem POk.hold {w w' : World} {b : Nat} {room : Int} {v : Value} {l' : List Txt} (h : POk w b room v l' w') : ∃ Fn, Hold w' [PoolR b room l'] Fn ∧ Chg (fp b v) w w' ∧ ∀ k, Fn k → fp b v k ∨ w.heap.size ≤ k := by
  obtain ⟨v', h1, h2, h3⟩ := h
  exact ⟨fp b v', Hold.one ⟨v', h1, rfl⟩, h2, h3⟩
/-- A row laid into the pool anew. -/
theorem pok_set {w w2 : World} {b : Nat} {room : Int} {v : Value} {l l' : List Txt} {ao : Option Addr} {cap : Nat} (h : PP w b room v l) (hc : Chg (fun k => v.ownBlock = some k) w w2) (ho : w2.ownsRow 0 9 1 (.slice ao l'.length cap) l'.length (sv l')) (hw : ∀ g, (Value.slice ao l'.length cap).ownBlock = some g → v.ownBlock = some g ∨ w.heap.size ≤ g) :
    (w2.cell? ⟨b, 1, none⟩ = some v ∧ w2.frozen? ⟨b, 1, none⟩ = false) ∧ POk w b room v l' (w2.setCell ⟨b, 1, none⟩ (.slice ao l'.length cap)) := by
  have hl := h.lt
  have hb := hc.block b hl h.off
  have c0 : w2.cell? ⟨b, 0, none⟩ = some (.int .i64 room) := (World.cell?_of_block (w := w) (a := ⟨b, 0, none⟩) hb).trans h.room
  have c1 : w2.cell? ⟨b, 1, none⟩ = some v := (World.cell?_of_block (w := w) (a := ⟨b, 1, none⟩) hb).trans h.cell
  have f1 : w2.frozen? ⟨b, 1, none⟩ = false := (World.frozen?_of_block (w := w) (a := ⟨b, 1, none⟩) hb).trans h.free
  have hne : ∀ g, (Value.slice ao l'.length cap).ownBlock = some g → g ≠ b := fun g hg e => by
    rcases hw g hg with k | k
    · exact h.off (by rw [k, e])
    · omega
  refine ⟨⟨c1, f1⟩, _, ⟨?_, World.cell?_setCell_same _ _ _ c1, by rw [World.frozen?_setCell]; exact f1, own_chg ho (chg_set w2 ⟨b, 1, none⟩ _) hne, fun e => hne b e rfl⟩, ?_, fun k hk => ?_⟩
  · rw [World.cell?_setCell_other _ _ _ _ (by simp)]; exact c0
  · exact (hc.mono (T := fp b v) (fun k _ e => Or.inr e)).trans (chg_set w2 ⟨b, 1, none⟩ _) (fun j _ e => Or.inl e)
  · rcases hk with rfl | hk
    · exact Or.inl (Or.inl rfl)
    · rcases hw k hk with e | e
      · exact Or.inl (Or.inr e)
      · exact Or.inr e
end Go.Proofs.Ytlhbkbjpdpofnaa
