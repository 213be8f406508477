/- What every walk of these texts needs: texts and rows of bytes and of texts in memory. -/
import Derived.Test.YtbgankldnjeohaaProg
import Derived.WalkKit
import Derived.WalkSpells
import Derived.WalkLawsBesides
import Derived.Deep.Light
import Derived.OwnWalk
import Derived.Deep.DeepMust
import Derived.WalkSmall
import Derived.Laws.OwnMore
import Derived.Laws.BitsAllLaws
import Derived.Deep.QuietTactic
import Derived.BigQuiet
import Derived.Laws.AppendOwnNone
import Derived.Lib.ConvBytes
set_option linter.unusedVariables false
namespace Go.Proofs.Ytbgankldnjeohaa
open Go.RowKit

theorem infoS : (Try.prog.info? 9).map (fun i => (i.zero, i.size, i.bytes)) = some (some (.string ⟨#[]⟩), 1, 16) := by kernel_rfl
theorem infoB : (Try.prog.info? 5).map (fun i => (i.zero, i.size, i.bytes)) = some (some (.int .u8 0), 1, 1) := by kernel_rfl
/-- A text as a value; bytes as values. -/
def strV (l : List UInt8) : Value := .string ⟨l.toArray⟩
def cells8 (l : List UInt8) : List Value := l.map fun b => Value.int .u8 (b.toNat : Int)
theorem strV_data (s : ByteArray) : strV s.data.toList = .string s := by unfold strV; simp
theorem strV_size (l : List UInt8) : (ByteArray.mk l.toArray).size = l.length := by show l.toArray.size = _; simp
theorem mk_data (l : List UInt8) : (ByteArray.mk l.toArray).data.toList = l := by simp
theorem data_mk (s : ByteArray) : ByteArray.mk (s.data.toList.toArray) = s := by simp
theorem size_data (s : ByteArray) : s.data.toList.length = s.size := Array.length_toList
theorem extract_data (s : ByteArray) (a b : Nat) : (s.extract a b).data.toList = (s.data.toList.drop a).take (b - a) := by
  simp [ByteArray.data_extract, Array.toList_extract, List.extract]
theorem strV_extract (s : ByteArray) (a b : Nat) : .string (s.extract a b) = strV ((s.data.toList.drop a).take (b - a)) := by
  rw [← strV_data, extract_data]
theorem one_cell (s : ByteArray) : ∀ u ∈ [Value.string s], u.oneCell' = true := by intro u hu; simp at hu; subst hu; rfl
theorem one_cell8 (n : Int) : ∀ u ∈ [Value.int .u8 n], u.oneCell' = true := by intro u hu; simp at hu; subst hu; rfl
theorem one_new (w : World) (u : Value) (t : TypeId) : ∀ (j : Nat) (x : Value), [u][j]? = some x → (w.alloc (.cells #[u] t)).cell? ((⟨w.heap.size, 0, none⟩ : Addr).add j) = some x := cell_one_new w u t
theorem below_append {w w2 w' : World} {o : Obj} {e : TypeId} {sz n : Nat} {v : Value} {xs : List Value} (hb2 : Below w.heap.size w w2)
    (hown2 : w2.ownsRow w.heap.size e sz v n xs) (hg : (w2.alloc o).grownBy w' v.ownBlock) : Below w.heap.size w w' :=
  (hb2.alloc hb2.size o).grown hg (by simp; have := hb2.size; omega) (fun k h => (hown2.lt k h).1)
theorem own_cast {w : World} {B e size n n' : Nat} {v : Value} {xs xs' : List Value} (h1 : n = n') (h2 : xs = xs') (h : w.ownsRow B e size v n xs) : w.ownsRow B e size v n' xs' := by
  subst h1; subst h2; exact h
/-- A row of bytes, made a text. -/
theorem own_string {P : Program} {w : World} {base e n : Nat} {v : Value} {l : List UInt8} (h : w.ownsRow base e 1 v n (cells8 l)) {src dst : TypeId} (hs : P.underlying src = some (.slice e)) (he : P.underlying e = some (.int .u8)) (hd : P.underlying dst = some .string) :
    (convert src dst v).run P w = .ok (strV l) w := by
  have hl : l.length = n := by have := h.1; simpa [cells8] using this
  rcases h.2 with ⟨rfl, hx⟩ | ⟨g, cap, cur, rfl, hb, hg, hnc, hcm, hcs, htake⟩
  · have : l = [] := by
      exact List.eq_nil_of_length_eq_zero (by omega)
    subst this
    exact run_convert_bytes_nil w src e hs he 0 0 dst hd
  · have hcell := h.cellAt
    have hr := run_convert_bytes_arg (P := P) w src e hs he g 0 n cap (l.map fun b => (b.toNat : Int)) (by simpa using hl) (fun i hi => by
      have h1 := hcell i (by omega)
      have : i < l.length := by rw [hl]; exact hi
      simpa [cells8, List.getD, this] using h1) dst hd
    rw [hr]
    unfold strOfNums strV
    simp [Function.comp_def]
/-- A slice of one byte that was just made, turned into a text. -/
theorem conv_one (w : World) (x : UInt8) : (convert 75 9 (.slice (some ⟨w.heap.size, 0, none⟩) 1 1)).run Try.prog (w.alloc (.cells #[.int .u8 (x.toNat : Int)] 5)) = .ok (.string ⟨#[x]⟩) (w.alloc (.cells #[.int .u8 (x.toNat : Int)] 5)) := by
  have := run_convert_bytes_arg (P := Try.prog) (w.alloc (.cells #[.int .u8 (x.toNat : Int)] 5)) 75 5 Try.underlying75 Try.underlying5 w.heap.size 0 1 1 [(x.toNat : Int)] rfl (fun i hi => by
    obtain rfl : i = 0 := by omega
    simp) 9 Try.underlying9
  rw [this]
  simp [strOfNums]

theorem own_row {w : World} {B e n : Nat} {v : Value} {xs : List Value} (h : w.ownsRow B e 1 v n xs) : ∃ ao cap, v = .slice ao n cap ∧ (n ≤ cap ∧ (ao = none → cap = 0)) ∧
    ∀ j, j < n → ∃ g, ao = some ⟨g, 0, none⟩ ∧ B ≤ g ∧ g < w.heap.size ∧ w.cell? ⟨g, j, none⟩ = xs[j]? := by
  rcases h.2 with ⟨rfl, h0⟩ | ⟨g, cap, cur, rfl, hb, hg, hnc, hcm, hcs, htake⟩
  · obtain rfl : n = 0 := by omega
    exact ⟨none, 0, rfl, ⟨Nat.le_refl _, fun _ => rfl⟩, fun j hj => by omega⟩
  · exact ⟨some ⟨g, 0, none⟩, cap, rfl, ⟨hnc, fun h => by cases h⟩, fun j hj => ⟨g, rfl, hb, (Array.getElem?_eq_some_iff.1 hg).1, h.cellAt j (by omega)⟩⟩
theorem own_below {w w' : World} {B e n : Nat} {v : Value} {xs : List Value} (h : w.ownsRow B e 1 v n xs) (hb : Below w.heap.size w w') : w'.ownsRow B e 1 v n xs := by
  refine h.kept (row := none) ⟨hb.os, hb.tape, hb.output, hb.size, fun k hk _ => hb.block k hk⟩ ?_
  cases h : v.ownBlock with
  | none => exact .inl rfl
  | some k => exact .inr (by simp)
theorem own_base {w : World} {B B' e n : Nat} {v : Value} {xs : List Value} (h : w.ownsRow B e 1 v n xs) (hB : B' ≤ B) : w.ownsRow B' e 1 v n xs := by
  refine ⟨h.1, ?_⟩
  rcases h.2 with h0 | ⟨g, cap, cur, hv, hb, rest⟩
  · exact .inl h0
  · exact .inr ⟨g, cap, cur, hv, Nat.le_trans hB hb, rest⟩

/-- A slice value that leads to the texts xs. -/
def SRow (w : World) (v : Value) (xs : List (List UInt8)) : Prop := ∃ ao cap, v = .slice ao xs.length cap ∧ (xs.length ≤ cap ∧ (ao = none → cap = 0)) ∧ ∀ j, (h : j < xs.length) → ∃ g o, ao = some ⟨g, o, none⟩ ∧ w.cell? ⟨g, o + j, none⟩ = some (strV xs[j])
theorem srow_own {w : World} {B e : Nat} {v : Value} {xs : List (List UInt8)} (h : w.ownsRow B e 1 v xs.length (xs.map strV)) : SRow w v xs := by
  obtain ⟨ao, cap, rfl, hc, hrow⟩ := own_row h
  refine ⟨ao, cap, rfl, hc, fun j hj => ?_⟩
  obtain ⟨g, h1, _, _, h4⟩ := hrow j hj
  exact ⟨g, 0, h1, by rw [Nat.zero_add, h4]; simp [hj]⟩
theorem srow_below {w w' : World} {v : Value} {xs : List (List UInt8)} (h : SRow w v xs) (hb : Below w.heap.size w w') : SRow w' v xs := by
  obtain ⟨ao, cap, rfl, hc, hrow⟩ := h
  refine ⟨ao, cap, rfl, hc, fun j hj => ?_⟩
  obtain ⟨g, o, h1, h2⟩ := hrow j hj
  exact ⟨g, o, h1, by rw [hb.cell (p := ⟨g, o + j, none⟩) (block_lt_of_cell h2)]; exact h2⟩
end Go.Proofs.Ytbgankldnjeohaa
