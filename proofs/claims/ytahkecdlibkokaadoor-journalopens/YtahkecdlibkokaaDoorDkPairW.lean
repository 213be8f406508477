/- Both disks of a pair, behind a call on each. -/
import Derived.Test.YtahkecdlibkokaaDoorDkActW
import Derived.Test.YtahkecdlibkokaaDoorDkRefCrashW
set_option linter.unusedVariables false
set_option maxRecDepth 100000
namespace Go.Proofs.YtahkecdlibkokaaDoor.Dk
open Go.RowKit
open DiskMath

theorem refAppend_all {w : World} {b : Nat} {d : DS} (f : Int) (s : ByteArray) (hs : s.size ≤ 140737488355328) (h : RDisk w b d) (hk : Ok d) :
    Calls Tryd.prog 42 #[.pointer (some ⟨b, 0, none⟩), .int .i64 f, .string s] w fun e w' => e = .returned (.int .i64 (aApp d f s.data.toList).2) ∧ ROk w b (aApp d f s.data.toList).1 w' := by
  unfold aApp
  rw [size_data]
  by_cases h1 : bad f
  · rw [if_pos h1]
    exact (refAppend_bad _ f s h1 w).mono fun e w' ⟨k1, k2⟩ => ⟨k1, by rw [k2]; exact ROk.self h⟩
  · rw [if_neg h1]
    unfold bad at h1
    obtain ⟨i, rfl⟩ := Int.eq_ofNat_of_zero_le (show 0 ≤ f by omega)
    rw [show ((i : Int)).toNat = i from rfl]
    by_cases h2 : d.R < used d + s.size
    · rw [if_pos h2]
      exact refAppend_full w b d i s (by omega) h hk hs h2
    · rw [if_neg h2]
      exact refAppend_any w b d i s (by omega) h hk (by omega)
theorem refSync_all {w : World} {b : Nat} {d : DS} (f : Int) (h : RDisk w b d) :
    Calls Tryd.prog 43 #[.pointer (some ⟨b, 0, none⟩), .int .i64 f] w fun e w' => e = .returned (.int .i64 (aSyn d f).2) ∧ ROk w b (aSyn d f).1 w' := by
  unfold aSyn
  by_cases h1 : bad f
  · rw [if_pos h1]
    exact (refSync_bad _ f h1 w).mono fun e w' ⟨k1, k2⟩ => ⟨k1, by rw [k2]; exact ROk.self h⟩
  · rw [if_neg h1]
    unfold bad at h1
    obtain ⟨i, rfl⟩ := Int.eq_ofNat_of_zero_le (show 0 ≤ f by omega)
    exact refSync_any w b d i (by omega) h
theorem refCut_all {w : World} {b : Nat} {d : DS} (f n : Int) (h : RDisk w b d) (hk : Ok d) :
    Calls Tryd.prog 56 #[.pointer (some ⟨b, 0, none⟩), .int .i64 f, .int .i64 n] w fun e w' => e = .returned (.int .i64 (aCut d f n).2) ∧ ROk w b (aCut d f n).1 w' := by
  unfold aCut
  by_cases h1 : bad f
  · rw [if_pos h1]
    exact (refCut_bad _ f n h1 w).mono fun e w' ⟨k1, k2⟩ => ⟨k1, by rw [k2]; exact ROk.self h⟩
  · rw [if_neg h1]
    unfold bad at h1
    obtain ⟨i, rfl⟩ := Int.eq_ofNat_of_zero_le (show 0 ≤ f by omega)
    rw [show ((i : Int)).toNat = i from rfl]
    by_cases h2 : n < 0 ∨ ((d.F i).length : Int) < n
    · rw [if_pos h2]
      exact refCut_arg w b d i n (by omega) h h2
    · rw [if_neg h2]
      obtain ⟨m, rfl⟩ := Int.eq_ofNat_of_zero_le (show 0 ≤ n by omega)
      have h3 := file_le d i (by omega)
      have h4 := hk.room
      have h5 := hk.most
      exact refCut_any w b d i m (by omega) h (by omega) (by omega)

/-- A pair behind calls on it: the program's disk is d, the document's e; nothing else changed. -/
def Two (w : World) (bx br : Nat) (V : Nat → Value) (d e : DS) (w' : World) : Prop :=
  ∃ V', PDisk w' bx V' d ∧ RDisk w' br e ∧ Chg (fun k => fp bx V k ∨ k = br) w w' ∧ ∀ k, fp bx V' k → fp bx V k ∨ w.heap.size ≤ k
theorem two_self {w : World} {bx br : Nat} {V : Nat → Value} {d e : DS} (h1 : PDisk w bx V d) (h2 : RDisk w br e) : Two w bx br V d e w := ⟨V, h1, h2, Chg.refl _ _, fun k hk => Or.inl hk⟩
theorem two_below {w w1 w2 : World} {bx br : Nat} {V : Nat → Value} {d e : DS} (h : Two w bx br V d e w1) (hb : Below w1.heap.size w1 w2) : Two w bx br V d e w2 := by
  obtain ⟨V', h1, h2, h3, h4⟩ := h
  exact ⟨V', pdisk_below h1 hb, rdisk_below h2 hb, h3.trans (chg_below (S := fun _ => False) hb) (fun _ _ h => h.elim), h4⟩
/-- The program's disk alone was called. -/
theorem two_prog {w w1 w2 : World} {bx br : Nat} {V : Nat → Value} {d' e : DS} (hbr : ¬ fp bx V br) (hlt : br < w.heap.size) (V' : Nat → Value) (h2 : RDisk w1 br e) (h3 : Chg (fun k => fp bx V k ∨ k = br) w w1) (h4 : ∀ k, fp bx V' k → fp bx V k ∨ w.heap.size ≤ k) (hs : DIn (fun k => ¬ fp bx V' k) w1 bx d' w2) : Two w bx br V d' e w2 := by
  obtain ⟨V2, k1, k2, k3⟩ := hs
  have hb2 : ¬ fp bx V' br := fun hk => by
    rcases h4 br hk with h | h
    · exact hbr h
    · omega
  have k4 : Chg (fp bx V') w1 w2 := k3.mono (fun k _ hk => Classical.not_not.1 hk)
  refine ⟨V2, k1, rdisk_chg h2 k4 hb2, h3.trans k4 (fun k hk hf => ?_), fun k hk => ?_⟩
  · rcases h4 k hf with h | h
    · exact Or.inl h
    · omega
  · by_cases hlt1 : k < w1.heap.size
    · exact h4 k (Classical.not_not.1 (k2 k hk hlt1))
    · right
      have := h3.size
      omega
/-- The document's alone was called. -/
theorem two_ref {w w1 w2 : World} {bx br : Nat} {V : Nat → Value} {d e e' : DS} (hbr : ¬ fp bx V br) (hlt : br < w.heap.size) (h : Two w bx br V d e w1) (hs : ROk w1 br e' w2) : Two w bx br V d e' w2 := by
  obtain ⟨V', h1, h2, h3, h4⟩ := h
  refine ⟨V', pdisk_chg h1 hs.2 (fun k hk e => ?_), hs.1, h3.trans hs.2 (fun k _ hk => Or.inr hk), h4⟩
  subst e
  rcases h4 k hk with h | h
  · exact hbr h
  · omega
theorem two_rdisk {w w1 : World} {bx br : Nat} {V : Nat → Value} {d e : DS} (h : Two w bx br V d e w1) : RDisk w1 br e := h.choose_spec.2.1
/-- The calls on one of a pair. -/
theorem two_append {w w1 : World} {bx br : Nat} {V : Nat → Value} {d e : DS} (hbr : ¬ fp bx V br) (hlt : br < w.heap.size) (f : Int) (s : ByteArray) (hs : s.size ≤ 140737488355328) (hk : Ok d) (h : Two w bx br V d e w1) :
    Calls Tryd.prog 40 #[.pointer (some ⟨bx, 0, none⟩), .int .i64 f, .string s] w1 fun en w' => en = .returned (.int .i64 (aApp d f s.data.toList).2) ∧ Two w bx br V (aApp d f s.data.toList).1 e w' := by
  obtain ⟨V', h1, h2, h3, h4⟩ := h
  refine (append_all (T := fun k => ¬ fp bx V' k) (w := w1) f s hs ⟨V', h1, fun k hk _ hn => hn hk, Chg.refl _ _⟩ hk).mono ?_
  rintro en w' ⟨k1, k2⟩
  exact ⟨k1, two_prog hbr hlt V' h2 h3 h4 k2⟩
theorem two_sync {w w1 : World} {bx br : Nat} {V : Nat → Value} {d e : DS} (hbr : ¬ fp bx V br) (hlt : br < w.heap.size) (f : Int) (h : Two w bx br V d e w1) :
    Calls Tryd.prog 41 #[.pointer (some ⟨bx, 0, none⟩), .int .i64 f] w1 fun en w' => en = .returned (.int .i64 (aSyn d f).2) ∧ Two w bx br V (aSyn d f).1 e w' := by
  obtain ⟨V', h1, h2, h3, h4⟩ := h
  refine (sync_all (T := fun k => ¬ fp bx V' k) (w := w1) f ⟨V', h1, fun k hk _ hn => hn hk, Chg.refl _ _⟩).mono ?_
  rintro en w' ⟨k1, k2⟩
  exact ⟨k1, two_prog hbr hlt V' h2 h3 h4 k2⟩
theorem two_cut {w w1 : World} {bx br : Nat} {V : Nat → Value} {d e : DS} (hbr : ¬ fp bx V br) (hlt : br < w.heap.size) (f n : Int) (hk : Ok d) (h : Two w bx br V d e w1) :
    Calls Tryd.prog 48 #[.pointer (some ⟨bx, 0, none⟩), .int .i64 f, .int .i64 n] w1 fun en w' => en = .returned (.int .i64 (aCut d f n).2) ∧ Two w bx br V (aCut d f n).1 e w' := by
  obtain ⟨V', h1, h2, h3, h4⟩ := h
  refine (cut_all (T := fun k => ¬ fp bx V' k) (w := w1) f n ⟨V', h1, fun k hk _ hn => hn hk, Chg.refl _ _⟩ hk).mono ?_
  rintro en w' ⟨k1, k2⟩
  exact ⟨k1, two_prog hbr hlt V' h2 h3 h4 k2⟩
theorem two_crash {w w1 : World} {bx br : Nat} {V : Nat → Value} {d e : DS} (hbr : ¬ fp bx V br) (hlt : br < w.heap.size) (n : Int) (hn : -9223372036854775808 ≤ n ∧ n ≤ 9223372036854775807) (hk : Ok d) (h : Two w bx br V d e w1) :
    Calls Tryd.prog 22 #[.pointer (some ⟨bx, 0, none⟩), .int .i64 n] w1 fun en w' => en = .returned (.tuple #[]) ∧ Two w bx br V (crash d n.toNat) e w' := by
  obtain ⟨V', h1, h2, h3, h4⟩ := h
  refine (crash_all (T := fun k => ¬ fp bx V' k) (w := w1) n hn ⟨V', h1, fun k hk _ hn => hn hk, Chg.refl _ _⟩ hk).mono ?_
  rintro en w' ⟨k1, k2⟩
  exact ⟨k1, two_prog hbr hlt V' h2 h3 h4 k2⟩
end Go.Proofs.YtahkecdlibkokaaDoor.Dk