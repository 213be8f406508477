/- The walks of the document's disk: Copy, Crash. -/
import Derived.Test.YtahkecdlibkokaaDoorDkRefActW
set_option linter.unusedVariables false
set_option maxRecDepth 100000
namespace Go.Proofs.YtahkecdlibkokaaDoor.Dk
open Go.RowKit
open DiskMath

theorem rdisk_laid (w : World) (d : DS) : RDisk (w.alloc (.cells #[.string ⟨(d.F 0).toArray⟩, .int .i64 (d.S 0 : Int), .string ⟨(d.F 1).toArray⟩, .int .i64 (d.S 1 : Int), .string ⟨(d.F 2).toArray⟩, .int .i64 (d.S 2 : Int), .string ⟨(d.F 3).toArray⟩, .int .i64 (d.S 3 : Int), .int .i64 (d.R : Int)] 86)) w.heap.size d := by
  refine ⟨by simp, fun i hi => ?_, fun i hi => ?_, by simp, fun j => ?_⟩
  · rcases (show i = 0 ∨ i = 1 ∨ i = 2 ∨ i = 3 by omega) with rfl | rfl | rfl | rfl <;> simp [strV]
  · rcases (show i = 0 ∨ i = 1 ∨ i = 2 ∨ i = 3 by omega) with rfl | rfl | rfl | rfl <;> simp
  · rw [World.frozen?, heap_alloc_new w _]
    simp
set_option maxRecDepth 100000 in
set_option maxHeartbeats 2000000 in
theorem refCrash_any (w : World) (b : Nat) (d : DS) (n : Int) (h : RDisk w b d) (hk : Ok d) (hn : -9223372036854775808 ≤ n ∧ n ≤ 9223372036854775807) :
    Calls Tryd.prog 39 #[.pointer (some ⟨b, 0, none⟩), .int .i64 n] w fun e w' => e = .returned (.tuple #[]) ∧ ROk w b (crash d n.toNat) w' := by
  have HR : Hid (ROk w b d w) := ROk.self h
  have HCS : Hid (∀ k, k ≤ 4 → Ok (crs d n.toNat k).1) := fun k hk4 => ok_crs d _ hk k hk4
  have HLF : Hid (∀ k, (crs d n.toNat k).2 ≤ n.toNat) := crs_left d _
  have HNX : Hid (∀ k, crs d n.toNat (k + 1) = (cr (crs d n.toNat k).1 k (crs d n.toNat k).2, (crs d n.toNat k).2 - stay (crs d n.toNat k).1 k (crs d n.toNat k).2)) := fun k => rfl
  have HN : Hid (n.toNat ≤ 9223372036854775807) := by show _ ≤ _; omega
  clear h hk
  go_enter Tryd.func39, Tryd.ntmps39
  go_wp2_with fail
  all_goals (
    go_loopw [4, 5] (fun l i wr => ∃ k : Nat, k ≤ 4 ∧ l = .int .i64 ((crs d n.toNat k).2 : Int) ∧ i = .int .i64 (k : Int) ∧ Hid (ROk w b (crs d n.toNat k).1 wr)) (fun _ i _ => 4 - (intOf i).toNat)
    case atStart =>
      refine ⟨0, Nat.zero_le _, ?_, rfl, HR⟩
      show Value.int .i64 _ = .int .i64 ((n.toNat : Nat) : Int)
      congr 1
      omega
    case round =>
      obtain ⟨k, hk4, rfl, rfl, HI⟩ := hrel
      by_cases hlt : k < 4
      · have hok := HCS.out k hk4
        have hlf := HLF.out k
        have hn1 := HNX.out k
        have hnn := HN.out
        generalize hdk : (crs d n.toNat k).1 = dk at *
        generalize hle : (crs d n.toNat k).2 = lf at *
        have HNK : Hid (crs d n.toNat (k + 1) = (cr dk k lf, lf - stay dk k lf)) := hn1
        have h1 := HI.out.1.bytes k hlt
        have h2 := HI.out.1.safe k hlt
        have h3 := HI.out.1.free (k * 2)
        have h4 := HI.out.1.free (k * 2 + 1)
        have h5 := HI.out.1.lt
        have hsf := hok.safe k hlt
        have hfl := file_le dk k hlt
        have hrm := hok.room
        have hmo := hok.most
        have hz := strV_size (dk.F k)
        have j4 : (k : Int) < 4 := by omega
        unfold strV at h1
        clear hok hdk hle hn1 HCS HLF HNX HN
        have hbl : (dk.F k).length ≤ 1048576 := by omega
        have hbn : lf ≤ 9223372036854775807 := by omega
        clear hfl hrm hmo hlf hnn
        have HCR : Hid (∀ N o, N = dk.S k + stay dk k lf → ROk w b (cr dk k lf) ((((wr.setCell ⟨b, k * 2, none⟩ (.string ((ByteArray.mk (dk.F k).toArray).extract 0 N))).setCell ⟨b, k * 2 + 1, none⟩ (.int .i64 (N : Int))).alloc o).drew)) := fun N o e => by
          rw [← str_take, e]
          exact (((HI.out.bytes k hlt _).safe k _ hlt).below ((Below.refl _ _).alloc (Nat.le_refl _) o)).drew1
        have HST : Hid (stay dk k lf = min lf ((ByteArray.mk (dk.F k).toArray).size - dk.S k)) := by rw [hz]; rfl
        rw [← hz] at hsf hbl
        generalize ByteArray.mk (dk.F k).toArray = y at *
        generalize dk.S k = S0 at *
        clear hz
        by_cases hm : lf ≤ y.size - S0
        · have q1 : (lf : Int) ≤ (y.size : Int) - (S0 : Int) := by omega
          have q2 : (S0 : Int) + (lf : Int) ≤ (y.size : Int) := by omega
          have q3 : min (S0 + lf) y.size = S0 + lf := by omega
          have HC1 : Hid (∀ o, ROk w b (cr dk k lf) ((((wr.setCell ⟨b, k * 2, none⟩ (.string (y.extract 0 (S0 + lf)))).setCell ⟨b, k * 2 + 1, none⟩ (.int .i64 ((S0 : Int) + (lf : Int)))).alloc o).drew)) := fun o => HCR.out (S0 + lf) o (by rw [HST.out]; omega)
          have HL1 : Hid (lf - stay dk k lf = 0) := by rw [HST.out]; show _ = _; omega
          clear HCR HST HI
          go_wp2_with fail
          go_region
          go_wp2
          exact ⟨⟨k + 1, by omega, by rw [HNK.out]; show _ = Value.int .i64 ((lf - stay dk k lf : Nat) : Int); rw [HL1.out]; rfl, by go_num, by rw [HNK.out]; exact HC1.out _⟩, by simp [intOf]; omega⟩
        · obtain ⟨T, hT⟩ : ∃ T, T = y.size - S0 := ⟨_, rfl⟩
          have q1 : (y.size : Int) - (S0 : Int) = (T : Int) := by omega
          have q2 : (T : Int) < (lf : Int) := by omega
          have q4 : (S0 : Int) + (T : Int) ≤ (y.size : Int) := by omega
          have q3 : min (S0 + T) y.size = S0 + T := by omega
          have HC1 : Hid (∀ o, ROk w b (cr dk k lf) ((((wr.setCell ⟨b, k * 2, none⟩ (.string (y.extract 0 (S0 + T)))).setCell ⟨b, k * 2 + 1, none⟩ (.int .i64 ((S0 : Int) + (T : Int)))).alloc o).drew)) := fun o => HCR.out (S0 + T) o (by rw [HST.out]; omega)
          have HL1 : Hid (((lf - stay dk k lf : Nat) : Int) = (lf : Int) - (T : Int)) := by rw [HST.out]; show _ = _; omega
          clear hT hm HCR HST HI
          go_wp2_with fail
          go_region
          go_wp2
          exact ⟨⟨k + 1, by omega, by rw [HNK.out]; show _ = Value.int .i64 ((lf - stay dk k lf : Nat) : Int); rw [HL1.out], by go_num, by rw [HNK.out]; exact HC1.out _⟩, by simp [intOf]; omega⟩
      · obtain rfl : k = 4 := by omega
        have HIE : Hid (ROk w b (crash d n.toNat) wr) := HI
        clear HI
        go_wp2
        go_end0
        exact ⟨rfl, HIE.out⟩)
end Go.Proofs.YtahkecdlibkokaaDoor.Dk