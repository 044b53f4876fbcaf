/- A part of words, cut with three indices. -/
import Derived.Test.YtfnpleicbpbiaaaDoorAcc
import Derived.Test.YtfnpleicbpbiaaaDoorLst
namespace Go.Proofs.YtfnpleicbpbiaaaDoor
open Go.RowKit
attribute [local go_sem ↓] Go.wp_at_zero Go.wp_at_succ

set_option maxRecDepth 100000 in
set_option maxHeartbeats 2000000 in
theorem cut_any (b off n c f m : Nat) (w : World) (h1 : f ≤ 1000) (h2 : m ≤ 1000) (h0 : 1 ≤ m) (h3 : f + m ≤ n) (h4 : n ≤ c) :
    Calls Tryd.prog 34 #[.agg #[.int .i64 f, .int .i64 m], .slice (some ⟨b, off, none⟩) n c] w fun e w' => e = .returned (.slice (some ⟨b, off + f, none⟩) m m) ∧ Below w.heap.size w w' := by
  have hB : Below w.heap.size w (w.alloc (.cells #[.int .i64 f, .int .i64 m] 49)) := (Below.refl _ _).alloc (Nat.le_refl _) _
  have r0 := RowAt.new w 49 #[.int .i64 f, .int .i64 m]
  have hs : ∀ W : World, (Instr.slice 33 (.slice (some ⟨b, off, none⟩) n c) (some (.int .i64 f)) (some (.int .i64 ((f : Int) + (m : Int)))) (some (.int .i64 ((f : Int) + (m : Int))))).run Tryd.prog W = .ok (.slice (some ⟨b, off + f, none⟩) m m) W := fun W => by
    have hu : Tryd.prog.underlying 33 = some (.slice (Tryd.prog.elem 33)) := by kernel_rfl
    have e3 : Tryd.prog.elem 33 = 3 := by kernel_rfl
    obtain ⟨i0, hi, hz0, hz1, hz2⟩ := info_parts infoI2
    have e1 : ((f : Int) + (m : Int)).toNat = f + m := by omega
    have e2 : ¬ m = 0 := by omega
    rw [run_slice_lhm W 33 (some ⟨b, off, none⟩) n c hu .i64 .i64 .i64 _ _ _ (by omega) (by omega) (by omega) (by omega), e3]
    simp [sizeOf, typeInfo, hi, hz1, Result.andThen, sliced, e1, e2, Addr.add]
  have hs2 : ∀ W : World, (Instr.sliceAt 33 (.slice (some ⟨b, off, none⟩) n c) (some (.int .i64 f)) (some (.int .i64 ((f : Int) + (m : Int)))) (some (.int .i64 ((f : Int) + (m : Int))))).run Tryd.prog W = .ok (.slice (some ⟨b, off + f, none⟩) m m) W := fun W => by
    rw [run_sliceAt_slice W 33 _ _ _ _ (by kernel_rfl)]
    exact hs W
  go_enter Tryd.func34, Tryd.ntmps34
  go_wp2_with fail
  obtain ⟨W, hW⟩ : ∃ W, W = w.alloc (.cells #[.int .i64 f, .int .i64 m] 49) := ⟨_, rfl⟩
  obtain ⟨B1, e1⟩ : ∃ B1, B1 = w.heap.size := ⟨_, rfl⟩
  rw [← hW, ← e1] at r0
  rw [← hW] at hB ⊢
  rw [← e1]
  clear hW e1
  replace r0 := r0.drew
  replace hB := hB.drew
  have k0 : W.drew.cell? ⟨B1, 0, none⟩ = some (.int .i64 f) := r0.cell 0 rfl
  have k1 : W.drew.cell? ⟨B1, 1, none⟩ = some (.int .i64 m) := r0.cell 1 rfl
  go_region_held3 (fun w' => w'.cell? ⟨B1, 0, none⟩ = some (.int .i64 f) ∧ w'.cell? ⟨B1, 1, none⟩ = some (.int .i64 m)) (go_keep)
    (first | (go_at_call 31; refine (behind_any f m _ (by omega) (by omega)).mono ?_; rintro e w1 ⟨rfl, hb⟩; replace r0 := r0.below hb r0.lt; replace hB := hB.trans (hb.mono hB.size); clear hb; have k0 := r0.cell 0 rfl; have k1 := r0.cell 1 rfl))
  go_wp2
  go_ret
  exact ⟨rfl, hB⟩
end Go.Proofs.YtfnpleicbpbiaaaDoor
