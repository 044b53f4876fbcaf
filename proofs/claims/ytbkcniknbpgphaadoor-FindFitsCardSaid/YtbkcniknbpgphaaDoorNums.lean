/- What the program's small functions on a slot answer: its numbers; nothing that was there changes. No condition. -/
import Derived.Test.YtbkcniknbpgphaaDoorKit
namespace Go.Proofs.YtbkcniknbpgphaaDoor
open Go.RowKit
attribute [local go_sem ↓] Go.wp_at_zero Go.wp_at_succ

/-- a slot -/
structure Sl where
  st : Int
  ow : Int
  sr : Int
  br : Bool
  ma : Bool
  us : Int
  ge : Int
  ep : Int
  ve : Int
deriving DecidableEq
def b2i (b : Bool) : Int := if b then 1 else 0

theorem bit_any (b : Bool) (w : World) :
    Calls Tryd.prog 80 #[.bool b] w fun e w' => e = .returned (.int .i64 (b2i b)) ∧ w = w' := by
  go_enter Tryd.func80, Tryd.ntmps80
  cases b
  all_goals go_wp2
  all_goals go_ret
  all_goals exact ⟨rfl, rfl⟩
theorem from0_any (n m : Int) (w : World) :
    Calls Tryd.prog 76 #[.int .i64 n, .int .i64 m] w fun e w' => e = .returned (.bool (decide (0 ≤ n) && decide (n ≤ m))) ∧ w = w' := by
  go_enter Tryd.func76, Tryd.ntmps76
  go_wp2
  all_goals go_ret
  all_goals exact ⟨ret_bool (by simp [*]; try omega), rfl⟩

set_option maxRecDepth 100000 in
set_option maxHeartbeats 800000 in
theorem numbers_any (s : Sl) (w : World) :
    Calls Tryd.prog 78 #[Value.agg #[Value.int .i64 s.st, Value.int .i64 s.ow, Value.int .i64 s.sr, Value.bool s.br, Value.bool s.ma, Value.int .i64 s.us, Value.int .i64 s.ge, Value.int .i64 s.ep, Value.int .i64 s.ve]] w fun e w' => e = .returned (.agg #[Value.int .i64 s.st, Value.int .i64 s.ow, Value.int .i64 s.sr, Value.int .i64 (b2i s.br), Value.int .i64 (b2i s.ma), Value.int .i64 s.us, Value.int .i64 s.ge, Value.int .i64 s.ep, Value.int .i64 s.ve]) ∧ Below w.heap.size w w' := by
  go_enter Tryd.func78, Tryd.ntmps78
  go_wp2_with fail
  have r0 := (RowAt.new w 23 #[Value.int .i64 s.st, Value.int .i64 s.ow, Value.int .i64 s.sr, Value.bool s.br, Value.bool s.ma, Value.int .i64 s.us, Value.int .i64 s.ge, Value.int .i64 s.ep, Value.int .i64 s.ve]).alloc (.cells #[Value.int .i64 0, Value.int .i64 0, Value.int .i64 0, Value.int .i64 0, Value.int .i64 0, Value.int .i64 0, Value.int .i64 0, Value.int .i64 0, Value.int .i64 0] 105)
  have r1 := RowAt.new (w.alloc (.cells #[Value.int .i64 s.st, Value.int .i64 s.ow, Value.int .i64 s.sr, Value.bool s.br, Value.bool s.ma, Value.int .i64 s.us, Value.int .i64 s.ge, Value.int .i64 s.ep, Value.int .i64 s.ve] 23)) 105 #[Value.int .i64 0, Value.int .i64 0, Value.int .i64 0, Value.int .i64 0, Value.int .i64 0, Value.int .i64 0, Value.int .i64 0, Value.int .i64 0, Value.int .i64 0]
  have hB : Below w.heap.size w ((w.alloc (.cells #[Value.int .i64 s.st, Value.int .i64 s.ow, Value.int .i64 s.sr, Value.bool s.br, Value.bool s.ma, Value.int .i64 s.us, Value.int .i64 s.ge, Value.int .i64 s.ep, Value.int .i64 s.ve] 23)).alloc (.cells #[Value.int .i64 0, Value.int .i64 0, Value.int .i64 0, Value.int .i64 0, Value.int .i64 0, Value.int .i64 0, Value.int .i64 0, Value.int .i64 0, Value.int .i64 0] 105)) := ((Below.refl _ _).alloc (Nat.le_refl _) _).alloc (by simp) _
  simp only [World.size_alloc] at r1
  obtain ⟨W, hW⟩ : ∃ W, W = (w.alloc (.cells #[Value.int .i64 s.st, Value.int .i64 s.ow, Value.int .i64 s.sr, Value.bool s.br, Value.bool s.ma, Value.int .i64 s.us, Value.int .i64 s.ge, Value.int .i64 s.ep, Value.int .i64 s.ve] 23)).alloc (.cells #[Value.int .i64 0, Value.int .i64 0, Value.int .i64 0, Value.int .i64 0, Value.int .i64 0, Value.int .i64 0, Value.int .i64 0, Value.int .i64 0, Value.int .i64 0] 105) := ⟨_, rfl⟩
  rw [← hW] at r0 r1 hB ⊢
  clear hW
  have hone : ∀ v ∈ [Value.int .i64 s.st, Value.int .i64 s.ow, Value.int .i64 s.sr, Value.int .i64 (b2i s.br), Value.int .i64 (b2i s.ma), Value.int .i64 s.us, Value.int .i64 s.ge, Value.int .i64 s.ep, Value.int .i64 s.ve], v.oneCell' = true := by simp [Value.oneCell']
  have hth : W.drew.there (w.heap.size + 1) 0 [Value.int .i64 s.st, Value.int .i64 s.ow, Value.int .i64 s.sr, Value.int .i64 (b2i s.br), Value.int .i64 (b2i s.ma), Value.int .i64 s.us, Value.int .i64 s.ge, Value.int .i64 s.ep, Value.int .i64 s.ve].length := r1.drew.there
  have hin : Option.map (fun x => x.size) (Tryd.prog.info? 105) = some [Value.int .i64 s.st, Value.int .i64 s.ow, Value.int .i64 s.sr, Value.int .i64 (b2i s.br), Value.int .i64 (b2i s.ma), Value.int .i64 s.us, Value.int .i64 s.ge, Value.int .i64 s.ep, Value.int .i64 s.ve].length := by kernel_rfl
  have k0 : W.drew.cell? ⟨w.heap.size, 0, none⟩ = some (Value.int .i64 s.st) := r0.drew.cell 0 rfl
  have k1 : W.drew.cell? ⟨w.heap.size, 1, none⟩ = some (Value.int .i64 s.ow) := r0.drew.cell 1 rfl
  have k2 : W.drew.cell? ⟨w.heap.size, 2, none⟩ = some (Value.int .i64 s.sr) := r0.drew.cell 2 rfl
  have k3 : W.drew.cell? ⟨w.heap.size, 3, none⟩ = some (Value.bool s.br) := r0.drew.cell 3 rfl
  have k4 : W.drew.cell? ⟨w.heap.size, 4, none⟩ = some (Value.bool s.ma) := r0.drew.cell 4 rfl
  have k5 : W.drew.cell? ⟨w.heap.size, 5, none⟩ = some (Value.int .i64 s.us) := r0.drew.cell 5 rfl
  have k6 : W.drew.cell? ⟨w.heap.size, 6, none⟩ = some (Value.int .i64 s.ge) := r0.drew.cell 6 rfl
  have k7 : W.drew.cell? ⟨w.heap.size, 7, none⟩ = some (Value.int .i64 s.ep) := r0.drew.cell 7 rfl
  have k8 : W.drew.cell? ⟨w.heap.size, 8, none⟩ = some (Value.int .i64 s.ve) := r0.drew.cell 8 rfl
  have hne : w.heap.size ≠ w.heap.size + 1 := by omega
  go_region_held3 (fun w' => w'.cell? ⟨w.heap.size, 0, none⟩ = some (Value.int .i64 s.st) ∧ w'.cell? ⟨w.heap.size, 1, none⟩ = some (Value.int .i64 s.ow) ∧ w'.cell? ⟨w.heap.size, 2, none⟩ = some (Value.int .i64 s.sr) ∧ w'.cell? ⟨w.heap.size, 3, none⟩ = some (Value.bool s.br) ∧ w'.cell? ⟨w.heap.size, 4, none⟩ = some (Value.bool s.ma) ∧ w'.cell? ⟨w.heap.size, 5, none⟩ = some (Value.int .i64 s.us) ∧ w'.cell? ⟨w.heap.size, 6, none⟩ = some (Value.int .i64 s.ge) ∧ w'.cell? ⟨w.heap.size, 7, none⟩ = some (Value.int .i64 s.ep) ∧ w'.cell? ⟨w.heap.size, 8, none⟩ = some (Value.int .i64 s.ve)) (first | go_keep | (simp only [cell_setCells hne]; exact ⟨k0, k1, k2, k3, k4, k5, k6, k7, k8⟩))
    (first | (go_at_call 80; refine (bit_any _ _).mono ?_; rintro e w' ⟨rfl, rfl⟩))
  have hs := setCells_row (P := Tryd.prog) (ty := 105) r1.drew #[Value.int .i64 s.st, Value.int .i64 s.ow, Value.int .i64 s.sr, Value.int .i64 (b2i s.br), Value.int .i64 (b2i s.ma), Value.int .i64 s.us, Value.int .i64 s.ge, Value.int .i64 s.ep, Value.int .i64 s.ve] hin rfl (by simp [Value.oneCell'])
  rw [hs]
  have r2 := r1.drew.set #[Value.int .i64 s.st, Value.int .i64 s.ow, Value.int .i64 s.sr, Value.int .i64 (b2i s.br), Value.int .i64 (b2i s.ma), Value.int .i64 s.us, Value.int .i64 s.ge, Value.int .i64 s.ep, Value.int .i64 s.ve]
  go_wp2
  refine bodyPost_ret (results_cell_row (p := 2) (ty := 105) rfl _ _ (w.heap.size + 1) 105 _ (0, 0) _ rfl r2 Tryd.underlying105 rfl (by kernel_rfl)) rfl ⟨rfl, below_setRow hB.drew (by omega) _⟩
end Go.Proofs.YtbkcniknbpgphaaDoor
