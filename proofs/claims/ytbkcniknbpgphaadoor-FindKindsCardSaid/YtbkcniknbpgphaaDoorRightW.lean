/- Whether a slot is right, and its word, as the program tells; nothing that was there changes. -/
import Derived.Test.YtbkcniknbpgphaaDoorEqS
namespace Go.Proofs.YtbkcniknbpgphaaDoor
open Go.RowKit
attribute [local go_sem ↓] Go.wp_at_zero Go.wp_at_succ

def rtB (s : Sl) : Bool := decide (rdS (wk s 9) = s)
theorem wk_lo (s : Sl) : -9223372036854775808 ≤ wk s 9 := by have := wk_bd s; omega
theorem wk_hi (s : Sl) : wk s 9 ≤ 9223372036854775807 := by have := wk_bd s; omega

set_option maxRecDepth 100000 in
set_option maxHeartbeats 800000 in
theorem right_any (s : Sl) (w : World) (hT : Tab w) :
    Calls Tryd.prog 74 #[Value.agg #[Value.int .i64 s.st, Value.int .i64 s.ow, Value.int .i64 s.sr, Value.bool s.br, Value.bool s.ma, Value.int .i64 s.us, Value.int .i64 s.ge, Value.int .i64 s.ep, Value.int .i64 s.ve]] w fun e w' => e = .returned (.bool (rtB s)) ∧ Below w.heap.size w w' := by
  have hB0 : Below w.heap.size w (w.alloc (.cells #[Value.int .i64 s.st, Value.int .i64 s.ow, Value.int .i64 s.sr, Value.bool s.br, Value.bool s.ma, Value.int .i64 s.us, Value.int .i64 s.ge, Value.int .i64 s.ep, Value.int .i64 s.ve] 23)) := (Below.refl _ _).alloc (Nat.le_refl _) _
  have r0 := RowAt.new w 23 #[Value.int .i64 s.st, Value.int .i64 s.ow, Value.int .i64 s.sr, Value.bool s.br, Value.bool s.ma, Value.int .i64 s.us, Value.int .i64 s.ge, Value.int .i64 s.ep, Value.int .i64 s.ve]
  have hT0 := hT.below hB0 hT.lt
  have heq := eq_sl (rdS (wk s 9)) s
  have hg := run_eqGuard_agg (P := Tryd.prog)
  go_enter Tryd.func74, Tryd.ntmps74
  go_wp2_with fail
  obtain ⟨B1, e1⟩ : ∃ B1, B1 = w.heap.size := ⟨_, rfl⟩
  obtain ⟨W, e3⟩ : ∃ W, W = w.alloc (.cells #[Value.int .i64 s.st, Value.int .i64 s.ow, Value.int .i64 s.sr, Value.bool s.br, Value.bool s.ma, Value.int .i64 s.us, Value.int .i64 s.ge, Value.int .i64 s.ep, Value.int .i64 s.ve] 23) := ⟨_, rfl⟩
  rw [← e3] at r0 hB0 hT0 ⊢
  rw [← e1] at r0 ⊢
  have hle : B1 ≤ W.heap.size := by have := hB0.size; omega
  have hlt := r0.lt
  have hB := hB0.drew
  clear e3 hB0
  have E1 := Lib.hid e1
  have HT := Lib.hid hT0.drew
  clear e1 hT hT0
  have k0 : W.drew.cell? ⟨B1, 0, none⟩ = some (Value.int .i64 s.st) := r0.drew.cell 0 rfl
  have k1 : W.drew.cell? ⟨B1, 1, none⟩ = some (Value.int .i64 s.ow) := r0.drew.cell 1 rfl
  have k2 : W.drew.cell? ⟨B1, 2, none⟩ = some (Value.int .i64 s.sr) := r0.drew.cell 2 rfl
  have k3 : W.drew.cell? ⟨B1, 3, none⟩ = some (Value.bool s.br) := r0.drew.cell 3 rfl
  have k4 : W.drew.cell? ⟨B1, 4, none⟩ = some (Value.bool s.ma) := r0.drew.cell 4 rfl
  have k5 : W.drew.cell? ⟨B1, 5, none⟩ = some (Value.int .i64 s.us) := r0.drew.cell 5 rfl
  have k6 : W.drew.cell? ⟨B1, 6, none⟩ = some (Value.int .i64 s.ge) := r0.drew.cell 6 rfl
  have k7 : W.drew.cell? ⟨B1, 7, none⟩ = some (Value.int .i64 s.ep) := r0.drew.cell 7 rfl
  have k8 : W.drew.cell? ⟨B1, 8, none⟩ = some (Value.int .i64 s.ve) := r0.drew.cell 8 rfl
  go_region_held3 (fun w' => w'.cell? ⟨B1, 0, none⟩ = some (Value.int .i64 s.st) ∧ w'.cell? ⟨B1, 1, none⟩ = some (Value.int .i64 s.ow) ∧ w'.cell? ⟨B1, 2, none⟩ = some (Value.int .i64 s.sr) ∧ w'.cell? ⟨B1, 3, none⟩ = some (Value.bool s.br) ∧ w'.cell? ⟨B1, 4, none⟩ = some (Value.bool s.ma) ∧ w'.cell? ⟨B1, 5, none⟩ = some (Value.int .i64 s.us) ∧ w'.cell? ⟨B1, 6, none⟩ = some (Value.int .i64 s.ge) ∧ w'.cell? ⟨B1, 7, none⟩ = some (Value.int .i64 s.ep) ∧ w'.cell? ⟨B1, 8, none⟩ = some (Value.int .i64 s.ve)) (first | exact ⟨k0, k1, k2, k3, k4, k5, k6, k7, k8⟩ | exact ⟨j0, j1, j2, j3, j4, j5, j6, j7, j8⟩ | exact ⟨i0, i1, i2, i3, i4, i5, i6, i7, i8⟩ | go_keep)
    (first
      | (go_at_call 75; refine (word_any s _ HT.out).mono ?_; rintro e w1 ⟨rfl, hb⟩; have r1 := r0.drew.below hb (by simpa using hlt)
         have j0 : w1.cell? ⟨B1, 0, none⟩ = some (Value.int .i64 s.st) := r1.cell 0 rfl
         have j1 : w1.cell? ⟨B1, 1, none⟩ = some (Value.int .i64 s.ow) := r1.cell 1 rfl
         have j2 : w1.cell? ⟨B1, 2, none⟩ = some (Value.int .i64 s.sr) := r1.cell 2 rfl
         have j3 : w1.cell? ⟨B1, 3, none⟩ = some (Value.bool s.br) := r1.cell 3 rfl
         have j4 : w1.cell? ⟨B1, 4, none⟩ = some (Value.bool s.ma) := r1.cell 4 rfl
         have j5 : w1.cell? ⟨B1, 5, none⟩ = some (Value.int .i64 s.us) := r1.cell 5 rfl
         have j6 : w1.cell? ⟨B1, 6, none⟩ = some (Value.int .i64 s.ge) := r1.cell 6 rfl
         have j7 : w1.cell? ⟨B1, 7, none⟩ = some (Value.int .i64 s.ep) := r1.cell 7 rfl
         have j8 : w1.cell? ⟨B1, 8, none⟩ = some (Value.int .i64 s.ve) := r1.cell 8 rfl
         )
      | (go_at_call 57; refine (read_any (wk s 9) _ (HT.out.below hb HT.out.lt) (wk_lo s) (wk_hi s)).mono ?_; rintro e w2 ⟨rfl, hb2⟩; have r2 := r1.below hb2 r1.lt
         have i0 : w2.cell? ⟨B1, 0, none⟩ = some (Value.int .i64 s.st) := r2.cell 0 rfl
         have i1 : w2.cell? ⟨B1, 1, none⟩ = some (Value.int .i64 s.ow) := r2.cell 1 rfl
         have i2 : w2.cell? ⟨B1, 2, none⟩ = some (Value.int .i64 s.sr) := r2.cell 2 rfl
         have i3 : w2.cell? ⟨B1, 3, none⟩ = some (Value.bool s.br) := r2.cell 3 rfl
         have i4 : w2.cell? ⟨B1, 4, none⟩ = some (Value.bool s.ma) := r2.cell 4 rfl
         have i5 : w2.cell? ⟨B1, 5, none⟩ = some (Value.int .i64 s.us) := r2.cell 5 rfl
         have i6 : w2.cell? ⟨B1, 6, none⟩ = some (Value.int .i64 s.ge) := r2.cell 6 rfl
         have i7 : w2.cell? ⟨B1, 7, none⟩ = some (Value.int .i64 s.ep) := r2.cell 7 rfl
         have i8 : w2.cell? ⟨B1, 8, none⟩ = some (Value.int .i64 s.ve) := r2.cell 8 rfl
         ))
  have hB2 := hB.trans (hb.mono (by simpa using hB.size))
  have hB3 := hB2.trans (hb2.mono hB2.size)
  go_wp2
  go_ret
  exact ⟨rfl, hB3⟩
end Go.Proofs.YtbkcniknbpgphaaDoor
