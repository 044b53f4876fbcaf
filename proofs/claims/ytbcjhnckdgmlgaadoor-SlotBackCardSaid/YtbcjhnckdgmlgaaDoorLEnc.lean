/- The law SlotEncodes, walked: true for any slot of Go's ints. -/
import Derived.Test.YtbcjhnckdgmlgaaDoorAwake
namespace Go.Proofs.YtbcjhnckdgmlgaaDoor
open Go.RowKit
attribute [local go_sem ↓] Go.wp_at_zero Go.wp_at_succ

theorem refRight_rt (s : Sl) (w : World) (hw : s.Wf) :
    Calls Tryd.prog 12 #[Value.agg #[Value.int .i64 s.st, Value.int .i64 s.ow, Value.int .i64 s.sr, Value.bool s.br, Value.bool s.ma, Value.int .i64 s.us, Value.int .i64 s.ge, Value.int .i64 s.ep, Value.int .i64 s.ve]] w fun e w' => e = .returned (.bool (rtB s)) ∧ Below w.heap.size w w' :=
  (refRight_any s w).mono fun _ _ ⟨h1, h2⟩ => ⟨h1.trans (by rw [rt_eq hw]), h2⟩
set_option maxRecDepth 100000 in
set_option maxHeartbeats 2000000 in
theorem lenc_any (s : Sl) (w : World) (hT : Tab w) (hw : s.Wf) :
    Calls Tryd.prog 3 #[Value.agg #[Value.int .i64 s.st, Value.int .i64 s.ow, Value.int .i64 s.sr, Value.bool s.br, Value.bool s.ma, Value.int .i64 s.us, Value.int .i64 s.ge, Value.int .i64 s.ep, Value.int .i64 s.ve]] w fun e w' => e = .returned (.bool true) ∧ Below w.heap.size w w' := by
  have r0 := RowAt.new w 23 #[Value.int .i64 s.st, Value.int .i64 s.ow, Value.int .i64 s.sr, Value.bool s.br, Value.bool s.ma, Value.int .i64 s.us, Value.int .i64 s.ge, Value.int .i64 s.ep, Value.int .i64 s.ve]
  have hB : Below w.heap.size w (w.alloc (.cells #[Value.int .i64 s.st, Value.int .i64 s.ow, Value.int .i64 s.sr, Value.bool s.br, Value.bool s.ma, Value.int .i64 s.us, Value.int .i64 s.ge, Value.int .i64 s.ep, Value.int .i64 s.ve] 23)) := (Below.refl _ _).alloc (Nat.le_refl _) _
  have HT := Lib.hid (hT.below hB hT.lt)
  clear hT
  go_enter Tryd.func3, Tryd.ntmps3
  go_wp2_with fail
  refine (awake_any _ HT.out).mono ?_
  rintro e w1 ⟨rfl, hb⟩
  replace r0 := r0.below hb r0.lt
  replace hB := hB.trans (hb.mono hB.size)
  replace HT := Lib.hid (HT.out.below hb HT.out.lt)
  clear hb
  go_wp2_with (refine wpList_load_row rfl 23 _ rfl _ rfl 23 _ (0, 0) _ r0 Tryd.underlying23 rfl (by kernel_rfl) ?_)
  refine (encode_any s _ HT.out).mono ?_
  rintro e w2 ⟨rfl, hb⟩
  replace r0 := r0.below hb r0.lt
  replace hB := hB.trans (hb.mono hB.size)
  replace HT := Lib.hid (HT.out.below hb HT.out.lt)
  clear hb
  go_wp2_with (refine wpList_load_row rfl 23 _ rfl _ rfl 23 _ (0, 0) _ r0 Tryd.underlying23 rfl (by kernel_rfl) ?_)
  refine (refEncode_any s _ hw).mono ?_
  rintro e w3 ⟨rfl, hb⟩
  replace r0 := r0.below hb r0.lt
  replace hB := hB.trans (hb.mono hB.size)
  replace HT := Lib.hid (HT.out.below hb HT.out.lt)
  clear hb
  go_wp2_with fail
  obtain ⟨B1, e1⟩ : ∃ B1, B1 = w.heap.size := ⟨_, rfl⟩
  rw [← e1] at r0 ⊢
  have E1 := Lib.hid e1
  clear e1
  have hlt := r0.lt
  have hB2 := Lib.hid hB.drew
  replace HT := Lib.hid HT.out.drew
  clear hB
  have k0 : (w3.drew).cell? ⟨B1, 0, none⟩ = some (Value.int .i64 s.st) := r0.drew.cell 0 rfl
  have k1 : (w3.drew).cell? ⟨B1, 1, none⟩ = some (Value.int .i64 s.ow) := r0.drew.cell 1 rfl
  have k2 : (w3.drew).cell? ⟨B1, 2, none⟩ = some (Value.int .i64 s.sr) := r0.drew.cell 2 rfl
  have k3 : (w3.drew).cell? ⟨B1, 3, none⟩ = some (Value.bool s.br) := r0.drew.cell 3 rfl
  have k4 : (w3.drew).cell? ⟨B1, 4, none⟩ = some (Value.bool s.ma) := r0.drew.cell 4 rfl
  have k5 : (w3.drew).cell? ⟨B1, 5, none⟩ = some (Value.int .i64 s.us) := r0.drew.cell 5 rfl
  have k6 : (w3.drew).cell? ⟨B1, 6, none⟩ = some (Value.int .i64 s.ge) := r0.drew.cell 6 rfl
  have k7 : (w3.drew).cell? ⟨B1, 7, none⟩ = some (Value.int .i64 s.ep) := r0.drew.cell 7 rfl
  have k8 : (w3.drew).cell? ⟨B1, 8, none⟩ = some (Value.int .i64 s.ve) := r0.drew.cell 8 rfl
  go_region_held3 (fun w' => w'.cell? ⟨B1, 0, none⟩ = some (Value.int .i64 s.st) ∧ w'.cell? ⟨B1, 1, none⟩ = some (Value.int .i64 s.ow) ∧ w'.cell? ⟨B1, 2, none⟩ = some (Value.int .i64 s.sr) ∧ w'.cell? ⟨B1, 3, none⟩ = some (Value.bool s.br) ∧ w'.cell? ⟨B1, 4, none⟩ = some (Value.bool s.ma) ∧ w'.cell? ⟨B1, 5, none⟩ = some (Value.int .i64 s.us) ∧ w'.cell? ⟨B1, 6, none⟩ = some (Value.int .i64 s.ge) ∧ w'.cell? ⟨B1, 7, none⟩ = some (Value.int .i64 s.ep) ∧ w'.cell? ⟨B1, 8, none⟩ = some (Value.int .i64 s.ve)) (first | exact ⟨k0, k1, k2, k3, k4, k5, k6, k7, k8⟩ | exact ⟨j0, j1, j2, j3, j4, j5, j6, j7, j8⟩ | exact ⟨i0, i1, i2, i3, i4, i5, i6, i7, i8⟩ | go_keep)
    (first
      | (go_at_call 11; refine (right_any s _ HT.out).mono ?_; rintro e w4 ⟨rfl, hb⟩; have r1 := r0.drew.below hb (by simpa using hlt)
         have j0 : (w4).cell? ⟨B1, 0, none⟩ = some (Value.int .i64 s.st) := r1.cell 0 rfl
         have j1 : (w4).cell? ⟨B1, 1, none⟩ = some (Value.int .i64 s.ow) := r1.cell 1 rfl
         have j2 : (w4).cell? ⟨B1, 2, none⟩ = some (Value.int .i64 s.sr) := r1.cell 2 rfl
         have j3 : (w4).cell? ⟨B1, 3, none⟩ = some (Value.bool s.br) := r1.cell 3 rfl
         have j4 : (w4).cell? ⟨B1, 4, none⟩ = some (Value.bool s.ma) := r1.cell 4 rfl
         have j5 : (w4).cell? ⟨B1, 5, none⟩ = some (Value.int .i64 s.us) := r1.cell 5 rfl
         have j6 : (w4).cell? ⟨B1, 6, none⟩ = some (Value.int .i64 s.ge) := r1.cell 6 rfl
         have j7 : (w4).cell? ⟨B1, 7, none⟩ = some (Value.int .i64 s.ep) := r1.cell 7 rfl
         have j8 : (w4).cell? ⟨B1, 8, none⟩ = some (Value.int .i64 s.ve) := r1.cell 8 rfl
         )
      | (go_at_call 12; refine (refRight_rt s _ hw).mono ?_; rintro e w5 ⟨rfl, hb2⟩; have r2 := r1.below hb2 r1.lt
         have i0 : (w5).cell? ⟨B1, 0, none⟩ = some (Value.int .i64 s.st) := r2.cell 0 rfl
         have i1 : (w5).cell? ⟨B1, 1, none⟩ = some (Value.int .i64 s.ow) := r2.cell 1 rfl
         have i2 : (w5).cell? ⟨B1, 2, none⟩ = some (Value.int .i64 s.sr) := r2.cell 2 rfl
         have i3 : (w5).cell? ⟨B1, 3, none⟩ = some (Value.bool s.br) := r2.cell 3 rfl
         have i4 : (w5).cell? ⟨B1, 4, none⟩ = some (Value.bool s.ma) := r2.cell 4 rfl
         have i5 : (w5).cell? ⟨B1, 5, none⟩ = some (Value.int .i64 s.us) := r2.cell 5 rfl
         have i6 : (w5).cell? ⟨B1, 6, none⟩ = some (Value.int .i64 s.ge) := r2.cell 6 rfl
         have i7 : (w5).cell? ⟨B1, 7, none⟩ = some (Value.int .i64 s.ep) := r2.cell 7 rfl
         have i8 : (w5).cell? ⟨B1, 8, none⟩ = some (Value.int .i64 s.ve) := r2.cell 8 rfl
         ))
  go_wp2
  go_ret
  exact ⟨rfl, (hB2.out.trans (hb.mono hB2.out.size)).trans (hb2.mono (by have := hB2.out.size; have := hb.size; simp only [World.size_drew] at *; omega))⟩
end Go.Proofs.YtbcjhnckdgmlgaaDoor
