/- What the laws' own 'awake' answers: true; nothing that was there changes. -/
import Derived.Test.YtbcjhnckdgmlgaaDoorRefC
namespace Go.Proofs.YtbcjhnckdgmlgaaDoor
open Go.RowKit
attribute [local go_sem ↓] Go.wp_at_zero Go.wp_at_succ

def s0 : Sl := ⟨2, 3, 0, false, false, 1, 0, 0, 0⟩
theorem enc_s0 : encN s0 = 131098 := by decide +kernel
theorem rt_s0 : rtB s0 = true := by decide +kernel
theorem dec_s0 : decS 131098 = s0 := by decide +kernel
theorem decB_s0 : decB 131098 = true := by decide +kernel
theorem encode_s0 (w : World) (hT : Tab w) :
    Calls Tryd.prog 9 #[.agg #[Value.int .i64 2, Value.int .i64 3, Value.int .i64 0, Value.bool false, Value.bool false, Value.int .i64 1, Value.int .i64 0, Value.int .i64 0, Value.int .i64 0]] w fun e w' => e = .returned (.tuple #[.int .i64 131098, .bool true]) ∧ Below w.heap.size w w' :=
  (encode_any s0 w hT).mono fun _ _ ⟨h1, h2⟩ => ⟨h1.trans (by rw [enc_s0, rt_s0]), h2⟩
theorem right_s0 (w : World) (hT : Tab w) :
    Calls Tryd.prog 11 #[.agg #[Value.int .i64 2, Value.int .i64 3, Value.int .i64 0, Value.bool false, Value.bool false, Value.int .i64 1, Value.int .i64 0, Value.int .i64 0, Value.int .i64 0]] w fun e w' => e = .returned (.bool true) ∧ Below w.heap.size w w' :=
  (right_any s0 w hT).mono fun _ _ ⟨h1, h2⟩ => ⟨h1.trans (by rw [rt_s0]), h2⟩
theorem decode_s0 (w : World) (hT : Tab w) :
    Calls Tryd.prog 13 #[.int .i64 131098] w fun e w' => e = .returned (.tuple #[.agg #[Value.int .i64 2, Value.int .i64 3, Value.int .i64 0, Value.bool false, Value.bool false, Value.int .i64 1, Value.int .i64 0, Value.int .i64 0, Value.int .i64 0], .bool true]) ∧ Below w.heap.size w w' :=
  (decode_any 131098 w hT (by omega) (by omega)).mono fun _ _ ⟨h1, h2⟩ => ⟨h1.trans (by rw [dec_s0, decB_s0]; rfl), h2⟩
theorem eq_s0 (w : World) : (binOp .eql 23 (.agg #[Value.int .i64 2, Value.int .i64 3, Value.int .i64 0, Value.bool false, Value.bool false, Value.int .i64 1, Value.int .i64 0, Value.int .i64 0, Value.int .i64 0]) (.agg #[Value.int .i64 2, Value.int .i64 3, Value.int .i64 0, Value.bool false, Value.bool false, Value.int .i64 1, Value.int .i64 0, Value.int .i64 0, Value.int .i64 0])).run Tryd.prog w = .ok (.bool true) w := by
  exact (eq_sl s0 s0 w).trans (by simp)
set_option maxRecDepth 100000 in
set_option maxHeartbeats 2000000 in
theorem awake_any (w : World) (hT : Tab w) : Calls Tryd.prog 8 #[] w fun e w' => e = .returned (.bool true) ∧ Below w.heap.size w w' := by
  have r0 := RowAt.new w 23 #[Value.int .i64 2, Value.int .i64 3, Value.int .i64 0, Value.bool false, Value.bool false, Value.int .i64 1, Value.int .i64 0, Value.int .i64 0, Value.int .i64 0]
  have hB : Below w.heap.size w (w.alloc (.cells #[Value.int .i64 2, Value.int .i64 3, Value.int .i64 0, Value.bool false, Value.bool false, Value.int .i64 1, Value.int .i64 0, Value.int .i64 0, Value.int .i64 0] 23)) := (Below.refl _ _).alloc (Nat.le_refl _) _
  have HT := Lib.hid (hT.below hB hT.lt)
  clear hT
  go_enter Tryd.func8, Tryd.ntmps8
  go_wp2_with fail
  refine (encode_s0 _ HT.out).mono ?_
  rintro e w1 ⟨rfl, hb⟩
  replace r0 := r0.below hb r0.lt
  replace hB := hB.trans (hb.mono hB.size)
  replace HT := Lib.hid (HT.out.below hb HT.out.lt)
  clear hb
  go_wp2_with fail
  refine (decode_s0 _ HT.out).mono ?_
  rintro e w2 ⟨rfl, hb⟩
  replace r0 := r0.below hb r0.lt
  replace hB := hB.trans (hb.mono hB.size)
  replace HT := Lib.hid (HT.out.below hb HT.out.lt)
  clear hb
  replace HT := Lib.hid (HT.out.below ((Below.refl _ _).alloc (Nat.le_refl _) (.cells #[Value.int .i64 2, Value.int .i64 3, Value.int .i64 0, Value.bool false, Value.bool false, Value.int .i64 1, Value.int .i64 0, Value.int .i64 0, Value.int .i64 0] 23)) HT.out.lt)
  replace hB := hB.alloc hB.size (.cells #[Value.int .i64 2, Value.int .i64 3, Value.int .i64 0, Value.bool false, Value.bool false, Value.int .i64 1, Value.int .i64 0, Value.int .i64 0, Value.int .i64 0] 23)
  have heq := eq_s0
  have hlt0 := r0.lt
  have k0 : (w2).cell? ⟨w.heap.size, 0, none⟩ = some (Value.int .i64 2) := r0.cell 0 rfl
  have k1 : (w2).cell? ⟨w.heap.size, 1, none⟩ = some (Value.int .i64 3) := r0.cell 1 rfl
  have k2 : (w2).cell? ⟨w.heap.size, 2, none⟩ = some (Value.int .i64 0) := r0.cell 2 rfl
  have k3 : (w2).cell? ⟨w.heap.size, 3, none⟩ = some (Value.bool false) := r0.cell 3 rfl
  have k4 : (w2).cell? ⟨w.heap.size, 4, none⟩ = some (Value.bool false) := r0.cell 4 rfl
  have k5 : (w2).cell? ⟨w.heap.size, 5, none⟩ = some (Value.int .i64 1) := r0.cell 5 rfl
  have k6 : (w2).cell? ⟨w.heap.size, 6, none⟩ = some (Value.int .i64 0) := r0.cell 6 rfl
  have k7 : (w2).cell? ⟨w.heap.size, 7, none⟩ = some (Value.int .i64 0) := r0.cell 7 rfl
  have k8 : (w2).cell? ⟨w.heap.size, 8, none⟩ = some (Value.int .i64 0) := r0.cell 8 rfl
  go_wp2_with (go_at_call 11; refine (right_s0 _ HT.out).mono ?_; rintro e w3 ⟨rfl, hb⟩)
  go_ret
  exact ⟨rfl, hB.trans (hb.mono hB.size)⟩
end Go.Proofs.YtbcjhnckdgmlgaaDoor
