/- The law FindFits, walked. -/
import Derived.Test.YtbkcniknbpgphaaDoorAwk
namespace Go.Proofs.YtbkcniknbpgphaaDoor
open Go.RowKit
attribute [local go_sem ↓] Go.wp_at_zero Go.wp_at_succ

set_option maxRecDepth 100000 in
set_option maxHeartbeats 2000000 in
theorem lfits_any (s : Sl) (k o : Int) (w : World) (hT : Tab w) : Calls Tryd.prog 3 #[Value.agg #[Value.int .i64 s.st, Value.int .i64 s.ow, Value.int .i64 s.sr, Value.bool s.br, Value.bool s.ma, Value.int .i64 s.us, Value.int .i64 s.ge, Value.int .i64 s.ep, Value.int .i64 s.ve], .int .i64 k, .int .i64 o] w fun e w' => e = .returned (.bool true) ∧ Below w.heap.size w w' := by
  have hB := bnew w (.cells #[Value.int .i64 s.st, Value.int .i64 s.ow, Value.int .i64 s.sr, Value.bool s.br, Value.bool s.ma, Value.int .i64 s.us, Value.int .i64 s.ge, Value.int .i64 s.ep, Value.int .i64 s.ve] 23)
  have r0 := RowAt.new w 23 #[Value.int .i64 s.st, Value.int .i64 s.ow, Value.int .i64 s.sr, Value.bool s.br, Value.bool s.ma, Value.int .i64 s.us, Value.int .i64 s.ge, Value.int .i64 s.ep, Value.int .i64 s.ve]
  have HT := Lib.hid (hT.below hB hT.lt)
  clear hT
  obtain ⟨b, eb⟩ : ∃ b, b = fitsB s k o := ⟨_, rfl⟩
  have Hb := Lib.hid eb
  clear eb
  go_enter Tryd.func3, Tryd.ntmps3
  go_wp2_with fail
  refine (awake_any _ HT.out).mono ?_
  rintro e w1 ⟨rfl, hb⟩
  have r1 := r0.below hb r0.lt
  replace hB := hB.trans (hb.mono hB.size)
  clear hb HT r0
  go_wp2_with fail
  obtain ⟨B1, e1⟩ : ∃ B1, B1 = w.heap.size := ⟨_, rfl⟩
  rw [← e1] at r1 ⊢
  clear e1
  have ra0 := r1.drew
  have hB0 := hB.drew
  clear r1 hB
  have ca0_0 : w1.drew.cell? ⟨B1, 0, none⟩ = some (Value.int .i64 s.st) := ra0.cell 0 rfl
  have ca0_1 : w1.drew.cell? ⟨B1, 1, none⟩ = some (Value.int .i64 s.ow) := ra0.cell 1 rfl
  have ca0_2 : w1.drew.cell? ⟨B1, 2, none⟩ = some (Value.int .i64 s.sr) := ra0.cell 2 rfl
  have ca0_3 : w1.drew.cell? ⟨B1, 3, none⟩ = some (Value.bool s.br) := ra0.cell 3 rfl
  have ca0_4 : w1.drew.cell? ⟨B1, 4, none⟩ = some (Value.bool s.ma) := ra0.cell 4 rfl
  have ca0_5 : w1.drew.cell? ⟨B1, 5, none⟩ = some (Value.int .i64 s.us) := ra0.cell 5 rfl
  have ca0_6 : w1.drew.cell? ⟨B1, 6, none⟩ = some (Value.int .i64 s.ge) := ra0.cell 6 rfl
  have ca0_7 : w1.drew.cell? ⟨B1, 7, none⟩ = some (Value.int .i64 s.ep) := ra0.cell 7 rfl
  have ca0_8 : w1.drew.cell? ⟨B1, 8, none⟩ = some (Value.int .i64 s.ve) := ra0.cell 8 rfl
  refine wp_region_held_drew (S := (fun w' => w'.cell? ⟨B1, 0, none⟩ = some (Value.int .i64 s.st) ∧ w'.cell? ⟨B1, 1, none⟩ = some (Value.int .i64 s.ow) ∧ w'.cell? ⟨B1, 2, none⟩ = some (Value.int .i64 s.sr) ∧ w'.cell? ⟨B1, 3, none⟩ = some (Value.bool s.br) ∧ w'.cell? ⟨B1, 4, none⟩ = some (Value.bool s.ma) ∧ w'.cell? ⟨B1, 5, none⟩ = some (Value.int .i64 s.us) ∧ w'.cell? ⟨B1, 6, none⟩ = some (Value.int .i64 s.ge) ∧ w'.cell? ⟨B1, 7, none⟩ = some (Value.int .i64 s.ep) ∧ w'.cell? ⟨B1, 8, none⟩ = some (Value.int .i64 s.ve))) (by kernel_rfl) ⟨ca0_0, ca0_1, ca0_2, ca0_3, ca0_4, ca0_5, ca0_6, ca0_7, ca0_8⟩ (fun hS => ?_)
  generalize w1.drew = u0 at *
  refine wpAnyH_take (i := 0) (oi := { dst := some 9, op := Op.move (Operand.tmp 7), type := 4, pos := "law.go:61", after := #[], guard := none }) (v := ?v0_1) rfl (by kernel_rfl) (by kernel_rfl) (by kernel_rfl) (fun _ _ _ h => h) (Or.inl ⟨by rfl, ?hy0_1⟩) hS ?rest0_1
  case hy0_1 =>
    intro w hSw
    (try dsimp only at hSw)
    go_simp
    try with_reducible rfl
  try simp only [Act.put, List.setIfInBounds_toArray, List.set_cons_zero, List.set_cons_succ]
  refine wpAnyH_take (i := 1) (oi := { dst := some 10, op := Op.move (Operand.tmp 9), type := 4, pos := "law.go:61", after := #[{ on := 0, ground := Ground.data }], guard := none }) (v := ?v1_2) rfl (by kernel_rfl) (by kernel_rfl) (by kernel_rfl) (fun _ _ _ h => h) (Or.inl ⟨by rfl, ?hy1_2⟩) hS ?rest1_2
  case hy1_2 =>
    intro w hSw
    (try dsimp only at hSw)
    go_simp
    try with_reducible rfl
  try simp only [Act.put, List.setIfInBounds_toArray, List.set_cons_zero, List.set_cons_succ]
  refine wpAnyH_take (i := 2) (oi := { dst := some 11, op := Op.load 23 (Operand.tmp 3), type := 23, pos := "law.go:61", after := #[{ on := 1, ground := Ground.guard }], guard := some (1, true) }) (v := ?v2_3) rfl (by kernel_rfl) (by kernel_rfl) (by kernel_rfl) (fun _ _ _ h => h) (Or.inl ⟨by rfl, ?hy2_3⟩) hS ?rest2_3
  case hy2_3 =>
    intro w hSw
    (try dsimp only at hSw)
    go_simp
    try with_reducible rfl
  try simp only [Act.put, List.setIfInBounds_toArray, List.set_cons_zero, List.set_cons_succ]
  refine wpAnyH_take (i := 3) (oi := { dst := some 12, op := Op.move (Operand.tmp 1), type := 3, pos := "law.go:61", after := #[{ on := 1, ground := Ground.guard }], guard := some (1, true) }) (v := ?v3_4) rfl (by kernel_rfl) (by kernel_rfl) (by kernel_rfl) (fun _ _ _ h => h) (Or.inl ⟨by rfl, ?hy3_4⟩) hS ?rest3_4
  case hy3_4 =>
    intro w hSw
    (try dsimp only at hSw)
    go_simp
    try with_reducible rfl
  try simp only [Act.put, List.setIfInBounds_toArray, List.set_cons_zero, List.set_cons_succ]
  refine wpAnyH_take (i := 4) (oi := { dst := some 13, op := Op.move (Operand.tmp 2), type := 3, pos := "law.go:61", after := #[{ on := 1, ground := Ground.guard }], guard := some (1, true) }) (v := ?v4_5) rfl (by kernel_rfl) (by kernel_rfl) (by kernel_rfl) (fun _ _ _ h => h) (Or.inl ⟨by rfl, ?hy4_5⟩) hS ?rest4_5
  case hy4_5 =>
    intro w hSw
    (try dsimp only at hSw)
    go_simp
    try with_reducible rfl
  try simp only [Act.put, List.setIfInBounds_toArray, List.set_cons_zero, List.set_cons_succ]
  refine wpAnyH_take (i := 6) (oi := { dst := some 15, op := Op.load 23 (Operand.tmp 3), type := 23, pos := "law.go:61", after := #[{ on := 1, ground := Ground.guard }], guard := some (1, true) }) (v := ?v6_6) rfl (by kernel_rfl) (by kernel_rfl) (by kernel_rfl) (fun _ _ _ h => h) (Or.inl ⟨by rfl, ?hy6_6⟩) hS ?rest6_6
  case hy6_6 =>
    intro w hSw
    (try dsimp only at hSw)
    go_simp
    try with_reducible rfl
  try simp only [Act.put, List.setIfInBounds_toArray, List.set_cons_zero, List.set_cons_succ]
  refine wpAnyH_take (i := 7) (oi := { dst := some 16, op := Op.move (Operand.tmp 1), type := 3, pos := "law.go:61", after := #[{ on := 1, ground := Ground.guard }], guard := some (1, true) }) (v := ?v7_7) rfl (by kernel_rfl) (by kernel_rfl) (by kernel_rfl) (fun _ _ _ h => h) (Or.inl ⟨by rfl, ?hy7_7⟩) hS ?rest7_7
  case hy7_7 =>
    intro w hSw
    (try dsimp only at hSw)
    go_simp
    try with_reducible rfl
  try simp only [Act.put, List.setIfInBounds_toArray, List.set_cons_zero, List.set_cons_succ]
  refine wpAnyH_take (i := 8) (oi := { dst := some 17, op := Op.move (Operand.tmp 2), type := 3, pos := "law.go:61", after := #[{ on := 1, ground := Ground.guard }], guard := some (1, true) }) (v := ?v8_8) rfl (by kernel_rfl) (by kernel_rfl) (by kernel_rfl) (fun _ _ _ h => h) (Or.inl ⟨by rfl, ?hy8_8⟩) hS ?rest8_8
  case hy8_8 =>
    intro w hSw
    (try dsimp only at hSw)
    go_simp
    try with_reducible rfl
  try simp only [Act.put, List.setIfInBounds_toArray, List.set_cons_zero, List.set_cons_succ]
  refine wpAnyH_ready (rs := [5]) (by kernel_rfl) (by simp) ?_
  refine AllReadyH.cons (o := { dst := some 14, op := Op.call { callee := Callee.value (Operand.func 10), args := #[Operand.tmp 11, Operand.tmp 12, Operand.tmp 13], argTypes := #[23, 3, 3] }, type := 4, pos := "law.go:61", after := #[{ on := 2, ground := Ground.data }, { on := 3, ground := Ground.data }, { on := 4, ground := Ground.data }, { on := 1, ground := Ground.chain }, { on := 1, ground := Ground.guard }], guard := some (1, true) }) rfl (fun K hK => ?_) AllReadyH.nil
  go_simp
  refine (fits_any s k o _).mono ?_
  rw [← Hb.out]
  rintro e u1 ⟨rfl, hb⟩
  have ra1 := ra0.below hb ra0.lt
  have hB1 := hB0.trans (hb.mono hB0.size)
  clear hb
  have ca1_0 : u1.cell? ⟨B1, 0, none⟩ = some (Value.int .i64 s.st) := ra1.cell 0 rfl
  have ca1_1 : u1.cell? ⟨B1, 1, none⟩ = some (Value.int .i64 s.ow) := ra1.cell 1 rfl
  have ca1_2 : u1.cell? ⟨B1, 2, none⟩ = some (Value.int .i64 s.sr) := ra1.cell 2 rfl
  have ca1_3 : u1.cell? ⟨B1, 3, none⟩ = some (Value.bool s.br) := ra1.cell 3 rfl
  have ca1_4 : u1.cell? ⟨B1, 4, none⟩ = some (Value.bool s.ma) := ra1.cell 4 rfl
  have ca1_5 : u1.cell? ⟨B1, 5, none⟩ = some (Value.int .i64 s.us) := ra1.cell 5 rfl
  have ca1_6 : u1.cell? ⟨B1, 6, none⟩ = some (Value.int .i64 s.ge) := ra1.cell 6 rfl
  have ca1_7 : u1.cell? ⟨B1, 7, none⟩ = some (Value.int .i64 s.ep) := ra1.cell 7 rfl
  have ca1_8 : u1.cell? ⟨B1, 8, none⟩ = some (Value.int .i64 s.ve) := ra1.cell 8 rfl
  refine hK.out _ _ ⟨ca1_0, ca1_1, ca1_2, ca1_3, ca1_4, ca1_5, ca1_6, ca1_7, ca1_8⟩ (fun hS => ?_)
  clear hK K
  try simp only [Act.put, List.setIfInBounds_toArray, List.set_cons_zero, List.set_cons_succ]
  refine wpAnyH_ready (rs := [9]) (by kernel_rfl) (by simp) ?_
  refine AllReadyH.cons (o := { dst := some 18, op := Op.call { callee := Callee.value (Operand.func 11), args := #[Operand.tmp 15, Operand.tmp 16, Operand.tmp 17], argTypes := #[23, 3, 3] }, type := 4, pos := "law.go:61", after := #[{ on := 6, ground := Ground.data }, { on := 7, ground := Ground.data }, { on := 8, ground := Ground.data }, { on := 5, ground := Ground.chain }, { on := 1, ground := Ground.guard }], guard := some (1, true) }) rfl (fun K hK => ?_) AllReadyH.nil
  go_simp
  refine (refFits_any s k o _).mono ?_
  rw [← Hb.out]
  rintro e u2 ⟨rfl, hb⟩
  have ra2 := ra1.below hb ra1.lt
  have hB2 := hB1.trans (hb.mono hB1.size)
  clear hb
  have ca2_0 : u2.cell? ⟨B1, 0, none⟩ = some (Value.int .i64 s.st) := ra2.cell 0 rfl
  have ca2_1 : u2.cell? ⟨B1, 1, none⟩ = some (Value.int .i64 s.ow) := ra2.cell 1 rfl
  have ca2_2 : u2.cell? ⟨B1, 2, none⟩ = some (Value.int .i64 s.sr) := ra2.cell 2 rfl
  have ca2_3 : u2.cell? ⟨B1, 3, none⟩ = some (Value.bool s.br) := ra2.cell 3 rfl
  have ca2_4 : u2.cell? ⟨B1, 4, none⟩ = some (Value.bool s.ma) := ra2.cell 4 rfl
  have ca2_5 : u2.cell? ⟨B1, 5, none⟩ = some (Value.int .i64 s.us) := ra2.cell 5 rfl
  have ca2_6 : u2.cell? ⟨B1, 6, none⟩ = some (Value.int .i64 s.ge) := ra2.cell 6 rfl
  have ca2_7 : u2.cell? ⟨B1, 7, none⟩ = some (Value.int .i64 s.ep) := ra2.cell 7 rfl
  have ca2_8 : u2.cell? ⟨B1, 8, none⟩ = some (Value.int .i64 s.ve) := ra2.cell 8 rfl
  refine hK.out _ _ ⟨ca2_0, ca2_1, ca2_2, ca2_3, ca2_4, ca2_5, ca2_6, ca2_7, ca2_8⟩ (fun hS => ?_)
  clear hK K
  try simp only [Act.put, List.setIfInBounds_toArray, List.set_cons_zero, List.set_cons_succ]
  refine wpAnyH_take (i := 10) (oi := { dst := some 19, op := Op.binOp BinOp.eql 4 (Operand.tmp 14) (Operand.tmp 18) 4, type := 4, pos := "law.go:61", after := #[{ on := 5, ground := Ground.data }, { on := 9, ground := Ground.data }, { on := 1, ground := Ground.guard }], guard := some (1, true) }) (v := ?v10_9) rfl (by kernel_rfl) (by kernel_rfl) (by kernel_rfl) (fun _ _ _ h => h) (Or.inl ⟨by rfl, ?hy10_9⟩) hS ?rest10_9
  case hy10_9 =>
    intro w hSw
    (try dsimp only at hSw)
    go_simp
    try with_reducible rfl
  try simp only [Act.put, List.setIfInBounds_toArray, List.set_cons_zero, List.set_cons_succ]
  refine wpAnyH_take (i := 11) (oi := { dst := some 20, op := Op.pick (Operand.tmp 10) (Operand.tmp 19) (Operand.const (Value.bool false)), type := 4, pos := "law.go:61", after := #[{ on := 1, ground := Ground.data }, { on := 10, ground := Ground.data }], guard := none }) (v := ?v11_10) rfl (by kernel_rfl) (by kernel_rfl) (by kernel_rfl) (fun _ _ _ h => h) (Or.inl ⟨by rfl, ?hy11_10⟩) hS ?rest11_10
  case hy11_10 =>
    intro w hSw
    (try dsimp only at hSw)
    go_simp
    try with_reducible rfl
  try simp only [Act.put, List.setIfInBounds_toArray, List.set_cons_zero, List.set_cons_succ]
  refine wpAnyH_take (i := 12) (oi := { dst := some 6, op := Op.assign (Operand.tmp 20), type := 4, pos := "law.go:61", after := #[{ on := 11, ground := Ground.data }, { on := 9, ground := Ground.chain }, { on := 0, ground := Ground.phase }, { on := 1, ground := Ground.phase }, { on := 2, ground := Ground.phase }, { on := 3, ground := Ground.phase }, { on := 4, ground := Ground.phase }, { on := 5, ground := Ground.phase }, { on := 6, ground := Ground.phase }, { on := 7, ground := Ground.phase }, { on := 8, ground := Ground.phase }, { on := 9, ground := Ground.phase }, { on := 10, ground := Ground.phase }, { on := 11, ground := Ground.phase }], guard := none }) (v := ?v12_11) rfl (by kernel_rfl) (by kernel_rfl) (by kernel_rfl) (fun _ _ _ h => h) (Or.inl ⟨by rfl, ?hy12_11⟩) hS ?rest12_11
  case hy12_11 =>
    intro w hSw
    (try dsimp only at hSw)
    go_simp
    try with_reducible rfl
  try simp only [Act.put, List.setIfInBounds_toArray, List.set_cons_zero, List.set_cons_succ]
  refine wpAnyH_done (by kernel_rfl) ?_ _
  go_wp2
  go_ret
  exact ⟨ret_bool (by simp), hB2⟩
end Go.Proofs.YtbkcniknbpgphaaDoor
