/- The chapter's example comes out true. -/
import Derived.Test.YtfnpleicbpbiaaaDoorRightR
import Derived.Test.YtfnpleicbpbiaaaDoorSlots
import Derived.Test.YtfnpleicbpbiaaaDoorMem
import Derived.Deep.RegionHeld3
namespace Go.Proofs.YtfnpleicbpbiaaaDoor
open Go.RowKit
attribute [local go_sem ↓] Go.wp_at_zero Go.wp_at_succ

/-- the chapter's example -/
def ex : Cf := ⟨2, 3, 0, 0, 1⟩
theorem ex_rc : Rc ex := ⟨by decide, by decide, by decide, by decide, by decide⟩
theorem ex_right (w : World) : Calls Tryd.prog 10 #[Value.agg #[Value.int .i64 2, Value.int .i64 3, Value.int .i64 0, Value.int .i64 0, Value.int .i64 1]] w fun e w' => e = .returned (.bool true) ∧ Below w.heap.size w w' := cright_any ex w
theorem ex_cells (w : World) : Calls Tryd.prog 11 #[Value.agg #[Value.int .i64 2, Value.int .i64 3, Value.int .i64 0, Value.int .i64 0, Value.int .i64 1]] w fun e w' => e = .returned (.int .i64 10) ∧ Below w.heap.size w w' := cells_any ex w ex_rc
theorem ex_pin (w : World) : Calls Tryd.prog 13 #[Value.agg #[Value.int .i64 2, Value.int .i64 3, Value.int .i64 0, Value.int .i64 0, Value.int .i64 1], .int .i64 1] w fun e w' => e = .returned (.int .i64 4) ∧ Below w.heap.size w w' := pin_any ex 1 w ex_rc
theorem ex_grant (w : World) : Calls Tryd.prog 15 #[Value.agg #[Value.int .i64 2, Value.int .i64 3, Value.int .i64 0, Value.int .i64 0, Value.int .i64 1], .int .i64 0] w fun e w' => e = .returned (.int .i64 5) ∧ Below w.heap.size w w' := grant_any ex 0 w ex_rc
theorem ex_slot (w : World) : Calls Tryd.prog 17 #[Value.agg #[Value.int .i64 2, Value.int .i64 3, Value.int .i64 0, Value.int .i64 0, Value.int .i64 1], .int .i64 2] w fun e w' => e = .returned (.int .i64 9) ∧ Below w.heap.size w w' := slot_any ex 2 w ex_rc
theorem ex_mem (w : World) : Calls Tryd.prog 9 #[Value.agg #[Value.int .i64 2, Value.int .i64 3, Value.int .i64 0, Value.int .i64 0, Value.int .i64 1]] w (fun e w' => ∃ g gw, e = .returned (.tuple #[.pointer (some ⟨g, 0, none⟩), .int .i64 0]) ∧ MemZ w' g gw 10 ∧ Below w.heap.size w w') := mem_yes ex w ex_rc
theorem ex_slots (b c0 : Nat) (w : World) (hT : Tab w) (hc : 10 ≤ c0) (hI : IS w w.heap.size (some ⟨b, 0, none⟩) (List.replicate 10 0)) :
    Calls Tryd.prog 22 #[Value.agg #[Value.int .i64 2, Value.int .i64 3, Value.int .i64 0, Value.int .i64 0, Value.int .i64 1], .slice (some ⟨b, 0, none⟩) 10 c0] w fun e w' => ∃ A c2, e = .returned (.slice A 3 c2) ∧ Below w.heap.size w w' := by
  refine (slots_any (some ⟨b, 0, none⟩) 10 c0 (List.replicate 10 0) ex w hT ex_rc (by simp) hc hI (fun k x hx => by obtain ⟨_, rfl⟩ := rep_at hx; omega)).mono ?_
  rintro e w' ⟨A, c2, rfl, _, _, hb⟩
  exact ⟨A, c2, by rw [show (slotsL ex (List.replicate 10 0)).length = 3 from by simp [slotsL, cellsN, cellsI, ex]], hb⟩
set_option maxRecDepth 100000 in
set_option maxHeartbeats 2000000 in
theorem awake_any (w : World) (hT : Tab w) :
    Calls Tryd.prog 7 #[] w fun e w' => e = .returned (.bool true) ∧ Below w.heap.size w w' := by
  have hB : Below w.heap.size w (w.alloc (.cells #[Value.int .i64 2, Value.int .i64 3, Value.int .i64 0, Value.int .i64 0, Value.int .i64 1] 23)) := (Below.refl _ _).alloc (Nat.le_refl _) _
  have r0 := RowAt.new w 23 #[Value.int .i64 2, Value.int .i64 3, Value.int .i64 0, Value.int .i64 0, Value.int .i64 1]
  have HT := Lib.hid (hT.below hB hT.lt)
  clear hT
  go_enter Tryd.func7, Tryd.ntmps7
  go_wp2_with fail
  refine (ex_mem _).mono ?_
  rintro e w1 ⟨g, gw, rfl, hm, hb⟩
  replace r0 := (r0.below hb r0.lt).drew
  replace hB := (hB.trans (hb.mono hB.size)).drew
  have HT2 := Lib.hid (HT.out.below hb HT.out.lt).drew
  have HM := Lib.hid hm.drew
  clear hb hm HT
  go_wp2_with fail
  have c00 : w1.drew.cell? ⟨w.heap.size, 0, none⟩ = some (Value.int .i64 2) := r0.cell 0 rfl
  have c01 : w1.drew.cell? ⟨w.heap.size, 1, none⟩ = some (Value.int .i64 3) := r0.cell 1 rfl
  have c02 : w1.drew.cell? ⟨w.heap.size, 2, none⟩ = some (Value.int .i64 0) := r0.cell 2 rfl
  have c03 : w1.drew.cell? ⟨w.heap.size, 3, none⟩ = some (Value.int .i64 0) := r0.cell 3 rfl
  have c04 : w1.drew.cell? ⟨w.heap.size, 4, none⟩ = some (Value.int .i64 1) := r0.cell 4 rfl
  refine wp_region_held_drew (S := (fun w' => w'.cell? ⟨w.heap.size, 0, none⟩ = some (Value.int .i64 2) ∧ w'.cell? ⟨w.heap.size, 1, none⟩ = some (Value.int .i64 3) ∧ w'.cell? ⟨w.heap.size, 2, none⟩ = some (Value.int .i64 0) ∧ w'.cell? ⟨w.heap.size, 3, none⟩ = some (Value.int .i64 0) ∧ w'.cell? ⟨w.heap.size, 4, none⟩ = some (Value.int .i64 1))) (by kernel_rfl) ⟨c00, c01, c02, c03, c04⟩ (fun hS => ?_)
  generalize w1.drew = WD at *
  refine wpAnyH_take (i := 0) (oi := { dst := some 16, op := Op.load 23 (Operand.tmp 1), type := 23, pos := "law.go:18", after := #[], guard := none }) (v := ?v0_1) rfl (by kernel_rfl) (by kernel_rfl) (by kernel_rfl) (fun _ _ _ h => h) (Or.inl ⟨by rfl, ?hy0_1⟩) hS ?rest0_1
  case hy0_1 =>
    intro w hSw
    (try dsimp only at hSw)
    go_simp
    try with_reducible rfl
  try simp only [Act.put, List.setIfInBounds_toArray, List.set_cons_zero, List.set_cons_succ]
  refine wpAnyH_ready (rs := [1]) (by kernel_rfl) (by simp) ?_
  refine AllReadyH.cons (o := { dst := some 17, op := Op.call { callee := Callee.value (Operand.func 10), args := #[Operand.tmp 16], argTypes := #[23] }, type := 4, pos := "law.go:18", after := #[{ on := 0, ground := Ground.data }], guard := none }) rfl (fun K hK => ?_) AllReadyH.nil
  go_simp
  refine (ex_right _).mono ?_
  rintro e u1 ⟨rfl, hb⟩
  have r1 := r0.below hb r0.lt
  have hB1 := hB.trans (hb.mono hB.size)
  have HT1 := Lib.hid (HT2.out.below hb HT2.out.lt)
  have HM1 := Lib.hid (HM.out.on hb)
  clear hb
  have c10 : u1.cell? ⟨w.heap.size, 0, none⟩ = some (Value.int .i64 2) := r1.cell 0 rfl
  have c11 : u1.cell? ⟨w.heap.size, 1, none⟩ = some (Value.int .i64 3) := r1.cell 1 rfl
  have c12 : u1.cell? ⟨w.heap.size, 2, none⟩ = some (Value.int .i64 0) := r1.cell 2 rfl
  have c13 : u1.cell? ⟨w.heap.size, 3, none⟩ = some (Value.int .i64 0) := r1.cell 3 rfl
  have c14 : u1.cell? ⟨w.heap.size, 4, none⟩ = some (Value.int .i64 1) := r1.cell 4 rfl
  refine hK.out _ _ ⟨c10, c11, c12, c13, c14⟩ (fun hS => ?_)
  clear hK K
  try simp only [Act.put, List.setIfInBounds_toArray, List.set_cons_zero, List.set_cons_succ]
  refine wpAnyH_take (i := 2) (oi := { dst := some 18, op := Op.move (Operand.tmp 17), type := 4, pos := "law.go:18", after := #[{ on := 1, ground := Ground.data }, { on := 1, ground := Ground.chain }], guard := none }) (v := ?v2_2) rfl (by kernel_rfl) (by kernel_rfl) (by kernel_rfl) (fun _ _ _ h => h) (Or.inl ⟨by rfl, ?hy2_2⟩) hS ?rest2_2
  case hy2_2 =>
    intro w hSw
    (try dsimp only at hSw)
    go_simp
    try with_reducible rfl
  try simp only [Act.put, List.setIfInBounds_toArray, List.set_cons_zero, List.set_cons_succ]
  refine wpAnyH_take (i := 3) (oi := { dst := some 19, op := Op.load 23 (Operand.tmp 1), type := 23, pos := "law.go:18", after := #[{ on := 2, ground := Ground.guard }], guard := some (2, true) }) (v := ?v3_3) rfl (by kernel_rfl) (by kernel_rfl) (by kernel_rfl) (fun _ _ _ h => h) (Or.inl ⟨by rfl, ?hy3_3⟩) hS ?rest3_3
  case hy3_3 =>
    intro w hSw
    (try dsimp only at hSw)
    go_simp
    try with_reducible rfl
  try simp only [Act.put, List.setIfInBounds_toArray, List.set_cons_zero, List.set_cons_succ]
  refine wpAnyH_ready (rs := [4]) (by kernel_rfl) (by simp) ?_
  refine AllReadyH.cons (o := { dst := some 20, op := Op.call { callee := Callee.value (Operand.func 11), args := #[Operand.tmp 19], argTypes := #[23] }, type := 3, pos := "law.go:18", after := #[{ on := 3, ground := Ground.data }, { on := 2, ground := Ground.chain }, { on := 2, ground := Ground.guard }], guard := some (2, true) }) rfl (fun K hK => ?_) AllReadyH.nil
  go_simp
  refine (ex_cells _).mono ?_
  rintro e u2 ⟨rfl, hb⟩
  have r2 := r1.below hb r1.lt
  have hB2 := hB1.trans (hb.mono hB1.size)
  have HT2 := Lib.hid (HT1.out.below hb HT1.out.lt)
  have HM2 := Lib.hid (HM1.out.on hb)
  clear hb
  have c20 : u2.cell? ⟨w.heap.size, 0, none⟩ = some (Value.int .i64 2) := r2.cell 0 rfl
  have c21 : u2.cell? ⟨w.heap.size, 1, none⟩ = some (Value.int .i64 3) := r2.cell 1 rfl
  have c22 : u2.cell? ⟨w.heap.size, 2, none⟩ = some (Value.int .i64 0) := r2.cell 2 rfl
  have c23 : u2.cell? ⟨w.heap.size, 3, none⟩ = some (Value.int .i64 0) := r2.cell 3 rfl
  have c24 : u2.cell? ⟨w.heap.size, 4, none⟩ = some (Value.int .i64 1) := r2.cell 4 rfl
  refine hK.out _ _ ⟨c20, c21, c22, c23, c24⟩ (fun hS => ?_)
  clear hK K
  try simp only [Act.put, List.setIfInBounds_toArray, List.set_cons_zero, List.set_cons_succ]
  refine wpAnyH_take (i := 5) (oi := { dst := some 21, op := Op.binOp BinOp.eql 3 (Operand.tmp 20) (Operand.const (Value.int IntKind.i64 10)) 3, type := 4, pos := "law.go:18", after := #[{ on := 4, ground := Ground.data }, { on := 2, ground := Ground.guard }], guard := some (2, true) }) (v := ?v5_4) rfl (by kernel_rfl) (by kernel_rfl) (by kernel_rfl) (fun _ _ _ h => h) (Or.inl ⟨by rfl, ?hy5_4⟩) hS ?rest5_4
  case hy5_4 =>
    intro w hSw
    (try dsimp only at hSw)
    go_simp
    try with_reducible rfl
  try simp only [Act.put, List.setIfInBounds_toArray, List.set_cons_zero, List.set_cons_succ]
  refine wpAnyH_take (i := 6) (oi := { dst := some 22, op := Op.pick (Operand.tmp 18) (Operand.tmp 21) (Operand.const (Value.bool false)), type := 4, pos := "law.go:18", after := #[{ on := 2, ground := Ground.data }, { on := 5, ground := Ground.data }], guard := none }) (v := ?v6_5) rfl (by kernel_rfl) (by kernel_rfl) (by kernel_rfl) (fun _ _ _ h => h) (Or.inl ⟨by rfl, ?hy6_5⟩) hS ?rest6_5
  case hy6_5 =>
    intro w hSw
    (try dsimp only at hSw)
    go_simp
    try with_reducible rfl
  try simp only [Act.put, List.setIfInBounds_toArray, List.set_cons_zero, List.set_cons_succ]
  refine wpAnyH_take (i := 7) (oi := { dst := some 23, op := Op.move (Operand.tmp 22), type := 4, pos := "law.go:18", after := #[{ on := 6, ground := Ground.data }, { on := 4, ground := Ground.chain }], guard := none }) (v := ?v7_6) rfl (by kernel_rfl) (by kernel_rfl) (by kernel_rfl) (fun _ _ _ h => h) (Or.inl ⟨by rfl, ?hy7_6⟩) hS ?rest7_6
  case hy7_6 =>
    intro w hSw
    (try dsimp only at hSw)
    go_simp
    try with_reducible rfl
  try simp only [Act.put, List.setIfInBounds_toArray, List.set_cons_zero, List.set_cons_succ]
  refine wpAnyH_take (i := 8) (oi := { dst := some 24, op := Op.load 23 (Operand.tmp 1), type := 23, pos := "law.go:18", after := #[{ on := 7, ground := Ground.guard }], guard := some (7, true) }) (v := ?v8_7) rfl (by kernel_rfl) (by kernel_rfl) (by kernel_rfl) (fun _ _ _ h => h) (Or.inl ⟨by rfl, ?hy8_7⟩) hS ?rest8_7
  case hy8_7 =>
    intro w hSw
    (try dsimp only at hSw)
    go_simp
    try with_reducible rfl
  try simp only [Act.put, List.setIfInBounds_toArray, List.set_cons_zero, List.set_cons_succ]
  refine wpAnyH_ready (rs := [9]) (by kernel_rfl) (by simp) ?_
  refine AllReadyH.cons (o := { dst := some 25, op := Op.call { callee := Callee.value (Operand.func 13), args := #[Operand.tmp 24, Operand.const (Value.int IntKind.i64 1)], argTypes := #[23, 3] }, type := 3, pos := "law.go:18", after := #[{ on := 8, ground := Ground.data }, { on := 7, ground := Ground.chain }, { on := 7, ground := Ground.guard }], guard := some (7, true) }) rfl (fun K hK => ?_) AllReadyH.nil
  go_simp
  refine (ex_pin _).mono ?_
  rintro e u3 ⟨rfl, hb⟩
  have r3 := r2.below hb r2.lt
  have hB3 := hB2.trans (hb.mono hB2.size)
  have HT3 := Lib.hid (HT2.out.below hb HT2.out.lt)
  have HM3 := Lib.hid (HM2.out.on hb)
  clear hb
  have c30 : u3.cell? ⟨w.heap.size, 0, none⟩ = some (Value.int .i64 2) := r3.cell 0 rfl
  have c31 : u3.cell? ⟨w.heap.size, 1, none⟩ = some (Value.int .i64 3) := r3.cell 1 rfl
  have c32 : u3.cell? ⟨w.heap.size, 2, none⟩ = some (Value.int .i64 0) := r3.cell 2 rfl
  have c33 : u3.cell? ⟨w.heap.size, 3, none⟩ = some (Value.int .i64 0) := r3.cell 3 rfl
  have c34 : u3.cell? ⟨w.heap.size, 4, none⟩ = some (Value.int .i64 1) := r3.cell 4 rfl
  refine hK.out _ _ ⟨c30, c31, c32, c33, c34⟩ (fun hS => ?_)
  clear hK K
  try simp only [Act.put, List.setIfInBounds_toArray, List.set_cons_zero, List.set_cons_succ]
  refine wpAnyH_take (i := 10) (oi := { dst := some 26, op := Op.binOp BinOp.eql 3 (Operand.tmp 25) (Operand.const (Value.int IntKind.i64 4)) 3, type := 4, pos := "law.go:18", after := #[{ on := 9, ground := Ground.data }, { on := 7, ground := Ground.guard }], guard := some (7, true) }) (v := ?v10_8) rfl (by kernel_rfl) (by kernel_rfl) (by kernel_rfl) (fun _ _ _ h => h) (Or.inl ⟨by rfl, ?hy10_8⟩) hS ?rest10_8
  case hy10_8 =>
    intro w hSw
    (try dsimp only at hSw)
    go_simp
    try with_reducible rfl
  try simp only [Act.put, List.setIfInBounds_toArray, List.set_cons_zero, List.set_cons_succ]
  refine wpAnyH_take (i := 11) (oi := { dst := some 27, op := Op.pick (Operand.tmp 23) (Operand.tmp 26) (Operand.const (Value.bool false)), type := 4, pos := "law.go:18", after := #[{ on := 7, ground := Ground.data }, { on := 10, ground := Ground.data }], guard := none }) (v := ?v11_9) rfl (by kernel_rfl) (by kernel_rfl) (by kernel_rfl) (fun _ _ _ h => h) (Or.inl ⟨by rfl, ?hy11_9⟩) hS ?rest11_9
  case hy11_9 =>
    intro w hSw
    (try dsimp only at hSw)
    go_simp
    try with_reducible rfl
  try simp only [Act.put, List.setIfInBounds_toArray, List.set_cons_zero, List.set_cons_succ]
  refine wpAnyH_take (i := 12) (oi := { dst := some 28, op := Op.move (Operand.tmp 27), type := 4, pos := "law.go:18", after := #[{ on := 11, ground := Ground.data }, { on := 9, ground := Ground.chain }], guard := none }) (v := ?v12_10) rfl (by kernel_rfl) (by kernel_rfl) (by kernel_rfl) (fun _ _ _ h => h) (Or.inl ⟨by rfl, ?hy12_10⟩) hS ?rest12_10
  case hy12_10 =>
    intro w hSw
    (try dsimp only at hSw)
    go_simp
    try with_reducible rfl
  try simp only [Act.put, List.setIfInBounds_toArray, List.set_cons_zero, List.set_cons_succ]
  refine wpAnyH_take (i := 13) (oi := { dst := some 29, op := Op.load 23 (Operand.tmp 1), type := 23, pos := "law.go:18", after := #[{ on := 12, ground := Ground.guard }], guard := some (12, true) }) (v := ?v13_11) rfl (by kernel_rfl) (by kernel_rfl) (by kernel_rfl) (fun _ _ _ h => h) (Or.inl ⟨by rfl, ?hy13_11⟩) hS ?rest13_11
  case hy13_11 =>
    intro w hSw
    (try dsimp only at hSw)
    go_simp
    try with_reducible rfl
  try simp only [Act.put, List.setIfInBounds_toArray, List.set_cons_zero, List.set_cons_succ]
  refine wpAnyH_ready (rs := [14]) (by kernel_rfl) (by simp) ?_
  refine AllReadyH.cons (o := { dst := some 30, op := Op.call { callee := Callee.value (Operand.func 15), args := #[Operand.tmp 29, Operand.const (Value.int IntKind.i64 0)], argTypes := #[23, 3] }, type := 3, pos := "law.go:18", after := #[{ on := 13, ground := Ground.data }, { on := 12, ground := Ground.chain }, { on := 12, ground := Ground.guard }], guard := some (12, true) }) rfl (fun K hK => ?_) AllReadyH.nil
  go_simp
  refine (ex_grant _).mono ?_
  rintro e u4 ⟨rfl, hb⟩
  have r4 := r3.below hb r3.lt
  have hB4 := hB3.trans (hb.mono hB3.size)
  have HT4 := Lib.hid (HT3.out.below hb HT3.out.lt)
  have HM4 := Lib.hid (HM3.out.on hb)
  clear hb
  have c40 : u4.cell? ⟨w.heap.size, 0, none⟩ = some (Value.int .i64 2) := r4.cell 0 rfl
  have c41 : u4.cell? ⟨w.heap.size, 1, none⟩ = some (Value.int .i64 3) := r4.cell 1 rfl
  have c42 : u4.cell? ⟨w.heap.size, 2, none⟩ = some (Value.int .i64 0) := r4.cell 2 rfl
  have c43 : u4.cell? ⟨w.heap.size, 3, none⟩ = some (Value.int .i64 0) := r4.cell 3 rfl
  have c44 : u4.cell? ⟨w.heap.size, 4, none⟩ = some (Value.int .i64 1) := r4.cell 4 rfl
  refine hK.out _ _ ⟨c40, c41, c42, c43, c44⟩ (fun hS => ?_)
  clear hK K
  try simp only [Act.put, List.setIfInBounds_toArray, List.set_cons_zero, List.set_cons_succ]
  refine wpAnyH_take (i := 15) (oi := { dst := some 31, op := Op.binOp BinOp.eql 3 (Operand.tmp 30) (Operand.const (Value.int IntKind.i64 5)) 3, type := 4, pos := "law.go:18", after := #[{ on := 14, ground := Ground.data }, { on := 12, ground := Ground.guard }], guard := some (12, true) }) (v := ?v15_12) rfl (by kernel_rfl) (by kernel_rfl) (by kernel_rfl) (fun _ _ _ h => h) (Or.inl ⟨by rfl, ?hy15_12⟩) hS ?rest15_12
  case hy15_12 =>
    intro w hSw
    (try dsimp only at hSw)
    go_simp
    try with_reducible rfl
  try simp only [Act.put, List.setIfInBounds_toArray, List.set_cons_zero, List.set_cons_succ]
  refine wpAnyH_take (i := 16) (oi := { dst := some 32, op := Op.pick (Operand.tmp 28) (Operand.tmp 31) (Operand.const (Value.bool false)), type := 4, pos := "law.go:18", after := #[{ on := 12, ground := Ground.data }, { on := 15, ground := Ground.data }], guard := none }) (v := ?v16_13) rfl (by kernel_rfl) (by kernel_rfl) (by kernel_rfl) (fun _ _ _ h => h) (Or.inl ⟨by rfl, ?hy16_13⟩) hS ?rest16_13
  case hy16_13 =>
    intro w hSw
    (try dsimp only at hSw)
    go_simp
    try with_reducible rfl
  try simp only [Act.put, List.setIfInBounds_toArray, List.set_cons_zero, List.set_cons_succ]
  refine wpAnyH_take (i := 17) (oi := { dst := some 33, op := Op.move (Operand.tmp 32), type := 4, pos := "law.go:18", after := #[{ on := 16, ground := Ground.data }, { on := 14, ground := Ground.chain }], guard := none }) (v := ?v17_14) rfl (by kernel_rfl) (by kernel_rfl) (by kernel_rfl) (fun _ _ _ h => h) (Or.inl ⟨by rfl, ?hy17_14⟩) hS ?rest17_14
  case hy17_14 =>
    intro w hSw
    (try dsimp only at hSw)
    go_simp
    try with_reducible rfl
  try simp only [Act.put, List.setIfInBounds_toArray, List.set_cons_zero, List.set_cons_succ]
  refine wpAnyH_take (i := 18) (oi := { dst := some 34, op := Op.load 23 (Operand.tmp 1), type := 23, pos := "law.go:18", after := #[{ on := 17, ground := Ground.guard }], guard := some (17, true) }) (v := ?v18_15) rfl (by kernel_rfl) (by kernel_rfl) (by kernel_rfl) (fun _ _ _ h => h) (Or.inl ⟨by rfl, ?hy18_15⟩) hS ?rest18_15
  case hy18_15 =>
    intro w hSw
    (try dsimp only at hSw)
    go_simp
    try with_reducible rfl
  try simp only [Act.put, List.setIfInBounds_toArray, List.set_cons_zero, List.set_cons_succ]
  refine wpAnyH_ready (rs := [19]) (by kernel_rfl) (by simp) ?_
  refine AllReadyH.cons (o := { dst := some 35, op := Op.call { callee := Callee.value (Operand.func 17), args := #[Operand.tmp 34, Operand.const (Value.int IntKind.i64 2)], argTypes := #[23, 3] }, type := 3, pos := "law.go:18", after := #[{ on := 18, ground := Ground.data }, { on := 17, ground := Ground.chain }, { on := 17, ground := Ground.guard }], guard := some (17, true) }) rfl (fun K hK => ?_) AllReadyH.nil
  go_simp
  refine (ex_slot _).mono ?_
  rintro e u5 ⟨rfl, hb⟩
  have r5 := r4.below hb r4.lt
  have hB5 := hB4.trans (hb.mono hB4.size)
  have HT5 := Lib.hid (HT4.out.below hb HT4.out.lt)
  have HM5 := Lib.hid (HM4.out.on hb)
  clear hb
  have c50 : u5.cell? ⟨w.heap.size, 0, none⟩ = some (Value.int .i64 2) := r5.cell 0 rfl
  have c51 : u5.cell? ⟨w.heap.size, 1, none⟩ = some (Value.int .i64 3) := r5.cell 1 rfl
  have c52 : u5.cell? ⟨w.heap.size, 2, none⟩ = some (Value.int .i64 0) := r5.cell 2 rfl
  have c53 : u5.cell? ⟨w.heap.size, 3, none⟩ = some (Value.int .i64 0) := r5.cell 3 rfl
  have c54 : u5.cell? ⟨w.heap.size, 4, none⟩ = some (Value.int .i64 1) := r5.cell 4 rfl
  refine hK.out _ _ ⟨c50, c51, c52, c53, c54⟩ (fun hS => ?_)
  clear hK K
  try simp only [Act.put, List.setIfInBounds_toArray, List.set_cons_zero, List.set_cons_succ]
  refine wpAnyH_take (i := 20) (oi := { dst := some 36, op := Op.binOp BinOp.eql 3 (Operand.tmp 35) (Operand.const (Value.int IntKind.i64 9)) 3, type := 4, pos := "law.go:18", after := #[{ on := 19, ground := Ground.data }, { on := 17, ground := Ground.guard }], guard := some (17, true) }) (v := ?v20_16) rfl (by kernel_rfl) (by kernel_rfl) (by kernel_rfl) (fun _ _ _ h => h) (Or.inl ⟨by rfl, ?hy20_16⟩) hS ?rest20_16
  case hy20_16 =>
    intro w hSw
    (try dsimp only at hSw)
    go_simp
    try with_reducible rfl
  try simp only [Act.put, List.setIfInBounds_toArray, List.set_cons_zero, List.set_cons_succ]
  refine wpAnyH_take (i := 21) (oi := { dst := some 37, op := Op.pick (Operand.tmp 33) (Operand.tmp 36) (Operand.const (Value.bool false)), type := 4, pos := "law.go:18", after := #[{ on := 17, ground := Ground.data }, { on := 20, ground := Ground.data }], guard := none }) (v := ?v21_17) rfl (by kernel_rfl) (by kernel_rfl) (by kernel_rfl) (fun _ _ _ h => h) (Or.inl ⟨by rfl, ?hy21_17⟩) hS ?rest21_17
  case hy21_17 =>
    intro w hSw
    (try dsimp only at hSw)
    go_simp
    try with_reducible rfl
  try simp only [Act.put, List.setIfInBounds_toArray, List.set_cons_zero, List.set_cons_succ]
  refine wpAnyH_take (i := 22) (oi := { dst := some 38, op := Op.move (Operand.tmp 37), type := 4, pos := "law.go:18", after := #[{ on := 21, ground := Ground.data }, { on := 19, ground := Ground.chain }], guard := none }) (v := ?v22_18) rfl (by kernel_rfl) (by kernel_rfl) (by kernel_rfl) (fun _ _ _ h => h) (Or.inl ⟨by rfl, ?hy22_18⟩) hS ?rest22_18
  case hy22_18 =>
    intro w hSw
    (try dsimp only at hSw)
    go_simp
    try with_reducible rfl
  try simp only [Act.put, List.setIfInBounds_toArray, List.set_cons_zero, List.set_cons_succ]
  refine wpAnyH_take (i := 23) (oi := { dst := some 39, op := Op.move (Operand.tmp 2), type := 26, pos := "law.go:18", after := #[{ on := 22, ground := Ground.guard }], guard := some (22, true) }) (v := ?v23_19) rfl (by kernel_rfl) (by kernel_rfl) (by kernel_rfl) (fun _ _ _ h => h) (Or.inl ⟨by rfl, ?hy23_19⟩) hS ?rest23_19
  case hy23_19 =>
    intro w hSw
    (try dsimp only at hSw)
    go_simp
    try with_reducible rfl
  try simp only [Act.put, List.setIfInBounds_toArray, List.set_cons_zero, List.set_cons_succ]
  refine wpAnyH_ready (rs := [24]) (by kernel_rfl) (by simp) ?_
  refine AllReadyH.cons (o := { dst := some 40, op := Op.call { callee := Callee.value (Operand.func 27), args := #[Operand.tmp 39], argTypes := #[26] }, type := 3, pos := "law.go:18", after := #[{ on := 23, ground := Ground.data }, { on := 22, ground := Ground.chain }, { on := 22, ground := Ground.guard }], guard := some (22, true) }) rfl (fun K hK => ?_) AllReadyH.nil
  go_simp
  refine (many_any g gw 10 _ HM5.out).mono ?_
  rintro e w50 ⟨rfl, rfl⟩
  refine hK.out _ _ ⟨c50, c51, c52, c53, c54⟩ (fun hS => ?_)
  clear hK K
  try simp only [Act.put, List.setIfInBounds_toArray, List.set_cons_zero, List.set_cons_succ]
  refine wpAnyH_take (i := 25) (oi := { dst := some 41, op := Op.binOp BinOp.eql 3 (Operand.tmp 40) (Operand.const (Value.int IntKind.i64 10)) 3, type := 4, pos := "law.go:18", after := #[{ on := 24, ground := Ground.data }, { on := 22, ground := Ground.guard }], guard := some (22, true) }) (v := ?v25_20) rfl (by kernel_rfl) (by kernel_rfl) (by kernel_rfl) (fun _ _ _ h => h) (Or.inl ⟨by rfl, ?hy25_20⟩) hS ?rest25_20
  case hy25_20 =>
    intro w hSw
    (try dsimp only at hSw)
    go_simp
    try with_reducible rfl
  try simp only [Act.put, List.setIfInBounds_toArray, List.set_cons_zero, List.set_cons_succ]
  refine wpAnyH_take (i := 26) (oi := { dst := some 42, op := Op.pick (Operand.tmp 38) (Operand.tmp 41) (Operand.const (Value.bool false)), type := 4, pos := "law.go:18", after := #[{ on := 22, ground := Ground.data }, { on := 25, ground := Ground.data }], guard := none }) (v := ?v26_21) rfl (by kernel_rfl) (by kernel_rfl) (by kernel_rfl) (fun _ _ _ h => h) (Or.inl ⟨by rfl, ?hy26_21⟩) hS ?rest26_21
  case hy26_21 =>
    intro w hSw
    (try dsimp only at hSw)
    go_simp
    try with_reducible rfl
  try simp only [Act.put, List.setIfInBounds_toArray, List.set_cons_zero, List.set_cons_succ]
  refine wpAnyH_take (i := 27) (oi := { dst := some 43, op := Op.move (Operand.tmp 42), type := 4, pos := "law.go:18", after := #[{ on := 26, ground := Ground.data }, { on := 24, ground := Ground.chain }], guard := none }) (v := ?v27_22) rfl (by kernel_rfl) (by kernel_rfl) (by kernel_rfl) (fun _ _ _ h => h) (Or.inl ⟨by rfl, ?hy27_22⟩) hS ?rest27_22
  case hy27_22 =>
    intro w hSw
    (try dsimp only at hSw)
    go_simp
    try with_reducible rfl
  try simp only [Act.put, List.setIfInBounds_toArray, List.set_cons_zero, List.set_cons_succ]
  refine wpAnyH_take (i := 28) (oi := { dst := some 44, op := Op.load 23 (Operand.tmp 1), type := 23, pos := "law.go:18", after := #[{ on := 27, ground := Ground.guard }], guard := some (27, true) }) (v := ?v28_23) rfl (by kernel_rfl) (by kernel_rfl) (by kernel_rfl) (fun _ _ _ h => h) (Or.inl ⟨by rfl, ?hy28_23⟩) hS ?rest28_23
  case hy28_23 =>
    intro w hSw
    (try dsimp only at hSw)
    go_simp
    try with_reducible rfl
  try simp only [Act.put, List.setIfInBounds_toArray, List.set_cons_zero, List.set_cons_succ]
  refine wpAnyH_take (i := 29) (oi := { dst := some 45, op := Op.move (Operand.tmp 2), type := 26, pos := "law.go:18", after := #[{ on := 27, ground := Ground.guard }], guard := some (27, true) }) (v := ?v29_24) rfl (by kernel_rfl) (by kernel_rfl) (by kernel_rfl) (fun _ _ _ h => h) (Or.inl ⟨by rfl, ?hy29_24⟩) hS ?rest29_24
  case hy29_24 =>
    intro w hSw
    (try dsimp only at hSw)
    go_simp
    try with_reducible rfl
  try simp only [Act.put, List.setIfInBounds_toArray, List.set_cons_zero, List.set_cons_succ]
  refine wpAnyH_ready (rs := [30]) (by kernel_rfl) (by simp) ?_
  refine AllReadyH.cons (o := { dst := some 46, op := Op.call { callee := Callee.value (Operand.func 20), args := #[Operand.tmp 45], argTypes := #[26] }, type := 33, pos := "law.go:18", after := #[{ on := 29, ground := Ground.data }, { on := 27, ground := Ground.chain }, { on := 27, ground := Ground.guard }], guard := some (27, true) }) rfl (fun K hK => ?_) AllReadyH.nil
  go_simp
  refine (words_any g gw 10 _ HM5.out (by omega) (by omega)).mono ?_
  rintro e u6 ⟨b, c1, rfl, hc1, hI, hb⟩
  have r6 := r5.below hb r5.lt
  have hB6 := hB5.trans (hb.mono hB5.size)
  have HT6 := Lib.hid (HT5.out.below hb HT5.out.lt)
  have HM6 := Lib.hid (HM5.out.on hb)
  clear hb
  have c60 : u6.cell? ⟨w.heap.size, 0, none⟩ = some (Value.int .i64 2) := r6.cell 0 rfl
  have c61 : u6.cell? ⟨w.heap.size, 1, none⟩ = some (Value.int .i64 3) := r6.cell 1 rfl
  have c62 : u6.cell? ⟨w.heap.size, 2, none⟩ = some (Value.int .i64 0) := r6.cell 2 rfl
  have c63 : u6.cell? ⟨w.heap.size, 3, none⟩ = some (Value.int .i64 0) := r6.cell 3 rfl
  have c64 : u6.cell? ⟨w.heap.size, 4, none⟩ = some (Value.int .i64 1) := r6.cell 4 rfl
  refine hK.out _ _ ⟨c60, c61, c62, c63, c64⟩ (fun hS => ?_)
  clear hK K
  try simp only [Act.put, List.setIfInBounds_toArray, List.set_cons_zero, List.set_cons_succ]
  refine wpAnyH_ready (rs := [31]) (by kernel_rfl) (by simp) ?_
  refine AllReadyH.cons (o := { dst := some 47, op := Op.call { callee := Callee.value (Operand.func 22), args := #[Operand.tmp 44, Operand.tmp 46], argTypes := #[23, 33] }, type := 37, pos := "law.go:18", after := #[{ on := 28, ground := Ground.data }, { on := 30, ground := Ground.data }, { on := 30, ground := Ground.chain }, { on := 27, ground := Ground.guard }], guard := some (27, true) }) rfl (fun K hK => ?_) AllReadyH.nil
  go_simp
  refine (ex_slots b c1 _ HT6.out hc1 hI).mono ?_
  rintro e u7 ⟨A, c2, rfl, hb⟩
  have r7 := r6.below hb r6.lt
  have hB7 := hB6.trans (hb.mono hB6.size)
  have HT7 := Lib.hid (HT6.out.below hb HT6.out.lt)
  have HM7 := Lib.hid (HM6.out.on hb)
  clear hb
  have c70 : u7.cell? ⟨w.heap.size, 0, none⟩ = some (Value.int .i64 2) := r7.cell 0 rfl
  have c71 : u7.cell? ⟨w.heap.size, 1, none⟩ = some (Value.int .i64 3) := r7.cell 1 rfl
  have c72 : u7.cell? ⟨w.heap.size, 2, none⟩ = some (Value.int .i64 0) := r7.cell 2 rfl
  have c73 : u7.cell? ⟨w.heap.size, 3, none⟩ = some (Value.int .i64 0) := r7.cell 3 rfl
  have c74 : u7.cell? ⟨w.heap.size, 4, none⟩ = some (Value.int .i64 1) := r7.cell 4 rfl
  refine hK.out _ _ ⟨c70, c71, c72, c73, c74⟩ (fun hS => ?_)
  clear hK K
  try simp only [Act.put, List.setIfInBounds_toArray, List.set_cons_zero, List.set_cons_succ]
  refine wpAnyH_take (i := 32) (oi := { dst := some 48, op := Op.call { callee := Callee.builtin Builtin.len, args := #[Operand.tmp 47], argTypes := #[37] }, type := 3, pos := "law.go:18", after := #[{ on := 31, ground := Ground.data }, { on := 27, ground := Ground.guard }], guard := some (27, true) }) (v := ?v32_25) rfl (by kernel_rfl) (by kernel_rfl) (by kernel_rfl) (fun _ _ _ h => h) (Or.inl ⟨by rfl, ?hy32_25⟩) hS ?rest32_25
  case hy32_25 =>
    intro w hSw
    (try dsimp only at hSw)
    go_simp
    try with_reducible rfl
  try simp only [Act.put, List.setIfInBounds_toArray, List.set_cons_zero, List.set_cons_succ]
  refine wpAnyH_take (i := 33) (oi := { dst := some 49, op := Op.binOp BinOp.eql 3 (Operand.tmp 48) (Operand.const (Value.int IntKind.i64 3)) 3, type := 4, pos := "law.go:18", after := #[{ on := 32, ground := Ground.data }, { on := 27, ground := Ground.guard }], guard := some (27, true) }) (v := ?v33_26) rfl (by kernel_rfl) (by kernel_rfl) (by kernel_rfl) (fun _ _ _ h => h) (Or.inl ⟨by rfl, ?hy33_26⟩) hS ?rest33_26
  case hy33_26 =>
    intro w hSw
    (try dsimp only at hSw)
    go_simp
    try with_reducible rfl
  try simp only [Act.put, List.setIfInBounds_toArray, List.set_cons_zero, List.set_cons_succ]
  refine wpAnyH_take (i := 34) (oi := { dst := some 50, op := Op.pick (Operand.tmp 43) (Operand.tmp 49) (Operand.const (Value.bool false)), type := 4, pos := "law.go:18", after := #[{ on := 27, ground := Ground.data }, { on := 33, ground := Ground.data }], guard := none }) (v := ?v34_27) rfl (by kernel_rfl) (by kernel_rfl) (by kernel_rfl) (fun _ _ _ h => h) (Or.inl ⟨by rfl, ?hy34_27⟩) hS ?rest34_27
  case hy34_27 =>
    intro w hSw
    (try dsimp only at hSw)
    go_simp
    try with_reducible rfl
  try simp only [Act.put, List.setIfInBounds_toArray, List.set_cons_zero, List.set_cons_succ]
  refine wpAnyH_take (i := 35) (oi := { dst := some 51, op := Op.move (Operand.tmp 50), type := 4, pos := "law.go:18", after := #[{ on := 34, ground := Ground.data }, { on := 31, ground := Ground.chain }], guard := none }) (v := ?v35_28) rfl (by kernel_rfl) (by kernel_rfl) (by kernel_rfl) (fun _ _ _ h => h) (Or.inl ⟨by rfl, ?hy35_28⟩) hS ?rest35_28
  case hy35_28 =>
    intro w hSw
    (try dsimp only at hSw)
    go_simp
    try with_reducible rfl
  try simp only [Act.put, List.setIfInBounds_toArray, List.set_cons_zero, List.set_cons_succ]
  refine wpAnyH_take (i := 36) (oi := { dst := some 52, op := Op.pick (Operand.tmp 51) (Operand.const (Value.bool true)) (Operand.const (Value.bool false)), type := 4, pos := "law.go:18", after := #[{ on := 35, ground := Ground.data }], guard := none }) (v := ?v36_29) rfl (by kernel_rfl) (by kernel_rfl) (by kernel_rfl) (fun _ _ _ h => h) (Or.inl ⟨by rfl, ?hy36_29⟩) hS ?rest36_29
  case hy36_29 =>
    intro w hSw
    (try dsimp only at hSw)
    go_simp
    try with_reducible rfl
  try simp only [Act.put, List.setIfInBounds_toArray, List.set_cons_zero, List.set_cons_succ]
  refine wpAnyH_take (i := 37) (oi := { dst := some 0, op := Op.assign (Operand.tmp 52), type := 4, pos := "law.go:18", after := #[{ on := 36, ground := Ground.data }, { on := 35, ground := Ground.chain }, { on := 0, ground := Ground.phase }, { on := 1, ground := Ground.phase }, { on := 2, ground := Ground.phase }, { on := 3, ground := Ground.phase }, { on := 4, ground := Ground.phase }, { on := 5, ground := Ground.phase }, { on := 6, ground := Ground.phase }, { on := 7, ground := Ground.phase }, { on := 8, ground := Ground.phase }, { on := 9, ground := Ground.phase }, { on := 10, ground := Ground.phase }, { on := 11, ground := Ground.phase }, { on := 12, ground := Ground.phase }, { on := 13, ground := Ground.phase }, { on := 14, ground := Ground.phase }, { on := 15, ground := Ground.phase }, { on := 16, ground := Ground.phase }, { on := 17, ground := Ground.phase }, { on := 18, ground := Ground.phase }, { on := 19, ground := Ground.phase }, { on := 20, ground := Ground.phase }, { on := 21, ground := Ground.phase }, { on := 22, ground := Ground.phase }, { on := 23, ground := Ground.phase }, { on := 24, ground := Ground.phase }, { on := 25, ground := Ground.phase }, { on := 26, ground := Ground.phase }, { on := 27, ground := Ground.phase }, { on := 28, ground := Ground.phase }, { on := 29, ground := Ground.phase }, { on := 30, ground := Ground.phase }, { on := 31, ground := Ground.phase }, { on := 32, ground := Ground.phase }, { on := 33, ground := Ground.phase }, { on := 34, ground := Ground.phase }, { on := 35, ground := Ground.phase }, { on := 36, ground := Ground.phase }], guard := none }) (v := ?v37_30) rfl (by kernel_rfl) (by kernel_rfl) (by kernel_rfl) (fun _ _ _ h => h) (Or.inl ⟨by rfl, ?hy37_30⟩) hS ?rest37_30
  case hy37_30 =>
    intro w hSw
    (try dsimp only at hSw)
    go_simp
    try with_reducible rfl
  try simp only [Act.put, List.setIfInBounds_toArray, List.set_cons_zero]
  refine wpAnyH_done (by kernel_rfl) ?_ _
  go_wp2_with fail
  go_ret
  exact ⟨rfl, hB7⟩
end Go.Proofs.YtfnpleicbpbiaaaDoor
