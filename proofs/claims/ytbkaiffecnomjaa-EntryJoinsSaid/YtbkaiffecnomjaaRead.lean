/- An entry read from its bytes, right or not; nothing that was there changes. -/
import Derived.Test.YtbkaiffecnomjaaPut
import Derived.Test.YtbkaiffecnomjaaPair
namespace Go.Proofs.Ytbkaiffecnomjaa
open Go.RowKit
attribute [local go_sem ↓] Go.wp_at_zero Go.wp_at_succ

theorem rd_wa {p : Pc} (h : By p) : (bits .and .u8 p.b3 1 != 0) = (rdE p).wa := (sum_bits h.b3).1
theorem rd_fo {p : Pc} (h : By p) : (bits .and .u8 p.b3 2 != 0) = (rdE p).fo := (sum_bits h.b3).2.1
theorem rd_gd {p : Pc} (h : By p) : (bits .and .u8 p.b3 4 != 0) = (rdE p).gd := (sum_bits h.b3).2.2
set_option maxRecDepth 100000 in
set_option maxHeartbeats 2000000 in
theorem read_any (p : Pc) (w : World) (hb : By p) :
    Calls Try.prog 19 #[Value.agg #[Value.int .u8 p.b0, Value.int .u8 p.b1, Value.int .u8 p.b2, Value.int .u8 p.b3, Value.int .u8 p.b4, Value.int .u8 p.b5, Value.int .u8 p.b6, Value.int .u8 p.b7, Value.int .u8 p.b8, Value.int .u8 p.b9, Value.int .u8 p.b10, Value.int .u8 p.b11]] w fun e w' => e = .returned (Value.agg #[Value.int .i64 ((rdE p)).k, Value.int .i64 ((rdE p)).w, Value.int .i64 ((rdE p)).op, Value.int .i64 ((rdE p)).dl, Value.bool ((rdE p)).wa, Value.bool ((rdE p)).fo, Value.int .i64 ((rdE p)).sl, Value.int .i64 ((rdE p)).ge, Value.int .i64 ((rdE p)).st, Value.int .i64 ((rdE p)).n, Value.bool ((rdE p)).gd]) ∧ Below w.heap.size w w' := by
  have g1 := rd_wa hb
  have g2 := rd_fo hb
  have g3 := rd_gd hb
  have Hb := Lib.hid hb
  have i0 : IntKind.i64.wrap p.b0 = p.b0 := IntWalk.i64_in _ (by have := Hb.out.b0; omega)
  have i1 : IntKind.i64.wrap p.b1 = p.b1 := IntWalk.i64_in _ (by have := Hb.out.b1; omega)
  have i2 : IntKind.i64.wrap p.b2 = p.b2 := IntWalk.i64_in _ (by have := Hb.out.b2; omega)
  have i4 : IntKind.i64.wrap p.b4 = p.b4 := IntWalk.i64_in _ (by have := Hb.out.b4; omega)
  have i5 : IntKind.i64.wrap p.b5 = p.b5 := IntWalk.i64_in _ (by have := Hb.out.b5; omega)
  clear hb
  go_enter Try.func19, Try.ntmps19
  go_wp2_with fail
  have hB0 : Below w.heap.size w ((w.alloc (.cells #[Value.int .u8 p.b0, Value.int .u8 p.b1, Value.int .u8 p.b2, Value.int .u8 p.b3, Value.int .u8 p.b4, Value.int .u8 p.b5, Value.int .u8 p.b6, Value.int .u8 p.b7, Value.int .u8 p.b8, Value.int .u8 p.b9, Value.int .u8 p.b10, Value.int .u8 p.b11] 43)).alloc (.cells #[Value.int .i64 en0.k, Value.int .i64 en0.w, Value.int .i64 en0.op, Value.int .i64 en0.dl, Value.bool en0.wa, Value.bool en0.fo, Value.int .i64 en0.sl, Value.int .i64 en0.ge, Value.int .i64 en0.st, Value.int .i64 en0.n, Value.bool en0.gd] 32)) := bstep (bnew _ _) (bnew _ _)
  have r0 := (RowAt.new w 43 #[Value.int .u8 p.b0, Value.int .u8 p.b1, Value.int .u8 p.b2, Value.int .u8 p.b3, Value.int .u8 p.b4, Value.int .u8 p.b5, Value.int .u8 p.b6, Value.int .u8 p.b7, Value.int .u8 p.b8, Value.int .u8 p.b9, Value.int .u8 p.b10, Value.int .u8 p.b11]).alloc (.cells #[Value.int .i64 en0.k, Value.int .i64 en0.w, Value.int .i64 en0.op, Value.int .i64 en0.dl, Value.bool en0.wa, Value.bool en0.fo, Value.int .i64 en0.sl, Value.int .i64 en0.ge, Value.int .i64 en0.st, Value.int .i64 en0.n, Value.bool en0.gd] 32)
  have q0 := RowAt.new (w.alloc (.cells #[Value.int .u8 p.b0, Value.int .u8 p.b1, Value.int .u8 p.b2, Value.int .u8 p.b3, Value.int .u8 p.b4, Value.int .u8 p.b5, Value.int .u8 p.b6, Value.int .u8 p.b7, Value.int .u8 p.b8, Value.int .u8 p.b9, Value.int .u8 p.b10, Value.int .u8 p.b11] 43)) 32 #[Value.int .i64 en0.k, Value.int .i64 en0.w, Value.int .i64 en0.op, Value.int .i64 en0.dl, Value.bool en0.wa, Value.bool en0.fo, Value.int .i64 en0.sl, Value.int .i64 en0.ge, Value.int .i64 en0.st, Value.int .i64 en0.n, Value.bool en0.gd]
  simp only [World.size_alloc] at q0
  obtain ⟨W, hW⟩ : ∃ W, W = (w.alloc (.cells #[Value.int .u8 p.b0, Value.int .u8 p.b1, Value.int .u8 p.b2, Value.int .u8 p.b3, Value.int .u8 p.b4, Value.int .u8 p.b5, Value.int .u8 p.b6, Value.int .u8 p.b7, Value.int .u8 p.b8, Value.int .u8 p.b9, Value.int .u8 p.b10, Value.int .u8 p.b11] 43)).alloc (.cells #[Value.int .i64 en0.k, Value.int .i64 en0.w, Value.int .i64 en0.op, Value.int .i64 en0.dl, Value.bool en0.wa, Value.bool en0.fo, Value.int .i64 en0.sl, Value.int .i64 en0.ge, Value.int .i64 en0.st, Value.int .i64 en0.n, Value.bool en0.gd] 32) := ⟨_, rfl⟩
  obtain ⟨B1, e1⟩ : ∃ B1, B1 = w.heap.size := ⟨_, rfl⟩
  obtain ⟨B2, e2⟩ : ∃ B2, B2 = B1 + 1 := ⟨_, rfl⟩
  simp only [en0] at hW r0 q0 hB0
  rw [← hW] at r0 hB0 ⊢
  rw [← e1] at r0 q0 ⊢
  rw [← e2] at q0 ⊢
  replace q0 : RowAt W B2 32 #[Value.int .i64 en0.k, Value.int .i64 en0.w, Value.int .i64 en0.op, Value.int .i64 en0.dl, Value.bool en0.wa, Value.bool en0.fo, Value.int .i64 en0.sl, Value.int .i64 en0.ge, Value.int .i64 en0.st, Value.int .i64 en0.n, Value.bool en0.gd] := by rw [hW]; exact q0
  have hne : B1 ≠ B2 := by omega
  have l02 : w.heap.size ≤ B2 := by omega
  clear hW e1 e2
  replace r0 := r0.drew
  replace q0 := q0.drew
  replace hB0 := hB0.drew
  have c0_0 : W.drew.cell? ⟨B1, 0, none⟩ = some (vB p.b0) := r0.cell 0 rfl
  have c0_1 : W.drew.cell? ⟨B1, 1, none⟩ = some (vB p.b1) := r0.cell 1 rfl
  have c0_2 : W.drew.cell? ⟨B1, 2, none⟩ = some (vB p.b2) := r0.cell 2 rfl
  have c0_3 : W.drew.cell? ⟨B1, 3, none⟩ = some (vB p.b3) := r0.cell 3 rfl
  have c0_4 : W.drew.cell? ⟨B1, 4, none⟩ = some (vB p.b4) := r0.cell 4 rfl
  have c0_5 : W.drew.cell? ⟨B1, 5, none⟩ = some (vB p.b5) := r0.cell 5 rfl
  have c0_6 : W.drew.cell? ⟨B1, 6, none⟩ = some (vB p.b6) := r0.cell 6 rfl
  have c0_7 : W.drew.cell? ⟨B1, 7, none⟩ = some (vB p.b7) := r0.cell 7 rfl
  have c0_8 : W.drew.cell? ⟨B1, 8, none⟩ = some (vB p.b8) := r0.cell 8 rfl
  have c0_9 : W.drew.cell? ⟨B1, 9, none⟩ = some (vB p.b9) := r0.cell 9 rfl
  have c0_10 : W.drew.cell? ⟨B1, 10, none⟩ = some (vB p.b10) := r0.cell 10 rfl
  have c0_11 : W.drew.cell? ⟨B1, 11, none⟩ = some (vB p.b11) := r0.cell 11 rfl
  refine wp_region_held_drew (S := (fun w' => w'.cell? ⟨B1, 0, none⟩ = some (vB p.b0) ∧ w'.cell? ⟨B1, 1, none⟩ = some (vB p.b1) ∧ w'.cell? ⟨B1, 2, none⟩ = some (vB p.b2) ∧ w'.cell? ⟨B1, 3, none⟩ = some (vB p.b3) ∧ w'.cell? ⟨B1, 4, none⟩ = some (vB p.b4) ∧ w'.cell? ⟨B1, 5, none⟩ = some (vB p.b5) ∧ w'.cell? ⟨B1, 6, none⟩ = some (vB p.b6) ∧ w'.cell? ⟨B1, 7, none⟩ = some (vB p.b7) ∧ w'.cell? ⟨B1, 8, none⟩ = some (vB p.b8) ∧ w'.cell? ⟨B1, 9, none⟩ = some (vB p.b9) ∧ w'.cell? ⟨B1, 10, none⟩ = some (vB p.b10) ∧ w'.cell? ⟨B1, 11, none⟩ = some (vB p.b11))) (by kernel_rfl) ⟨c0_0, c0_1, c0_2, c0_3, c0_4, c0_5, c0_6, c0_7, c0_8, c0_9, c0_10, c0_11⟩ (fun hS => ?_)
  generalize W.drew = u0 at *
  refine wpAnyH_take (i := 0) (oi := { dst := some 3, op := Op.indexAddr 43 (Operand.tmp 1) (Operand.const (Value.int IntKind.i64 0)), type := 0, pos := "entry.go:77", after := #[], guard := none }) (v := ?v0_1) rfl (by kernel_rfl) (by kernel_rfl) (by kernel_rfl) (fun _ _ _ h => h) (Or.inl ⟨by rfl, ?hy0_1⟩) hS ?rest0_1
  case hy0_1 =>
    intro w hSw
    (try dsimp only at hSw)
    go_simp
    try with_reducible rfl
  try simp only [Act.put, List.setIfInBounds_toArray, List.set_cons_zero, List.set_cons_succ]
  refine wpAnyH_take (i := 1) (oi := { dst := some 4, op := Op.load 5 (Operand.tmp 3), type := 5, pos := "entry.go:77", after := #[{ on := 0, ground := Ground.data }], guard := none }) (v := ?v1_2) rfl (by kernel_rfl) (by kernel_rfl) (by kernel_rfl) (fun _ _ _ h => h) (Or.inl ⟨by rfl, ?hy1_2⟩) hS ?rest1_2
  case hy1_2 =>
    intro w hSw
    (try dsimp only at hSw)
    go_simp
    try with_reducible rfl
  try simp only [Act.put, List.setIfInBounds_toArray, List.set_cons_zero, List.set_cons_succ]
  refine wpAnyH_take (i := 2) (oi := { dst := some 5, op := Op.convert 5 3 (Operand.tmp 4), type := 3, pos := "entry.go:77", after := #[{ on := 1, ground := Ground.data }], guard := none }) (v := ?v2_3) rfl (by kernel_rfl) (by kernel_rfl) (by kernel_rfl) (fun _ _ _ h => h) (Or.inl ⟨by rfl, ?hy2_3⟩) hS ?rest2_3
  case hy2_3 =>
    intro w hSw
    (try dsimp only at hSw)
    go_simp
    try with_reducible rfl
  try simp only [Act.put, List.setIfInBounds_toArray, List.set_cons_zero, List.set_cons_succ]
  refine wpAnyH_take (i := 3) (oi := { dst := some 6, op := Op.indexAddr 43 (Operand.tmp 1) (Operand.const (Value.int IntKind.i64 1)), type := 0, pos := "entry.go:77", after := #[], guard := none }) (v := ?v3_4) rfl (by kernel_rfl) (by kernel_rfl) (by kernel_rfl) (fun _ _ _ h => h) (Or.inl ⟨by rfl, ?hy3_4⟩) hS ?rest3_4
  case hy3_4 =>
    intro w hSw
    (try dsimp only at hSw)
    go_simp
    try with_reducible rfl
  try simp only [Act.put, List.setIfInBounds_toArray, List.set_cons_zero, List.set_cons_succ]
  refine wpAnyH_take (i := 4) (oi := { dst := some 7, op := Op.load 5 (Operand.tmp 6), type := 5, pos := "entry.go:77", after := #[{ on := 3, ground := Ground.data }], guard := none }) (v := ?v4_5) rfl (by kernel_rfl) (by kernel_rfl) (by kernel_rfl) (fun _ _ _ h => h) (Or.inl ⟨by rfl, ?hy4_5⟩) hS ?rest4_5
  case hy4_5 =>
    intro w hSw
    (try dsimp only at hSw)
    go_simp
    try with_reducible rfl
  try simp only [Act.put, List.setIfInBounds_toArray, List.set_cons_zero, List.set_cons_succ]
  refine wpAnyH_take (i := 5) (oi := { dst := some 8, op := Op.convert 5 3 (Operand.tmp 7), type := 3, pos := "entry.go:77", after := #[{ on := 4, ground := Ground.data }], guard := none }) (v := ?v5_6) rfl (by kernel_rfl) (by kernel_rfl) (by kernel_rfl) (fun _ _ _ h => h) (Or.inl ⟨by rfl, ?hy5_6⟩) hS ?rest5_6
  case hy5_6 =>
    intro w hSw
    (try dsimp only at hSw)
    go_simp
    try with_reducible rfl
  try simp only [Act.put, List.setIfInBounds_toArray, List.set_cons_zero, List.set_cons_succ]
  refine wpAnyH_take (i := 6) (oi := { dst := some 9, op := Op.indexAddr 43 (Operand.tmp 1) (Operand.const (Value.int IntKind.i64 2)), type := 0, pos := "entry.go:77", after := #[], guard := none }) (v := ?v6_7) rfl (by kernel_rfl) (by kernel_rfl) (by kernel_rfl) (fun _ _ _ h => h) (Or.inl ⟨by rfl, ?hy6_7⟩) hS ?rest6_7
  case hy6_7 =>
    intro w hSw
    (try dsimp only at hSw)
    go_simp
    try with_reducible rfl
  try simp only [Act.put, List.setIfInBounds_toArray, List.set_cons_zero, List.set_cons_succ]
  refine wpAnyH_take (i := 7) (oi := { dst := some 10, op := Op.load 5 (Operand.tmp 9), type := 5, pos := "entry.go:77", after := #[{ on := 6, ground := Ground.data }], guard := none }) (v := ?v7_8) rfl (by kernel_rfl) (by kernel_rfl) (by kernel_rfl) (fun _ _ _ h => h) (Or.inl ⟨by rfl, ?hy7_8⟩) hS ?rest7_8
  case hy7_8 =>
    intro w hSw
    (try dsimp only at hSw)
    go_simp
    try with_reducible rfl
  try simp only [Act.put, List.setIfInBounds_toArray, List.set_cons_zero, List.set_cons_succ]
  refine wpAnyH_take (i := 8) (oi := { dst := some 11, op := Op.convert 5 3 (Operand.tmp 10), type := 3, pos := "entry.go:77", after := #[{ on := 7, ground := Ground.data }], guard := none }) (v := ?v8_9) rfl (by kernel_rfl) (by kernel_rfl) (by kernel_rfl) (fun _ _ _ h => h) (Or.inl ⟨by rfl, ?hy8_9⟩) hS ?rest8_9
  case hy8_9 =>
    intro w hSw
    (try dsimp only at hSw)
    go_simp
    try with_reducible rfl
  try simp only [Act.put, List.setIfInBounds_toArray, List.set_cons_zero, List.set_cons_succ]
  refine wpAnyH_take (i := 9) (oi := { dst := some 12, op := Op.indexAddr 43 (Operand.tmp 1) (Operand.const (Value.int IntKind.i64 3)), type := 0, pos := "entry.go:77", after := #[], guard := none }) (v := ?v9_10) rfl (by kernel_rfl) (by kernel_rfl) (by kernel_rfl) (fun _ _ _ h => h) (Or.inl ⟨by rfl, ?hy9_10⟩) hS ?rest9_10
  case hy9_10 =>
    intro w hSw
    (try dsimp only at hSw)
    go_simp
    try with_reducible rfl
  try simp only [Act.put, List.setIfInBounds_toArray, List.set_cons_zero, List.set_cons_succ]
  refine wpAnyH_take (i := 10) (oi := { dst := some 13, op := Op.load 5 (Operand.tmp 12), type := 5, pos := "entry.go:77", after := #[{ on := 9, ground := Ground.data }], guard := none }) (v := ?v10_11) rfl (by kernel_rfl) (by kernel_rfl) (by kernel_rfl) (fun _ _ _ h => h) (Or.inl ⟨by rfl, ?hy10_11⟩) hS ?rest10_11
  case hy10_11 =>
    intro w hSw
    (try dsimp only at hSw)
    go_simp
    try with_reducible rfl
  try simp only [Act.put, List.setIfInBounds_toArray, List.set_cons_zero, List.set_cons_succ]
  refine wpAnyH_take (i := 11) (oi := { dst := some 14, op := Op.binOp BinOp.and 5 (Operand.tmp 13) (Operand.const (Value.int IntKind.u8 1)) 5, type := 5, pos := "entry.go:77", after := #[{ on := 10, ground := Ground.data }], guard := none }) (v := ?v11_12) rfl (by kernel_rfl) (by kernel_rfl) (by kernel_rfl) (fun _ _ _ h => h) (Or.inl ⟨by rfl, ?hy11_12⟩) hS ?rest11_12
  case hy11_12 =>
    intro w hSw
    (try dsimp only at hSw)
    go_simp
    try with_reducible rfl
  try simp only [Act.put, List.setIfInBounds_toArray, List.set_cons_zero, List.set_cons_succ]
  refine wpAnyH_take (i := 12) (oi := { dst := some 15, op := Op.binOp BinOp.neq 5 (Operand.tmp 14) (Operand.const (Value.int IntKind.u8 0)) 5, type := 4, pos := "entry.go:77", after := #[{ on := 11, ground := Ground.data }], guard := none }) (v := ?v12_13) rfl (by kernel_rfl) (by kernel_rfl) (by kernel_rfl) (fun _ _ _ h => h) (Or.inl ⟨by rfl, ?hy12_13⟩) hS ?rest12_13
  case hy12_13 =>
    intro w hSw
    (try dsimp only at hSw)
    go_simp
    try with_reducible rfl
  try simp only [Act.put, List.setIfInBounds_toArray, List.set_cons_zero, List.set_cons_succ]
  refine wpAnyH_take (i := 13) (oi := { dst := some 16, op := Op.indexAddr 43 (Operand.tmp 1) (Operand.const (Value.int IntKind.i64 3)), type := 0, pos := "entry.go:77", after := #[], guard := none }) (v := ?v13_14) rfl (by kernel_rfl) (by kernel_rfl) (by kernel_rfl) (fun _ _ _ h => h) (Or.inl ⟨by rfl, ?hy13_14⟩) hS ?rest13_14
  case hy13_14 =>
    intro w hSw
    (try dsimp only at hSw)
    go_simp
    try with_reducible rfl
  try simp only [Act.put, List.setIfInBounds_toArray, List.set_cons_zero, List.set_cons_succ]
  refine wpAnyH_take (i := 14) (oi := { dst := some 17, op := Op.load 5 (Operand.tmp 16), type := 5, pos := "entry.go:77", after := #[{ on := 13, ground := Ground.data }], guard := none }) (v := ?v14_15) rfl (by kernel_rfl) (by kernel_rfl) (by kernel_rfl) (fun _ _ _ h => h) (Or.inl ⟨by rfl, ?hy14_15⟩) hS ?rest14_15
  case hy14_15 =>
    intro w hSw
    (try dsimp only at hSw)
    go_simp
    try with_reducible rfl
  try simp only [Act.put, List.setIfInBounds_toArray, List.set_cons_zero, List.set_cons_succ]
  refine wpAnyH_take (i := 15) (oi := { dst := some 18, op := Op.binOp BinOp.and 5 (Operand.tmp 17) (Operand.const (Value.int IntKind.u8 2)) 5, type := 5, pos := "entry.go:77", after := #[{ on := 14, ground := Ground.data }], guard := none }) (v := ?v15_16) rfl (by kernel_rfl) (by kernel_rfl) (by kernel_rfl) (fun _ _ _ h => h) (Or.inl ⟨by rfl, ?hy15_16⟩) hS ?rest15_16
  case hy15_16 =>
    intro w hSw
    (try dsimp only at hSw)
    go_simp
    try with_reducible rfl
  try simp only [Act.put, List.setIfInBounds_toArray, List.set_cons_zero, List.set_cons_succ]
  refine wpAnyH_take (i := 16) (oi := { dst := some 19, op := Op.binOp BinOp.neq 5 (Operand.tmp 18) (Operand.const (Value.int IntKind.u8 0)) 5, type := 4, pos := "entry.go:77", after := #[{ on := 15, ground := Ground.data }], guard := none }) (v := ?v16_17) rfl (by kernel_rfl) (by kernel_rfl) (by kernel_rfl) (fun _ _ _ h => h) (Or.inl ⟨by rfl, ?hy16_17⟩) hS ?rest16_17
  case hy16_17 =>
    intro w hSw
    (try dsimp only at hSw)
    go_simp
    try with_reducible rfl
  try simp only [Act.put, List.setIfInBounds_toArray, List.set_cons_zero, List.set_cons_succ]
  refine wpAnyH_take (i := 17) (oi := { dst := some 20, op := Op.indexAddr 43 (Operand.tmp 1) (Operand.const (Value.int IntKind.i64 4)), type := 0, pos := "entry.go:77", after := #[], guard := none }) (v := ?v17_18) rfl (by kernel_rfl) (by kernel_rfl) (by kernel_rfl) (fun _ _ _ h => h) (Or.inl ⟨by rfl, ?hy17_18⟩) hS ?rest17_18
  case hy17_18 =>
    intro w hSw
    (try dsimp only at hSw)
    go_simp
    try with_reducible rfl
  try simp only [Act.put, List.setIfInBounds_toArray, List.set_cons_zero, List.set_cons_succ]
  refine wpAnyH_take (i := 18) (oi := { dst := some 21, op := Op.load 5 (Operand.tmp 20), type := 5, pos := "entry.go:77", after := #[{ on := 17, ground := Ground.data }], guard := none }) (v := ?v18_19) rfl (by kernel_rfl) (by kernel_rfl) (by kernel_rfl) (fun _ _ _ h => h) (Or.inl ⟨by rfl, ?hy18_19⟩) hS ?rest18_19
  case hy18_19 =>
    intro w hSw
    (try dsimp only at hSw)
    go_simp
    try with_reducible rfl
  try simp only [Act.put, List.setIfInBounds_toArray, List.set_cons_zero, List.set_cons_succ]
  refine wpAnyH_take (i := 19) (oi := { dst := some 22, op := Op.convert 5 3 (Operand.tmp 21), type := 3, pos := "entry.go:77", after := #[{ on := 18, ground := Ground.data }], guard := none }) (v := ?v19_20) rfl (by kernel_rfl) (by kernel_rfl) (by kernel_rfl) (fun _ _ _ h => h) (Or.inl ⟨by rfl, ?hy19_20⟩) hS ?rest19_20
  case hy19_20 =>
    intro w hSw
    (try dsimp only at hSw)
    go_simp
    try with_reducible rfl
  try simp only [Act.put, List.setIfInBounds_toArray, List.set_cons_zero, List.set_cons_succ]
  refine wpAnyH_take (i := 20) (oi := { dst := some 23, op := Op.indexAddr 43 (Operand.tmp 1) (Operand.const (Value.int IntKind.i64 5)), type := 0, pos := "entry.go:77", after := #[], guard := none }) (v := ?v20_21) rfl (by kernel_rfl) (by kernel_rfl) (by kernel_rfl) (fun _ _ _ h => h) (Or.inl ⟨by rfl, ?hy20_21⟩) hS ?rest20_21
  case hy20_21 =>
    intro w hSw
    (try dsimp only at hSw)
    go_simp
    try with_reducible rfl
  try simp only [Act.put, List.setIfInBounds_toArray, List.set_cons_zero, List.set_cons_succ]
  refine wpAnyH_take (i := 21) (oi := { dst := some 24, op := Op.load 5 (Operand.tmp 23), type := 5, pos := "entry.go:77", after := #[{ on := 20, ground := Ground.data }], guard := none }) (v := ?v21_22) rfl (by kernel_rfl) (by kernel_rfl) (by kernel_rfl) (fun _ _ _ h => h) (Or.inl ⟨by rfl, ?hy21_22⟩) hS ?rest21_22
  case hy21_22 =>
    intro w hSw
    (try dsimp only at hSw)
    go_simp
    try with_reducible rfl
  try simp only [Act.put, List.setIfInBounds_toArray, List.set_cons_zero, List.set_cons_succ]
  refine wpAnyH_take (i := 22) (oi := { dst := some 25, op := Op.convert 5 3 (Operand.tmp 24), type := 3, pos := "entry.go:77", after := #[{ on := 21, ground := Ground.data }], guard := none }) (v := ?v22_23) rfl (by kernel_rfl) (by kernel_rfl) (by kernel_rfl) (fun _ _ _ h => h) (Or.inl ⟨by rfl, ?hy22_23⟩) hS ?rest22_23
  case hy22_23 =>
    intro w hSw
    (try dsimp only at hSw)
    go_simp
    try with_reducible rfl
  try simp only [Act.put, List.setIfInBounds_toArray, List.set_cons_zero, List.set_cons_succ]
  refine wpAnyH_take (i := 23) (oi := { dst := some 26, op := Op.load 43 (Operand.tmp 1), type := 43, pos := "entry.go:77", after := #[], guard := none }) (v := ?v23_24) rfl (by kernel_rfl) (by kernel_rfl) (by kernel_rfl) (fun _ _ _ h => h) (Or.inl ⟨by rfl, ?hy23_24⟩) hS ?rest23_24
  case hy23_24 =>
    intro w hSw
    (try dsimp only at hSw)
    go_simp
    try with_reducible rfl
  try simp only [Act.put, List.setIfInBounds_toArray, List.set_cons_zero, List.set_cons_succ]
  refine wpAnyH_take (i := 25) (oi := { dst := some 28, op := Op.load 43 (Operand.tmp 1), type := 43, pos := "entry.go:77", after := #[], guard := none }) (v := ?v25_25) rfl (by kernel_rfl) (by kernel_rfl) (by kernel_rfl) (fun _ _ _ h => h) (Or.inl ⟨by rfl, ?hy25_25⟩) hS ?rest25_25
  case hy25_25 =>
    intro w hSw
    (try dsimp only at hSw)
    go_simp
    try with_reducible rfl
  try simp only [Act.put, List.setIfInBounds_toArray, List.set_cons_zero, List.set_cons_succ]
  refine wpAnyH_take (i := 28) (oi := { dst := some 31, op := Op.load 43 (Operand.tmp 1), type := 43, pos := "entry.go:77", after := #[], guard := none }) (v := ?v28_26) rfl (by kernel_rfl) (by kernel_rfl) (by kernel_rfl) (fun _ _ _ h => h) (Or.inl ⟨by rfl, ?hy28_26⟩) hS ?rest28_26
  case hy28_26 =>
    intro w hSw
    (try dsimp only at hSw)
    go_simp
    try with_reducible rfl
  try simp only [Act.put, List.setIfInBounds_toArray, List.set_cons_zero, List.set_cons_succ]
  refine wpAnyH_take (i := 30) (oi := { dst := some 33, op := Op.indexAddr 43 (Operand.tmp 1) (Operand.const (Value.int IntKind.i64 3)), type := 0, pos := "entry.go:77", after := #[], guard := none }) (v := ?v30_27) rfl (by kernel_rfl) (by kernel_rfl) (by kernel_rfl) (fun _ _ _ h => h) (Or.inl ⟨by rfl, ?hy30_27⟩) hS ?rest30_27
  case hy30_27 =>
    intro w hSw
    (try dsimp only at hSw)
    go_simp
    try with_reducible rfl
  try simp only [Act.put, List.setIfInBounds_toArray, List.set_cons_zero, List.set_cons_succ]
  refine wpAnyH_take (i := 31) (oi := { dst := some 34, op := Op.load 5 (Operand.tmp 33), type := 5, pos := "entry.go:77", after := #[{ on := 30, ground := Ground.data }], guard := none }) (v := ?v31_28) rfl (by kernel_rfl) (by kernel_rfl) (by kernel_rfl) (fun _ _ _ h => h) (Or.inl ⟨by rfl, ?hy31_28⟩) hS ?rest31_28
  case hy31_28 =>
    intro w hSw
    (try dsimp only at hSw)
    go_simp
    try with_reducible rfl
  try simp only [Act.put, List.setIfInBounds_toArray, List.set_cons_zero, List.set_cons_succ]
  refine wpAnyH_take (i := 32) (oi := { dst := some 35, op := Op.binOp BinOp.and 5 (Operand.tmp 34) (Operand.const (Value.int IntKind.u8 4)) 5, type := 5, pos := "entry.go:77", after := #[{ on := 31, ground := Ground.data }], guard := none }) (v := ?v32_29) rfl (by kernel_rfl) (by kernel_rfl) (by kernel_rfl) (fun _ _ _ h => h) (Or.inl ⟨by rfl, ?hy32_29⟩) hS ?rest32_29
  case hy32_29 =>
    intro w hSw
    (try dsimp only at hSw)
    go_simp
    try with_reducible rfl
  try simp only [Act.put, List.setIfInBounds_toArray, List.set_cons_zero, List.set_cons_succ]
  refine wpAnyH_take (i := 33) (oi := { dst := some 36, op := Op.binOp BinOp.neq 5 (Operand.tmp 35) (Operand.const (Value.int IntKind.u8 0)) 5, type := 4, pos := "entry.go:77", after := #[{ on := 32, ground := Ground.data }], guard := none }) (v := ?v33_30) rfl (by kernel_rfl) (by kernel_rfl) (by kernel_rfl) (fun _ _ _ h => h) (Or.inl ⟨by rfl, ?hy33_30⟩) hS ?rest33_30
  case hy33_30 =>
    intro w hSw
    (try dsimp only at hSw)
    go_simp
    try with_reducible rfl
  try simp only [Act.put, List.setIfInBounds_toArray, List.set_cons_zero, List.set_cons_succ]
  refine wpAnyH_ready (rs := [24]) (by kernel_rfl) (by simp) ?_
  refine AllReadyH.cons (o := { dst := some 27, op := Op.call { callee := Callee.value (Operand.func 23), args := #[Operand.tmp 26, Operand.const (Value.int IntKind.i64 6)], argTypes := #[43, 3] }, type := 3, pos := "entry.go:86", after := #[{ on := 23, ground := Ground.data }], guard := none }) rfl (fun K hK => ?_) AllReadyH.nil
  go_simp
  refine (pair_6 p _ Hb.out).mono ?_
  rintro e u1 ⟨rfl, hb⟩
  have r1 := r0.below hb r0.lt
  have q1 := q0.below hb q0.lt
  have hB1 := hB0.trans (hb.mono hB0.size)
  clear hb
  have c1_0 : u1.cell? ⟨B1, 0, none⟩ = some (vB p.b0) := r1.cell 0 rfl
  have c1_1 : u1.cell? ⟨B1, 1, none⟩ = some (vB p.b1) := r1.cell 1 rfl
  have c1_2 : u1.cell? ⟨B1, 2, none⟩ = some (vB p.b2) := r1.cell 2 rfl
  have c1_3 : u1.cell? ⟨B1, 3, none⟩ = some (vB p.b3) := r1.cell 3 rfl
  have c1_4 : u1.cell? ⟨B1, 4, none⟩ = some (vB p.b4) := r1.cell 4 rfl
  have c1_5 : u1.cell? ⟨B1, 5, none⟩ = some (vB p.b5) := r1.cell 5 rfl
  have c1_6 : u1.cell? ⟨B1, 6, none⟩ = some (vB p.b6) := r1.cell 6 rfl
  have c1_7 : u1.cell? ⟨B1, 7, none⟩ = some (vB p.b7) := r1.cell 7 rfl
  have c1_8 : u1.cell? ⟨B1, 8, none⟩ = some (vB p.b8) := r1.cell 8 rfl
  have c1_9 : u1.cell? ⟨B1, 9, none⟩ = some (vB p.b9) := r1.cell 9 rfl
  have c1_10 : u1.cell? ⟨B1, 10, none⟩ = some (vB p.b10) := r1.cell 10 rfl
  have c1_11 : u1.cell? ⟨B1, 11, none⟩ = some (vB p.b11) := r1.cell 11 rfl
  refine hK.out _ _ ⟨c1_0, c1_1, c1_2, c1_3, c1_4, c1_5, c1_6, c1_7, c1_8, c1_9, c1_10, c1_11⟩ (fun hS => ?_)
  clear hK K
  try simp only [Act.put, List.setIfInBounds_toArray, List.set_cons_zero, List.set_cons_succ]
  refine wpAnyH_ready (rs := [26]) (by kernel_rfl) (by simp) ?_
  refine AllReadyH.cons (o := { dst := some 29, op := Op.call { callee := Callee.value (Operand.func 23), args := #[Operand.tmp 28, Operand.const (Value.int IntKind.i64 8)], argTypes := #[43, 3] }, type := 3, pos := "entry.go:87", after := #[{ on := 25, ground := Ground.data }, { on := 24, ground := Ground.chain }], guard := none }) rfl (fun K hK => ?_) AllReadyH.nil
  go_simp
  refine (pair_8 p _ Hb.out).mono ?_
  rintro e u2 ⟨rfl, hb⟩
  have r2 := r1.below hb r1.lt
  have q2 := q1.below hb q1.lt
  have hB2 := hB1.trans (hb.mono hB1.size)
  clear hb
  have c2_0 : u2.cell? ⟨B1, 0, none⟩ = some (vB p.b0) := r2.cell 0 rfl
  have c2_1 : u2.cell? ⟨B1, 1, none⟩ = some (vB p.b1) := r2.cell 1 rfl
  have c2_2 : u2.cell? ⟨B1, 2, none⟩ = some (vB p.b2) := r2.cell 2 rfl
  have c2_3 : u2.cell? ⟨B1, 3, none⟩ = some (vB p.b3) := r2.cell 3 rfl
  have c2_4 : u2.cell? ⟨B1, 4, none⟩ = some (vB p.b4) := r2.cell 4 rfl
  have c2_5 : u2.cell? ⟨B1, 5, none⟩ = some (vB p.b5) := r2.cell 5 rfl
  have c2_6 : u2.cell? ⟨B1, 6, none⟩ = some (vB p.b6) := r2.cell 6 rfl
  have c2_7 : u2.cell? ⟨B1, 7, none⟩ = some (vB p.b7) := r2.cell 7 rfl
  have c2_8 : u2.cell? ⟨B1, 8, none⟩ = some (vB p.b8) := r2.cell 8 rfl
  have c2_9 : u2.cell? ⟨B1, 9, none⟩ = some (vB p.b9) := r2.cell 9 rfl
  have c2_10 : u2.cell? ⟨B1, 10, none⟩ = some (vB p.b10) := r2.cell 10 rfl
  have c2_11 : u2.cell? ⟨B1, 11, none⟩ = some (vB p.b11) := r2.cell 11 rfl
  refine hK.out _ _ ⟨c2_0, c2_1, c2_2, c2_3, c2_4, c2_5, c2_6, c2_7, c2_8, c2_9, c2_10, c2_11⟩ (fun hS => ?_)
  clear hK K
  try simp only [Act.put, List.setIfInBounds_toArray, List.set_cons_zero, List.set_cons_succ]
  refine wpAnyH_take (i := 27) (oi := { dst := some 30, op := Op.build 30 #[(0, Operand.tmp 11), (2, Operand.tmp 15), (3, Operand.tmp 19), (4, Operand.tmp 22), (6, Operand.tmp 25), (5, Operand.tmp 27), (1, Operand.tmp 29)], type := 30, pos := "entry.go:77", after := #[{ on := 8, ground := Ground.data }, { on := 12, ground := Ground.data }, { on := 16, ground := Ground.data }, { on := 19, ground := Ground.data }, { on := 22, ground := Ground.data }, { on := 24, ground := Ground.data }, { on := 26, ground := Ground.data }], guard := none }) (v := ?v27_31) rfl (by kernel_rfl) (by kernel_rfl) (by kernel_rfl) (fun _ _ _ h => h) (Or.inl ⟨by rfl, ?hy27_31⟩) hS ?rest27_31
  case hy27_31 =>
    intro w hSw
    (try dsimp only at hSw)
    go_simp
    try with_reducible rfl
  try simp only [Act.put, List.setIfInBounds_toArray, List.set_cons_zero, List.set_cons_succ]
  refine wpAnyH_ready (rs := [29]) (by kernel_rfl) (by simp) ?_
  refine AllReadyH.cons (o := { dst := some 32, op := Op.call { callee := Callee.value (Operand.func 23), args := #[Operand.tmp 31, Operand.const (Value.int IntKind.i64 10)], argTypes := #[43, 3] }, type := 3, pos := "entry.go:89", after := #[{ on := 28, ground := Ground.data }, { on := 26, ground := Ground.chain }], guard := none }) rfl (fun K hK => ?_) AllReadyH.nil
  go_simp
  refine (pair_10 p _ Hb.out).mono ?_
  rintro e u3 ⟨rfl, hb⟩
  have r3 := r2.below hb r2.lt
  have q3 := q2.below hb q2.lt
  have hB3 := hB2.trans (hb.mono hB2.size)
  clear hb
  have c3_0 : u3.cell? ⟨B1, 0, none⟩ = some (vB p.b0) := r3.cell 0 rfl
  have c3_1 : u3.cell? ⟨B1, 1, none⟩ = some (vB p.b1) := r3.cell 1 rfl
  have c3_2 : u3.cell? ⟨B1, 2, none⟩ = some (vB p.b2) := r3.cell 2 rfl
  have c3_3 : u3.cell? ⟨B1, 3, none⟩ = some (vB p.b3) := r3.cell 3 rfl
  have c3_4 : u3.cell? ⟨B1, 4, none⟩ = some (vB p.b4) := r3.cell 4 rfl
  have c3_5 : u3.cell? ⟨B1, 5, none⟩ = some (vB p.b5) := r3.cell 5 rfl
  have c3_6 : u3.cell? ⟨B1, 6, none⟩ = some (vB p.b6) := r3.cell 6 rfl
  have c3_7 : u3.cell? ⟨B1, 7, none⟩ = some (vB p.b7) := r3.cell 7 rfl
  have c3_8 : u3.cell? ⟨B1, 8, none⟩ = some (vB p.b8) := r3.cell 8 rfl
  have c3_9 : u3.cell? ⟨B1, 9, none⟩ = some (vB p.b9) := r3.cell 9 rfl
  have c3_10 : u3.cell? ⟨B1, 10, none⟩ = some (vB p.b10) := r3.cell 10 rfl
  have c3_11 : u3.cell? ⟨B1, 11, none⟩ = some (vB p.b11) := r3.cell 11 rfl
  refine hK.out _ _ ⟨c3_0, c3_1, c3_2, c3_3, c3_4, c3_5, c3_6, c3_7, c3_8, c3_9, c3_10, c3_11⟩ (fun hS => ?_)
  clear hK K
  try simp only [Act.put, List.setIfInBounds_toArray, List.set_cons_zero, List.set_cons_succ]
  refine wpAnyH_take (i := 34) (oi := { dst := some 37, op := Op.build 32 #[(0, Operand.tmp 5), (1, Operand.tmp 8), (2, Operand.tmp 30), (3, Operand.tmp 32), (4, Operand.tmp 36)], type := 32, pos := "entry.go:77", after := #[{ on := 2, ground := Ground.data }, { on := 5, ground := Ground.data }, { on := 27, ground := Ground.data }, { on := 29, ground := Ground.data }, { on := 33, ground := Ground.data }], guard := none }) (v := ?v34_32) rfl (by kernel_rfl) (by kernel_rfl) (by kernel_rfl) (fun _ _ _ h => h) (Or.inl ⟨by rfl, ?hy34_32⟩) hS ?rest34_32
  case hy34_32 =>
    intro w hSw
    (try dsimp only at hSw)
    go_simp
    try with_reducible rfl
  try simp only [Act.put, List.setIfInBounds_toArray, List.set_cons_zero, List.set_cons_succ]
  refine wpAnyH_ready (rs := [35]) (by kernel_rfl) (by simp) ?_
  refine AllReadyH.cons (o := { dst := none, op := Op.store 32 (Operand.tmp 2) (Operand.tmp 37), type := 0, pos := "entry.go:77", after := #[{ on := 34, ground := Ground.data }, { on := 29, ground := Ground.chain }, { on := 0, ground := Ground.phase }, { on := 1, ground := Ground.phase }, { on := 2, ground := Ground.phase }, { on := 3, ground := Ground.phase }, { on := 4, ground := Ground.phase }, { on := 5, ground := Ground.phase }, { on := 6, ground := Ground.phase }, { on := 7, ground := Ground.phase }, { on := 8, ground := Ground.phase }, { on := 9, ground := Ground.phase }, { on := 10, ground := Ground.phase }, { on := 11, ground := Ground.phase }, { on := 12, ground := Ground.phase }, { on := 13, ground := Ground.phase }, { on := 14, ground := Ground.phase }, { on := 15, ground := Ground.phase }, { on := 16, ground := Ground.phase }, { on := 17, ground := Ground.phase }, { on := 18, ground := Ground.phase }, { on := 19, ground := Ground.phase }, { on := 20, ground := Ground.phase }, { on := 21, ground := Ground.phase }, { on := 22, ground := Ground.phase }, { on := 23, ground := Ground.phase }, { on := 24, ground := Ground.phase }, { on := 25, ground := Ground.phase }, { on := 26, ground := Ground.phase }, { on := 27, ground := Ground.phase }, { on := 28, ground := Ground.phase }, { on := 29, ground := Ground.phase }, { on := 30, ground := Ground.phase }, { on := 31, ground := Ground.phase }, { on := 32, ground := Ground.phase }, { on := 33, ground := Ground.phase }, { on := 34, ground := Ground.phase }], guard := none }) rfl (fun K hK => ?_) AllReadyH.nil
  rw [if_pos (by kernel_rfl)]
  refine wp_store_row 32 _ _ rfl B2 #[Value.int .i64 ((rdE p)).k, Value.int .i64 ((rdE p)).w, Value.int .i64 ((rdE p)).op, Value.int .i64 ((rdE p)).dl, Value.bool ((rdE p)).wa, Value.bool ((rdE p)).fo, Value.int .i64 ((rdE p)).sl, Value.int .i64 ((rdE p)).ge, Value.int .i64 ((rdE p)).st, Value.int .i64 ((rdE p)).n, Value.bool ((rdE p)).gd] rfl rfl 32 _ q3 (by kernel_rfl) rfl (by simp [Value.oneCell']) ?_
  have r4 := r3.other hne #[Value.int .i64 ((rdE p)).k, Value.int .i64 ((rdE p)).w, Value.int .i64 ((rdE p)).op, Value.int .i64 ((rdE p)).dl, Value.bool ((rdE p)).wa, Value.bool ((rdE p)).fo, Value.int .i64 ((rdE p)).sl, Value.int .i64 ((rdE p)).ge, Value.int .i64 ((rdE p)).st, Value.int .i64 ((rdE p)).n, Value.bool ((rdE p)).gd]
  have c4_0 : (u3.setRow B2 #[Value.int .i64 ((rdE p)).k, Value.int .i64 ((rdE p)).w, Value.int .i64 ((rdE p)).op, Value.int .i64 ((rdE p)).dl, Value.bool ((rdE p)).wa, Value.bool ((rdE p)).fo, Value.int .i64 ((rdE p)).sl, Value.int .i64 ((rdE p)).ge, Value.int .i64 ((rdE p)).st, Value.int .i64 ((rdE p)).n, Value.bool ((rdE p)).gd]).cell? ⟨B1, 0, none⟩ = some (vB p.b0) := r4.cell 0 rfl
  have c4_1 : (u3.setRow B2 #[Value.int .i64 ((rdE p)).k, Value.int .i64 ((rdE p)).w, Value.int .i64 ((rdE p)).op, Value.int .i64 ((rdE p)).dl, Value.bool ((rdE p)).wa, Value.bool ((rdE p)).fo, Value.int .i64 ((rdE p)).sl, Value.int .i64 ((rdE p)).ge, Value.int .i64 ((rdE p)).st, Value.int .i64 ((rdE p)).n, Value.bool ((rdE p)).gd]).cell? ⟨B1, 1, none⟩ = some (vB p.b1) := r4.cell 1 rfl
  have c4_2 : (u3.setRow B2 #[Value.int .i64 ((rdE p)).k, Value.int .i64 ((rdE p)).w, Value.int .i64 ((rdE p)).op, Value.int .i64 ((rdE p)).dl, Value.bool ((rdE p)).wa, Value.bool ((rdE p)).fo, Value.int .i64 ((rdE p)).sl, Value.int .i64 ((rdE p)).ge, Value.int .i64 ((rdE p)).st, Value.int .i64 ((rdE p)).n, Value.bool ((rdE p)).gd]).cell? ⟨B1, 2, none⟩ = some (vB p.b2) := r4.cell 2 rfl
  have c4_3 : (u3.setRow B2 #[Value.int .i64 ((rdE p)).k, Value.int .i64 ((rdE p)).w, Value.int .i64 ((rdE p)).op, Value.int .i64 ((rdE p)).dl, Value.bool ((rdE p)).wa, Value.bool ((rdE p)).fo, Value.int .i64 ((rdE p)).sl, Value.int .i64 ((rdE p)).ge, Value.int .i64 ((rdE p)).st, Value.int .i64 ((rdE p)).n, Value.bool ((rdE p)).gd]).cell? ⟨B1, 3, none⟩ = some (vB p.b3) := r4.cell 3 rfl
  have c4_4 : (u3.setRow B2 #[Value.int .i64 ((rdE p)).k, Value.int .i64 ((rdE p)).w, Value.int .i64 ((rdE p)).op, Value.int .i64 ((rdE p)).dl, Value.bool ((rdE p)).wa, Value.bool ((rdE p)).fo, Value.int .i64 ((rdE p)).sl, Value.int .i64 ((rdE p)).ge, Value.int .i64 ((rdE p)).st, Value.int .i64 ((rdE p)).n, Value.bool ((rdE p)).gd]).cell? ⟨B1, 4, none⟩ = some (vB p.b4) := r4.cell 4 rfl
  have c4_5 : (u3.setRow B2 #[Value.int .i64 ((rdE p)).k, Value.int .i64 ((rdE p)).w, Value.int .i64 ((rdE p)).op, Value.int .i64 ((rdE p)).dl, Value.bool ((rdE p)).wa, Value.bool ((rdE p)).fo, Value.int .i64 ((rdE p)).sl, Value.int .i64 ((rdE p)).ge, Value.int .i64 ((rdE p)).st, Value.int .i64 ((rdE p)).n, Value.bool ((rdE p)).gd]).cell? ⟨B1, 5, none⟩ = some (vB p.b5) := r4.cell 5 rfl
  have c4_6 : (u3.setRow B2 #[Value.int .i64 ((rdE p)).k, Value.int .i64 ((rdE p)).w, Value.int .i64 ((rdE p)).op, Value.int .i64 ((rdE p)).dl, Value.bool ((rdE p)).wa, Value.bool ((rdE p)).fo, Value.int .i64 ((rdE p)).sl, Value.int .i64 ((rdE p)).ge, Value.int .i64 ((rdE p)).st, Value.int .i64 ((rdE p)).n, Value.bool ((rdE p)).gd]).cell? ⟨B1, 6, none⟩ = some (vB p.b6) := r4.cell 6 rfl
  have c4_7 : (u3.setRow B2 #[Value.int .i64 ((rdE p)).k, Value.int .i64 ((rdE p)).w, Value.int .i64 ((rdE p)).op, Value.int .i64 ((rdE p)).dl, Value.bool ((rdE p)).wa, Value.bool ((rdE p)).fo, Value.int .i64 ((rdE p)).sl, Value.int .i64 ((rdE p)).ge, Value.int .i64 ((rdE p)).st, Value.int .i64 ((rdE p)).n, Value.bool ((rdE p)).gd]).cell? ⟨B1, 7, none⟩ = some (vB p.b7) := r4.cell 7 rfl
  have c4_8 : (u3.setRow B2 #[Value.int .i64 ((rdE p)).k, Value.int .i64 ((rdE p)).w, Value.int .i64 ((rdE p)).op, Value.int .i64 ((rdE p)).dl, Value.bool ((rdE p)).wa, Value.bool ((rdE p)).fo, Value.int .i64 ((rdE p)).sl, Value.int .i64 ((rdE p)).ge, Value.int .i64 ((rdE p)).st, Value.int .i64 ((rdE p)).n, Value.bool ((rdE p)).gd]).cell? ⟨B1, 8, none⟩ = some (vB p.b8) := r4.cell 8 rfl
  have c4_9 : (u3.setRow B2 #[Value.int .i64 ((rdE p)).k, Value.int .i64 ((rdE p)).w, Value.int .i64 ((rdE p)).op, Value.int .i64 ((rdE p)).dl, Value.bool ((rdE p)).wa, Value.bool ((rdE p)).fo, Value.int .i64 ((rdE p)).sl, Value.int .i64 ((rdE p)).ge, Value.int .i64 ((rdE p)).st, Value.int .i64 ((rdE p)).n, Value.bool ((rdE p)).gd]).cell? ⟨B1, 9, none⟩ = some (vB p.b9) := r4.cell 9 rfl
  have c4_10 : (u3.setRow B2 #[Value.int .i64 ((rdE p)).k, Value.int .i64 ((rdE p)).w, Value.int .i64 ((rdE p)).op, Value.int .i64 ((rdE p)).dl, Value.bool ((rdE p)).wa, Value.bool ((rdE p)).fo, Value.int .i64 ((rdE p)).sl, Value.int .i64 ((rdE p)).ge, Value.int .i64 ((rdE p)).st, Value.int .i64 ((rdE p)).n, Value.bool ((rdE p)).gd]).cell? ⟨B1, 10, none⟩ = some (vB p.b10) := r4.cell 10 rfl
  have c4_11 : (u3.setRow B2 #[Value.int .i64 ((rdE p)).k, Value.int .i64 ((rdE p)).w, Value.int .i64 ((rdE p)).op, Value.int .i64 ((rdE p)).dl, Value.bool ((rdE p)).wa, Value.bool ((rdE p)).fo, Value.int .i64 ((rdE p)).sl, Value.int .i64 ((rdE p)).ge, Value.int .i64 ((rdE p)).st, Value.int .i64 ((rdE p)).n, Value.bool ((rdE p)).gd]).cell? ⟨B1, 11, none⟩ = some (vB p.b11) := r4.cell 11 rfl
  refine hK.out _ _ ⟨c4_0, c4_1, c4_2, c4_3, c4_4, c4_5, c4_6, c4_7, c4_8, c4_9, c4_10, c4_11⟩ (fun hS => ?_)
  clear hK K
  try simp only [Act.put]
  refine wpAnyH_done (by kernel_rfl) ?_ _
  go_wp2
  refine bodyPost_ret (results_cell_row (p := 2) (ty := 32) rfl _ _ B2 32 _ (0, 0) _ rfl (q3.set #[Value.int .i64 ((rdE p)).k, Value.int .i64 ((rdE p)).w, Value.int .i64 ((rdE p)).op, Value.int .i64 ((rdE p)).dl, Value.bool ((rdE p)).wa, Value.bool ((rdE p)).fo, Value.int .i64 ((rdE p)).sl, Value.int .i64 ((rdE p)).ge, Value.int .i64 ((rdE p)).st, Value.int .i64 ((rdE p)).n, Value.bool ((rdE p)).gd]) Try.underlying32 rfl (by kernel_rfl)) rfl ⟨rfl, below_setRow hB3 l02 _⟩
end Go.Proofs.Ytbkaiffecnomjaa
