/- Whether an entry is right, as the program tells; nothing that was there changes. -/
import Derived.Test.YtbkaiffecnomjaaWrite
import Derived.Test.YtbkaiffecnomjaaRead
import Derived.Test.YtbkaiffecnomjaaEqE
namespace Go.Proofs.Ytbkaiffecnomjaa
open Go.RowKit
attribute [local go_sem ↓] Go.wp_at_zero Go.wp_at_succ

set_option maxRecDepth 100000 in
set_option maxHeartbeats 2000000 in
theorem right_any (x : En) (w : World) :
    Calls Try.prog 12 #[Value.agg #[Value.int .i64 x.k, Value.int .i64 x.w, Value.int .i64 x.op, Value.int .i64 x.dl, Value.bool x.wa, Value.bool x.fo, Value.int .i64 x.sl, Value.int .i64 x.ge, Value.int .i64 x.st, Value.int .i64 x.n, Value.bool x.gd]] w fun e w' => e = .returned (.bool (rtB x)) ∧ Below w.heap.size w w' := by
  have h := rtB_eq x
  have he := fun W => eq_en (rdE (wrE x)) x W
  obtain ⟨q, hq⟩ : ∃ q, q = decide (rdE (wrE x) = x) := ⟨_, rfl⟩
  rw [← hq] at he h
  clear hq
  cases hk : decide (x.k < 5) with
  | false =>
    have Hr : Hid (rtB x = false) := Lib.hid (by rw [h, hk]; rfl)
    clear h he
    go_enter Try.func12, Try.ntmps12
    go_wp2_with fail
    have hB0 : Below w.heap.size w (w.alloc (.cells #[Value.int .i64 x.k, Value.int .i64 x.w, Value.int .i64 x.op, Value.int .i64 x.dl, Value.bool x.wa, Value.bool x.fo, Value.int .i64 x.sl, Value.int .i64 x.ge, Value.int .i64 x.st, Value.int .i64 x.n, Value.bool x.gd] 32)) := bnew _ _
    have r0 := RowAt.new w 32 #[Value.int .i64 x.k, Value.int .i64 x.w, Value.int .i64 x.op, Value.int .i64 x.dl, Value.bool x.wa, Value.bool x.fo, Value.int .i64 x.sl, Value.int .i64 x.ge, Value.int .i64 x.st, Value.int .i64 x.n, Value.bool x.gd]
    obtain ⟨W, hW⟩ : ∃ W, W = w.alloc (.cells #[Value.int .i64 x.k, Value.int .i64 x.w, Value.int .i64 x.op, Value.int .i64 x.dl, Value.bool x.wa, Value.bool x.fo, Value.int .i64 x.sl, Value.int .i64 x.ge, Value.int .i64 x.st, Value.int .i64 x.n, Value.bool x.gd] 32) := ⟨_, rfl⟩
    obtain ⟨B1, e1⟩ : ∃ B1, B1 = w.heap.size := ⟨_, rfl⟩
    rw [← hW] at r0 hB0 ⊢
    rw [← e1] at r0 ⊢
    clear hW e1
    replace r0 := r0.drew
    replace hB0 := hB0.drew
    have c0_0 : W.drew.cell? ⟨B1, 0, none⟩ = some (vI x.k) := r0.cell 0 rfl
    have c0_1 : W.drew.cell? ⟨B1, 1, none⟩ = some (vI x.w) := r0.cell 1 rfl
    have c0_2 : W.drew.cell? ⟨B1, 2, none⟩ = some (vI x.op) := r0.cell 2 rfl
    have c0_3 : W.drew.cell? ⟨B1, 3, none⟩ = some (vI x.dl) := r0.cell 3 rfl
    have c0_4 : W.drew.cell? ⟨B1, 4, none⟩ = some (.bool x.wa) := r0.cell 4 rfl
    have c0_5 : W.drew.cell? ⟨B1, 5, none⟩ = some (.bool x.fo) := r0.cell 5 rfl
    have c0_6 : W.drew.cell? ⟨B1, 6, none⟩ = some (vI x.sl) := r0.cell 6 rfl
    have c0_7 : W.drew.cell? ⟨B1, 7, none⟩ = some (vI x.ge) := r0.cell 7 rfl
    have c0_8 : W.drew.cell? ⟨B1, 8, none⟩ = some (vI x.st) := r0.cell 8 rfl
    have c0_9 : W.drew.cell? ⟨B1, 9, none⟩ = some (vI x.n) := r0.cell 9 rfl
    have c0_10 : W.drew.cell? ⟨B1, 10, none⟩ = some (.bool x.gd) := r0.cell 10 rfl
    refine wp_region_held_drew (S := (fun w' => w'.cell? ⟨B1, 0, none⟩ = some (vI x.k) ∧ w'.cell? ⟨B1, 1, none⟩ = some (vI x.w) ∧ w'.cell? ⟨B1, 2, none⟩ = some (vI x.op) ∧ w'.cell? ⟨B1, 3, none⟩ = some (vI x.dl) ∧ w'.cell? ⟨B1, 4, none⟩ = some (.bool x.wa) ∧ w'.cell? ⟨B1, 5, none⟩ = some (.bool x.fo) ∧ w'.cell? ⟨B1, 6, none⟩ = some (vI x.sl) ∧ w'.cell? ⟨B1, 7, none⟩ = some (vI x.ge) ∧ w'.cell? ⟨B1, 8, none⟩ = some (vI x.st) ∧ w'.cell? ⟨B1, 9, none⟩ = some (vI x.n) ∧ w'.cell? ⟨B1, 10, none⟩ = some (.bool x.gd))) (by kernel_rfl) ⟨c0_0, c0_1, c0_2, c0_3, c0_4, c0_5, c0_6, c0_7, c0_8, c0_9, c0_10⟩ (fun hS => ?_)
    generalize W.drew = u0 at *
    refine wpAnyH_take (i := 0) (oi := { dst := some 3, op := Op.fieldAddr 32 (Operand.tmp 1) 0, type := 0, pos := "entry.go:107", after := #[], guard := none }) (v := ?v0_1) rfl (by kernel_rfl) (by kernel_rfl) (by kernel_rfl) (fun _ _ _ h => h) (Or.inl ⟨by rfl, ?hy0_1⟩) hS ?rest0_1
    case hy0_1 =>
      intro w hSw
      (try dsimp only at hSw)
      go_simp
      try with_reducible rfl
    try simp only [Act.put, List.setIfInBounds_toArray, List.set_cons_zero, List.set_cons_succ]
    refine wpAnyH_take (i := 1) (oi := { dst := some 4, op := Op.load 3 (Operand.tmp 3), type := 3, pos := "entry.go:107", after := #[{ on := 0, ground := Ground.data }], guard := none }) (v := ?v1_2) rfl (by kernel_rfl) (by kernel_rfl) (by kernel_rfl) (fun _ _ _ h => h) (Or.inl ⟨by rfl, ?hy1_2⟩) hS ?rest1_2
    case hy1_2 =>
      intro w hSw
      (try dsimp only at hSw)
      go_simp
      try with_reducible rfl
    try simp only [Act.put, List.setIfInBounds_toArray, List.set_cons_zero, List.set_cons_succ]
    refine wpAnyH_take (i := 2) (oi := { dst := some 5, op := Op.binOp BinOp.lss 3 (Operand.tmp 4) (Operand.const (Value.int IntKind.i64 5)) 3, type := 4, pos := "entry.go:107", after := #[{ on := 1, ground := Ground.data }], guard := none }) (v := ?v2_3) rfl (by kernel_rfl) (by kernel_rfl) (by kernel_rfl) (fun _ _ _ h => h) (Or.inl ⟨by rfl, ?hy2_3⟩) hS ?rest2_3
    case hy2_3 =>
      intro w hSw
      (try dsimp only at hSw)
      go_simp
      try with_reducible rfl
    try simp only [Act.put, List.setIfInBounds_toArray, List.set_cons_zero, List.set_cons_succ]
    refine wpAnyH_take (i := 3) (oi := { dst := some 6, op := Op.move (Operand.tmp 5), type := 4, pos := "entry.go:107", after := #[{ on := 2, ground := Ground.data }], guard := none }) (v := ?v3_4) rfl (by kernel_rfl) (by kernel_rfl) (by kernel_rfl) (fun _ _ _ h => h) (Or.inl ⟨by rfl, ?hy3_4⟩) hS ?rest3_4
    case hy3_4 =>
      intro w hSw
      (try dsimp only at hSw)
      go_simp
      try with_reducible rfl
    try simp only [Act.put, List.setIfInBounds_toArray, List.set_cons_zero, List.set_cons_succ]
    refine wpAnyH_take (i := 4) (oi := { dst := some 7, op := Op.fieldAddr 32 (Operand.tmp 1) 2, type := 0, pos := "entry.go:107", after := #[{ on := 3, ground := Ground.guard }], guard := some (3, true) }) (v := undef) rfl (by kernel_rfl) (by kernel_rfl) (by kernel_rfl) (fun _ _ _ h => h) (Or.inr ⟨by rfl, rfl⟩) hS ?_
    try simp only [Act.put, List.setIfInBounds_toArray, List.set_cons_zero, List.set_cons_succ]
    refine wpAnyH_take (i := 5) (oi := { dst := some 8, op := Op.fieldAddr 30 (Operand.tmp 7) 0, type := 0, pos := "entry.go:107", after := #[{ on := 4, ground := Ground.data }, { on := 3, ground := Ground.guard }], guard := some (3, true) }) (v := undef) rfl (by kernel_rfl) (by kernel_rfl) (by kernel_rfl) (fun _ _ _ h => h) (Or.inr ⟨by rfl, rfl⟩) hS ?_
    try simp only [Act.put, List.setIfInBounds_toArray, List.set_cons_zero, List.set_cons_succ]
    refine wpAnyH_take (i := 6) (oi := { dst := some 9, op := Op.load 3 (Operand.tmp 8), type := 3, pos := "entry.go:107", after := #[{ on := 5, ground := Ground.data }, { on := 3, ground := Ground.guard }], guard := some (3, true) }) (v := undef) rfl (by kernel_rfl) (by kernel_rfl) (by kernel_rfl) (fun _ _ _ h => h) (Or.inr ⟨by rfl, rfl⟩) hS ?_
    try simp only [Act.put, List.setIfInBounds_toArray, List.set_cons_zero, List.set_cons_succ]
    refine wpAnyH_take (i := 7) (oi := { dst := some 10, op := Op.binOp BinOp.lss 3 (Operand.tmp 9) (Operand.const (Value.int IntKind.i64 8)) 3, type := 4, pos := "entry.go:107", after := #[{ on := 6, ground := Ground.data }, { on := 3, ground := Ground.guard }], guard := some (3, true) }) (v := undef) rfl (by kernel_rfl) (by kernel_rfl) (by kernel_rfl) (fun _ _ _ h => h) (Or.inr ⟨by rfl, rfl⟩) hS ?_
    try simp only [Act.put, List.setIfInBounds_toArray, List.set_cons_zero, List.set_cons_succ]
    refine wpAnyH_take (i := 8) (oi := { dst := some 11, op := Op.pick (Operand.tmp 6) (Operand.tmp 10) (Operand.const (Value.bool false)), type := 4, pos := "entry.go:107", after := #[{ on := 3, ground := Ground.data }, { on := 7, ground := Ground.data }], guard := none }) (v := ?v8_5) rfl (by kernel_rfl) (by kernel_rfl) (by kernel_rfl) (fun _ _ _ h => h) (Or.inl ⟨by rfl, ?hy8_5⟩) hS ?rest8_5
    case hy8_5 =>
      intro w hSw
      (try dsimp only at hSw)
      go_simp
      try with_reducible rfl
    try simp only [Act.put, List.setIfInBounds_toArray, List.set_cons_zero, List.set_cons_succ]
    refine wpAnyH_take (i := 9) (oi := { dst := some 12, op := Op.move (Operand.tmp 11), type := 4, pos := "entry.go:107", after := #[{ on := 8, ground := Ground.data }, { on := 3, ground := Ground.chain }], guard := none }) (v := ?v9_6) rfl (by kernel_rfl) (by kernel_rfl) (by kernel_rfl) (fun _ _ _ h => h) (Or.inl ⟨by rfl, ?hy9_6⟩) hS ?rest9_6
    case hy9_6 =>
      intro w hSw
      (try dsimp only at hSw)
      go_simp
      try with_reducible rfl
    try simp only [Act.put, List.setIfInBounds_toArray, List.set_cons_zero, List.set_cons_succ]
    refine wpAnyH_take (i := 10) (oi := { dst := some 13, op := Op.load 32 (Operand.tmp 1), type := 32, pos := "entry.go:107", after := #[{ on := 9, ground := Ground.guard }], guard := some (9, true) }) (v := undef) rfl (by kernel_rfl) (by kernel_rfl) (by kernel_rfl) (fun _ _ _ h => h) (Or.inr ⟨by rfl, rfl⟩) hS ?_
    try simp only [Act.put, List.setIfInBounds_toArray, List.set_cons_zero, List.set_cons_succ]
    refine wpAnyH_take (i := 11) (oi := { dst := some 14, op := Op.call { callee := Callee.value (Operand.func 17), args := #[Operand.tmp 13], argTypes := #[32] }, type := 43, pos := "entry.go:107", after := #[{ on := 10, ground := Ground.data }, { on := 9, ground := Ground.chain }, { on := 9, ground := Ground.guard }], guard := some (9, true) }) (v := undef) rfl (by kernel_rfl) (by kernel_rfl) (by kernel_rfl) (fun _ _ _ h => h) (Or.inr ⟨by rfl, rfl⟩) hS ?_
    try simp only [Act.put, List.setIfInBounds_toArray, List.set_cons_zero, List.set_cons_succ]
    refine wpAnyH_take (i := 12) (oi := { dst := some 15, op := Op.call { callee := Callee.value (Operand.func 19), args := #[Operand.tmp 14], argTypes := #[43] }, type := 32, pos := "entry.go:107", after := #[{ on := 11, ground := Ground.data }, { on := 11, ground := Ground.chain }, { on := 9, ground := Ground.guard }], guard := some (9, true) }) (v := undef) rfl (by kernel_rfl) (by kernel_rfl) (by kernel_rfl) (fun _ _ _ h => h) (Or.inr ⟨by rfl, rfl⟩) hS ?_
    try simp only [Act.put, List.setIfInBounds_toArray, List.set_cons_zero, List.set_cons_succ]
    refine wpAnyH_take (i := 13) (oi := { dst := some 16, op := Op.load 32 (Operand.tmp 1), type := 32, pos := "entry.go:107", after := #[{ on := 9, ground := Ground.guard }], guard := some (9, true) }) (v := undef) rfl (by kernel_rfl) (by kernel_rfl) (by kernel_rfl) (fun _ _ _ h => h) (Or.inr ⟨by rfl, rfl⟩) hS ?_
    try simp only [Act.put, List.setIfInBounds_toArray, List.set_cons_zero, List.set_cons_succ]
    refine wpAnyH_take (i := 14) (oi := { dst := some 17, op := Op.binOp BinOp.eql 32 (Operand.tmp 15) (Operand.tmp 16) 32, type := 4, pos := "entry.go:107", after := #[{ on := 12, ground := Ground.data }, { on := 13, ground := Ground.data }, { on := 9, ground := Ground.guard }], guard := some (9, true) }) (v := undef) rfl (by kernel_rfl) (by kernel_rfl) (by kernel_rfl) (fun _ _ _ h => h) (Or.inr ⟨by rfl, rfl⟩) hS ?_
    try simp only [Act.put, List.setIfInBounds_toArray, List.set_cons_zero, List.set_cons_succ]
    refine wpAnyH_take (i := 15) (oi := { dst := some 18, op := Op.pick (Operand.tmp 12) (Operand.tmp 17) (Operand.const (Value.bool false)), type := 4, pos := "entry.go:107", after := #[{ on := 9, ground := Ground.data }, { on := 14, ground := Ground.data }], guard := none }) (v := ?v15_7) rfl (by kernel_rfl) (by kernel_rfl) (by kernel_rfl) (fun _ _ _ h => h) (Or.inl ⟨by rfl, ?hy15_7⟩) hS ?rest15_7
    case hy15_7 =>
      intro w hSw
      (try dsimp only at hSw)
      go_simp
      try with_reducible rfl
    try simp only [Act.put, List.setIfInBounds_toArray, List.set_cons_zero, List.set_cons_succ]
    refine wpAnyH_take (i := 16) (oi := { dst := some 2, op := Op.assign (Operand.tmp 18), type := 4, pos := "entry.go:107", after := #[{ on := 15, ground := Ground.data }, { on := 12, ground := Ground.chain }, { on := 0, ground := Ground.phase }, { on := 1, ground := Ground.phase }, { on := 2, ground := Ground.phase }, { on := 3, ground := Ground.phase }, { on := 4, ground := Ground.phase }, { on := 5, ground := Ground.phase }, { on := 6, ground := Ground.phase }, { on := 7, ground := Ground.phase }, { on := 8, ground := Ground.phase }, { on := 9, ground := Ground.phase }, { on := 10, ground := Ground.phase }, { on := 11, ground := Ground.phase }, { on := 12, ground := Ground.phase }, { on := 13, ground := Ground.phase }, { on := 14, ground := Ground.phase }, { on := 15, ground := Ground.phase }], guard := none }) (v := ?v16_8) rfl (by kernel_rfl) (by kernel_rfl) (by kernel_rfl) (fun _ _ _ h => h) (Or.inl ⟨by rfl, ?hy16_8⟩) hS ?rest16_8
    case hy16_8 =>
      intro w hSw
      (try dsimp only at hSw)
      go_simp
      try with_reducible rfl
    try simp only [Act.put, List.setIfInBounds_toArray, List.set_cons_zero, List.set_cons_succ]
    refine wpAnyH_done (by kernel_rfl) ?_ _
    go_wp2
    go_ret
    exact ⟨ret_bool Hr.out.symm, hB0⟩
  | true =>
    cases ho : decide (x.op < 8) with
    | false =>
      have Hr : Hid (rtB x = false) := Lib.hid (by rw [h, hk, ho]; rfl)
      clear h he
      go_enter Try.func12, Try.ntmps12
      go_wp2_with fail
      have hB0 : Below w.heap.size w (w.alloc (.cells #[Value.int .i64 x.k, Value.int .i64 x.w, Value.int .i64 x.op, Value.int .i64 x.dl, Value.bool x.wa, Value.bool x.fo, Value.int .i64 x.sl, Value.int .i64 x.ge, Value.int .i64 x.st, Value.int .i64 x.n, Value.bool x.gd] 32)) := bnew _ _
      have r0 := RowAt.new w 32 #[Value.int .i64 x.k, Value.int .i64 x.w, Value.int .i64 x.op, Value.int .i64 x.dl, Value.bool x.wa, Value.bool x.fo, Value.int .i64 x.sl, Value.int .i64 x.ge, Value.int .i64 x.st, Value.int .i64 x.n, Value.bool x.gd]
      obtain ⟨W, hW⟩ : ∃ W, W = w.alloc (.cells #[Value.int .i64 x.k, Value.int .i64 x.w, Value.int .i64 x.op, Value.int .i64 x.dl, Value.bool x.wa, Value.bool x.fo, Value.int .i64 x.sl, Value.int .i64 x.ge, Value.int .i64 x.st, Value.int .i64 x.n, Value.bool x.gd] 32) := ⟨_, rfl⟩
      obtain ⟨B1, e1⟩ : ∃ B1, B1 = w.heap.size := ⟨_, rfl⟩
      rw [← hW] at r0 hB0 ⊢
      rw [← e1] at r0 ⊢
      clear hW e1
      replace r0 := r0.drew
      replace hB0 := hB0.drew
      have c0_0 : W.drew.cell? ⟨B1, 0, none⟩ = some (vI x.k) := r0.cell 0 rfl
      have c0_1 : W.drew.cell? ⟨B1, 1, none⟩ = some (vI x.w) := r0.cell 1 rfl
      have c0_2 : W.drew.cell? ⟨B1, 2, none⟩ = some (vI x.op) := r0.cell 2 rfl
      have c0_3 : W.drew.cell? ⟨B1, 3, none⟩ = some (vI x.dl) := r0.cell 3 rfl
      have c0_4 : W.drew.cell? ⟨B1, 4, none⟩ = some (.bool x.wa) := r0.cell 4 rfl
      have c0_5 : W.drew.cell? ⟨B1, 5, none⟩ = some (.bool x.fo) := r0.cell 5 rfl
      have c0_6 : W.drew.cell? ⟨B1, 6, none⟩ = some (vI x.sl) := r0.cell 6 rfl
      have c0_7 : W.drew.cell? ⟨B1, 7, none⟩ = some (vI x.ge) := r0.cell 7 rfl
      have c0_8 : W.drew.cell? ⟨B1, 8, none⟩ = some (vI x.st) := r0.cell 8 rfl
      have c0_9 : W.drew.cell? ⟨B1, 9, none⟩ = some (vI x.n) := r0.cell 9 rfl
      have c0_10 : W.drew.cell? ⟨B1, 10, none⟩ = some (.bool x.gd) := r0.cell 10 rfl
      refine wp_region_held_drew (S := (fun w' => w'.cell? ⟨B1, 0, none⟩ = some (vI x.k) ∧ w'.cell? ⟨B1, 1, none⟩ = some (vI x.w) ∧ w'.cell? ⟨B1, 2, none⟩ = some (vI x.op) ∧ w'.cell? ⟨B1, 3, none⟩ = some (vI x.dl) ∧ w'.cell? ⟨B1, 4, none⟩ = some (.bool x.wa) ∧ w'.cell? ⟨B1, 5, none⟩ = some (.bool x.fo) ∧ w'.cell? ⟨B1, 6, none⟩ = some (vI x.sl) ∧ w'.cell? ⟨B1, 7, none⟩ = some (vI x.ge) ∧ w'.cell? ⟨B1, 8, none⟩ = some (vI x.st) ∧ w'.cell? ⟨B1, 9, none⟩ = some (vI x.n) ∧ w'.cell? ⟨B1, 10, none⟩ = some (.bool x.gd))) (by kernel_rfl) ⟨c0_0, c0_1, c0_2, c0_3, c0_4, c0_5, c0_6, c0_7, c0_8, c0_9, c0_10⟩ (fun hS => ?_)
      generalize W.drew = u0 at *
      refine wpAnyH_take (i := 0) (oi := { dst := some 3, op := Op.fieldAddr 32 (Operand.tmp 1) 0, type := 0, pos := "entry.go:107", after := #[], guard := none }) (v := ?v0_9) rfl (by kernel_rfl) (by kernel_rfl) (by kernel_rfl) (fun _ _ _ h => h) (Or.inl ⟨by rfl, ?hy0_9⟩) hS ?rest0_9
      case hy0_9 =>
        intro w hSw
        (try dsimp only at hSw)
        go_simp
        try with_reducible rfl
      try simp only [Act.put, List.setIfInBounds_toArray, List.set_cons_zero, List.set_cons_succ]
      refine wpAnyH_take (i := 1) (oi := { dst := some 4, op := Op.load 3 (Operand.tmp 3), type := 3, pos := "entry.go:107", after := #[{ on := 0, ground := Ground.data }], guard := none }) (v := ?v1_10) rfl (by kernel_rfl) (by kernel_rfl) (by kernel_rfl) (fun _ _ _ h => h) (Or.inl ⟨by rfl, ?hy1_10⟩) hS ?rest1_10
      case hy1_10 =>
        intro w hSw
        (try dsimp only at hSw)
        go_simp
        try with_reducible rfl
      try simp only [Act.put, List.setIfInBounds_toArray, List.set_cons_zero, List.set_cons_succ]
      refine wpAnyH_take (i := 2) (oi := { dst := some 5, op := Op.binOp BinOp.lss 3 (Operand.tmp 4) (Operand.const (Value.int IntKind.i64 5)) 3, type := 4, pos := "entry.go:107", after := #[{ on := 1, ground := Ground.data }], guard := none }) (v := ?v2_11) rfl (by kernel_rfl) (by kernel_rfl) (by kernel_rfl) (fun _ _ _ h => h) (Or.inl ⟨by rfl, ?hy2_11⟩) hS ?rest2_11
      case hy2_11 =>
        intro w hSw
        (try dsimp only at hSw)
        go_simp
        try with_reducible rfl
      try simp only [Act.put, List.setIfInBounds_toArray, List.set_cons_zero, List.set_cons_succ]
      refine wpAnyH_take (i := 3) (oi := { dst := some 6, op := Op.move (Operand.tmp 5), type := 4, pos := "entry.go:107", after := #[{ on := 2, ground := Ground.data }], guard := none }) (v := ?v3_12) rfl (by kernel_rfl) (by kernel_rfl) (by kernel_rfl) (fun _ _ _ h => h) (Or.inl ⟨by rfl, ?hy3_12⟩) hS ?rest3_12
      case hy3_12 =>
        intro w hSw
        (try dsimp only at hSw)
        go_simp
        try with_reducible rfl
      try simp only [Act.put, List.setIfInBounds_toArray, List.set_cons_zero, List.set_cons_succ]
      refine wpAnyH_take (i := 4) (oi := { dst := some 7, op := Op.fieldAddr 32 (Operand.tmp 1) 2, type := 0, pos := "entry.go:107", after := #[{ on := 3, ground := Ground.guard }], guard := some (3, true) }) (v := ?v4_13) rfl (by kernel_rfl) (by kernel_rfl) (by kernel_rfl) (fun _ _ _ h => h) (Or.inl ⟨by rfl, ?hy4_13⟩) hS ?rest4_13
      case hy4_13 =>
        intro w hSw
        (try dsimp only at hSw)
        go_simp
        try with_reducible rfl
      try simp only [Act.put, List.setIfInBounds_toArray, List.set_cons_zero, List.set_cons_succ]
      refine wpAnyH_take (i := 5) (oi := { dst := some 8, op := Op.fieldAddr 30 (Operand.tmp 7) 0, type := 0, pos := "entry.go:107", after := #[{ on := 4, ground := Ground.data }, { on := 3, ground := Ground.guard }], guard := some (3, true) }) (v := ?v5_14) rfl (by kernel_rfl) (by kernel_rfl) (by kernel_rfl) (fun _ _ _ h => h) (Or.inl ⟨by rfl, ?hy5_14⟩) hS ?rest5_14
      case hy5_14 =>
        intro w hSw
        (try dsimp only at hSw)
        go_simp
        try with_reducible rfl
      try simp only [Act.put, List.setIfInBounds_toArray, List.set_cons_zero, List.set_cons_succ]
      refine wpAnyH_take (i := 6) (oi := { dst := some 9, op := Op.load 3 (Operand.tmp 8), type := 3, pos := "entry.go:107", after := #[{ on := 5, ground := Ground.data }, { on := 3, ground := Ground.guard }], guard := some (3, true) }) (v := ?v6_15) rfl (by kernel_rfl) (by kernel_rfl) (by kernel_rfl) (fun _ _ _ h => h) (Or.inl ⟨by rfl, ?hy6_15⟩) hS ?rest6_15
      case hy6_15 =>
        intro w hSw
        (try dsimp only at hSw)
        go_simp
        try with_reducible rfl
      try simp only [Act.put, List.setIfInBounds_toArray, List.set_cons_zero, List.set_cons_succ]
      refine wpAnyH_take (i := 7) (oi := { dst := some 10, op := Op.binOp BinOp.lss 3 (Operand.tmp 9) (Operand.const (Value.int IntKind.i64 8)) 3, type := 4, pos := "entry.go:107", after := #[{ on := 6, ground := Ground.data }, { on := 3, ground := Ground.guard }], guard := some (3, true) }) (v := ?v7_16) rfl (by kernel_rfl) (by kernel_rfl) (by kernel_rfl) (fun _ _ _ h => h) (Or.inl ⟨by rfl, ?hy7_16⟩) hS ?rest7_16
      case hy7_16 =>
        intro w hSw
        (try dsimp only at hSw)
        go_simp
        try with_reducible rfl
      try simp only [Act.put, List.setIfInBounds_toArray, List.set_cons_zero, List.set_cons_succ]
      refine wpAnyH_take (i := 8) (oi := { dst := some 11, op := Op.pick (Operand.tmp 6) (Operand.tmp 10) (Operand.const (Value.bool false)), type := 4, pos := "entry.go:107", after := #[{ on := 3, ground := Ground.data }, { on := 7, ground := Ground.data }], guard := none }) (v := ?v8_17) rfl (by kernel_rfl) (by kernel_rfl) (by kernel_rfl) (fun _ _ _ h => h) (Or.inl ⟨by rfl, ?hy8_17⟩) hS ?rest8_17
      case hy8_17 =>
        intro w hSw
        (try dsimp only at hSw)
        go_simp
        try with_reducible rfl
      try simp only [Act.put, List.setIfInBounds_toArray, List.set_cons_zero, List.set_cons_succ]
      refine wpAnyH_take (i := 9) (oi := { dst := some 12, op := Op.move (Operand.tmp 11), type := 4, pos := "entry.go:107", after := #[{ on := 8, ground := Ground.data }, { on := 3, ground := Ground.chain }], guard := none }) (v := ?v9_18) rfl (by kernel_rfl) (by kernel_rfl) (by kernel_rfl) (fun _ _ _ h => h) (Or.inl ⟨by rfl, ?hy9_18⟩) hS ?rest9_18
      case hy9_18 =>
        intro w hSw
        (try dsimp only at hSw)
        go_simp
        try with_reducible rfl
      try simp only [Act.put, List.setIfInBounds_toArray, List.set_cons_zero, List.set_cons_succ]
      refine wpAnyH_take (i := 10) (oi := { dst := some 13, op := Op.load 32 (Operand.tmp 1), type := 32, pos := "entry.go:107", after := #[{ on := 9, ground := Ground.guard }], guard := some (9, true) }) (v := undef) rfl (by kernel_rfl) (by kernel_rfl) (by kernel_rfl) (fun _ _ _ h => h) (Or.inr ⟨by rfl, rfl⟩) hS ?_
      try simp only [Act.put, List.setIfInBounds_toArray, List.set_cons_zero, List.set_cons_succ]
      refine wpAnyH_take (i := 11) (oi := { dst := some 14, op := Op.call { callee := Callee.value (Operand.func 17), args := #[Operand.tmp 13], argTypes := #[32] }, type := 43, pos := "entry.go:107", after := #[{ on := 10, ground := Ground.data }, { on := 9, ground := Ground.chain }, { on := 9, ground := Ground.guard }], guard := some (9, true) }) (v := undef) rfl (by kernel_rfl) (by kernel_rfl) (by kernel_rfl) (fun _ _ _ h => h) (Or.inr ⟨by rfl, rfl⟩) hS ?_
      try simp only [Act.put, List.setIfInBounds_toArray, List.set_cons_zero, List.set_cons_succ]
      refine wpAnyH_take (i := 12) (oi := { dst := some 15, op := Op.call { callee := Callee.value (Operand.func 19), args := #[Operand.tmp 14], argTypes := #[43] }, type := 32, pos := "entry.go:107", after := #[{ on := 11, ground := Ground.data }, { on := 11, ground := Ground.chain }, { on := 9, ground := Ground.guard }], guard := some (9, true) }) (v := undef) rfl (by kernel_rfl) (by kernel_rfl) (by kernel_rfl) (fun _ _ _ h => h) (Or.inr ⟨by rfl, rfl⟩) hS ?_
      try simp only [Act.put, List.setIfInBounds_toArray, List.set_cons_zero, List.set_cons_succ]
      refine wpAnyH_take (i := 13) (oi := { dst := some 16, op := Op.load 32 (Operand.tmp 1), type := 32, pos := "entry.go:107", after := #[{ on := 9, ground := Ground.guard }], guard := some (9, true) }) (v := undef) rfl (by kernel_rfl) (by kernel_rfl) (by kernel_rfl) (fun _ _ _ h => h) (Or.inr ⟨by rfl, rfl⟩) hS ?_
      try simp only [Act.put, List.setIfInBounds_toArray, List.set_cons_zero, List.set_cons_succ]
      refine wpAnyH_take (i := 14) (oi := { dst := some 17, op := Op.binOp BinOp.eql 32 (Operand.tmp 15) (Operand.tmp 16) 32, type := 4, pos := "entry.go:107", after := #[{ on := 12, ground := Ground.data }, { on := 13, ground := Ground.data }, { on := 9, ground := Ground.guard }], guard := some (9, true) }) (v := undef) rfl (by kernel_rfl) (by kernel_rfl) (by kernel_rfl) (fun _ _ _ h => h) (Or.inr ⟨by rfl, rfl⟩) hS ?_
      try simp only [Act.put, List.setIfInBounds_toArray, List.set_cons_zero, List.set_cons_succ]
      refine wpAnyH_take (i := 15) (oi := { dst := some 18, op := Op.pick (Operand.tmp 12) (Operand.tmp 17) (Operand.const (Value.bool false)), type := 4, pos := "entry.go:107", after := #[{ on := 9, ground := Ground.data }, { on := 14, ground := Ground.data }], guard := none }) (v := ?v15_19) rfl (by kernel_rfl) (by kernel_rfl) (by kernel_rfl) (fun _ _ _ h => h) (Or.inl ⟨by rfl, ?hy15_19⟩) hS ?rest15_19
      case hy15_19 =>
        intro w hSw
        (try dsimp only at hSw)
        go_simp
        try with_reducible rfl
      try simp only [Act.put, List.setIfInBounds_toArray, List.set_cons_zero, List.set_cons_succ]
      refine wpAnyH_take (i := 16) (oi := { dst := some 2, op := Op.assign (Operand.tmp 18), type := 4, pos := "entry.go:107", after := #[{ on := 15, ground := Ground.data }, { on := 12, ground := Ground.chain }, { on := 0, ground := Ground.phase }, { on := 1, ground := Ground.phase }, { on := 2, ground := Ground.phase }, { on := 3, ground := Ground.phase }, { on := 4, ground := Ground.phase }, { on := 5, ground := Ground.phase }, { on := 6, ground := Ground.phase }, { on := 7, ground := Ground.phase }, { on := 8, ground := Ground.phase }, { on := 9, ground := Ground.phase }, { on := 10, ground := Ground.phase }, { on := 11, ground := Ground.phase }, { on := 12, ground := Ground.phase }, { on := 13, ground := Ground.phase }, { on := 14, ground := Ground.phase }, { on := 15, ground := Ground.phase }], guard := none }) (v := ?v16_20) rfl (by kernel_rfl) (by kernel_rfl) (by kernel_rfl) (fun _ _ _ h => h) (Or.inl ⟨by rfl, ?hy16_20⟩) hS ?rest16_20
      case hy16_20 =>
        intro w hSw
        (try dsimp only at hSw)
        go_simp
        try with_reducible rfl
      try simp only [Act.put, List.setIfInBounds_toArray, List.set_cons_zero, List.set_cons_succ]
      refine wpAnyH_done (by kernel_rfl) ?_ _
      go_wp2
      go_ret
      exact ⟨ret_bool Hr.out.symm, hB0⟩
    | true =>
      have Hr : Hid (rtB x = q) := Lib.hid (by rw [h, hk, ho]; rfl)
      clear h
      go_enter Try.func12, Try.ntmps12
      go_wp2_with fail
      have hB0 : Below w.heap.size w (w.alloc (.cells #[Value.int .i64 x.k, Value.int .i64 x.w, Value.int .i64 x.op, Value.int .i64 x.dl, Value.bool x.wa, Value.bool x.fo, Value.int .i64 x.sl, Value.int .i64 x.ge, Value.int .i64 x.st, Value.int .i64 x.n, Value.bool x.gd] 32)) := bnew _ _
      have r0 := RowAt.new w 32 #[Value.int .i64 x.k, Value.int .i64 x.w, Value.int .i64 x.op, Value.int .i64 x.dl, Value.bool x.wa, Value.bool x.fo, Value.int .i64 x.sl, Value.int .i64 x.ge, Value.int .i64 x.st, Value.int .i64 x.n, Value.bool x.gd]
      obtain ⟨W, hW⟩ : ∃ W, W = w.alloc (.cells #[Value.int .i64 x.k, Value.int .i64 x.w, Value.int .i64 x.op, Value.int .i64 x.dl, Value.bool x.wa, Value.bool x.fo, Value.int .i64 x.sl, Value.int .i64 x.ge, Value.int .i64 x.st, Value.int .i64 x.n, Value.bool x.gd] 32) := ⟨_, rfl⟩
      obtain ⟨B1, e1⟩ : ∃ B1, B1 = w.heap.size := ⟨_, rfl⟩
      rw [← hW] at r0 hB0 ⊢
      rw [← e1] at r0 ⊢
      clear hW e1
      replace r0 := r0.drew
      replace hB0 := hB0.drew
      have c0_0 : W.drew.cell? ⟨B1, 0, none⟩ = some (vI x.k) := r0.cell 0 rfl
      have c0_1 : W.drew.cell? ⟨B1, 1, none⟩ = some (vI x.w) := r0.cell 1 rfl
      have c0_2 : W.drew.cell? ⟨B1, 2, none⟩ = some (vI x.op) := r0.cell 2 rfl
      have c0_3 : W.drew.cell? ⟨B1, 3, none⟩ = some (vI x.dl) := r0.cell 3 rfl
      have c0_4 : W.drew.cell? ⟨B1, 4, none⟩ = some (.bool x.wa) := r0.cell 4 rfl
      have c0_5 : W.drew.cell? ⟨B1, 5, none⟩ = some (.bool x.fo) := r0.cell 5 rfl
      have c0_6 : W.drew.cell? ⟨B1, 6, none⟩ = some (vI x.sl) := r0.cell 6 rfl
      have c0_7 : W.drew.cell? ⟨B1, 7, none⟩ = some (vI x.ge) := r0.cell 7 rfl
      have c0_8 : W.drew.cell? ⟨B1, 8, none⟩ = some (vI x.st) := r0.cell 8 rfl
      have c0_9 : W.drew.cell? ⟨B1, 9, none⟩ = some (vI x.n) := r0.cell 9 rfl
      have c0_10 : W.drew.cell? ⟨B1, 10, none⟩ = some (.bool x.gd) := r0.cell 10 rfl
      refine wp_region_held_drew (S := (fun w' => w'.cell? ⟨B1, 0, none⟩ = some (vI x.k) ∧ w'.cell? ⟨B1, 1, none⟩ = some (vI x.w) ∧ w'.cell? ⟨B1, 2, none⟩ = some (vI x.op) ∧ w'.cell? ⟨B1, 3, none⟩ = some (vI x.dl) ∧ w'.cell? ⟨B1, 4, none⟩ = some (.bool x.wa) ∧ w'.cell? ⟨B1, 5, none⟩ = some (.bool x.fo) ∧ w'.cell? ⟨B1, 6, none⟩ = some (vI x.sl) ∧ w'.cell? ⟨B1, 7, none⟩ = some (vI x.ge) ∧ w'.cell? ⟨B1, 8, none⟩ = some (vI x.st) ∧ w'.cell? ⟨B1, 9, none⟩ = some (vI x.n) ∧ w'.cell? ⟨B1, 10, none⟩ = some (.bool x.gd))) (by kernel_rfl) ⟨c0_0, c0_1, c0_2, c0_3, c0_4, c0_5, c0_6, c0_7, c0_8, c0_9, c0_10⟩ (fun hS => ?_)
      generalize W.drew = u0 at *
      refine wpAnyH_take (i := 0) (oi := { dst := some 3, op := Op.fieldAddr 32 (Operand.tmp 1) 0, type := 0, pos := "entry.go:107", after := #[], guard := none }) (v := ?v0_21) rfl (by kernel_rfl) (by kernel_rfl) (by kernel_rfl) (fun _ _ _ h => h) (Or.inl ⟨by rfl, ?hy0_21⟩) hS ?rest0_21
      case hy0_21 =>
        intro w hSw
        (try dsimp only at hSw)
        go_simp
        try with_reducible rfl
      try simp only [Act.put, List.setIfInBounds_toArray, List.set_cons_zero, List.set_cons_succ]
      refine wpAnyH_take (i := 1) (oi := { dst := some 4, op := Op.load 3 (Operand.tmp 3), type := 3, pos := "entry.go:107", after := #[{ on := 0, ground := Ground.data }], guard := none }) (v := ?v1_22) rfl (by kernel_rfl) (by kernel_rfl) (by kernel_rfl) (fun _ _ _ h => h) (Or.inl ⟨by rfl, ?hy1_22⟩) hS ?rest1_22
      case hy1_22 =>
        intro w hSw
        (try dsimp only at hSw)
        go_simp
        try with_reducible rfl
      try simp only [Act.put, List.setIfInBounds_toArray, List.set_cons_zero, List.set_cons_succ]
      refine wpAnyH_take (i := 2) (oi := { dst := some 5, op := Op.binOp BinOp.lss 3 (Operand.tmp 4) (Operand.const (Value.int IntKind.i64 5)) 3, type := 4, pos := "entry.go:107", after := #[{ on := 1, ground := Ground.data }], guard := none }) (v := ?v2_23) rfl (by kernel_rfl) (by kernel_rfl) (by kernel_rfl) (fun _ _ _ h => h) (Or.inl ⟨by rfl, ?hy2_23⟩) hS ?rest2_23
      case hy2_23 =>
        intro w hSw
        (try dsimp only at hSw)
        go_simp
        try with_reducible rfl
      try simp only [Act.put, List.setIfInBounds_toArray, List.set_cons_zero, List.set_cons_succ]
      refine wpAnyH_take (i := 3) (oi := { dst := some 6, op := Op.move (Operand.tmp 5), type := 4, pos := "entry.go:107", after := #[{ on := 2, ground := Ground.data }], guard := none }) (v := ?v3_24) rfl (by kernel_rfl) (by kernel_rfl) (by kernel_rfl) (fun _ _ _ h => h) (Or.inl ⟨by rfl, ?hy3_24⟩) hS ?rest3_24
      case hy3_24 =>
        intro w hSw
        (try dsimp only at hSw)
        go_simp
        try with_reducible rfl
      try simp only [Act.put, List.setIfInBounds_toArray, List.set_cons_zero, List.set_cons_succ]
      refine wpAnyH_take (i := 4) (oi := { dst := some 7, op := Op.fieldAddr 32 (Operand.tmp 1) 2, type := 0, pos := "entry.go:107", after := #[{ on := 3, ground := Ground.guard }], guard := some (3, true) }) (v := ?v4_25) rfl (by kernel_rfl) (by kernel_rfl) (by kernel_rfl) (fun _ _ _ h => h) (Or.inl ⟨by rfl, ?hy4_25⟩) hS ?rest4_25
      case hy4_25 =>
        intro w hSw
        (try dsimp only at hSw)
        go_simp
        try with_reducible rfl
      try simp only [Act.put, List.setIfInBounds_toArray, List.set_cons_zero, List.set_cons_succ]
      refine wpAnyH_take (i := 5) (oi := { dst := some 8, op := Op.fieldAddr 30 (Operand.tmp 7) 0, type := 0, pos := "entry.go:107", after := #[{ on := 4, ground := Ground.data }, { on := 3, ground := Ground.guard }], guard := some (3, true) }) (v := ?v5_26) rfl (by kernel_rfl) (by kernel_rfl) (by kernel_rfl) (fun _ _ _ h => h) (Or.inl ⟨by rfl, ?hy5_26⟩) hS ?rest5_26
      case hy5_26 =>
        intro w hSw
        (try dsimp only at hSw)
        go_simp
        try with_reducible rfl
      try simp only [Act.put, List.setIfInBounds_toArray, List.set_cons_zero, List.set_cons_succ]
      refine wpAnyH_take (i := 6) (oi := { dst := some 9, op := Op.load 3 (Operand.tmp 8), type := 3, pos := "entry.go:107", after := #[{ on := 5, ground := Ground.data }, { on := 3, ground := Ground.guard }], guard := some (3, true) }) (v := ?v6_27) rfl (by kernel_rfl) (by kernel_rfl) (by kernel_rfl) (fun _ _ _ h => h) (Or.inl ⟨by rfl, ?hy6_27⟩) hS ?rest6_27
      case hy6_27 =>
        intro w hSw
        (try dsimp only at hSw)
        go_simp
        try with_reducible rfl
      try simp only [Act.put, List.setIfInBounds_toArray, List.set_cons_zero, List.set_cons_succ]
      refine wpAnyH_take (i := 7) (oi := { dst := some 10, op := Op.binOp BinOp.lss 3 (Operand.tmp 9) (Operand.const (Value.int IntKind.i64 8)) 3, type := 4, pos := "entry.go:107", after := #[{ on := 6, ground := Ground.data }, { on := 3, ground := Ground.guard }], guard := some (3, true) }) (v := ?v7_28) rfl (by kernel_rfl) (by kernel_rfl) (by kernel_rfl) (fun _ _ _ h => h) (Or.inl ⟨by rfl, ?hy7_28⟩) hS ?rest7_28
      case hy7_28 =>
        intro w hSw
        (try dsimp only at hSw)
        go_simp
        try with_reducible rfl
      try simp only [Act.put, List.setIfInBounds_toArray, List.set_cons_zero, List.set_cons_succ]
      refine wpAnyH_take (i := 8) (oi := { dst := some 11, op := Op.pick (Operand.tmp 6) (Operand.tmp 10) (Operand.const (Value.bool false)), type := 4, pos := "entry.go:107", after := #[{ on := 3, ground := Ground.data }, { on := 7, ground := Ground.data }], guard := none }) (v := ?v8_29) rfl (by kernel_rfl) (by kernel_rfl) (by kernel_rfl) (fun _ _ _ h => h) (Or.inl ⟨by rfl, ?hy8_29⟩) hS ?rest8_29
      case hy8_29 =>
        intro w hSw
        (try dsimp only at hSw)
        go_simp
        try with_reducible rfl
      try simp only [Act.put, List.setIfInBounds_toArray, List.set_cons_zero, List.set_cons_succ]
      refine wpAnyH_take (i := 9) (oi := { dst := some 12, op := Op.move (Operand.tmp 11), type := 4, pos := "entry.go:107", after := #[{ on := 8, ground := Ground.data }, { on := 3, ground := Ground.chain }], guard := none }) (v := ?v9_30) rfl (by kernel_rfl) (by kernel_rfl) (by kernel_rfl) (fun _ _ _ h => h) (Or.inl ⟨by rfl, ?hy9_30⟩) hS ?rest9_30
      case hy9_30 =>
        intro w hSw
        (try dsimp only at hSw)
        go_simp
        try with_reducible rfl
      try simp only [Act.put, List.setIfInBounds_toArray, List.set_cons_zero, List.set_cons_succ]
      refine wpAnyH_take (i := 10) (oi := { dst := some 13, op := Op.load 32 (Operand.tmp 1), type := 32, pos := "entry.go:107", after := #[{ on := 9, ground := Ground.guard }], guard := some (9, true) }) (v := ?v10_31) rfl (by kernel_rfl) (by kernel_rfl) (by kernel_rfl) (fun _ _ _ h => h) (Or.inl ⟨by rfl, ?hy10_31⟩) hS ?rest10_31
      case hy10_31 =>
        intro w hSw
        (try dsimp only at hSw)
        go_simp
        try with_reducible rfl
      try simp only [Act.put, List.setIfInBounds_toArray, List.set_cons_zero, List.set_cons_succ]
      refine wpAnyH_take (i := 13) (oi := { dst := some 16, op := Op.load 32 (Operand.tmp 1), type := 32, pos := "entry.go:107", after := #[{ on := 9, ground := Ground.guard }], guard := some (9, true) }) (v := ?v13_32) rfl (by kernel_rfl) (by kernel_rfl) (by kernel_rfl) (fun _ _ _ h => h) (Or.inl ⟨by rfl, ?hy13_32⟩) hS ?rest13_32
      case hy13_32 =>
        intro w hSw
        (try dsimp only at hSw)
        go_simp
        try with_reducible rfl
      try simp only [Act.put, List.setIfInBounds_toArray, List.set_cons_zero, List.set_cons_succ]
      refine wpAnyH_ready (rs := [11]) (by kernel_rfl) (by simp) ?_
      refine AllReadyH.cons (o := { dst := some 14, op := Op.call { callee := Callee.value (Operand.func 17), args := #[Operand.tmp 13], argTypes := #[32] }, type := 43, pos := "entry.go:107", after := #[{ on := 10, ground := Ground.data }, { on := 9, ground := Ground.chain }, { on := 9, ground := Ground.guard }], guard := some (9, true) }) rfl (fun K hK => ?_) AllReadyH.nil
      go_simp
      refine (write_any x _).mono ?_
      rintro e u1 ⟨rfl, hb⟩
      have r1 := r0.below hb r0.lt
      have hB1 := hB0.trans (hb.mono hB0.size)
      clear hb
      have c1_0 : u1.cell? ⟨B1, 0, none⟩ = some (vI x.k) := r1.cell 0 rfl
      have c1_1 : u1.cell? ⟨B1, 1, none⟩ = some (vI x.w) := r1.cell 1 rfl
      have c1_2 : u1.cell? ⟨B1, 2, none⟩ = some (vI x.op) := r1.cell 2 rfl
      have c1_3 : u1.cell? ⟨B1, 3, none⟩ = some (vI x.dl) := r1.cell 3 rfl
      have c1_4 : u1.cell? ⟨B1, 4, none⟩ = some (.bool x.wa) := r1.cell 4 rfl
      have c1_5 : u1.cell? ⟨B1, 5, none⟩ = some (.bool x.fo) := r1.cell 5 rfl
      have c1_6 : u1.cell? ⟨B1, 6, none⟩ = some (vI x.sl) := r1.cell 6 rfl
      have c1_7 : u1.cell? ⟨B1, 7, none⟩ = some (vI x.ge) := r1.cell 7 rfl
      have c1_8 : u1.cell? ⟨B1, 8, none⟩ = some (vI x.st) := r1.cell 8 rfl
      have c1_9 : u1.cell? ⟨B1, 9, none⟩ = some (vI x.n) := r1.cell 9 rfl
      have c1_10 : u1.cell? ⟨B1, 10, none⟩ = some (.bool x.gd) := r1.cell 10 rfl
      refine hK.out _ _ ⟨c1_0, c1_1, c1_2, c1_3, c1_4, c1_5, c1_6, c1_7, c1_8, c1_9, c1_10⟩ (fun hS => ?_)
      clear hK K
      try simp only [Act.put, List.setIfInBounds_toArray, List.set_cons_zero, List.set_cons_succ]
      refine wpAnyH_ready (rs := [12]) (by kernel_rfl) (by simp) ?_
      refine AllReadyH.cons (o := { dst := some 15, op := Op.call { callee := Callee.value (Operand.func 19), args := #[Operand.tmp 14], argTypes := #[43] }, type := 32, pos := "entry.go:107", after := #[{ on := 11, ground := Ground.data }, { on := 11, ground := Ground.chain }, { on := 9, ground := Ground.guard }], guard := some (9, true) }) rfl (fun K hK => ?_) AllReadyH.nil
      go_simp
      refine (read_any (wrE x) _ (by_wr x)).mono ?_
      rintro e u2 ⟨rfl, hb⟩
      have r2 := r1.below hb r1.lt
      have hB2 := hB1.trans (hb.mono hB1.size)
      clear hb
      have c2_0 : u2.cell? ⟨B1, 0, none⟩ = some (vI x.k) := r2.cell 0 rfl
      have c2_1 : u2.cell? ⟨B1, 1, none⟩ = some (vI x.w) := r2.cell 1 rfl
      have c2_2 : u2.cell? ⟨B1, 2, none⟩ = some (vI x.op) := r2.cell 2 rfl
      have c2_3 : u2.cell? ⟨B1, 3, none⟩ = some (vI x.dl) := r2.cell 3 rfl
      have c2_4 : u2.cell? ⟨B1, 4, none⟩ = some (.bool x.wa) := r2.cell 4 rfl
      have c2_5 : u2.cell? ⟨B1, 5, none⟩ = some (.bool x.fo) := r2.cell 5 rfl
      have c2_6 : u2.cell? ⟨B1, 6, none⟩ = some (vI x.sl) := r2.cell 6 rfl
      have c2_7 : u2.cell? ⟨B1, 7, none⟩ = some (vI x.ge) := r2.cell 7 rfl
      have c2_8 : u2.cell? ⟨B1, 8, none⟩ = some (vI x.st) := r2.cell 8 rfl
      have c2_9 : u2.cell? ⟨B1, 9, none⟩ = some (vI x.n) := r2.cell 9 rfl
      have c2_10 : u2.cell? ⟨B1, 10, none⟩ = some (.bool x.gd) := r2.cell 10 rfl
      refine hK.out _ _ ⟨c2_0, c2_1, c2_2, c2_3, c2_4, c2_5, c2_6, c2_7, c2_8, c2_9, c2_10⟩ (fun hS => ?_)
      clear hK K
      try simp only [Act.put, List.setIfInBounds_toArray, List.set_cons_zero, List.set_cons_succ]
      refine wpAnyH_take (i := 14) (oi := { dst := some 17, op := Op.binOp BinOp.eql 32 (Operand.tmp 15) (Operand.tmp 16) 32, type := 4, pos := "entry.go:107", after := #[{ on := 12, ground := Ground.data }, { on := 13, ground := Ground.data }, { on := 9, ground := Ground.guard }], guard := some (9, true) }) (v := ?v14_33) rfl (by kernel_rfl) (by kernel_rfl) (by kernel_rfl) (fun _ _ _ h => h) (Or.inl ⟨by rfl, ?hy14_33⟩) hS ?rest14_33
      case hy14_33 =>
        intro w hSw
        (try dsimp only at hSw)
        go_simp
        try with_reducible rfl
      try simp only [Act.put, List.setIfInBounds_toArray, List.set_cons_zero, List.set_cons_succ]
      refine wpAnyH_take (i := 15) (oi := { dst := some 18, op := Op.pick (Operand.tmp 12) (Operand.tmp 17) (Operand.const (Value.bool false)), type := 4, pos := "entry.go:107", after := #[{ on := 9, ground := Ground.data }, { on := 14, ground := Ground.data }], guard := none }) (v := ?v15_34) rfl (by kernel_rfl) (by kernel_rfl) (by kernel_rfl) (fun _ _ _ h => h) (Or.inl ⟨by rfl, ?hy15_34⟩) hS ?rest15_34
      case hy15_34 =>
        intro w hSw
        (try dsimp only at hSw)
        go_simp
        try with_reducible rfl
      try simp only [Act.put, List.setIfInBounds_toArray, List.set_cons_zero, List.set_cons_succ]
      refine wpAnyH_take (i := 16) (oi := { dst := some 2, op := Op.assign (Operand.tmp 18), type := 4, pos := "entry.go:107", after := #[{ on := 15, ground := Ground.data }, { on := 12, ground := Ground.chain }, { on := 0, ground := Ground.phase }, { on := 1, ground := Ground.phase }, { on := 2, ground := Ground.phase }, { on := 3, ground := Ground.phase }, { on := 4, ground := Ground.phase }, { on := 5, ground := Ground.phase }, { on := 6, ground := Ground.phase }, { on := 7, ground := Ground.phase }, { on := 8, ground := Ground.phase }, { on := 9, ground := Ground.phase }, { on := 10, ground := Ground.phase }, { on := 11, ground := Ground.phase }, { on := 12, ground := Ground.phase }, { on := 13, ground := Ground.phase }, { on := 14, ground := Ground.phase }, { on := 15, ground := Ground.phase }], guard := none }) (v := ?v16_35) rfl (by kernel_rfl) (by kernel_rfl) (by kernel_rfl) (fun _ _ _ h => h) (Or.inl ⟨by rfl, ?hy16_35⟩) hS ?rest16_35
      case hy16_35 =>
        intro w hSw
        (try dsimp only at hSw)
        go_simp
        try with_reducible rfl
      try simp only [Act.put, List.setIfInBounds_toArray, List.set_cons_zero, List.set_cons_succ]
      refine wpAnyH_done (by kernel_rfl) ?_ _
      go_wp2
      go_ret
      exact ⟨ret_bool Hr.out.symm, hB2⟩
end Go.Proofs.Ytbkaiffecnomjaa
