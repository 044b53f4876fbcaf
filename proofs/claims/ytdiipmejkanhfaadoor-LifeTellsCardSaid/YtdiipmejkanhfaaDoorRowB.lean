/- Rows of the document's own table; nothing that was there changes. -/
import Derived.Test.YtdiipmejkanhfaaDoorRowD
namespace Go.Proofs.YtdiipmejkanhfaaDoor
open Go.RowKit
attribute [local go_sem ↓] Go.wp_at_zero Go.wp_at_succ
set_option maxRecDepth 100000 in
set_option maxHeartbeats 4000000 in
theorem w4_any (s : Sl) (a mo : Int) (w : World) (_ : Rt s) :
    Calls Tryd.prog 17 #[Value.agg #[Value.int .i64 s.st, Value.int .i64 s.ow, Value.int .i64 s.sr, Value.bool s.br, Value.bool s.ma, Value.int .i64 s.us, Value.int .i64 s.ge, Value.int .i64 s.ep, Value.int .i64 s.ve], .int .i64 4, .int .i64 a, .int .i64 mo] w fun e w' => e = .returned (.tuple #[.agg #[Value.int .i64 (rS 4 s a mo).st, Value.int .i64 (rS 4 s a mo).ow, Value.int .i64 (rS 4 s a mo).sr, Value.bool (rS 4 s a mo).br, Value.bool (rS 4 s a mo).ma, Value.int .i64 (rS 4 s a mo).us, Value.int .i64 (rS 4 s a mo).ge, Value.int .i64 (rS 4 s a mo).ep, Value.int .i64 (rS 4 s a mo).ve], .bool (rB 4 s a mo)]) ∧ Below w.heap.size w w' := by
  cases h0 : (s.st == 3) with
  | true =>
    cases h1 : (s.ow == a) with
    | true =>
      go_enter Tryd.func17, Tryd.ntmps17
      go_wp2_with fail
      have hB : Below w.heap.size w (((w.alloc (.cells #[Value.int .i64 s.st, Value.int .i64 s.ow, Value.int .i64 s.sr, Value.bool s.br, Value.bool s.ma, Value.int .i64 s.us, Value.int .i64 s.ge, Value.int .i64 s.ep, Value.int .i64 s.ve] 23)).alloc (.cells #[Value.int .i64 0, Value.int .i64 0, Value.int .i64 0, Value.bool false, Value.bool false, Value.int .i64 0, Value.int .i64 0, Value.int .i64 0, Value.int .i64 0] 23)).alloc (.cells #[Value.int .i64 2, Value.int .i64 s.ow, Value.int .i64 s.sr, Value.bool s.br, Value.bool s.ma, Value.int .i64 s.us, Value.int .i64 s.ge, Value.int .i64 s.ep, Value.int .i64 s.ve] 23)) := (((Below.refl _ _).alloc (Nat.le_refl _) _).alloc (by simp) _).alloc (by simp; omega) _
      have r0 := ((RowAt.new w 23 #[Value.int .i64 s.st, Value.int .i64 s.ow, Value.int .i64 s.sr, Value.bool s.br, Value.bool s.ma, Value.int .i64 s.us, Value.int .i64 s.ge, Value.int .i64 s.ep, Value.int .i64 s.ve]).alloc (.cells #[Value.int .i64 0, Value.int .i64 0, Value.int .i64 0, Value.bool false, Value.bool false, Value.int .i64 0, Value.int .i64 0, Value.int .i64 0, Value.int .i64 0] 23)).alloc (.cells #[Value.int .i64 2, Value.int .i64 s.ow, Value.int .i64 s.sr, Value.bool s.br, Value.bool s.ma, Value.int .i64 s.us, Value.int .i64 s.ge, Value.int .i64 s.ep, Value.int .i64 s.ve] 23)
      have r1 := (new2 w (.cells #[Value.int .i64 s.st, Value.int .i64 s.ow, Value.int .i64 s.sr, Value.bool s.br, Value.bool s.ma, Value.int .i64 s.us, Value.int .i64 s.ge, Value.int .i64 s.ep, Value.int .i64 s.ve] 23) 23 #[Value.int .i64 0, Value.int .i64 0, Value.int .i64 0, Value.bool false, Value.bool false, Value.int .i64 0, Value.int .i64 0, Value.int .i64 0, Value.int .i64 0]).alloc (.cells #[Value.int .i64 2, Value.int .i64 s.ow, Value.int .i64 s.sr, Value.bool s.br, Value.bool s.ma, Value.int .i64 s.us, Value.int .i64 s.ge, Value.int .i64 s.ep, Value.int .i64 s.ve] 23)
      have r2 := new3 w (.cells #[Value.int .i64 s.st, Value.int .i64 s.ow, Value.int .i64 s.sr, Value.bool s.br, Value.bool s.ma, Value.int .i64 s.us, Value.int .i64 s.ge, Value.int .i64 s.ep, Value.int .i64 s.ve] 23) (.cells #[Value.int .i64 0, Value.int .i64 0, Value.int .i64 0, Value.bool false, Value.bool false, Value.int .i64 0, Value.int .i64 0, Value.int .i64 0, Value.int .i64 0] 23) 23 #[Value.int .i64 2, Value.int .i64 s.ow, Value.int .i64 s.sr, Value.bool s.br, Value.bool s.ma, Value.int .i64 s.us, Value.int .i64 s.ge, Value.int .i64 s.ep, Value.int .i64 s.ve]
      obtain ⟨W, hW⟩ : ∃ W, W = ((w.alloc (.cells #[Value.int .i64 s.st, Value.int .i64 s.ow, Value.int .i64 s.sr, Value.bool s.br, Value.bool s.ma, Value.int .i64 s.us, Value.int .i64 s.ge, Value.int .i64 s.ep, Value.int .i64 s.ve] 23)).alloc (.cells #[Value.int .i64 0, Value.int .i64 0, Value.int .i64 0, Value.bool false, Value.bool false, Value.int .i64 0, Value.int .i64 0, Value.int .i64 0, Value.int .i64 0] 23)).alloc (.cells #[Value.int .i64 2, Value.int .i64 s.ow, Value.int .i64 s.sr, Value.bool s.br, Value.bool s.ma, Value.int .i64 s.us, Value.int .i64 s.ge, Value.int .i64 s.ep, Value.int .i64 s.ve] 23) := ⟨_, rfl⟩
      rw [← hW] at hB r0 r1 r2 ⊢
      clear hW
      obtain ⟨B1, e1⟩ : ∃ B1, B1 = w.heap.size := ⟨_, rfl⟩
      have hle : w.heap.size ≤ B1 := by omega
      rw [← e1] at r0 r1 r2 ⊢
      clear e1
      have hne : B1 ≠ B1 + 1 := by omega
      have hne2 : B1 + 2 ≠ B1 + 1 := by omega
      have q0 := r0.drew
      have p0 := r1.drew
      have u0 := r2.drew
      have hB0 := hB.drew
      clear hB r0 r1 r2
      have c00 : W.drew.cell? ⟨B1, 0, none⟩ = some (Value.int .i64 s.st) := q0.cell 0 rfl
      have c01 : W.drew.cell? ⟨B1, 1, none⟩ = some (Value.int .i64 s.ow) := q0.cell 1 rfl
      have c02 : W.drew.cell? ⟨B1, 2, none⟩ = some (Value.int .i64 s.sr) := q0.cell 2 rfl
      have c03 : W.drew.cell? ⟨B1, 3, none⟩ = some (Value.bool s.br) := q0.cell 3 rfl
      have c04 : W.drew.cell? ⟨B1, 4, none⟩ = some (Value.bool s.ma) := q0.cell 4 rfl
      have c05 : W.drew.cell? ⟨B1, 5, none⟩ = some (Value.int .i64 s.us) := q0.cell 5 rfl
      have c06 : W.drew.cell? ⟨B1, 6, none⟩ = some (Value.int .i64 s.ge) := q0.cell 6 rfl
      have c07 : W.drew.cell? ⟨B1, 7, none⟩ = some (Value.int .i64 s.ep) := q0.cell 7 rfl
      have c08 : W.drew.cell? ⟨B1, 8, none⟩ = some (Value.int .i64 s.ve) := q0.cell 8 rfl
      have y00 : W.drew.cell? ⟨B1 + 2, 0, none⟩ = some (Value.int .i64 2) := u0.cell 0 rfl
      have y01 : W.drew.cell? ⟨B1 + 2, 1, none⟩ = some (Value.int .i64 s.ow) := u0.cell 1 rfl
      have y02 : W.drew.cell? ⟨B1 + 2, 2, none⟩ = some (Value.int .i64 s.sr) := u0.cell 2 rfl
      have y03 : W.drew.cell? ⟨B1 + 2, 3, none⟩ = some (Value.bool s.br) := u0.cell 3 rfl
      have y04 : W.drew.cell? ⟨B1 + 2, 4, none⟩ = some (Value.bool s.ma) := u0.cell 4 rfl
      have y05 : W.drew.cell? ⟨B1 + 2, 5, none⟩ = some (Value.int .i64 s.us) := u0.cell 5 rfl
      have y06 : W.drew.cell? ⟨B1 + 2, 6, none⟩ = some (Value.int .i64 s.ge) := u0.cell 6 rfl
      have y07 : W.drew.cell? ⟨B1 + 2, 7, none⟩ = some (Value.int .i64 s.ep) := u0.cell 7 rfl
      have y08 : W.drew.cell? ⟨B1 + 2, 8, none⟩ = some (Value.int .i64 s.ve) := u0.cell 8 rfl
      have d00 : W.drew.cell? ⟨B1 + 1, 0, none⟩ = some (Value.int .i64 0) := p0.cell 0 rfl
      have d01 : W.drew.cell? ⟨B1 + 1, 1, none⟩ = some (Value.int .i64 0) := p0.cell 1 rfl
      have d02 : W.drew.cell? ⟨B1 + 1, 2, none⟩ = some (Value.int .i64 0) := p0.cell 2 rfl
      have d03 : W.drew.cell? ⟨B1 + 1, 3, none⟩ = some (Value.bool false) := p0.cell 3 rfl
      have d04 : W.drew.cell? ⟨B1 + 1, 4, none⟩ = some (Value.bool false) := p0.cell 4 rfl
      have d05 : W.drew.cell? ⟨B1 + 1, 5, none⟩ = some (Value.int .i64 0) := p0.cell 5 rfl
      have d06 : W.drew.cell? ⟨B1 + 1, 6, none⟩ = some (Value.int .i64 0) := p0.cell 6 rfl
      have d07 : W.drew.cell? ⟨B1 + 1, 7, none⟩ = some (Value.int .i64 0) := p0.cell 7 rfl
      have d08 : W.drew.cell? ⟨B1 + 1, 8, none⟩ = some (Value.int .i64 0) := p0.cell 8 rfl
      have g00 : W.drew.frozen? ⟨B1 + 1, 0, none⟩ = false := p0.frozen 0
      have g01 : W.drew.frozen? ⟨B1 + 1, 1, none⟩ = false := p0.frozen 1
      have g02 : W.drew.frozen? ⟨B1 + 1, 2, none⟩ = false := p0.frozen 2
      have g03 : W.drew.frozen? ⟨B1 + 1, 3, none⟩ = false := p0.frozen 3
      have g04 : W.drew.frozen? ⟨B1 + 1, 4, none⟩ = false := p0.frozen 4
      have g05 : W.drew.frozen? ⟨B1 + 1, 5, none⟩ = false := p0.frozen 5
      have g06 : W.drew.frozen? ⟨B1 + 1, 6, none⟩ = false := p0.frozen 6
      have g07 : W.drew.frozen? ⟨B1 + 1, 7, none⟩ = false := p0.frozen 7
      have g08 : W.drew.frozen? ⟨B1 + 1, 8, none⟩ = false := p0.frozen 8
      refine wp_region_held_drew (S := (fun w' => w'.cell? ⟨B1, 0, none⟩ = some (Value.int .i64 s.st) ∧ w'.cell? ⟨B1, 1, none⟩ = some (Value.int .i64 s.ow) ∧ w'.cell? ⟨B1, 2, none⟩ = some (Value.int .i64 s.sr) ∧ w'.cell? ⟨B1, 3, none⟩ = some (Value.bool s.br) ∧ w'.cell? ⟨B1, 4, none⟩ = some (Value.bool s.ma) ∧ w'.cell? ⟨B1, 5, none⟩ = some (Value.int .i64 s.us) ∧ w'.cell? ⟨B1, 6, none⟩ = some (Value.int .i64 s.ge) ∧ w'.cell? ⟨B1, 7, none⟩ = some (Value.int .i64 s.ep) ∧ w'.cell? ⟨B1, 8, none⟩ = some (Value.int .i64 s.ve) ∧ w'.cell? ⟨B1 + 2, 0, none⟩ = some (Value.int .i64 2) ∧ w'.cell? ⟨B1 + 2, 1, none⟩ = some (Value.int .i64 s.ow) ∧ w'.cell? ⟨B1 + 2, 2, none⟩ = some (Value.int .i64 s.sr) ∧ w'.cell? ⟨B1 + 2, 3, none⟩ = some (Value.bool s.br) ∧ w'.cell? ⟨B1 + 2, 4, none⟩ = some (Value.bool s.ma) ∧ w'.cell? ⟨B1 + 2, 5, none⟩ = some (Value.int .i64 s.us) ∧ w'.cell? ⟨B1 + 2, 6, none⟩ = some (Value.int .i64 s.ge) ∧ w'.cell? ⟨B1 + 2, 7, none⟩ = some (Value.int .i64 s.ep) ∧ w'.cell? ⟨B1 + 2, 8, none⟩ = some (Value.int .i64 s.ve))) (by kernel_rfl) ⟨c00, c01, c02, c03, c04, c05, c06, c07, c08, y00, y01, y02, y03, y04, y05, y06, y07, y08⟩ (fun hS => ?_)
      generalize W.drew = WD at *
      refine wpAnyH_take (i := 0) (oi := { dst := some 67, op := Op.load 23 (Operand.tmp 10), type := 23, pos := "ref.go:60", after := #[], guard := none }) (v := ?v0_60) rfl (by kernel_rfl) (by kernel_rfl) (by kernel_rfl) (fun _ _ _ h => h) (Or.inl ⟨by rfl, ?hy0_60⟩) hS ?rest0_60
      case hy0_60 =>
        intro w hSw
        (try dsimp only at hSw)
        go_simp
        try with_reducible rfl
      try simp only [Act.put, List.setIfInBounds_toArray, List.set_cons_zero, List.set_cons_succ]
      refine wpAnyH_take (i := 1) (oi := { dst := some 68, op := Op.fieldAddr 23 (Operand.tmp 4) 0, type := 0, pos := "ref.go:60", after := #[], guard := none }) (v := ?v1_61) rfl (by kernel_rfl) (by kernel_rfl) (by kernel_rfl) (fun _ _ _ h => h) (Or.inl ⟨by rfl, ?hy1_61⟩) hS ?rest1_61
      case hy1_61 =>
        intro w hSw
        (try dsimp only at hSw)
        go_simp
        try with_reducible rfl
      try simp only [Act.put, List.setIfInBounds_toArray, List.set_cons_zero, List.set_cons_succ]
      refine wpAnyH_take (i := 2) (oi := { dst := some 69, op := Op.load 3 (Operand.tmp 68), type := 3, pos := "ref.go:60", after := #[{ on := 1, ground := Ground.data }], guard := none }) (v := ?v2_62) rfl (by kernel_rfl) (by kernel_rfl) (by kernel_rfl) (fun _ _ _ h => h) (Or.inl ⟨by rfl, ?hy2_62⟩) hS ?rest2_62
      case hy2_62 =>
        intro w hSw
        (try dsimp only at hSw)
        go_simp
        try with_reducible rfl
      try simp only [Act.put, List.setIfInBounds_toArray, List.set_cons_zero, List.set_cons_succ]
      refine wpAnyH_take (i := 3) (oi := { dst := some 70, op := Op.binOp BinOp.eql 3 (Operand.tmp 69) (Operand.const (Value.int IntKind.i64 3)) 3, type := 4, pos := "ref.go:60", after := #[{ on := 2, ground := Ground.data }], guard := none }) (v := ?v3_63) rfl (by kernel_rfl) (by kernel_rfl) (by kernel_rfl) (fun _ _ _ h => h) (Or.inl ⟨by rfl, ?hy3_63⟩) hS ?rest3_63
      case hy3_63 =>
        intro w hSw
        (try dsimp only at hSw)
        go_simp
        try with_reducible rfl
      try simp only [Act.put, List.setIfInBounds_toArray, List.set_cons_zero, List.set_cons_succ]
      refine wpAnyH_take (i := 4) (oi := { dst := some 71, op := Op.move (Operand.tmp 70), type := 4, pos := "ref.go:60", after := #[{ on := 3, ground := Ground.data }], guard := none }) (v := ?v4_64) rfl (by kernel_rfl) (by kernel_rfl) (by kernel_rfl) (fun _ _ _ h => h) (Or.inl ⟨by rfl, ?hy4_64⟩) hS ?rest4_64
      case hy4_64 =>
        intro w hSw
        (try dsimp only at hSw)
        go_simp
        try with_reducible rfl
      try simp only [Act.put, List.setIfInBounds_toArray, List.set_cons_zero, List.set_cons_succ]
      refine wpAnyH_take (i := 5) (oi := { dst := some 72, op := Op.move (Operand.tmp 11), type := 4, pos := "ref.go:60", after := #[{ on := 4, ground := Ground.guard }], guard := some (4, true) }) (v := ?v5_65) rfl (by kernel_rfl) (by kernel_rfl) (by kernel_rfl) (fun _ _ _ h => h) (Or.inl ⟨by rfl, ?hy5_65⟩) hS ?rest5_65
      case hy5_65 =>
        intro w hSw
        (try dsimp only at hSw)
        go_simp
        try with_reducible rfl
      try simp only [Act.put, List.setIfInBounds_toArray, List.set_cons_zero, List.set_cons_succ]
      refine wpAnyH_take (i := 6) (oi := { dst := some 73, op := Op.pick (Operand.tmp 71) (Operand.tmp 72) (Operand.const (Value.bool false)), type := 4, pos := "ref.go:60", after := #[{ on := 4, ground := Ground.data }, { on := 5, ground := Ground.data }], guard := none }) (v := ?v6_66) rfl (by kernel_rfl) (by kernel_rfl) (by kernel_rfl) (fun _ _ _ h => h) (Or.inl ⟨by rfl, ?hy6_66⟩) hS ?rest6_66
      case hy6_66 =>
        intro w hSw
        (try dsimp only at hSw)
        go_simp
        try with_reducible rfl
      try simp only [Act.put, List.setIfInBounds_toArray, List.set_cons_zero, List.set_cons_succ]
      refine wpAnyH_take (i := 7) (oi := { dst := some 74, op := Op.move (Operand.tmp 73), type := 4, pos := "ref.go:60", after := #[{ on := 6, ground := Ground.data }, { on := 4, ground := Ground.chain }], guard := none }) (v := ?v7_67) rfl (by kernel_rfl) (by kernel_rfl) (by kernel_rfl) (fun _ _ _ h => h) (Or.inl ⟨by rfl, ?hy7_67⟩) hS ?rest7_67
      case hy7_67 =>
        intro w hSw
        (try dsimp only at hSw)
        go_simp
        try with_reducible rfl
      try simp only [Act.put, List.setIfInBounds_toArray, List.set_cons_zero, List.set_cons_succ]
      refine wpAnyH_take (i := 8) (oi := { dst := some 75, op := Op.fieldAddr 23 (Operand.tmp 4) 2, type := 0, pos := "ref.go:60", after := #[{ on := 7, ground := Ground.guard }, { on := 12, ground := Ground.gcOnly Departure.lateStores }], guard := some (7, true) }) (v := ?v8_68) rfl (by kernel_rfl) (by kernel_rfl) (by kernel_rfl) (fun _ _ _ h => h) (Or.inl ⟨by rfl, ?hy8_68⟩) hS ?rest8_68
      case hy8_68 =>
        intro w hSw
        (try dsimp only at hSw)
        go_simp
        try with_reducible rfl
      try simp only [Act.put, List.setIfInBounds_toArray, List.set_cons_zero, List.set_cons_succ]
      refine wpAnyH_take (i := 9) (oi := { dst := some 76, op := Op.load 3 (Operand.tmp 75), type := 3, pos := "ref.go:60", after := #[{ on := 8, ground := Ground.data }, { on := 7, ground := Ground.guard }, { on := 12, ground := Ground.gcOnly Departure.lateStores }], guard := some (7, true) }) (v := ?v9_69) rfl (by kernel_rfl) (by kernel_rfl) (by kernel_rfl) (fun _ _ _ h => h) (Or.inl ⟨by rfl, ?hy9_69⟩) hS ?rest9_69
      case hy9_69 =>
        intro w hSw
        (try dsimp only at hSw)
        go_simp
        try with_reducible rfl
      try simp only [Act.put, List.setIfInBounds_toArray, List.set_cons_zero, List.set_cons_succ]
      refine wpAnyH_take (i := 10) (oi := { dst := some 77, op := Op.binOp BinOp.eql 3 (Operand.tmp 76) (Operand.const (Value.int IntKind.i64 0)) 3, type := 4, pos := "ref.go:60", after := #[{ on := 9, ground := Ground.data }, { on := 7, ground := Ground.guard }, { on := 12, ground := Ground.gcOnly Departure.lateStores }], guard := some (7, true) }) (v := ?v10_70) rfl (by kernel_rfl) (by kernel_rfl) (by kernel_rfl) (fun _ _ _ h => h) (Or.inl ⟨by rfl, ?hy10_70⟩) hS ?rest10_70
      case hy10_70 =>
        intro w hSw
        (try dsimp only at hSw)
        go_simp
        try with_reducible rfl
      try simp only [Act.put, List.setIfInBounds_toArray, List.set_cons_zero, List.set_cons_succ]
      refine wpAnyH_take (i := 11) (oi := { dst := some 78, op := Op.pick (Operand.tmp 74) (Operand.tmp 77) (Operand.const (Value.bool false)), type := 4, pos := "ref.go:60", after := #[{ on := 7, ground := Ground.data }, { on := 10, ground := Ground.data }, { on := 12, ground := Ground.gcOnly Departure.lateStores }], guard := none }) (v := ?v11_71) rfl (by kernel_rfl) (by kernel_rfl) (by kernel_rfl) (fun _ _ _ h => h) (Or.inl ⟨by rfl, ?hy11_71⟩) hS ?rest11_71
      case hy11_71 =>
        intro w hSw
        (try dsimp only at hSw)
        go_simp
        try with_reducible rfl
      try simp only [Act.put, List.setIfInBounds_toArray, List.set_cons_zero, List.set_cons_succ]
      refine wpAnyH_ready (rs := [12]) (by kernel_rfl) (by simp) ?_
      refine AllReadyH.cons (o := { dst := none, op := Op.store 23 (Operand.tmp 8) (Operand.tmp 67), type := 0, pos := "ref.go:60", after := #[{ on := 0, ground := Ground.data }, { on := 7, ground := Ground.chain }, { on := 0, ground := Ground.phase }, { on := 1, ground := Ground.textOnly Departure.lateStores }, { on := 2, ground := Ground.textOnly Departure.lateStores }, { on := 3, ground := Ground.textOnly Departure.lateStores }, { on := 4, ground := Ground.textOnly Departure.lateStores }, { on := 5, ground := Ground.textOnly Departure.lateStores }, { on := 6, ground := Ground.textOnly Departure.lateStores }, { on := 7, ground := Ground.textOnly Departure.lateStores }, { on := 8, ground := Ground.textOnly Departure.lateStores }, { on := 9, ground := Ground.textOnly Departure.lateStores }, { on := 10, ground := Ground.textOnly Departure.lateStores }, { on := 11, ground := Ground.textOnly Departure.lateStores }], guard := none }) rfl (fun K hK => ?_) AllReadyH.nil
      go_simp
      refine hK.out _ _ (by (try dsimp only); go_keep) (fun hS => ?_)
      clear hK K
      try simp only [Act.put, List.setIfInBounds_toArray, List.set_cons_zero, List.set_cons_succ]
      refine wpAnyH_take (i := 13) (oi := { dst := some 9, op := Op.assign (Operand.tmp 78), type := 4, pos := "ref.go:60", after := #[{ on := 11, ground := Ground.data }, { on := 12, ground := Ground.chain }, { on := 0, ground := Ground.phase }, { on := 1, ground := Ground.phase }, { on := 2, ground := Ground.phase }, { on := 3, ground := Ground.phase }, { on := 4, ground := Ground.phase }, { on := 5, ground := Ground.phase }, { on := 6, ground := Ground.phase }, { on := 7, ground := Ground.phase }, { on := 8, ground := Ground.phase }, { on := 9, ground := Ground.phase }, { on := 10, ground := Ground.phase }, { on := 11, ground := Ground.phase }, { on := 12, ground := Ground.phase }], guard := none }) (v := ?v13_72) rfl (by kernel_rfl) (by kernel_rfl) (by kernel_rfl) (fun _ _ _ h => h) (Or.inl ⟨by rfl, ?hy13_72⟩) hS ?rest13_72
      case hy13_72 =>
        intro w hSw
        (try dsimp only at hSw)
        go_simp
        try with_reducible rfl
      try simp only [Act.put, List.setIfInBounds_toArray, List.set_cons_zero, List.set_cons_succ]
      refine wpAnyH_done (by kernel_rfl) ?_ _
      have rz := row9 p0 (Value.int .i64 2) (Value.int .i64 s.ow) (Value.int .i64 s.sr) (Value.bool s.br) (Value.bool s.ma) (Value.int .i64 s.us) (Value.int .i64 s.ge) (Value.int .i64 s.ep) (Value.int .i64 s.ve)
      have hz := below9 (n := w.heap.size) (A := w) (b := B1 + 1) hB0 (by omega) (Value.int .i64 2) (Value.int .i64 s.ow) (Value.int .i64 s.sr) (Value.bool s.br) (Value.bool s.ma) (Value.int .i64 s.us) (Value.int .i64 s.ge) (Value.int .i64 s.ep) (Value.int .i64 s.ve)
      go_wp2
      refine bodyPost_ret (res_pair (p := 8) (u := 9) rfl _ _ _ _ rfl rz rfl) rfl ⟨ret_pair (by simp [rB, *]), hz⟩
    | false =>
      go_enter Tryd.func17, Tryd.ntmps17
      go_wp2_with fail
      have hB : Below w.heap.size w (((w.alloc (.cells #[Value.int .i64 s.st, Value.int .i64 s.ow, Value.int .i64 s.sr, Value.bool s.br, Value.bool s.ma, Value.int .i64 s.us, Value.int .i64 s.ge, Value.int .i64 s.ep, Value.int .i64 s.ve] 23)).alloc (.cells #[Value.int .i64 0, Value.int .i64 0, Value.int .i64 0, Value.bool false, Value.bool false, Value.int .i64 0, Value.int .i64 0, Value.int .i64 0, Value.int .i64 0] 23)).alloc (.cells #[Value.int .i64 2, Value.int .i64 s.ow, Value.int .i64 s.sr, Value.bool s.br, Value.bool s.ma, Value.int .i64 s.us, Value.int .i64 s.ge, Value.int .i64 s.ep, Value.int .i64 s.ve] 23)) := (((Below.refl _ _).alloc (Nat.le_refl _) _).alloc (by simp) _).alloc (by simp; omega) _
      have r0 := ((RowAt.new w 23 #[Value.int .i64 s.st, Value.int .i64 s.ow, Value.int .i64 s.sr, Value.bool s.br, Value.bool s.ma, Value.int .i64 s.us, Value.int .i64 s.ge, Value.int .i64 s.ep, Value.int .i64 s.ve]).alloc (.cells #[Value.int .i64 0, Value.int .i64 0, Value.int .i64 0, Value.bool false, Value.bool false, Value.int .i64 0, Value.int .i64 0, Value.int .i64 0, Value.int .i64 0] 23)).alloc (.cells #[Value.int .i64 2, Value.int .i64 s.ow, Value.int .i64 s.sr, Value.bool s.br, Value.bool s.ma, Value.int .i64 s.us, Value.int .i64 s.ge, Value.int .i64 s.ep, Value.int .i64 s.ve] 23)
      have r1 := (new2 w (.cells #[Value.int .i64 s.st, Value.int .i64 s.ow, Value.int .i64 s.sr, Value.bool s.br, Value.bool s.ma, Value.int .i64 s.us, Value.int .i64 s.ge, Value.int .i64 s.ep, Value.int .i64 s.ve] 23) 23 #[Value.int .i64 0, Value.int .i64 0, Value.int .i64 0, Value.bool false, Value.bool false, Value.int .i64 0, Value.int .i64 0, Value.int .i64 0, Value.int .i64 0]).alloc (.cells #[Value.int .i64 2, Value.int .i64 s.ow, Value.int .i64 s.sr, Value.bool s.br, Value.bool s.ma, Value.int .i64 s.us, Value.int .i64 s.ge, Value.int .i64 s.ep, Value.int .i64 s.ve] 23)
      have r2 := new3 w (.cells #[Value.int .i64 s.st, Value.int .i64 s.ow, Value.int .i64 s.sr, Value.bool s.br, Value.bool s.ma, Value.int .i64 s.us, Value.int .i64 s.ge, Value.int .i64 s.ep, Value.int .i64 s.ve] 23) (.cells #[Value.int .i64 0, Value.int .i64 0, Value.int .i64 0, Value.bool false, Value.bool false, Value.int .i64 0, Value.int .i64 0, Value.int .i64 0, Value.int .i64 0] 23) 23 #[Value.int .i64 2, Value.int .i64 s.ow, Value.int .i64 s.sr, Value.bool s.br, Value.bool s.ma, Value.int .i64 s.us, Value.int .i64 s.ge, Value.int .i64 s.ep, Value.int .i64 s.ve]
      obtain ⟨W, hW⟩ : ∃ W, W = ((w.alloc (.cells #[Value.int .i64 s.st, Value.int .i64 s.ow, Value.int .i64 s.sr, Value.bool s.br, Value.bool s.ma, Value.int .i64 s.us, Value.int .i64 s.ge, Value.int .i64 s.ep, Value.int .i64 s.ve] 23)).alloc (.cells #[Value.int .i64 0, Value.int .i64 0, Value.int .i64 0, Value.bool false, Value.bool false, Value.int .i64 0, Value.int .i64 0, Value.int .i64 0, Value.int .i64 0] 23)).alloc (.cells #[Value.int .i64 2, Value.int .i64 s.ow, Value.int .i64 s.sr, Value.bool s.br, Value.bool s.ma, Value.int .i64 s.us, Value.int .i64 s.ge, Value.int .i64 s.ep, Value.int .i64 s.ve] 23) := ⟨_, rfl⟩
      rw [← hW] at hB r0 r1 r2 ⊢
      clear hW
      obtain ⟨B1, e1⟩ : ∃ B1, B1 = w.heap.size := ⟨_, rfl⟩
      have hle : w.heap.size ≤ B1 := by omega
      rw [← e1] at r0 r1 r2 ⊢
      clear e1
      have hne : B1 ≠ B1 + 1 := by omega
      have hne2 : B1 + 2 ≠ B1 + 1 := by omega
      have q0 := r0.drew
      have p0 := r1.drew
      have u0 := r2.drew
      have hB0 := hB.drew
      clear hB r0 r1 r2
      have c00 : W.drew.cell? ⟨B1, 0, none⟩ = some (Value.int .i64 s.st) := q0.cell 0 rfl
      have c01 : W.drew.cell? ⟨B1, 1, none⟩ = some (Value.int .i64 s.ow) := q0.cell 1 rfl
      have c02 : W.drew.cell? ⟨B1, 2, none⟩ = some (Value.int .i64 s.sr) := q0.cell 2 rfl
      have c03 : W.drew.cell? ⟨B1, 3, none⟩ = some (Value.bool s.br) := q0.cell 3 rfl
      have c04 : W.drew.cell? ⟨B1, 4, none⟩ = some (Value.bool s.ma) := q0.cell 4 rfl
      have c05 : W.drew.cell? ⟨B1, 5, none⟩ = some (Value.int .i64 s.us) := q0.cell 5 rfl
      have c06 : W.drew.cell? ⟨B1, 6, none⟩ = some (Value.int .i64 s.ge) := q0.cell 6 rfl
      have c07 : W.drew.cell? ⟨B1, 7, none⟩ = some (Value.int .i64 s.ep) := q0.cell 7 rfl
      have c08 : W.drew.cell? ⟨B1, 8, none⟩ = some (Value.int .i64 s.ve) := q0.cell 8 rfl
      have y00 : W.drew.cell? ⟨B1 + 2, 0, none⟩ = some (Value.int .i64 2) := u0.cell 0 rfl
      have y01 : W.drew.cell? ⟨B1 + 2, 1, none⟩ = some (Value.int .i64 s.ow) := u0.cell 1 rfl
      have y02 : W.drew.cell? ⟨B1 + 2, 2, none⟩ = some (Value.int .i64 s.sr) := u0.cell 2 rfl
      have y03 : W.drew.cell? ⟨B1 + 2, 3, none⟩ = some (Value.bool s.br) := u0.cell 3 rfl
      have y04 : W.drew.cell? ⟨B1 + 2, 4, none⟩ = some (Value.bool s.ma) := u0.cell 4 rfl
      have y05 : W.drew.cell? ⟨B1 + 2, 5, none⟩ = some (Value.int .i64 s.us) := u0.cell 5 rfl
      have y06 : W.drew.cell? ⟨B1 + 2, 6, none⟩ = some (Value.int .i64 s.ge) := u0.cell 6 rfl
      have y07 : W.drew.cell? ⟨B1 + 2, 7, none⟩ = some (Value.int .i64 s.ep) := u0.cell 7 rfl
      have y08 : W.drew.cell? ⟨B1 + 2, 8, none⟩ = some (Value.int .i64 s.ve) := u0.cell 8 rfl
      have d00 : W.drew.cell? ⟨B1 + 1, 0, none⟩ = some (Value.int .i64 0) := p0.cell 0 rfl
      have d01 : W.drew.cell? ⟨B1 + 1, 1, none⟩ = some (Value.int .i64 0) := p0.cell 1 rfl
      have d02 : W.drew.cell? ⟨B1 + 1, 2, none⟩ = some (Value.int .i64 0) := p0.cell 2 rfl
      have d03 : W.drew.cell? ⟨B1 + 1, 3, none⟩ = some (Value.bool false) := p0.cell 3 rfl
      have d04 : W.drew.cell? ⟨B1 + 1, 4, none⟩ = some (Value.bool false) := p0.cell 4 rfl
      have d05 : W.drew.cell? ⟨B1 + 1, 5, none⟩ = some (Value.int .i64 0) := p0.cell 5 rfl
      have d06 : W.drew.cell? ⟨B1 + 1, 6, none⟩ = some (Value.int .i64 0) := p0.cell 6 rfl
      have d07 : W.drew.cell? ⟨B1 + 1, 7, none⟩ = some (Value.int .i64 0) := p0.cell 7 rfl
      have d08 : W.drew.cell? ⟨B1 + 1, 8, none⟩ = some (Value.int .i64 0) := p0.cell 8 rfl
      have g00 : W.drew.frozen? ⟨B1 + 1, 0, none⟩ = false := p0.frozen 0
      have g01 : W.drew.frozen? ⟨B1 + 1, 1, none⟩ = false := p0.frozen 1
      have g02 : W.drew.frozen? ⟨B1 + 1, 2, none⟩ = false := p0.frozen 2
      have g03 : W.drew.frozen? ⟨B1 + 1, 3, none⟩ = false := p0.frozen 3
      have g04 : W.drew.frozen? ⟨B1 + 1, 4, none⟩ = false := p0.frozen 4
      have g05 : W.drew.frozen? ⟨B1 + 1, 5, none⟩ = false := p0.frozen 5
      have g06 : W.drew.frozen? ⟨B1 + 1, 6, none⟩ = false := p0.frozen 6
      have g07 : W.drew.frozen? ⟨B1 + 1, 7, none⟩ = false := p0.frozen 7
      have g08 : W.drew.frozen? ⟨B1 + 1, 8, none⟩ = false := p0.frozen 8
      refine wp_region_held_drew (S := (fun w' => w'.cell? ⟨B1, 0, none⟩ = some (Value.int .i64 s.st) ∧ w'.cell? ⟨B1, 1, none⟩ = some (Value.int .i64 s.ow) ∧ w'.cell? ⟨B1, 2, none⟩ = some (Value.int .i64 s.sr) ∧ w'.cell? ⟨B1, 3, none⟩ = some (Value.bool s.br) ∧ w'.cell? ⟨B1, 4, none⟩ = some (Value.bool s.ma) ∧ w'.cell? ⟨B1, 5, none⟩ = some (Value.int .i64 s.us) ∧ w'.cell? ⟨B1, 6, none⟩ = some (Value.int .i64 s.ge) ∧ w'.cell? ⟨B1, 7, none⟩ = some (Value.int .i64 s.ep) ∧ w'.cell? ⟨B1, 8, none⟩ = some (Value.int .i64 s.ve) ∧ w'.cell? ⟨B1 + 2, 0, none⟩ = some (Value.int .i64 2) ∧ w'.cell? ⟨B1 + 2, 1, none⟩ = some (Value.int .i64 s.ow) ∧ w'.cell? ⟨B1 + 2, 2, none⟩ = some (Value.int .i64 s.sr) ∧ w'.cell? ⟨B1 + 2, 3, none⟩ = some (Value.bool s.br) ∧ w'.cell? ⟨B1 + 2, 4, none⟩ = some (Value.bool s.ma) ∧ w'.cell? ⟨B1 + 2, 5, none⟩ = some (Value.int .i64 s.us) ∧ w'.cell? ⟨B1 + 2, 6, none⟩ = some (Value.int .i64 s.ge) ∧ w'.cell? ⟨B1 + 2, 7, none⟩ = some (Value.int .i64 s.ep) ∧ w'.cell? ⟨B1 + 2, 8, none⟩ = some (Value.int .i64 s.ve))) (by kernel_rfl) ⟨c00, c01, c02, c03, c04, c05, c06, c07, c08, y00, y01, y02, y03, y04, y05, y06, y07, y08⟩ (fun hS => ?_)
      generalize W.drew = WD at *
      refine wpAnyH_take (i := 0) (oi := { dst := some 67, op := Op.load 23 (Operand.tmp 10), type := 23, pos := "ref.go:60", after := #[], guard := none }) (v := ?v0_73) rfl (by kernel_rfl) (by kernel_rfl) (by kernel_rfl) (fun _ _ _ h => h) (Or.inl ⟨by rfl, ?hy0_73⟩) hS ?rest0_73
      case hy0_73 =>
        intro w hSw
        (try dsimp only at hSw)
        go_simp
        try with_reducible rfl
      try simp only [Act.put, List.setIfInBounds_toArray, List.set_cons_zero, List.set_cons_succ]
      refine wpAnyH_take (i := 1) (oi := { dst := some 68, op := Op.fieldAddr 23 (Operand.tmp 4) 0, type := 0, pos := "ref.go:60", after := #[], guard := none }) (v := ?v1_74) rfl (by kernel_rfl) (by kernel_rfl) (by kernel_rfl) (fun _ _ _ h => h) (Or.inl ⟨by rfl, ?hy1_74⟩) hS ?rest1_74
      case hy1_74 =>
        intro w hSw
        (try dsimp only at hSw)
        go_simp
        try with_reducible rfl
      try simp only [Act.put, List.setIfInBounds_toArray, List.set_cons_zero, List.set_cons_succ]
      refine wpAnyH_take (i := 2) (oi := { dst := some 69, op := Op.load 3 (Operand.tmp 68), type := 3, pos := "ref.go:60", after := #[{ on := 1, ground := Ground.data }], guard := none }) (v := ?v2_75) rfl (by kernel_rfl) (by kernel_rfl) (by kernel_rfl) (fun _ _ _ h => h) (Or.inl ⟨by rfl, ?hy2_75⟩) hS ?rest2_75
      case hy2_75 =>
        intro w hSw
        (try dsimp only at hSw)
        go_simp
        try with_reducible rfl
      try simp only [Act.put, List.setIfInBounds_toArray, List.set_cons_zero, List.set_cons_succ]
      refine wpAnyH_take (i := 3) (oi := { dst := some 70, op := Op.binOp BinOp.eql 3 (Operand.tmp 69) (Operand.const (Value.int IntKind.i64 3)) 3, type := 4, pos := "ref.go:60", after := #[{ on := 2, ground := Ground.data }], guard := none }) (v := ?v3_76) rfl (by kernel_rfl) (by kernel_rfl) (by kernel_rfl) (fun _ _ _ h => h) (Or.inl ⟨by rfl, ?hy3_76⟩) hS ?rest3_76
      case hy3_76 =>
        intro w hSw
        (try dsimp only at hSw)
        go_simp
        try with_reducible rfl
      try simp only [Act.put, List.setIfInBounds_toArray, List.set_cons_zero, List.set_cons_succ]
      refine wpAnyH_take (i := 4) (oi := { dst := some 71, op := Op.move (Operand.tmp 70), type := 4, pos := "ref.go:60", after := #[{ on := 3, ground := Ground.data }], guard := none }) (v := ?v4_77) rfl (by kernel_rfl) (by kernel_rfl) (by kernel_rfl) (fun _ _ _ h => h) (Or.inl ⟨by rfl, ?hy4_77⟩) hS ?rest4_77
      case hy4_77 =>
        intro w hSw
        (try dsimp only at hSw)
        go_simp
        try with_reducible rfl
      try simp only [Act.put, List.setIfInBounds_toArray, List.set_cons_zero, List.set_cons_succ]
      refine wpAnyH_take (i := 5) (oi := { dst := some 72, op := Op.move (Operand.tmp 11), type := 4, pos := "ref.go:60", after := #[{ on := 4, ground := Ground.guard }], guard := some (4, true) }) (v := ?v5_78) rfl (by kernel_rfl) (by kernel_rfl) (by kernel_rfl) (fun _ _ _ h => h) (Or.inl ⟨by rfl, ?hy5_78⟩) hS ?rest5_78
      case hy5_78 =>
        intro w hSw
        (try dsimp only at hSw)
        go_simp
        try with_reducible rfl
      try simp only [Act.put, List.setIfInBounds_toArray, List.set_cons_zero, List.set_cons_succ]
      refine wpAnyH_take (i := 6) (oi := { dst := some 73, op := Op.pick (Operand.tmp 71) (Operand.tmp 72) (Operand.const (Value.bool false)), type := 4, pos := "ref.go:60", after := #[{ on := 4, ground := Ground.data }, { on := 5, ground := Ground.data }], guard := none }) (v := ?v6_79) rfl (by kernel_rfl) (by kernel_rfl) (by kernel_rfl) (fun _ _ _ h => h) (Or.inl ⟨by rfl, ?hy6_79⟩) hS ?rest6_79
      case hy6_79 =>
        intro w hSw
        (try dsimp only at hSw)
        go_simp
        try with_reducible rfl
      try simp only [Act.put, List.setIfInBounds_toArray, List.set_cons_zero, List.set_cons_succ]
      refine wpAnyH_take (i := 7) (oi := { dst := some 74, op := Op.move (Operand.tmp 73), type := 4, pos := "ref.go:60", after := #[{ on := 6, ground := Ground.data }, { on := 4, ground := Ground.chain }], guard := none }) (v := ?v7_80) rfl (by kernel_rfl) (by kernel_rfl) (by kernel_rfl) (fun _ _ _ h => h) (Or.inl ⟨by rfl, ?hy7_80⟩) hS ?rest7_80
      case hy7_80 =>
        intro w hSw
        (try dsimp only at hSw)
        go_simp
        try with_reducible rfl
      try simp only [Act.put, List.setIfInBounds_toArray, List.set_cons_zero, List.set_cons_succ]
      refine wpAnyH_take (i := 8) (oi := { dst := some 75, op := Op.fieldAddr 23 (Operand.tmp 4) 2, type := 0, pos := "ref.go:60", after := #[{ on := 7, ground := Ground.guard }, { on := 12, ground := Ground.gcOnly Departure.lateStores }], guard := some (7, true) }) (v := undef) rfl (by kernel_rfl) (by kernel_rfl) (by kernel_rfl) (fun _ _ _ h => h) (Or.inr ⟨by rfl, rfl⟩) hS ?_
      try simp only [Act.put, List.setIfInBounds_toArray, List.set_cons_zero, List.set_cons_succ]
      refine wpAnyH_take (i := 9) (oi := { dst := some 76, op := Op.load 3 (Operand.tmp 75), type := 3, pos := "ref.go:60", after := #[{ on := 8, ground := Ground.data }, { on := 7, ground := Ground.guard }, { on := 12, ground := Ground.gcOnly Departure.lateStores }], guard := some (7, true) }) (v := undef) rfl (by kernel_rfl) (by kernel_rfl) (by kernel_rfl) (fun _ _ _ h => h) (Or.inr ⟨by rfl, rfl⟩) hS ?_
      try simp only [Act.put, List.setIfInBounds_toArray, List.set_cons_zero, List.set_cons_succ]
      refine wpAnyH_take (i := 10) (oi := { dst := some 77, op := Op.binOp BinOp.eql 3 (Operand.tmp 76) (Operand.const (Value.int IntKind.i64 0)) 3, type := 4, pos := "ref.go:60", after := #[{ on := 9, ground := Ground.data }, { on := 7, ground := Ground.guard }, { on := 12, ground := Ground.gcOnly Departure.lateStores }], guard := some (7, true) }) (v := undef) rfl (by kernel_rfl) (by kernel_rfl) (by kernel_rfl) (fun _ _ _ h => h) (Or.inr ⟨by rfl, rfl⟩) hS ?_
      try simp only [Act.put, List.setIfInBounds_toArray, List.set_cons_zero, List.set_cons_succ]
      refine wpAnyH_take (i := 11) (oi := { dst := some 78, op := Op.pick (Operand.tmp 74) (Operand.tmp 77) (Operand.const (Value.bool false)), type := 4, pos := "ref.go:60", after := #[{ on := 7, ground := Ground.data }, { on := 10, ground := Ground.data }, { on := 12, ground := Ground.gcOnly Departure.lateStores }], guard := none }) (v := ?v11_81) rfl (by kernel_rfl) (by kernel_rfl) (by kernel_rfl) (fun _ _ _ h => h) (Or.inl ⟨by rfl, ?hy11_81⟩) hS ?rest11_81
      case hy11_81 =>
        intro w hSw
        (try dsimp only at hSw)
        go_simp
        try with_reducible rfl
      try simp only [Act.put, List.setIfInBounds_toArray, List.set_cons_zero, List.set_cons_succ]
      refine wpAnyH_ready (rs := [12]) (by kernel_rfl) (by simp) ?_
      refine AllReadyH.cons (o := { dst := none, op := Op.store 23 (Operand.tmp 8) (Operand.tmp 67), type := 0, pos := "ref.go:60", after := #[{ on := 0, ground := Ground.data }, { on := 7, ground := Ground.chain }, { on := 0, ground := Ground.phase }, { on := 1, ground := Ground.textOnly Departure.lateStores }, { on := 2, ground := Ground.textOnly Departure.lateStores }, { on := 3, ground := Ground.textOnly Departure.lateStores }, { on := 4, ground := Ground.textOnly Departure.lateStores }, { on := 5, ground := Ground.textOnly Departure.lateStores }, { on := 6, ground := Ground.textOnly Departure.lateStores }, { on := 7, ground := Ground.textOnly Departure.lateStores }, { on := 8, ground := Ground.textOnly Departure.lateStores }, { on := 9, ground := Ground.textOnly Departure.lateStores }, { on := 10, ground := Ground.textOnly Departure.lateStores }, { on := 11, ground := Ground.textOnly Departure.lateStores }], guard := none }) rfl (fun K hK => ?_) AllReadyH.nil
      go_simp
      refine hK.out _ _ (by (try dsimp only); go_keep) (fun hS => ?_)
      clear hK K
      try simp only [Act.put, List.setIfInBounds_toArray, List.set_cons_zero, List.set_cons_succ]
      refine wpAnyH_take (i := 13) (oi := { dst := some 9, op := Op.assign (Operand.tmp 78), type := 4, pos := "ref.go:60", after := #[{ on := 11, ground := Ground.data }, { on := 12, ground := Ground.chain }, { on := 0, ground := Ground.phase }, { on := 1, ground := Ground.phase }, { on := 2, ground := Ground.phase }, { on := 3, ground := Ground.phase }, { on := 4, ground := Ground.phase }, { on := 5, ground := Ground.phase }, { on := 6, ground := Ground.phase }, { on := 7, ground := Ground.phase }, { on := 8, ground := Ground.phase }, { on := 9, ground := Ground.phase }, { on := 10, ground := Ground.phase }, { on := 11, ground := Ground.phase }, { on := 12, ground := Ground.phase }], guard := none }) (v := ?v13_82) rfl (by kernel_rfl) (by kernel_rfl) (by kernel_rfl) (fun _ _ _ h => h) (Or.inl ⟨by rfl, ?hy13_82⟩) hS ?rest13_82
      case hy13_82 =>
        intro w hSw
        (try dsimp only at hSw)
        go_simp
        try with_reducible rfl
      try simp only [Act.put, List.setIfInBounds_toArray, List.set_cons_zero, List.set_cons_succ]
      refine wpAnyH_done (by kernel_rfl) ?_ _
      have rz := row9 p0 (Value.int .i64 2) (Value.int .i64 s.ow) (Value.int .i64 s.sr) (Value.bool s.br) (Value.bool s.ma) (Value.int .i64 s.us) (Value.int .i64 s.ge) (Value.int .i64 s.ep) (Value.int .i64 s.ve)
      have hz := below9 (n := w.heap.size) (A := w) (b := B1 + 1) hB0 (by omega) (Value.int .i64 2) (Value.int .i64 s.ow) (Value.int .i64 s.sr) (Value.bool s.br) (Value.bool s.ma) (Value.int .i64 s.us) (Value.int .i64 s.ge) (Value.int .i64 s.ep) (Value.int .i64 s.ve)
      go_wp2
      refine bodyPost_ret (res_pair (p := 8) (u := 9) rfl _ _ _ _ rfl rz rfl) rfl ⟨ret_pair (by simp [rB, *]), hz⟩
  | false =>
    cases h1 : (s.ow == a) with
    | true =>
      go_enter Tryd.func17, Tryd.ntmps17
      go_wp2_with fail
      have hB : Below w.heap.size w (((w.alloc (.cells #[Value.int .i64 s.st, Value.int .i64 s.ow, Value.int .i64 s.sr, Value.bool s.br, Value.bool s.ma, Value.int .i64 s.us, Value.int .i64 s.ge, Value.int .i64 s.ep, Value.int .i64 s.ve] 23)).alloc (.cells #[Value.int .i64 0, Value.int .i64 0, Value.int .i64 0, Value.bool false, Value.bool false, Value.int .i64 0, Value.int .i64 0, Value.int .i64 0, Value.int .i64 0] 23)).alloc (.cells #[Value.int .i64 2, Value.int .i64 s.ow, Value.int .i64 s.sr, Value.bool s.br, Value.bool s.ma, Value.int .i64 s.us, Value.int .i64 s.ge, Value.int .i64 s.ep, Value.int .i64 s.ve] 23)) := (((Below.refl _ _).alloc (Nat.le_refl _) _).alloc (by simp) _).alloc (by simp; omega) _
      have r0 := ((RowAt.new w 23 #[Value.int .i64 s.st, Value.int .i64 s.ow, Value.int .i64 s.sr, Value.bool s.br, Value.bool s.ma, Value.int .i64 s.us, Value.int .i64 s.ge, Value.int .i64 s.ep, Value.int .i64 s.ve]).alloc (.cells #[Value.int .i64 0, Value.int .i64 0, Value.int .i64 0, Value.bool false, Value.bool false, Value.int .i64 0, Value.int .i64 0, Value.int .i64 0, Value.int .i64 0] 23)).alloc (.cells #[Value.int .i64 2, Value.int .i64 s.ow, Value.int .i64 s.sr, Value.bool s.br, Value.bool s.ma, Value.int .i64 s.us, Value.int .i64 s.ge, Value.int .i64 s.ep, Value.int .i64 s.ve] 23)
      have r1 := (new2 w (.cells #[Value.int .i64 s.st, Value.int .i64 s.ow, Value.int .i64 s.sr, Value.bool s.br, Value.bool s.ma, Value.int .i64 s.us, Value.int .i64 s.ge, Value.int .i64 s.ep, Value.int .i64 s.ve] 23) 23 #[Value.int .i64 0, Value.int .i64 0, Value.int .i64 0, Value.bool false, Value.bool false, Value.int .i64 0, Value.int .i64 0, Value.int .i64 0, Value.int .i64 0]).alloc (.cells #[Value.int .i64 2, Value.int .i64 s.ow, Value.int .i64 s.sr, Value.bool s.br, Value.bool s.ma, Value.int .i64 s.us, Value.int .i64 s.ge, Value.int .i64 s.ep, Value.int .i64 s.ve] 23)
      have r2 := new3 w (.cells #[Value.int .i64 s.st, Value.int .i64 s.ow, Value.int .i64 s.sr, Value.bool s.br, Value.bool s.ma, Value.int .i64 s.us, Value.int .i64 s.ge, Value.int .i64 s.ep, Value.int .i64 s.ve] 23) (.cells #[Value.int .i64 0, Value.int .i64 0, Value.int .i64 0, Value.bool false, Value.bool false, Value.int .i64 0, Value.int .i64 0, Value.int .i64 0, Value.int .i64 0] 23) 23 #[Value.int .i64 2, Value.int .i64 s.ow, Value.int .i64 s.sr, Value.bool s.br, Value.bool s.ma, Value.int .i64 s.us, Value.int .i64 s.ge, Value.int .i64 s.ep, Value.int .i64 s.ve]
      obtain ⟨W, hW⟩ : ∃ W, W = ((w.alloc (.cells #[Value.int .i64 s.st, Value.int .i64 s.ow, Value.int .i64 s.sr, Value.bool s.br, Value.bool s.ma, Value.int .i64 s.us, Value.int .i64 s.ge, Value.int .i64 s.ep, Value.int .i64 s.ve] 23)).alloc (.cells #[Value.int .i64 0, Value.int .i64 0, Value.int .i64 0, Value.bool false, Value.bool false, Value.int .i64 0, Value.int .i64 0, Value.int .i64 0, Value.int .i64 0] 23)).alloc (.cells #[Value.int .i64 2, Value.int .i64 s.ow, Value.int .i64 s.sr, Value.bool s.br, Value.bool s.ma, Value.int .i64 s.us, Value.int .i64 s.ge, Value.int .i64 s.ep, Value.int .i64 s.ve] 23) := ⟨_, rfl⟩
      rw [← hW] at hB r0 r1 r2 ⊢
      clear hW
      obtain ⟨B1, e1⟩ : ∃ B1, B1 = w.heap.size := ⟨_, rfl⟩
      have hle : w.heap.size ≤ B1 := by omega
      rw [← e1] at r0 r1 r2 ⊢
      clear e1
      have hne : B1 ≠ B1 + 1 := by omega
      have hne2 : B1 + 2 ≠ B1 + 1 := by omega
      have q0 := r0.drew
      have p0 := r1.drew
      have u0 := r2.drew
      have hB0 := hB.drew
      clear hB r0 r1 r2
      have c00 : W.drew.cell? ⟨B1, 0, none⟩ = some (Value.int .i64 s.st) := q0.cell 0 rfl
      have c01 : W.drew.cell? ⟨B1, 1, none⟩ = some (Value.int .i64 s.ow) := q0.cell 1 rfl
      have c02 : W.drew.cell? ⟨B1, 2, none⟩ = some (Value.int .i64 s.sr) := q0.cell 2 rfl
      have c03 : W.drew.cell? ⟨B1, 3, none⟩ = some (Value.bool s.br) := q0.cell 3 rfl
      have c04 : W.drew.cell? ⟨B1, 4, none⟩ = some (Value.bool s.ma) := q0.cell 4 rfl
      have c05 : W.drew.cell? ⟨B1, 5, none⟩ = some (Value.int .i64 s.us) := q0.cell 5 rfl
      have c06 : W.drew.cell? ⟨B1, 6, none⟩ = some (Value.int .i64 s.ge) := q0.cell 6 rfl
      have c07 : W.drew.cell? ⟨B1, 7, none⟩ = some (Value.int .i64 s.ep) := q0.cell 7 rfl
      have c08 : W.drew.cell? ⟨B1, 8, none⟩ = some (Value.int .i64 s.ve) := q0.cell 8 rfl
      have y00 : W.drew.cell? ⟨B1 + 2, 0, none⟩ = some (Value.int .i64 2) := u0.cell 0 rfl
      have y01 : W.drew.cell? ⟨B1 + 2, 1, none⟩ = some (Value.int .i64 s.ow) := u0.cell 1 rfl
      have y02 : W.drew.cell? ⟨B1 + 2, 2, none⟩ = some (Value.int .i64 s.sr) := u0.cell 2 rfl
      have y03 : W.drew.cell? ⟨B1 + 2, 3, none⟩ = some (Value.bool s.br) := u0.cell 3 rfl
      have y04 : W.drew.cell? ⟨B1 + 2, 4, none⟩ = some (Value.bool s.ma) := u0.cell 4 rfl
      have y05 : W.drew.cell? ⟨B1 + 2, 5, none⟩ = some (Value.int .i64 s.us) := u0.cell 5 rfl
      have y06 : W.drew.cell? ⟨B1 + 2, 6, none⟩ = some (Value.int .i64 s.ge) := u0.cell 6 rfl
      have y07 : W.drew.cell? ⟨B1 + 2, 7, none⟩ = some (Value.int .i64 s.ep) := u0.cell 7 rfl
      have y08 : W.drew.cell? ⟨B1 + 2, 8, none⟩ = some (Value.int .i64 s.ve) := u0.cell 8 rfl
      have d00 : W.drew.cell? ⟨B1 + 1, 0, none⟩ = some (Value.int .i64 0) := p0.cell 0 rfl
      have d01 : W.drew.cell? ⟨B1 + 1, 1, none⟩ = some (Value.int .i64 0) := p0.cell 1 rfl
      have d02 : W.drew.cell? ⟨B1 + 1, 2, none⟩ = some (Value.int .i64 0) := p0.cell 2 rfl
      have d03 : W.drew.cell? ⟨B1 + 1, 3, none⟩ = some (Value.bool false) := p0.cell 3 rfl
      have d04 : W.drew.cell? ⟨B1 + 1, 4, none⟩ = some (Value.bool false) := p0.cell 4 rfl
      have d05 : W.drew.cell? ⟨B1 + 1, 5, none⟩ = some (Value.int .i64 0) := p0.cell 5 rfl
      have d06 : W.drew.cell? ⟨B1 + 1, 6, none⟩ = some (Value.int .i64 0) := p0.cell 6 rfl
      have d07 : W.drew.cell? ⟨B1 + 1, 7, none⟩ = some (Value.int .i64 0) := p0.cell 7 rfl
      have d08 : W.drew.cell? ⟨B1 + 1, 8, none⟩ = some (Value.int .i64 0) := p0.cell 8 rfl
      have g00 : W.drew.frozen? ⟨B1 + 1, 0, none⟩ = false := p0.frozen 0
      have g01 : W.drew.frozen? ⟨B1 + 1, 1, none⟩ = false := p0.frozen 1
      have g02 : W.drew.frozen? ⟨B1 + 1, 2, none⟩ = false := p0.frozen 2
      have g03 : W.drew.frozen? ⟨B1 + 1, 3, none⟩ = false := p0.frozen 3
      have g04 : W.drew.frozen? ⟨B1 + 1, 4, none⟩ = false := p0.frozen 4
      have g05 : W.drew.frozen? ⟨B1 + 1, 5, none⟩ = false := p0.frozen 5
      have g06 : W.drew.frozen? ⟨B1 + 1, 6, none⟩ = false := p0.frozen 6
      have g07 : W.drew.frozen? ⟨B1 + 1, 7, none⟩ = false := p0.frozen 7
      have g08 : W.drew.frozen? ⟨B1 + 1, 8, none⟩ = false := p0.frozen 8
      refine wp_region_held_drew (S := (fun w' => w'.cell? ⟨B1, 0, none⟩ = some (Value.int .i64 s.st) ∧ w'.cell? ⟨B1, 1, none⟩ = some (Value.int .i64 s.ow) ∧ w'.cell? ⟨B1, 2, none⟩ = some (Value.int .i64 s.sr) ∧ w'.cell? ⟨B1, 3, none⟩ = some (Value.bool s.br) ∧ w'.cell? ⟨B1, 4, none⟩ = some (Value.bool s.ma) ∧ w'.cell? ⟨B1, 5, none⟩ = some (Value.int .i64 s.us) ∧ w'.cell? ⟨B1, 6, none⟩ = some (Value.int .i64 s.ge) ∧ w'.cell? ⟨B1, 7, none⟩ = some (Value.int .i64 s.ep) ∧ w'.cell? ⟨B1, 8, none⟩ = some (Value.int .i64 s.ve) ∧ w'.cell? ⟨B1 + 2, 0, none⟩ = some (Value.int .i64 2) ∧ w'.cell? ⟨B1 + 2, 1, none⟩ = some (Value.int .i64 s.ow) ∧ w'.cell? ⟨B1 + 2, 2, none⟩ = some (Value.int .i64 s.sr) ∧ w'.cell? ⟨B1 + 2, 3, none⟩ = some (Value.bool s.br) ∧ w'.cell? ⟨B1 + 2, 4, none⟩ = some (Value.bool s.ma) ∧ w'.cell? ⟨B1 + 2, 5, none⟩ = some (Value.int .i64 s.us) ∧ w'.cell? ⟨B1 + 2, 6, none⟩ = some (Value.int .i64 s.ge) ∧ w'.cell? ⟨B1 + 2, 7, none⟩ = some (Value.int .i64 s.ep) ∧ w'.cell? ⟨B1 + 2, 8, none⟩ = some (Value.int .i64 s.ve))) (by kernel_rfl) ⟨c00, c01, c02, c03, c04, c05, c06, c07, c08, y00, y01, y02, y03, y04, y05, y06, y07, y08⟩ (fun hS => ?_)
      generalize W.drew = WD at *
      refine wpAnyH_take (i := 0) (oi := { dst := some 67, op := Op.load 23 (Operand.tmp 10), type := 23, pos := "ref.go:60", after := #[], guard := none }) (v := ?v0_83) rfl (by kernel_rfl) (by kernel_rfl) (by kernel_rfl) (fun _ _ _ h => h) (Or.inl ⟨by rfl, ?hy0_83⟩) hS ?rest0_83
      case hy0_83 =>
        intro w hSw
        (try dsimp only at hSw)
        go_simp
        try with_reducible rfl
      try simp only [Act.put, List.setIfInBounds_toArray, List.set_cons_zero, List.set_cons_succ]
      refine wpAnyH_take (i := 1) (oi := { dst := some 68, op := Op.fieldAddr 23 (Operand.tmp 4) 0, type := 0, pos := "ref.go:60", after := #[], guard := none }) (v := ?v1_84) rfl (by kernel_rfl) (by kernel_rfl) (by kernel_rfl) (fun _ _ _ h => h) (Or.inl ⟨by rfl, ?hy1_84⟩) hS ?rest1_84
      case hy1_84 =>
        intro w hSw
        (try dsimp only at hSw)
        go_simp
        try with_reducible rfl
      try simp only [Act.put, List.setIfInBounds_toArray, List.set_cons_zero, List.set_cons_succ]
      refine wpAnyH_take (i := 2) (oi := { dst := some 69, op := Op.load 3 (Operand.tmp 68), type := 3, pos := "ref.go:60", after := #[{ on := 1, ground := Ground.data }], guard := none }) (v := ?v2_85) rfl (by kernel_rfl) (by kernel_rfl) (by kernel_rfl) (fun _ _ _ h => h) (Or.inl ⟨by rfl, ?hy2_85⟩) hS ?rest2_85
      case hy2_85 =>
        intro w hSw
        (try dsimp only at hSw)
        go_simp
        try with_reducible rfl
      try simp only [Act.put, List.setIfInBounds_toArray, List.set_cons_zero, List.set_cons_succ]
      refine wpAnyH_take (i := 3) (oi := { dst := some 70, op := Op.binOp BinOp.eql 3 (Operand.tmp 69) (Operand.const (Value.int IntKind.i64 3)) 3, type := 4, pos := "ref.go:60", after := #[{ on := 2, ground := Ground.data }], guard := none }) (v := ?v3_86) rfl (by kernel_rfl) (by kernel_rfl) (by kernel_rfl) (fun _ _ _ h => h) (Or.inl ⟨by rfl, ?hy3_86⟩) hS ?rest3_86
      case hy3_86 =>
        intro w hSw
        (try dsimp only at hSw)
        go_simp
        try with_reducible rfl
      try simp only [Act.put, List.setIfInBounds_toArray, List.set_cons_zero, List.set_cons_succ]
      refine wpAnyH_take (i := 4) (oi := { dst := some 71, op := Op.move (Operand.tmp 70), type := 4, pos := "ref.go:60", after := #[{ on := 3, ground := Ground.data }], guard := none }) (v := ?v4_87) rfl (by kernel_rfl) (by kernel_rfl) (by kernel_rfl) (fun _ _ _ h => h) (Or.inl ⟨by rfl, ?hy4_87⟩) hS ?rest4_87
      case hy4_87 =>
        intro w hSw
        (try dsimp only at hSw)
        go_simp
        try with_reducible rfl
      try simp only [Act.put, List.setIfInBounds_toArray, List.set_cons_zero, List.set_cons_succ]
      refine wpAnyH_take (i := 5) (oi := { dst := some 72, op := Op.move (Operand.tmp 11), type := 4, pos := "ref.go:60", after := #[{ on := 4, ground := Ground.guard }], guard := some (4, true) }) (v := undef) rfl (by kernel_rfl) (by kernel_rfl) (by kernel_rfl) (fun _ _ _ h => h) (Or.inr ⟨by rfl, rfl⟩) hS ?_
      try simp only [Act.put, List.setIfInBounds_toArray, List.set_cons_zero, List.set_cons_succ]
      refine wpAnyH_take (i := 6) (oi := { dst := some 73, op := Op.pick (Operand.tmp 71) (Operand.tmp 72) (Operand.const (Value.bool false)), type := 4, pos := "ref.go:60", after := #[{ on := 4, ground := Ground.data }, { on := 5, ground := Ground.data }], guard := none }) (v := ?v6_88) rfl (by kernel_rfl) (by kernel_rfl) (by kernel_rfl) (fun _ _ _ h => h) (Or.inl ⟨by rfl, ?hy6_88⟩) hS ?rest6_88
      case hy6_88 =>
        intro w hSw
        (try dsimp only at hSw)
        go_simp
        try with_reducible rfl
      try simp only [Act.put, List.setIfInBounds_toArray, List.set_cons_zero, List.set_cons_succ]
      refine wpAnyH_take (i := 7) (oi := { dst := some 74, op := Op.move (Operand.tmp 73), type := 4, pos := "ref.go:60", after := #[{ on := 6, ground := Ground.data }, { on := 4, ground := Ground.chain }], guard := none }) (v := ?v7_89) rfl (by kernel_rfl) (by kernel_rfl) (by kernel_rfl) (fun _ _ _ h => h) (Or.inl ⟨by rfl, ?hy7_89⟩) hS ?rest7_89
      case hy7_89 =>
        intro w hSw
        (try dsimp only at hSw)
        go_simp
        try with_reducible rfl
      try simp only [Act.put, List.setIfInBounds_toArray, List.set_cons_zero, List.set_cons_succ]
      refine wpAnyH_take (i := 8) (oi := { dst := some 75, op := Op.fieldAddr 23 (Operand.tmp 4) 2, type := 0, pos := "ref.go:60", after := #[{ on := 7, ground := Ground.guard }, { on := 12, ground := Ground.gcOnly Departure.lateStores }], guard := some (7, true) }) (v := undef) rfl (by kernel_rfl) (by kernel_rfl) (by kernel_rfl) (fun _ _ _ h => h) (Or.inr ⟨by rfl, rfl⟩) hS ?_
      try simp only [Act.put, List.setIfInBounds_toArray, List.set_cons_zero, List.set_cons_succ]
      refine wpAnyH_take (i := 9) (oi := { dst := some 76, op := Op.load 3 (Operand.tmp 75), type := 3, pos := "ref.go:60", after := #[{ on := 8, ground := Ground.data }, { on := 7, ground := Ground.guard }, { on := 12, ground := Ground.gcOnly Departure.lateStores }], guard := some (7, true) }) (v := undef) rfl (by kernel_rfl) (by kernel_rfl) (by kernel_rfl) (fun _ _ _ h => h) (Or.inr ⟨by rfl, rfl⟩) hS ?_
      try simp only [Act.put, List.setIfInBounds_toArray, List.set_cons_zero, List.set_cons_succ]
      refine wpAnyH_take (i := 10) (oi := { dst := some 77, op := Op.binOp BinOp.eql 3 (Operand.tmp 76) (Operand.const (Value.int IntKind.i64 0)) 3, type := 4, pos := "ref.go:60", after := #[{ on := 9, ground := Ground.data }, { on := 7, ground := Ground.guard }, { on := 12, ground := Ground.gcOnly Departure.lateStores }], guard := some (7, true) }) (v := undef) rfl (by kernel_rfl) (by kernel_rfl) (by kernel_rfl) (fun _ _ _ h => h) (Or.inr ⟨by rfl, rfl⟩) hS ?_
      try simp only [Act.put, List.setIfInBounds_toArray, List.set_cons_zero, List.set_cons_succ]
      refine wpAnyH_take (i := 11) (oi := { dst := some 78, op := Op.pick (Operand.tmp 74) (Operand.tmp 77) (Operand.const (Value.bool false)), type := 4, pos := "ref.go:60", after := #[{ on := 7, ground := Ground.data }, { on := 10, ground := Ground.data }, { on := 12, ground := Ground.gcOnly Departure.lateStores }], guard := none }) (v := ?v11_90) rfl (by kernel_rfl) (by kernel_rfl) (by kernel_rfl) (fun _ _ _ h => h) (Or.inl ⟨by rfl, ?hy11_90⟩) hS ?rest11_90
      case hy11_90 =>
        intro w hSw
        (try dsimp only at hSw)
        go_simp
        try with_reducible rfl
      try simp only [Act.put, List.setIfInBounds_toArray, List.set_cons_zero, List.set_cons_succ]
      refine wpAnyH_ready (rs := [12]) (by kernel_rfl) (by simp) ?_
      refine AllReadyH.cons (o := { dst := none, op := Op.store 23 (Operand.tmp 8) (Operand.tmp 67), type := 0, pos := "ref.go:60", after := #[{ on := 0, ground := Ground.data }, { on := 7, ground := Ground.chain }, { on := 0, ground := Ground.phase }, { on := 1, ground := Ground.textOnly Departure.lateStores }, { on := 2, ground := Ground.textOnly Departure.lateStores }, { on := 3, ground := Ground.textOnly Departure.lateStores }, { on := 4, ground := Ground.textOnly Departure.lateStores }, { on := 5, ground := Ground.textOnly Departure.lateStores }, { on := 6, ground := Ground.textOnly Departure.lateStores }, { on := 7, ground := Ground.textOnly Departure.lateStores }, { on := 8, ground := Ground.textOnly Departure.lateStores }, { on := 9, ground := Ground.textOnly Departure.lateStores }, { on := 10, ground := Ground.textOnly Departure.lateStores }, { on := 11, ground := Ground.textOnly Departure.lateStores }], guard := none }) rfl (fun K hK => ?_) AllReadyH.nil
      go_simp
      refine hK.out _ _ (by (try dsimp only); go_keep) (fun hS => ?_)
      clear hK K
      try simp only [Act.put, List.setIfInBounds_toArray, List.set_cons_zero, List.set_cons_succ]
      refine wpAnyH_take (i := 13) (oi := { dst := some 9, op := Op.assign (Operand.tmp 78), type := 4, pos := "ref.go:60", after := #[{ on := 11, ground := Ground.data }, { on := 12, ground := Ground.chain }, { on := 0, ground := Ground.phase }, { on := 1, ground := Ground.phase }, { on := 2, ground := Ground.phase }, { on := 3, ground := Ground.phase }, { on := 4, ground := Ground.phase }, { on := 5, ground := Ground.phase }, { on := 6, ground := Ground.phase }, { on := 7, ground := Ground.phase }, { on := 8, ground := Ground.phase }, { on := 9, ground := Ground.phase }, { on := 10, ground := Ground.phase }, { on := 11, ground := Ground.phase }, { on := 12, ground := Ground.phase }], guard := none }) (v := ?v13_91) rfl (by kernel_rfl) (by kernel_rfl) (by kernel_rfl) (fun _ _ _ h => h) (Or.inl ⟨by rfl, ?hy13_91⟩) hS ?rest13_91
      case hy13_91 =>
        intro w hSw
        (try dsimp only at hSw)
        go_simp
        try with_reducible rfl
      try simp only [Act.put, List.setIfInBounds_toArray, List.set_cons_zero, List.set_cons_succ]
      refine wpAnyH_done (by kernel_rfl) ?_ _
      have rz := row9 p0 (Value.int .i64 2) (Value.int .i64 s.ow) (Value.int .i64 s.sr) (Value.bool s.br) (Value.bool s.ma) (Value.int .i64 s.us) (Value.int .i64 s.ge) (Value.int .i64 s.ep) (Value.int .i64 s.ve)
      have hz := below9 (n := w.heap.size) (A := w) (b := B1 + 1) hB0 (by omega) (Value.int .i64 2) (Value.int .i64 s.ow) (Value.int .i64 s.sr) (Value.bool s.br) (Value.bool s.ma) (Value.int .i64 s.us) (Value.int .i64 s.ge) (Value.int .i64 s.ep) (Value.int .i64 s.ve)
      go_wp2
      refine bodyPost_ret (res_pair (p := 8) (u := 9) rfl _ _ _ _ rfl rz rfl) rfl ⟨ret_pair (by simp [rB, *]), hz⟩
    | false =>
      go_enter Tryd.func17, Tryd.ntmps17
      go_wp2_with fail
      have hB : Below w.heap.size w (((w.alloc (.cells #[Value.int .i64 s.st, Value.int .i64 s.ow, Value.int .i64 s.sr, Value.bool s.br, Value.bool s.ma, Value.int .i64 s.us, Value.int .i64 s.ge, Value.int .i64 s.ep, Value.int .i64 s.ve] 23)).alloc (.cells #[Value.int .i64 0, Value.int .i64 0, Value.int .i64 0, Value.bool false, Value.bool false, Value.int .i64 0, Value.int .i64 0, Value.int .i64 0, Value.int .i64 0] 23)).alloc (.cells #[Value.int .i64 2, Value.int .i64 s.ow, Value.int .i64 s.sr, Value.bool s.br, Value.bool s.ma, Value.int .i64 s.us, Value.int .i64 s.ge, Value.int .i64 s.ep, Value.int .i64 s.ve] 23)) := (((Below.refl _ _).alloc (Nat.le_refl _) _).alloc (by simp) _).alloc (by simp; omega) _
      have r0 := ((RowAt.new w 23 #[Value.int .i64 s.st, Value.int .i64 s.ow, Value.int .i64 s.sr, Value.bool s.br, Value.bool s.ma, Value.int .i64 s.us, Value.int .i64 s.ge, Value.int .i64 s.ep, Value.int .i64 s.ve]).alloc (.cells #[Value.int .i64 0, Value.int .i64 0, Value.int .i64 0, Value.bool false, Value.bool false, Value.int .i64 0, Value.int .i64 0, Value.int .i64 0, Value.int .i64 0] 23)).alloc (.cells #[Value.int .i64 2, Value.int .i64 s.ow, Value.int .i64 s.sr, Value.bool s.br, Value.bool s.ma, Value.int .i64 s.us, Value.int .i64 s.ge, Value.int .i64 s.ep, Value.int .i64 s.ve] 23)
      have r1 := (new2 w (.cells #[Value.int .i64 s.st, Value.int .i64 s.ow, Value.int .i64 s.sr, Value.bool s.br, Value.bool s.ma, Value.int .i64 s.us, Value.int .i64 s.ge, Value.int .i64 s.ep, Value.int .i64 s.ve] 23) 23 #[Value.int .i64 0, Value.int .i64 0, Value.int .i64 0, Value.bool false, Value.bool false, Value.int .i64 0, Value.int .i64 0, Value.int .i64 0, Value.int .i64 0]).alloc (.cells #[Value.int .i64 2, Value.int .i64 s.ow, Value.int .i64 s.sr, Value.bool s.br, Value.bool s.ma, Value.int .i64 s.us, Value.int .i64 s.ge, Value.int .i64 s.ep, Value.int .i64 s.ve] 23)
      have r2 := new3 w (.cells #[Value.int .i64 s.st, Value.int .i64 s.ow, Value.int .i64 s.sr, Value.bool s.br, Value.bool s.ma, Value.int .i64 s.us, Value.int .i64 s.ge, Value.int .i64 s.ep, Value.int .i64 s.ve] 23) (.cells #[Value.int .i64 0, Value.int .i64 0, Value.int .i64 0, Value.bool false, Value.bool false, Value.int .i64 0, Value.int .i64 0, Value.int .i64 0, Value.int .i64 0] 23) 23 #[Value.int .i64 2, Value.int .i64 s.ow, Value.int .i64 s.sr, Value.bool s.br, Value.bool s.ma, Value.int .i64 s.us, Value.int .i64 s.ge, Value.int .i64 s.ep, Value.int .i64 s.ve]
      obtain ⟨W, hW⟩ : ∃ W, W = ((w.alloc (.cells #[Value.int .i64 s.st, Value.int .i64 s.ow, Value.int .i64 s.sr, Value.bool s.br, Value.bool s.ma, Value.int .i64 s.us, Value.int .i64 s.ge, Value.int .i64 s.ep, Value.int .i64 s.ve] 23)).alloc (.cells #[Value.int .i64 0, Value.int .i64 0, Value.int .i64 0, Value.bool false, Value.bool false, Value.int .i64 0, Value.int .i64 0, Value.int .i64 0, Value.int .i64 0] 23)).alloc (.cells #[Value.int .i64 2, Value.int .i64 s.ow, Value.int .i64 s.sr, Value.bool s.br, Value.bool s.ma, Value.int .i64 s.us, Value.int .i64 s.ge, Value.int .i64 s.ep, Value.int .i64 s.ve] 23) := ⟨_, rfl⟩
      rw [← hW] at hB r0 r1 r2 ⊢
      clear hW
      obtain ⟨B1, e1⟩ : ∃ B1, B1 = w.heap.size := ⟨_, rfl⟩
      have hle : w.heap.size ≤ B1 := by omega
      rw [← e1] at r0 r1 r2 ⊢
      clear e1
      have hne : B1 ≠ B1 + 1 := by omega
      have hne2 : B1 + 2 ≠ B1 + 1 := by omega
      have q0 := r0.drew
      have p0 := r1.drew
      have u0 := r2.drew
      have hB0 := hB.drew
      clear hB r0 r1 r2
      have c00 : W.drew.cell? ⟨B1, 0, none⟩ = some (Value.int .i64 s.st) := q0.cell 0 rfl
      have c01 : W.drew.cell? ⟨B1, 1, none⟩ = some (Value.int .i64 s.ow) := q0.cell 1 rfl
      have c02 : W.drew.cell? ⟨B1, 2, none⟩ = some (Value.int .i64 s.sr) := q0.cell 2 rfl
      have c03 : W.drew.cell? ⟨B1, 3, none⟩ = some (Value.bool s.br) := q0.cell 3 rfl
      have c04 : W.drew.cell? ⟨B1, 4, none⟩ = some (Value.bool s.ma) := q0.cell 4 rfl
      have c05 : W.drew.cell? ⟨B1, 5, none⟩ = some (Value.int .i64 s.us) := q0.cell 5 rfl
      have c06 : W.drew.cell? ⟨B1, 6, none⟩ = some (Value.int .i64 s.ge) := q0.cell 6 rfl
      have c07 : W.drew.cell? ⟨B1, 7, none⟩ = some (Value.int .i64 s.ep) := q0.cell 7 rfl
      have c08 : W.drew.cell? ⟨B1, 8, none⟩ = some (Value.int .i64 s.ve) := q0.cell 8 rfl
      have y00 : W.drew.cell? ⟨B1 + 2, 0, none⟩ = some (Value.int .i64 2) := u0.cell 0 rfl
      have y01 : W.drew.cell? ⟨B1 + 2, 1, none⟩ = some (Value.int .i64 s.ow) := u0.cell 1 rfl
      have y02 : W.drew.cell? ⟨B1 + 2, 2, none⟩ = some (Value.int .i64 s.sr) := u0.cell 2 rfl
      have y03 : W.drew.cell? ⟨B1 + 2, 3, none⟩ = some (Value.bool s.br) := u0.cell 3 rfl
      have y04 : W.drew.cell? ⟨B1 + 2, 4, none⟩ = some (Value.bool s.ma) := u0.cell 4 rfl
      have y05 : W.drew.cell? ⟨B1 + 2, 5, none⟩ = some (Value.int .i64 s.us) := u0.cell 5 rfl
      have y06 : W.drew.cell? ⟨B1 + 2, 6, none⟩ = some (Value.int .i64 s.ge) := u0.cell 6 rfl
      have y07 : W.drew.cell? ⟨B1 + 2, 7, none⟩ = some (Value.int .i64 s.ep) := u0.cell 7 rfl
      have y08 : W.drew.cell? ⟨B1 + 2, 8, none⟩ = some (Value.int .i64 s.ve) := u0.cell 8 rfl
      have d00 : W.drew.cell? ⟨B1 + 1, 0, none⟩ = some (Value.int .i64 0) := p0.cell 0 rfl
      have d01 : W.drew.cell? ⟨B1 + 1, 1, none⟩ = some (Value.int .i64 0) := p0.cell 1 rfl
      have d02 : W.drew.cell? ⟨B1 + 1, 2, none⟩ = some (Value.int .i64 0) := p0.cell 2 rfl
      have d03 : W.drew.cell? ⟨B1 + 1, 3, none⟩ = some (Value.bool false) := p0.cell 3 rfl
      have d04 : W.drew.cell? ⟨B1 + 1, 4, none⟩ = some (Value.bool false) := p0.cell 4 rfl
      have d05 : W.drew.cell? ⟨B1 + 1, 5, none⟩ = some (Value.int .i64 0) := p0.cell 5 rfl
      have d06 : W.drew.cell? ⟨B1 + 1, 6, none⟩ = some (Value.int .i64 0) := p0.cell 6 rfl
      have d07 : W.drew.cell? ⟨B1 + 1, 7, none⟩ = some (Value.int .i64 0) := p0.cell 7 rfl
      have d08 : W.drew.cell? ⟨B1 + 1, 8, none⟩ = some (Value.int .i64 0) := p0.cell 8 rfl
      have g00 : W.drew.frozen? ⟨B1 + 1, 0, none⟩ = false := p0.frozen 0
      have g01 : W.drew.frozen? ⟨B1 + 1, 1, none⟩ = false := p0.frozen 1
      have g02 : W.drew.frozen? ⟨B1 + 1, 2, none⟩ = false := p0.frozen 2
      have g03 : W.drew.frozen? ⟨B1 + 1, 3, none⟩ = false := p0.frozen 3
      have g04 : W.drew.frozen? ⟨B1 + 1, 4, none⟩ = false := p0.frozen 4
      have g05 : W.drew.frozen? ⟨B1 + 1, 5, none⟩ = false := p0.frozen 5
      have g06 : W.drew.frozen? ⟨B1 + 1, 6, none⟩ = false := p0.frozen 6
      have g07 : W.drew.frozen? ⟨B1 + 1, 7, none⟩ = false := p0.frozen 7
      have g08 : W.drew.frozen? ⟨B1 + 1, 8, none⟩ = false := p0.frozen 8
      refine wp_region_held_drew (S := (fun w' => w'.cell? ⟨B1, 0, none⟩ = some (Value.int .i64 s.st) ∧ w'.cell? ⟨B1, 1, none⟩ = some (Value.int .i64 s.ow) ∧ w'.cell? ⟨B1, 2, none⟩ = some (Value.int .i64 s.sr) ∧ w'.cell? ⟨B1, 3, none⟩ = some (Value.bool s.br) ∧ w'.cell? ⟨B1, 4, none⟩ = some (Value.bool s.ma) ∧ w'.cell? ⟨B1, 5, none⟩ = some (Value.int .i64 s.us) ∧ w'.cell? ⟨B1, 6, none⟩ = some (Value.int .i64 s.ge) ∧ w'.cell? ⟨B1, 7, none⟩ = some (Value.int .i64 s.ep) ∧ w'.cell? ⟨B1, 8, none⟩ = some (Value.int .i64 s.ve) ∧ w'.cell? ⟨B1 + 2, 0, none⟩ = some (Value.int .i64 2) ∧ w'.cell? ⟨B1 + 2, 1, none⟩ = some (Value.int .i64 s.ow) ∧ w'.cell? ⟨B1 + 2, 2, none⟩ = some (Value.int .i64 s.sr) ∧ w'.cell? ⟨B1 + 2, 3, none⟩ = some (Value.bool s.br) ∧ w'.cell? ⟨B1 + 2, 4, none⟩ = some (Value.bool s.ma) ∧ w'.cell? ⟨B1 + 2, 5, none⟩ = some (Value.int .i64 s.us) ∧ w'.cell? ⟨B1 + 2, 6, none⟩ = some (Value.int .i64 s.ge) ∧ w'.cell? ⟨B1 + 2, 7, none⟩ = some (Value.int .i64 s.ep) ∧ w'.cell? ⟨B1 + 2, 8, none⟩ = some (Value.int .i64 s.ve))) (by kernel_rfl) ⟨c00, c01, c02, c03, c04, c05, c06, c07, c08, y00, y01, y02, y03, y04, y05, y06, y07, y08⟩ (fun hS => ?_)
      generalize W.drew = WD at *
      refine wpAnyH_take (i := 0) (oi := { dst := some 67, op := Op.load 23 (Operand.tmp 10), type := 23, pos := "ref.go:60", after := #[], guard := none }) (v := ?v0_92) rfl (by kernel_rfl) (by kernel_rfl) (by kernel_rfl) (fun _ _ _ h => h) (Or.inl ⟨by rfl, ?hy0_92⟩) hS ?rest0_92
      case hy0_92 =>
        intro w hSw
        (try dsimp only at hSw)
        go_simp
        try with_reducible rfl
      try simp only [Act.put, List.setIfInBounds_toArray, List.set_cons_zero, List.set_cons_succ]
      refine wpAnyH_take (i := 1) (oi := { dst := some 68, op := Op.fieldAddr 23 (Operand.tmp 4) 0, type := 0, pos := "ref.go:60", after := #[], guard := none }) (v := ?v1_93) rfl (by kernel_rfl) (by kernel_rfl) (by kernel_rfl) (fun _ _ _ h => h) (Or.inl ⟨by rfl, ?hy1_93⟩) hS ?rest1_93
      case hy1_93 =>
        intro w hSw
        (try dsimp only at hSw)
        go_simp
        try with_reducible rfl
      try simp only [Act.put, List.setIfInBounds_toArray, List.set_cons_zero, List.set_cons_succ]
      refine wpAnyH_take (i := 2) (oi := { dst := some 69, op := Op.load 3 (Operand.tmp 68), type := 3, pos := "ref.go:60", after := #[{ on := 1, ground := Ground.data }], guard := none }) (v := ?v2_94) rfl (by kernel_rfl) (by kernel_rfl) (by kernel_rfl) (fun _ _ _ h => h) (Or.inl ⟨by rfl, ?hy2_94⟩) hS ?rest2_94
      case hy2_94 =>
        intro w hSw
        (try dsimp only at hSw)
        go_simp
        try with_reducible rfl
      try simp only [Act.put, List.setIfInBounds_toArray, List.set_cons_zero, List.set_cons_succ]
      refine wpAnyH_take (i := 3) (oi := { dst := some 70, op := Op.binOp BinOp.eql 3 (Operand.tmp 69) (Operand.const (Value.int IntKind.i64 3)) 3, type := 4, pos := "ref.go:60", after := #[{ on := 2, ground := Ground.data }], guard := none }) (v := ?v3_95) rfl (by kernel_rfl) (by kernel_rfl) (by kernel_rfl) (fun _ _ _ h => h) (Or.inl ⟨by rfl, ?hy3_95⟩) hS ?rest3_95
      case hy3_95 =>
        intro w hSw
        (try dsimp only at hSw)
        go_simp
        try with_reducible rfl
      try simp only [Act.put, List.setIfInBounds_toArray, List.set_cons_zero, List.set_cons_succ]
      refine wpAnyH_take (i := 4) (oi := { dst := some 71, op := Op.move (Operand.tmp 70), type := 4, pos := "ref.go:60", after := #[{ on := 3, ground := Ground.data }], guard := none }) (v := ?v4_96) rfl (by kernel_rfl) (by kernel_rfl) (by kernel_rfl) (fun _ _ _ h => h) (Or.inl ⟨by rfl, ?hy4_96⟩) hS ?rest4_96
      case hy4_96 =>
        intro w hSw
        (try dsimp only at hSw)
        go_simp
        try with_reducible rfl
      try simp only [Act.put, List.setIfInBounds_toArray, List.set_cons_zero, List.set_cons_succ]
      refine wpAnyH_take (i := 5) (oi := { dst := some 72, op := Op.move (Operand.tmp 11), type := 4, pos := "ref.go:60", after := #[{ on := 4, ground := Ground.guard }], guard := some (4, true) }) (v := undef) rfl (by kernel_rfl) (by kernel_rfl) (by kernel_rfl) (fun _ _ _ h => h) (Or.inr ⟨by rfl, rfl⟩) hS ?_
      try simp only [Act.put, List.setIfInBounds_toArray, List.set_cons_zero, List.set_cons_succ]
      refine wpAnyH_take (i := 6) (oi := { dst := some 73, op := Op.pick (Operand.tmp 71) (Operand.tmp 72) (Operand.const (Value.bool false)), type := 4, pos := "ref.go:60", after := #[{ on := 4, ground := Ground.data }, { on := 5, ground := Ground.data }], guard := none }) (v := ?v6_97) rfl (by kernel_rfl) (by kernel_rfl) (by kernel_rfl) (fun _ _ _ h => h) (Or.inl ⟨by rfl, ?hy6_97⟩) hS ?rest6_97
      case hy6_97 =>
        intro w hSw
        (try dsimp only at hSw)
        go_simp
        try with_reducible rfl
      try simp only [Act.put, List.setIfInBounds_toArray, List.set_cons_zero, List.set_cons_succ]
      refine wpAnyH_take (i := 7) (oi := { dst := some 74, op := Op.move (Operand.tmp 73), type := 4, pos := "ref.go:60", after := #[{ on := 6, ground := Ground.data }, { on := 4, ground := Ground.chain }], guard := none }) (v := ?v7_98) rfl (by kernel_rfl) (by kernel_rfl) (by kernel_rfl) (fun _ _ _ h => h) (Or.inl ⟨by rfl, ?hy7_98⟩) hS ?rest7_98
      case hy7_98 =>
        intro w hSw
        (try dsimp only at hSw)
        go_simp
        try with_reducible rfl
      try simp only [Act.put, List.setIfInBounds_toArray, List.set_cons_zero, List.set_cons_succ]
      refine wpAnyH_take (i := 8) (oi := { dst := some 75, op := Op.fieldAddr 23 (Operand.tmp 4) 2, type := 0, pos := "ref.go:60", after := #[{ on := 7, ground := Ground.guard }, { on := 12, ground := Ground.gcOnly Departure.lateStores }], guard := some (7, true) }) (v := undef) rfl (by kernel_rfl) (by kernel_rfl) (by kernel_rfl) (fun _ _ _ h => h) (Or.inr ⟨by rfl, rfl⟩) hS ?_
      try simp only [Act.put, List.setIfInBounds_toArray, List.set_cons_zero, List.set_cons_succ]
      refine wpAnyH_take (i := 9) (oi := { dst := some 76, op := Op.load 3 (Operand.tmp 75), type := 3, pos := "ref.go:60", after := #[{ on := 8, ground := Ground.data }, { on := 7, ground := Ground.guard }, { on := 12, ground := Ground.gcOnly Departure.lateStores }], guard := some (7, true) }) (v := undef) rfl (by kernel_rfl) (by kernel_rfl) (by kernel_rfl) (fun _ _ _ h => h) (Or.inr ⟨by rfl, rfl⟩) hS ?_
      try simp only [Act.put, List.setIfInBounds_toArray, List.set_cons_zero, List.set_cons_succ]
      refine wpAnyH_take (i := 10) (oi := { dst := some 77, op := Op.binOp BinOp.eql 3 (Operand.tmp 76) (Operand.const (Value.int IntKind.i64 0)) 3, type := 4, pos := "ref.go:60", after := #[{ on := 9, ground := Ground.data }, { on := 7, ground := Ground.guard }, { on := 12, ground := Ground.gcOnly Departure.lateStores }], guard := some (7, true) }) (v := undef) rfl (by kernel_rfl) (by kernel_rfl) (by kernel_rfl) (fun _ _ _ h => h) (Or.inr ⟨by rfl, rfl⟩) hS ?_
      try simp only [Act.put, List.setIfInBounds_toArray, List.set_cons_zero, List.set_cons_succ]
      refine wpAnyH_take (i := 11) (oi := { dst := some 78, op := Op.pick (Operand.tmp 74) (Operand.tmp 77) (Operand.const (Value.bool false)), type := 4, pos := "ref.go:60", after := #[{ on := 7, ground := Ground.data }, { on := 10, ground := Ground.data }, { on := 12, ground := Ground.gcOnly Departure.lateStores }], guard := none }) (v := ?v11_99) rfl (by kernel_rfl) (by kernel_rfl) (by kernel_rfl) (fun _ _ _ h => h) (Or.inl ⟨by rfl, ?hy11_99⟩) hS ?rest11_99
      case hy11_99 =>
        intro w hSw
        (try dsimp only at hSw)
        go_simp
        try with_reducible rfl
      try simp only [Act.put, List.setIfInBounds_toArray, List.set_cons_zero, List.set_cons_succ]
      refine wpAnyH_ready (rs := [12]) (by kernel_rfl) (by simp) ?_
      refine AllReadyH.cons (o := { dst := none, op := Op.store 23 (Operand.tmp 8) (Operand.tmp 67), type := 0, pos := "ref.go:60", after := #[{ on := 0, ground := Ground.data }, { on := 7, ground := Ground.chain }, { on := 0, ground := Ground.phase }, { on := 1, ground := Ground.textOnly Departure.lateStores }, { on := 2, ground := Ground.textOnly Departure.lateStores }, { on := 3, ground := Ground.textOnly Departure.lateStores }, { on := 4, ground := Ground.textOnly Departure.lateStores }, { on := 5, ground := Ground.textOnly Departure.lateStores }, { on := 6, ground := Ground.textOnly Departure.lateStores }, { on := 7, ground := Ground.textOnly Departure.lateStores }, { on := 8, ground := Ground.textOnly Departure.lateStores }, { on := 9, ground := Ground.textOnly Departure.lateStores }, { on := 10, ground := Ground.textOnly Departure.lateStores }, { on := 11, ground := Ground.textOnly Departure.lateStores }], guard := none }) rfl (fun K hK => ?_) AllReadyH.nil
      go_simp
      refine hK.out _ _ (by (try dsimp only); go_keep) (fun hS => ?_)
      clear hK K
      try simp only [Act.put, List.setIfInBounds_toArray, List.set_cons_zero, List.set_cons_succ]
      refine wpAnyH_take (i := 13) (oi := { dst := some 9, op := Op.assign (Operand.tmp 78), type := 4, pos := "ref.go:60", after := #[{ on := 11, ground := Ground.data }, { on := 12, ground := Ground.chain }, { on := 0, ground := Ground.phase }, { on := 1, ground := Ground.phase }, { on := 2, ground := Ground.phase }, { on := 3, ground := Ground.phase }, { on := 4, ground := Ground.phase }, { on := 5, ground := Ground.phase }, { on := 6, ground := Ground.phase }, { on := 7, ground := Ground.phase }, { on := 8, ground := Ground.phase }, { on := 9, ground := Ground.phase }, { on := 10, ground := Ground.phase }, { on := 11, ground := Ground.phase }, { on := 12, ground := Ground.phase }], guard := none }) (v := ?v13_100) rfl (by kernel_rfl) (by kernel_rfl) (by kernel_rfl) (fun _ _ _ h => h) (Or.inl ⟨by rfl, ?hy13_100⟩) hS ?rest13_100
      case hy13_100 =>
        intro w hSw
        (try dsimp only at hSw)
        go_simp
        try with_reducible rfl
      try simp only [Act.put, List.setIfInBounds_toArray, List.set_cons_zero, List.set_cons_succ]
      refine wpAnyH_done (by kernel_rfl) ?_ _
      have rz := row9 p0 (Value.int .i64 2) (Value.int .i64 s.ow) (Value.int .i64 s.sr) (Value.bool s.br) (Value.bool s.ma) (Value.int .i64 s.us) (Value.int .i64 s.ge) (Value.int .i64 s.ep) (Value.int .i64 s.ve)
      have hz := below9 (n := w.heap.size) (A := w) (b := B1 + 1) hB0 (by omega) (Value.int .i64 2) (Value.int .i64 s.ow) (Value.int .i64 s.sr) (Value.bool s.br) (Value.bool s.ma) (Value.int .i64 s.us) (Value.int .i64 s.ge) (Value.int .i64 s.ep) (Value.int .i64 s.ve)
      go_wp2
      refine bodyPost_ret (res_pair (p := 8) (u := 9) rfl _ _ _ _ rfl rz rfl) rfl ⟨ret_pair (by simp [rB, *]), hz⟩
set_option maxRecDepth 100000 in
set_option maxHeartbeats 4000000 in
theorem w5_any (s : Sl) (a mo : Int) (w : World) (_ : Rt s) :
    Calls Tryd.prog 17 #[Value.agg #[Value.int .i64 s.st, Value.int .i64 s.ow, Value.int .i64 s.sr, Value.bool s.br, Value.bool s.ma, Value.int .i64 s.us, Value.int .i64 s.ge, Value.int .i64 s.ep, Value.int .i64 s.ve], .int .i64 5, .int .i64 a, .int .i64 mo] w fun e w' => e = .returned (.tuple #[.agg #[Value.int .i64 (rS 5 s a mo).st, Value.int .i64 (rS 5 s a mo).ow, Value.int .i64 (rS 5 s a mo).sr, Value.bool (rS 5 s a mo).br, Value.bool (rS 5 s a mo).ma, Value.int .i64 (rS 5 s a mo).us, Value.int .i64 (rS 5 s a mo).ge, Value.int .i64 (rS 5 s a mo).ep, Value.int .i64 (rS 5 s a mo).ve], .bool (rB 5 s a mo)]) ∧ Below w.heap.size w w' := by
  cases h0 : (s.st == 2) with
  | true =>
    go_enter Tryd.func17, Tryd.ntmps17
    go_wp2_with fail
    have hB : Below w.heap.size w (((w.alloc (.cells #[Value.int .i64 s.st, Value.int .i64 s.ow, Value.int .i64 s.sr, Value.bool s.br, Value.bool s.ma, Value.int .i64 s.us, Value.int .i64 s.ge, Value.int .i64 s.ep, Value.int .i64 s.ve] 23)).alloc (.cells #[Value.int .i64 0, Value.int .i64 0, Value.int .i64 0, Value.bool false, Value.bool false, Value.int .i64 0, Value.int .i64 0, Value.int .i64 0, Value.int .i64 0] 23)).alloc (.cells #[Value.int .i64 4, Value.int .i64 a, Value.int .i64 s.sr, Value.bool s.br, Value.bool false, Value.int .i64 s.us, Value.int .i64 s.ge, Value.int .i64 s.ep, Value.int .i64 s.ve] 23)) := (((Below.refl _ _).alloc (Nat.le_refl _) _).alloc (by simp) _).alloc (by simp; omega) _
    have r0 := ((RowAt.new w 23 #[Value.int .i64 s.st, Value.int .i64 s.ow, Value.int .i64 s.sr, Value.bool s.br, Value.bool s.ma, Value.int .i64 s.us, Value.int .i64 s.ge, Value.int .i64 s.ep, Value.int .i64 s.ve]).alloc (.cells #[Value.int .i64 0, Value.int .i64 0, Value.int .i64 0, Value.bool false, Value.bool false, Value.int .i64 0, Value.int .i64 0, Value.int .i64 0, Value.int .i64 0] 23)).alloc (.cells #[Value.int .i64 4, Value.int .i64 a, Value.int .i64 s.sr, Value.bool s.br, Value.bool false, Value.int .i64 s.us, Value.int .i64 s.ge, Value.int .i64 s.ep, Value.int .i64 s.ve] 23)
    have r1 := (new2 w (.cells #[Value.int .i64 s.st, Value.int .i64 s.ow, Value.int .i64 s.sr, Value.bool s.br, Value.bool s.ma, Value.int .i64 s.us, Value.int .i64 s.ge, Value.int .i64 s.ep, Value.int .i64 s.ve] 23) 23 #[Value.int .i64 0, Value.int .i64 0, Value.int .i64 0, Value.bool false, Value.bool false, Value.int .i64 0, Value.int .i64 0, Value.int .i64 0, Value.int .i64 0]).alloc (.cells #[Value.int .i64 4, Value.int .i64 a, Value.int .i64 s.sr, Value.bool s.br, Value.bool false, Value.int .i64 s.us, Value.int .i64 s.ge, Value.int .i64 s.ep, Value.int .i64 s.ve] 23)
    have r2 := new3 w (.cells #[Value.int .i64 s.st, Value.int .i64 s.ow, Value.int .i64 s.sr, Value.bool s.br, Value.bool s.ma, Value.int .i64 s.us, Value.int .i64 s.ge, Value.int .i64 s.ep, Value.int .i64 s.ve] 23) (.cells #[Value.int .i64 0, Value.int .i64 0, Value.int .i64 0, Value.bool false, Value.bool false, Value.int .i64 0, Value.int .i64 0, Value.int .i64 0, Value.int .i64 0] 23) 23 #[Value.int .i64 4, Value.int .i64 a, Value.int .i64 s.sr, Value.bool s.br, Value.bool false, Value.int .i64 s.us, Value.int .i64 s.ge, Value.int .i64 s.ep, Value.int .i64 s.ve]
    obtain ⟨W, hW⟩ : ∃ W, W = ((w.alloc (.cells #[Value.int .i64 s.st, Value.int .i64 s.ow, Value.int .i64 s.sr, Value.bool s.br, Value.bool s.ma, Value.int .i64 s.us, Value.int .i64 s.ge, Value.int .i64 s.ep, Value.int .i64 s.ve] 23)).alloc (.cells #[Value.int .i64 0, Value.int .i64 0, Value.int .i64 0, Value.bool false, Value.bool false, Value.int .i64 0, Value.int .i64 0, Value.int .i64 0, Value.int .i64 0] 23)).alloc (.cells #[Value.int .i64 4, Value.int .i64 a, Value.int .i64 s.sr, Value.bool s.br, Value.bool false, Value.int .i64 s.us, Value.int .i64 s.ge, Value.int .i64 s.ep, Value.int .i64 s.ve] 23) := ⟨_, rfl⟩
    rw [← hW] at hB r0 r1 r2 ⊢
    clear hW
    obtain ⟨B1, e1⟩ : ∃ B1, B1 = w.heap.size := ⟨_, rfl⟩
    have hle : w.heap.size ≤ B1 := by omega
    rw [← e1] at r0 r1 r2 ⊢
    clear e1
    have hne : B1 ≠ B1 + 1 := by omega
    have hne2 : B1 + 2 ≠ B1 + 1 := by omega
    have q0 := r0.drew
    have p0 := r1.drew
    have u0 := r2.drew
    have hB0 := hB.drew
    clear hB r0 r1 r2
    have c00 : W.drew.cell? ⟨B1, 0, none⟩ = some (Value.int .i64 s.st) := q0.cell 0 rfl
    have c01 : W.drew.cell? ⟨B1, 1, none⟩ = some (Value.int .i64 s.ow) := q0.cell 1 rfl
    have c02 : W.drew.cell? ⟨B1, 2, none⟩ = some (Value.int .i64 s.sr) := q0.cell 2 rfl
    have c03 : W.drew.cell? ⟨B1, 3, none⟩ = some (Value.bool s.br) := q0.cell 3 rfl
    have c04 : W.drew.cell? ⟨B1, 4, none⟩ = some (Value.bool s.ma) := q0.cell 4 rfl
    have c05 : W.drew.cell? ⟨B1, 5, none⟩ = some (Value.int .i64 s.us) := q0.cell 5 rfl
    have c06 : W.drew.cell? ⟨B1, 6, none⟩ = some (Value.int .i64 s.ge) := q0.cell 6 rfl
    have c07 : W.drew.cell? ⟨B1, 7, none⟩ = some (Value.int .i64 s.ep) := q0.cell 7 rfl
    have c08 : W.drew.cell? ⟨B1, 8, none⟩ = some (Value.int .i64 s.ve) := q0.cell 8 rfl
    have y00 : W.drew.cell? ⟨B1 + 2, 0, none⟩ = some (Value.int .i64 4) := u0.cell 0 rfl
    have y01 : W.drew.cell? ⟨B1 + 2, 1, none⟩ = some (Value.int .i64 a) := u0.cell 1 rfl
    have y02 : W.drew.cell? ⟨B1 + 2, 2, none⟩ = some (Value.int .i64 s.sr) := u0.cell 2 rfl
    have y03 : W.drew.cell? ⟨B1 + 2, 3, none⟩ = some (Value.bool s.br) := u0.cell 3 rfl
    have y04 : W.drew.cell? ⟨B1 + 2, 4, none⟩ = some (Value.bool false) := u0.cell 4 rfl
    have y05 : W.drew.cell? ⟨B1 + 2, 5, none⟩ = some (Value.int .i64 s.us) := u0.cell 5 rfl
    have y06 : W.drew.cell? ⟨B1 + 2, 6, none⟩ = some (Value.int .i64 s.ge) := u0.cell 6 rfl
    have y07 : W.drew.cell? ⟨B1 + 2, 7, none⟩ = some (Value.int .i64 s.ep) := u0.cell 7 rfl
    have y08 : W.drew.cell? ⟨B1 + 2, 8, none⟩ = some (Value.int .i64 s.ve) := u0.cell 8 rfl
    have d00 : W.drew.cell? ⟨B1 + 1, 0, none⟩ = some (Value.int .i64 0) := p0.cell 0 rfl
    have d01 : W.drew.cell? ⟨B1 + 1, 1, none⟩ = some (Value.int .i64 0) := p0.cell 1 rfl
    have d02 : W.drew.cell? ⟨B1 + 1, 2, none⟩ = some (Value.int .i64 0) := p0.cell 2 rfl
    have d03 : W.drew.cell? ⟨B1 + 1, 3, none⟩ = some (Value.bool false) := p0.cell 3 rfl
    have d04 : W.drew.cell? ⟨B1 + 1, 4, none⟩ = some (Value.bool false) := p0.cell 4 rfl
    have d05 : W.drew.cell? ⟨B1 + 1, 5, none⟩ = some (Value.int .i64 0) := p0.cell 5 rfl
    have d06 : W.drew.cell? ⟨B1 + 1, 6, none⟩ = some (Value.int .i64 0) := p0.cell 6 rfl
    have d07 : W.drew.cell? ⟨B1 + 1, 7, none⟩ = some (Value.int .i64 0) := p0.cell 7 rfl
    have d08 : W.drew.cell? ⟨B1 + 1, 8, none⟩ = some (Value.int .i64 0) := p0.cell 8 rfl
    have g00 : W.drew.frozen? ⟨B1 + 1, 0, none⟩ = false := p0.frozen 0
    have g01 : W.drew.frozen? ⟨B1 + 1, 1, none⟩ = false := p0.frozen 1
    have g02 : W.drew.frozen? ⟨B1 + 1, 2, none⟩ = false := p0.frozen 2
    have g03 : W.drew.frozen? ⟨B1 + 1, 3, none⟩ = false := p0.frozen 3
    have g04 : W.drew.frozen? ⟨B1 + 1, 4, none⟩ = false := p0.frozen 4
    have g05 : W.drew.frozen? ⟨B1 + 1, 5, none⟩ = false := p0.frozen 5
    have g06 : W.drew.frozen? ⟨B1 + 1, 6, none⟩ = false := p0.frozen 6
    have g07 : W.drew.frozen? ⟨B1 + 1, 7, none⟩ = false := p0.frozen 7
    have g08 : W.drew.frozen? ⟨B1 + 1, 8, none⟩ = false := p0.frozen 8
    refine wp_region_held_drew (S := (fun w' => w'.cell? ⟨B1, 0, none⟩ = some (Value.int .i64 s.st) ∧ w'.cell? ⟨B1, 1, none⟩ = some (Value.int .i64 s.ow) ∧ w'.cell? ⟨B1, 2, none⟩ = some (Value.int .i64 s.sr) ∧ w'.cell? ⟨B1, 3, none⟩ = some (Value.bool s.br) ∧ w'.cell? ⟨B1, 4, none⟩ = some (Value.bool s.ma) ∧ w'.cell? ⟨B1, 5, none⟩ = some (Value.int .i64 s.us) ∧ w'.cell? ⟨B1, 6, none⟩ = some (Value.int .i64 s.ge) ∧ w'.cell? ⟨B1, 7, none⟩ = some (Value.int .i64 s.ep) ∧ w'.cell? ⟨B1, 8, none⟩ = some (Value.int .i64 s.ve) ∧ w'.cell? ⟨B1 + 2, 0, none⟩ = some (Value.int .i64 4) ∧ w'.cell? ⟨B1 + 2, 1, none⟩ = some (Value.int .i64 a) ∧ w'.cell? ⟨B1 + 2, 2, none⟩ = some (Value.int .i64 s.sr) ∧ w'.cell? ⟨B1 + 2, 3, none⟩ = some (Value.bool s.br) ∧ w'.cell? ⟨B1 + 2, 4, none⟩ = some (Value.bool false) ∧ w'.cell? ⟨B1 + 2, 5, none⟩ = some (Value.int .i64 s.us) ∧ w'.cell? ⟨B1 + 2, 6, none⟩ = some (Value.int .i64 s.ge) ∧ w'.cell? ⟨B1 + 2, 7, none⟩ = some (Value.int .i64 s.ep) ∧ w'.cell? ⟨B1 + 2, 8, none⟩ = some (Value.int .i64 s.ve))) (by kernel_rfl) ⟨c00, c01, c02, c03, c04, c05, c06, c07, c08, y00, y01, y02, y03, y04, y05, y06, y07, y08⟩ (fun hS => ?_)
    generalize W.drew = WD at *
    refine wpAnyH_take (i := 0) (oi := { dst := some 85, op := Op.load 23 (Operand.tmp 10), type := 23, pos := "ref.go:65", after := #[], guard := none }) (v := ?v0_101) rfl (by kernel_rfl) (by kernel_rfl) (by kernel_rfl) (fun _ _ _ h => h) (Or.inl ⟨by rfl, ?hy0_101⟩) hS ?rest0_101
    case hy0_101 =>
      intro w hSw
      (try dsimp only at hSw)
      go_simp
      try with_reducible rfl
    try simp only [Act.put, List.setIfInBounds_toArray, List.set_cons_zero, List.set_cons_succ]
    refine wpAnyH_take (i := 1) (oi := { dst := some 86, op := Op.fieldAddr 23 (Operand.tmp 4) 0, type := 0, pos := "ref.go:65", after := #[], guard := none }) (v := ?v1_102) rfl (by kernel_rfl) (by kernel_rfl) (by kernel_rfl) (fun _ _ _ h => h) (Or.inl ⟨by rfl, ?hy1_102⟩) hS ?rest1_102
    case hy1_102 =>
      intro w hSw
      (try dsimp only at hSw)
      go_simp
      try with_reducible rfl
    try simp only [Act.put, List.setIfInBounds_toArray, List.set_cons_zero, List.set_cons_succ]
    refine wpAnyH_take (i := 2) (oi := { dst := some 87, op := Op.load 3 (Operand.tmp 86), type := 3, pos := "ref.go:65", after := #[{ on := 1, ground := Ground.data }], guard := none }) (v := ?v2_103) rfl (by kernel_rfl) (by kernel_rfl) (by kernel_rfl) (fun _ _ _ h => h) (Or.inl ⟨by rfl, ?hy2_103⟩) hS ?rest2_103
    case hy2_103 =>
      intro w hSw
      (try dsimp only at hSw)
      go_simp
      try with_reducible rfl
    try simp only [Act.put, List.setIfInBounds_toArray, List.set_cons_zero, List.set_cons_succ]
    refine wpAnyH_take (i := 3) (oi := { dst := some 88, op := Op.binOp BinOp.eql 3 (Operand.tmp 87) (Operand.const (Value.int IntKind.i64 2)) 3, type := 4, pos := "ref.go:65", after := #[{ on := 2, ground := Ground.data }], guard := none }) (v := ?v3_104) rfl (by kernel_rfl) (by kernel_rfl) (by kernel_rfl) (fun _ _ _ h => h) (Or.inl ⟨by rfl, ?hy3_104⟩) hS ?rest3_104
    case hy3_104 =>
      intro w hSw
      (try dsimp only at hSw)
      go_simp
      try with_reducible rfl
    try simp only [Act.put, List.setIfInBounds_toArray, List.set_cons_zero, List.set_cons_succ]
    refine wpAnyH_take (i := 4) (oi := { dst := some 89, op := Op.move (Operand.tmp 88), type := 4, pos := "ref.go:65", after := #[{ on := 3, ground := Ground.data }], guard := none }) (v := ?v4_105) rfl (by kernel_rfl) (by kernel_rfl) (by kernel_rfl) (fun _ _ _ h => h) (Or.inl ⟨by rfl, ?hy4_105⟩) hS ?rest4_105
    case hy4_105 =>
      intro w hSw
      (try dsimp only at hSw)
      go_simp
      try with_reducible rfl
    try simp only [Act.put, List.setIfInBounds_toArray, List.set_cons_zero, List.set_cons_succ]
    refine wpAnyH_take (i := 5) (oi := { dst := some 90, op := Op.fieldAddr 23 (Operand.tmp 4) 3, type := 0, pos := "ref.go:65", after := #[{ on := 4, ground := Ground.guard }, { on := 9, ground := Ground.gcOnly Departure.lateStores }], guard := some (4, true) }) (v := ?v5_106) rfl (by kernel_rfl) (by kernel_rfl) (by kernel_rfl) (fun _ _ _ h => h) (Or.inl ⟨by rfl, ?hy5_106⟩) hS ?rest5_106
    case hy5_106 =>
      intro w hSw
      (try dsimp only at hSw)
      go_simp
      try with_reducible rfl
    try simp only [Act.put, List.setIfInBounds_toArray, List.set_cons_zero, List.set_cons_succ]
    refine wpAnyH_take (i := 6) (oi := { dst := some 91, op := Op.load 4 (Operand.tmp 90), type := 4, pos := "ref.go:65", after := #[{ on := 5, ground := Ground.data }, { on := 4, ground := Ground.guard }, { on := 9, ground := Ground.gcOnly Departure.lateStores }], guard := some (4, true) }) (v := ?v6_107) rfl (by kernel_rfl) (by kernel_rfl) (by kernel_rfl) (fun _ _ _ h => h) (Or.inl ⟨by rfl, ?hy6_107⟩) hS ?rest6_107
    case hy6_107 =>
      intro w hSw
      (try dsimp only at hSw)
      go_simp
      try with_reducible rfl
    try simp only [Act.put, List.setIfInBounds_toArray, List.set_cons_zero, List.set_cons_succ]
    refine wpAnyH_take (i := 7) (oi := { dst := some 92, op := Op.unOp UnOp.not 4 (Operand.tmp 91), type := 4, pos := "ref.go:65", after := #[{ on := 6, ground := Ground.data }, { on := 4, ground := Ground.guard }, { on := 9, ground := Ground.gcOnly Departure.lateStores }], guard := some (4, true) }) (v := ?v7_108) rfl (by kernel_rfl) (by kernel_rfl) (by kernel_rfl) (fun _ _ _ h => h) (Or.inl ⟨by rfl, ?hy7_108⟩) hS ?rest7_108
    case hy7_108 =>
      intro w hSw
      (try dsimp only at hSw)
      go_simp
      try with_reducible rfl
    try simp only [Act.put, List.setIfInBounds_toArray, List.set_cons_zero, List.set_cons_succ]
    refine wpAnyH_take (i := 8) (oi := { dst := some 93, op := Op.pick (Operand.tmp 89) (Operand.tmp 92) (Operand.const (Value.bool false)), type := 4, pos := "ref.go:65", after := #[{ on := 4, ground := Ground.data }, { on := 7, ground := Ground.data }, { on := 9, ground := Ground.gcOnly Departure.lateStores }], guard := none }) (v := ?v8_109) rfl (by kernel_rfl) (by kernel_rfl) (by kernel_rfl) (fun _ _ _ h => h) (Or.inl ⟨by rfl, ?hy8_109⟩) hS ?rest8_109
    case hy8_109 =>
      intro w hSw
      (try dsimp only at hSw)
      go_simp
      try with_reducible rfl
    try simp only [Act.put, List.setIfInBounds_toArray, List.set_cons_zero, List.set_cons_succ]
    refine wpAnyH_ready (rs := [9]) (by kernel_rfl) (by simp) ?_
    refine AllReadyH.cons (o := { dst := none, op := Op.store 23 (Operand.tmp 8) (Operand.tmp 85), type := 0, pos := "ref.go:65", after := #[{ on := 0, ground := Ground.data }, { on := 4, ground := Ground.chain }, { on := 0, ground := Ground.phase }, { on := 1, ground := Ground.textOnly Departure.lateStores }, { on := 2, ground := Ground.textOnly Departure.lateStores }, { on := 3, ground := Ground.textOnly Departure.lateStores }, { on := 4, ground := Ground.textOnly Departure.lateStores }, { on := 5, ground := Ground.textOnly Departure.lateStores }, { on := 6, ground := Ground.textOnly Departure.lateStores }, { on := 7, ground := Ground.textOnly Departure.lateStores }, { on := 8, ground := Ground.textOnly Departure.lateStores }], guard := none }) rfl (fun K hK => ?_) AllReadyH.nil
    go_simp
    refine hK.out _ _ (by (try dsimp only); go_keep) (fun hS => ?_)
    clear hK K
    try simp only [Act.put, List.setIfInBounds_toArray, List.set_cons_zero, List.set_cons_succ]
    refine wpAnyH_take (i := 10) (oi := { dst := some 9, op := Op.assign (Operand.tmp 93), type := 4, pos := "ref.go:65", after := #[{ on := 8, ground := Ground.data }, { on := 9, ground := Ground.chain }, { on := 0, ground := Ground.phase }, { on := 1, ground := Ground.phase }, { on := 2, ground := Ground.phase }, { on := 3, ground := Ground.phase }, { on := 4, ground := Ground.phase }, { on := 5, ground := Ground.phase }, { on := 6, ground := Ground.phase }, { on := 7, ground := Ground.phase }, { on := 8, ground := Ground.phase }, { on := 9, ground := Ground.phase }], guard := none }) (v := ?v10_110) rfl (by kernel_rfl) (by kernel_rfl) (by kernel_rfl) (fun _ _ _ h => h) (Or.inl ⟨by rfl, ?hy10_110⟩) hS ?rest10_110
    case hy10_110 =>
      intro w hSw
      (try dsimp only at hSw)
      go_simp
      try with_reducible rfl
    try simp only [Act.put, List.setIfInBounds_toArray, List.set_cons_zero, List.set_cons_succ]
    refine wpAnyH_done (by kernel_rfl) ?_ _
    have rz := row9 p0 (Value.int .i64 4) (Value.int .i64 a) (Value.int .i64 s.sr) (Value.bool s.br) (Value.bool false) (Value.int .i64 s.us) (Value.int .i64 s.ge) (Value.int .i64 s.ep) (Value.int .i64 s.ve)
    have hz := below9 (n := w.heap.size) (A := w) (b := B1 + 1) hB0 (by omega) (Value.int .i64 4) (Value.int .i64 a) (Value.int .i64 s.sr) (Value.bool s.br) (Value.bool false) (Value.int .i64 s.us) (Value.int .i64 s.ge) (Value.int .i64 s.ep) (Value.int .i64 s.ve)
    go_wp2
    refine bodyPost_ret (res_pair (p := 8) (u := 9) rfl _ _ _ _ rfl rz rfl) rfl ⟨ret_pair (by simp [rB, *]), hz⟩
  | false =>
    go_enter Tryd.func17, Tryd.ntmps17
    go_wp2_with fail
    have hB : Below w.heap.size w (((w.alloc (.cells #[Value.int .i64 s.st, Value.int .i64 s.ow, Value.int .i64 s.sr, Value.bool s.br, Value.bool s.ma, Value.int .i64 s.us, Value.int .i64 s.ge, Value.int .i64 s.ep, Value.int .i64 s.ve] 23)).alloc (.cells #[Value.int .i64 0, Value.int .i64 0, Value.int .i64 0, Value.bool false, Value.bool false, Value.int .i64 0, Value.int .i64 0, Value.int .i64 0, Value.int .i64 0] 23)).alloc (.cells #[Value.int .i64 4, Value.int .i64 a, Value.int .i64 s.sr, Value.bool s.br, Value.bool false, Value.int .i64 s.us, Value.int .i64 s.ge, Value.int .i64 s.ep, Value.int .i64 s.ve] 23)) := (((Below.refl _ _).alloc (Nat.le_refl _) _).alloc (by simp) _).alloc (by simp; omega) _
    have r0 := ((RowAt.new w 23 #[Value.int .i64 s.st, Value.int .i64 s.ow, Value.int .i64 s.sr, Value.bool s.br, Value.bool s.ma, Value.int .i64 s.us, Value.int .i64 s.ge, Value.int .i64 s.ep, Value.int .i64 s.ve]).alloc (.cells #[Value.int .i64 0, Value.int .i64 0, Value.int .i64 0, Value.bool false, Value.bool false, Value.int .i64 0, Value.int .i64 0, Value.int .i64 0, Value.int .i64 0] 23)).alloc (.cells #[Value.int .i64 4, Value.int .i64 a, Value.int .i64 s.sr, Value.bool s.br, Value.bool false, Value.int .i64 s.us, Value.int .i64 s.ge, Value.int .i64 s.ep, Value.int .i64 s.ve] 23)
    have r1 := (new2 w (.cells #[Value.int .i64 s.st, Value.int .i64 s.ow, Value.int .i64 s.sr, Value.bool s.br, Value.bool s.ma, Value.int .i64 s.us, Value.int .i64 s.ge, Value.int .i64 s.ep, Value.int .i64 s.ve] 23) 23 #[Value.int .i64 0, Value.int .i64 0, Value.int .i64 0, Value.bool false, Value.bool false, Value.int .i64 0, Value.int .i64 0, Value.int .i64 0, Value.int .i64 0]).alloc (.cells #[Value.int .i64 4, Value.int .i64 a, Value.int .i64 s.sr, Value.bool s.br, Value.bool false, Value.int .i64 s.us, Value.int .i64 s.ge, Value.int .i64 s.ep, Value.int .i64 s.ve] 23)
    have r2 := new3 w (.cells #[Value.int .i64 s.st, Value.int .i64 s.ow, Value.int .i64 s.sr, Value.bool s.br, Value.bool s.ma, Value.int .i64 s.us, Value.int .i64 s.ge, Value.int .i64 s.ep, Value.int .i64 s.ve] 23) (.cells #[Value.int .i64 0, Value.int .i64 0, Value.int .i64 0, Value.bool false, Value.bool false, Value.int .i64 0, Value.int .i64 0, Value.int .i64 0, Value.int .i64 0] 23) 23 #[Value.int .i64 4, Value.int .i64 a, Value.int .i64 s.sr, Value.bool s.br, Value.bool false, Value.int .i64 s.us, Value.int .i64 s.ge, Value.int .i64 s.ep, Value.int .i64 s.ve]
    obtain ⟨W, hW⟩ : ∃ W, W = ((w.alloc (.cells #[Value.int .i64 s.st, Value.int .i64 s.ow, Value.int .i64 s.sr, Value.bool s.br, Value.bool s.ma, Value.int .i64 s.us, Value.int .i64 s.ge, Value.int .i64 s.ep, Value.int .i64 s.ve] 23)).alloc (.cells #[Value.int .i64 0, Value.int .i64 0, Value.int .i64 0, Value.bool false, Value.bool false, Value.int .i64 0, Value.int .i64 0, Value.int .i64 0, Value.int .i64 0] 23)).alloc (.cells #[Value.int .i64 4, Value.int .i64 a, Value.int .i64 s.sr, Value.bool s.br, Value.bool false, Value.int .i64 s.us, Value.int .i64 s.ge, Value.int .i64 s.ep, Value.int .i64 s.ve] 23) := ⟨_, rfl⟩
    rw [← hW] at hB r0 r1 r2 ⊢
    clear hW
    obtain ⟨B1, e1⟩ : ∃ B1, B1 = w.heap.size := ⟨_, rfl⟩
    have hle : w.heap.size ≤ B1 := by omega
    rw [← e1] at r0 r1 r2 ⊢
    clear e1
    have hne : B1 ≠ B1 + 1 := by omega
    have hne2 : B1 + 2 ≠ B1 + 1 := by omega
    have q0 := r0.drew
    have p0 := r1.drew
    have u0 := r2.drew
    have hB0 := hB.drew
    clear hB r0 r1 r2
    have c00 : W.drew.cell? ⟨B1, 0, none⟩ = some (Value.int .i64 s.st) := q0.cell 0 rfl
    have c01 : W.drew.cell? ⟨B1, 1, none⟩ = some (Value.int .i64 s.ow) := q0.cell 1 rfl
    have c02 : W.drew.cell? ⟨B1, 2, none⟩ = some (Value.int .i64 s.sr) := q0.cell 2 rfl
    have c03 : W.drew.cell? ⟨B1, 3, none⟩ = some (Value.bool s.br) := q0.cell 3 rfl
    have c04 : W.drew.cell? ⟨B1, 4, none⟩ = some (Value.bool s.ma) := q0.cell 4 rfl
    have c05 : W.drew.cell? ⟨B1, 5, none⟩ = some (Value.int .i64 s.us) := q0.cell 5 rfl
    have c06 : W.drew.cell? ⟨B1, 6, none⟩ = some (Value.int .i64 s.ge) := q0.cell 6 rfl
    have c07 : W.drew.cell? ⟨B1, 7, none⟩ = some (Value.int .i64 s.ep) := q0.cell 7 rfl
    have c08 : W.drew.cell? ⟨B1, 8, none⟩ = some (Value.int .i64 s.ve) := q0.cell 8 rfl
    have y00 : W.drew.cell? ⟨B1 + 2, 0, none⟩ = some (Value.int .i64 4) := u0.cell 0 rfl
    have y01 : W.drew.cell? ⟨B1 + 2, 1, none⟩ = some (Value.int .i64 a) := u0.cell 1 rfl
    have y02 : W.drew.cell? ⟨B1 + 2, 2, none⟩ = some (Value.int .i64 s.sr) := u0.cell 2 rfl
    have y03 : W.drew.cell? ⟨B1 + 2, 3, none⟩ = some (Value.bool s.br) := u0.cell 3 rfl
    have y04 : W.drew.cell? ⟨B1 + 2, 4, none⟩ = some (Value.bool false) := u0.cell 4 rfl
    have y05 : W.drew.cell? ⟨B1 + 2, 5, none⟩ = some (Value.int .i64 s.us) := u0.cell 5 rfl
    have y06 : W.drew.cell? ⟨B1 + 2, 6, none⟩ = some (Value.int .i64 s.ge) := u0.cell 6 rfl
    have y07 : W.drew.cell? ⟨B1 + 2, 7, none⟩ = some (Value.int .i64 s.ep) := u0.cell 7 rfl
    have y08 : W.drew.cell? ⟨B1 + 2, 8, none⟩ = some (Value.int .i64 s.ve) := u0.cell 8 rfl
    have d00 : W.drew.cell? ⟨B1 + 1, 0, none⟩ = some (Value.int .i64 0) := p0.cell 0 rfl
    have d01 : W.drew.cell? ⟨B1 + 1, 1, none⟩ = some (Value.int .i64 0) := p0.cell 1 rfl
    have d02 : W.drew.cell? ⟨B1 + 1, 2, none⟩ = some (Value.int .i64 0) := p0.cell 2 rfl
    have d03 : W.drew.cell? ⟨B1 + 1, 3, none⟩ = some (Value.bool false) := p0.cell 3 rfl
    have d04 : W.drew.cell? ⟨B1 + 1, 4, none⟩ = some (Value.bool false) := p0.cell 4 rfl
    have d05 : W.drew.cell? ⟨B1 + 1, 5, none⟩ = some (Value.int .i64 0) := p0.cell 5 rfl
    have d06 : W.drew.cell? ⟨B1 + 1, 6, none⟩ = some (Value.int .i64 0) := p0.cell 6 rfl
    have d07 : W.drew.cell? ⟨B1 + 1, 7, none⟩ = some (Value.int .i64 0) := p0.cell 7 rfl
    have d08 : W.drew.cell? ⟨B1 + 1, 8, none⟩ = some (Value.int .i64 0) := p0.cell 8 rfl
    have g00 : W.drew.frozen? ⟨B1 + 1, 0, none⟩ = false := p0.frozen 0
    have g01 : W.drew.frozen? ⟨B1 + 1, 1, none⟩ = false := p0.frozen 1
    have g02 : W.drew.frozen? ⟨B1 + 1, 2, none⟩ = false := p0.frozen 2
    have g03 : W.drew.frozen? ⟨B1 + 1, 3, none⟩ = false := p0.frozen 3
    have g04 : W.drew.frozen? ⟨B1 + 1, 4, none⟩ = false := p0.frozen 4
    have g05 : W.drew.frozen? ⟨B1 + 1, 5, none⟩ = false := p0.frozen 5
    have g06 : W.drew.frozen? ⟨B1 + 1, 6, none⟩ = false := p0.frozen 6
    have g07 : W.drew.frozen? ⟨B1 + 1, 7, none⟩ = false := p0.frozen 7
    have g08 : W.drew.frozen? ⟨B1 + 1, 8, none⟩ = false := p0.frozen 8
    refine wp_region_held_drew (S := (fun w' => w'.cell? ⟨B1, 0, none⟩ = some (Value.int .i64 s.st) ∧ w'.cell? ⟨B1, 1, none⟩ = some (Value.int .i64 s.ow) ∧ w'.cell? ⟨B1, 2, none⟩ = some (Value.int .i64 s.sr) ∧ w'.cell? ⟨B1, 3, none⟩ = some (Value.bool s.br) ∧ w'.cell? ⟨B1, 4, none⟩ = some (Value.bool s.ma) ∧ w'.cell? ⟨B1, 5, none⟩ = some (Value.int .i64 s.us) ∧ w'.cell? ⟨B1, 6, none⟩ = some (Value.int .i64 s.ge) ∧ w'.cell? ⟨B1, 7, none⟩ = some (Value.int .i64 s.ep) ∧ w'.cell? ⟨B1, 8, none⟩ = some (Value.int .i64 s.ve) ∧ w'.cell? ⟨B1 + 2, 0, none⟩ = some (Value.int .i64 4) ∧ w'.cell? ⟨B1 + 2, 1, none⟩ = some (Value.int .i64 a) ∧ w'.cell? ⟨B1 + 2, 2, none⟩ = some (Value.int .i64 s.sr) ∧ w'.cell? ⟨B1 + 2, 3, none⟩ = some (Value.bool s.br) ∧ w'.cell? ⟨B1 + 2, 4, none⟩ = some (Value.bool false) ∧ w'.cell? ⟨B1 + 2, 5, none⟩ = some (Value.int .i64 s.us) ∧ w'.cell? ⟨B1 + 2, 6, none⟩ = some (Value.int .i64 s.ge) ∧ w'.cell? ⟨B1 + 2, 7, none⟩ = some (Value.int .i64 s.ep) ∧ w'.cell? ⟨B1 + 2, 8, none⟩ = some (Value.int .i64 s.ve))) (by kernel_rfl) ⟨c00, c01, c02, c03, c04, c05, c06, c07, c08, y00, y01, y02, y03, y04, y05, y06, y07, y08⟩ (fun hS => ?_)
    generalize W.drew = WD at *
    refine wpAnyH_take (i := 0) (oi := { dst := some 85, op := Op.load 23 (Operand.tmp 10), type := 23, pos := "ref.go:65", after := #[], guard := none }) (v := ?v0_111) rfl (by kernel_rfl) (by kernel_rfl) (by kernel_rfl) (fun _ _ _ h => h) (Or.inl ⟨by rfl, ?hy0_111⟩) hS ?rest0_111
    case hy0_111 =>
      intro w hSw
      (try dsimp only at hSw)
      go_simp
      try with_reducible rfl
    try simp only [Act.put, List.setIfInBounds_toArray, List.set_cons_zero, List.set_cons_succ]
    refine wpAnyH_take (i := 1) (oi := { dst := some 86, op := Op.fieldAddr 23 (Operand.tmp 4) 0, type := 0, pos := "ref.go:65", after := #[], guard := none }) (v := ?v1_112) rfl (by kernel_rfl) (by kernel_rfl) (by kernel_rfl) (fun _ _ _ h => h) (Or.inl ⟨by rfl, ?hy1_112⟩) hS ?rest1_112
    case hy1_112 =>
      intro w hSw
      (try dsimp only at hSw)
      go_simp
      try with_reducible rfl
    try simp only [Act.put, List.setIfInBounds_toArray, List.set_cons_zero, List.set_cons_succ]
    refine wpAnyH_take (i := 2) (oi := { dst := some 87, op := Op.load 3 (Operand.tmp 86), type := 3, pos := "ref.go:65", after := #[{ on := 1, ground := Ground.data }], guard := none }) (v := ?v2_113) rfl (by kernel_rfl) (by kernel_rfl) (by kernel_rfl) (fun _ _ _ h => h) (Or.inl ⟨by rfl, ?hy2_113⟩) hS ?rest2_113
    case hy2_113 =>
      intro w hSw
      (try dsimp only at hSw)
      go_simp
      try with_reducible rfl
    try simp only [Act.put, List.setIfInBounds_toArray, List.set_cons_zero, List.set_cons_succ]
    refine wpAnyH_take (i := 3) (oi := { dst := some 88, op := Op.binOp BinOp.eql 3 (Operand.tmp 87) (Operand.const (Value.int IntKind.i64 2)) 3, type := 4, pos := "ref.go:65", after := #[{ on := 2, ground := Ground.data }], guard := none }) (v := ?v3_114) rfl (by kernel_rfl) (by kernel_rfl) (by kernel_rfl) (fun _ _ _ h => h) (Or.inl ⟨by rfl, ?hy3_114⟩) hS ?rest3_114
    case hy3_114 =>
      intro w hSw
      (try dsimp only at hSw)
      go_simp
      try with_reducible rfl
    try simp only [Act.put, List.setIfInBounds_toArray, List.set_cons_zero, List.set_cons_succ]
    refine wpAnyH_take (i := 4) (oi := { dst := some 89, op := Op.move (Operand.tmp 88), type := 4, pos := "ref.go:65", after := #[{ on := 3, ground := Ground.data }], guard := none }) (v := ?v4_115) rfl (by kernel_rfl) (by kernel_rfl) (by kernel_rfl) (fun _ _ _ h => h) (Or.inl ⟨by rfl, ?hy4_115⟩) hS ?rest4_115
    case hy4_115 =>
      intro w hSw
      (try dsimp only at hSw)
      go_simp
      try with_reducible rfl
    try simp only [Act.put, List.setIfInBounds_toArray, List.set_cons_zero, List.set_cons_succ]
    refine wpAnyH_take (i := 5) (oi := { dst := some 90, op := Op.fieldAddr 23 (Operand.tmp 4) 3, type := 0, pos := "ref.go:65", after := #[{ on := 4, ground := Ground.guard }, { on := 9, ground := Ground.gcOnly Departure.lateStores }], guard := some (4, true) }) (v := undef) rfl (by kernel_rfl) (by kernel_rfl) (by kernel_rfl) (fun _ _ _ h => h) (Or.inr ⟨by rfl, rfl⟩) hS ?_
    try simp only [Act.put, List.setIfInBounds_toArray, List.set_cons_zero, List.set_cons_succ]
    refine wpAnyH_take (i := 6) (oi := { dst := some 91, op := Op.load 4 (Operand.tmp 90), type := 4, pos := "ref.go:65", after := #[{ on := 5, ground := Ground.data }, { on := 4, ground := Ground.guard }, { on := 9, ground := Ground.gcOnly Departure.lateStores }], guard := some (4, true) }) (v := undef) rfl (by kernel_rfl) (by kernel_rfl) (by kernel_rfl) (fun _ _ _ h => h) (Or.inr ⟨by rfl, rfl⟩) hS ?_
    try simp only [Act.put, List.setIfInBounds_toArray, List.set_cons_zero, List.set_cons_succ]
    refine wpAnyH_take (i := 7) (oi := { dst := some 92, op := Op.unOp UnOp.not 4 (Operand.tmp 91), type := 4, pos := "ref.go:65", after := #[{ on := 6, ground := Ground.data }, { on := 4, ground := Ground.guard }, { on := 9, ground := Ground.gcOnly Departure.lateStores }], guard := some (4, true) }) (v := undef) rfl (by kernel_rfl) (by kernel_rfl) (by kernel_rfl) (fun _ _ _ h => h) (Or.inr ⟨by rfl, rfl⟩) hS ?_
    try simp only [Act.put, List.setIfInBounds_toArray, List.set_cons_zero, List.set_cons_succ]
    refine wpAnyH_take (i := 8) (oi := { dst := some 93, op := Op.pick (Operand.tmp 89) (Operand.tmp 92) (Operand.const (Value.bool false)), type := 4, pos := "ref.go:65", after := #[{ on := 4, ground := Ground.data }, { on := 7, ground := Ground.data }, { on := 9, ground := Ground.gcOnly Departure.lateStores }], guard := none }) (v := ?v8_116) rfl (by kernel_rfl) (by kernel_rfl) (by kernel_rfl) (fun _ _ _ h => h) (Or.inl ⟨by rfl, ?hy8_116⟩) hS ?rest8_116
    case hy8_116 =>
      intro w hSw
      (try dsimp only at hSw)
      go_simp
      try with_reducible rfl
    try simp only [Act.put, List.setIfInBounds_toArray, List.set_cons_zero, List.set_cons_succ]
    refine wpAnyH_ready (rs := [9]) (by kernel_rfl) (by simp) ?_
    refine AllReadyH.cons (o := { dst := none, op := Op.store 23 (Operand.tmp 8) (Operand.tmp 85), type := 0, pos := "ref.go:65", after := #[{ on := 0, ground := Ground.data }, { on := 4, ground := Ground.chain }, { on := 0, ground := Ground.phase }, { on := 1, ground := Ground.textOnly Departure.lateStores }, { on := 2, ground := Ground.textOnly Departure.lateStores }, { on := 3, ground := Ground.textOnly Departure.lateStores }, { on := 4, ground := Ground.textOnly Departure.lateStores }, { on := 5, ground := Ground.textOnly Departure.lateStores }, { on := 6, ground := Ground.textOnly Departure.lateStores }, { on := 7, ground := Ground.textOnly Departure.lateStores }, { on := 8, ground := Ground.textOnly Departure.lateStores }], guard := none }) rfl (fun K hK => ?_) AllReadyH.nil
    go_simp
    refine hK.out _ _ (by (try dsimp only); go_keep) (fun hS => ?_)
    clear hK K
    try simp only [Act.put, List.setIfInBounds_toArray, List.set_cons_zero, List.set_cons_succ]
    refine wpAnyH_take (i := 10) (oi := { dst := some 9, op := Op.assign (Operand.tmp 93), type := 4, pos := "ref.go:65", after := #[{ on := 8, ground := Ground.data }, { on := 9, ground := Ground.chain }, { on := 0, ground := Ground.phase }, { on := 1, ground := Ground.phase }, { on := 2, ground := Ground.phase }, { on := 3, ground := Ground.phase }, { on := 4, ground := Ground.phase }, { on := 5, ground := Ground.phase }, { on := 6, ground := Ground.phase }, { on := 7, ground := Ground.phase }, { on := 8, ground := Ground.phase }, { on := 9, ground := Ground.phase }], guard := none }) (v := ?v10_117) rfl (by kernel_rfl) (by kernel_rfl) (by kernel_rfl) (fun _ _ _ h => h) (Or.inl ⟨by rfl, ?hy10_117⟩) hS ?rest10_117
    case hy10_117 =>
      intro w hSw
      (try dsimp only at hSw)
      go_simp
      try with_reducible rfl
    try simp only [Act.put, List.setIfInBounds_toArray, List.set_cons_zero, List.set_cons_succ]
    refine wpAnyH_done (by kernel_rfl) ?_ _
    have rz := row9 p0 (Value.int .i64 4) (Value.int .i64 a) (Value.int .i64 s.sr) (Value.bool s.br) (Value.bool false) (Value.int .i64 s.us) (Value.int .i64 s.ge) (Value.int .i64 s.ep) (Value.int .i64 s.ve)
    have hz := below9 (n := w.heap.size) (A := w) (b := B1 + 1) hB0 (by omega) (Value.int .i64 4) (Value.int .i64 a) (Value.int .i64 s.sr) (Value.bool s.br) (Value.bool false) (Value.int .i64 s.us) (Value.int .i64 s.ge) (Value.int .i64 s.ep) (Value.int .i64 s.ve)
    go_wp2
    refine bodyPost_ret (res_pair (p := 8) (u := 9) rfl _ _ _ _ rfl rz rfl) rfl ⟨ret_pair (by simp [rB, *]), hz⟩
set_option maxRecDepth 100000 in
set_option maxHeartbeats 4000000 in
theorem w6_any (s : Sl) (a mo : Int) (w : World) (_ : Rt s) :
    Calls Tryd.prog 17 #[Value.agg #[Value.int .i64 s.st, Value.int .i64 s.ow, Value.int .i64 s.sr, Value.bool s.br, Value.bool s.ma, Value.int .i64 s.us, Value.int .i64 s.ge, Value.int .i64 s.ep, Value.int .i64 s.ve], .int .i64 6, .int .i64 a, .int .i64 mo] w fun e w' => e = .returned (.tuple #[.agg #[Value.int .i64 (rS 6 s a mo).st, Value.int .i64 (rS 6 s a mo).ow, Value.int .i64 (rS 6 s a mo).sr, Value.bool (rS 6 s a mo).br, Value.bool (rS 6 s a mo).ma, Value.int .i64 (rS 6 s a mo).us, Value.int .i64 (rS 6 s a mo).ge, Value.int .i64 (rS 6 s a mo).ep, Value.int .i64 (rS 6 s a mo).ve], .bool (rB 6 s a mo)]) ∧ Below w.heap.size w w' := by
  go_enter Tryd.func17, Tryd.ntmps17
  go_wp2_with fail
  have hB : Below w.heap.size w (((w.alloc (.cells #[Value.int .i64 s.st, Value.int .i64 s.ow, Value.int .i64 s.sr, Value.bool s.br, Value.bool s.ma, Value.int .i64 s.us, Value.int .i64 s.ge, Value.int .i64 s.ep, Value.int .i64 s.ve] 23)).alloc (.cells #[Value.int .i64 0, Value.int .i64 0, Value.int .i64 0, Value.bool false, Value.bool false, Value.int .i64 0, Value.int .i64 0, Value.int .i64 0, Value.int .i64 0] 23)).alloc (.cells #[Value.int .i64 2, Value.int .i64 a, Value.int .i64 s.sr, Value.bool s.br, Value.bool s.ma, Value.int .i64 s.us, Value.int .i64 s.ge, Value.int .i64 s.ep, Value.int .i64 s.ve] 23)) := (((Below.refl _ _).alloc (Nat.le_refl _) _).alloc (by simp) _).alloc (by simp; omega) _
  have r0 := ((RowAt.new w 23 #[Value.int .i64 s.st, Value.int .i64 s.ow, Value.int .i64 s.sr, Value.bool s.br, Value.bool s.ma, Value.int .i64 s.us, Value.int .i64 s.ge, Value.int .i64 s.ep, Value.int .i64 s.ve]).alloc (.cells #[Value.int .i64 0, Value.int .i64 0, Value.int .i64 0, Value.bool false, Value.bool false, Value.int .i64 0, Value.int .i64 0, Value.int .i64 0, Value.int .i64 0] 23)).alloc (.cells #[Value.int .i64 2, Value.int .i64 a, Value.int .i64 s.sr, Value.bool s.br, Value.bool s.ma, Value.int .i64 s.us, Value.int .i64 s.ge, Value.int .i64 s.ep, Value.int .i64 s.ve] 23)
  have r1 := (new2 w (.cells #[Value.int .i64 s.st, Value.int .i64 s.ow, Value.int .i64 s.sr, Value.bool s.br, Value.bool s.ma, Value.int .i64 s.us, Value.int .i64 s.ge, Value.int .i64 s.ep, Value.int .i64 s.ve] 23) 23 #[Value.int .i64 0, Value.int .i64 0, Value.int .i64 0, Value.bool false, Value.bool false, Value.int .i64 0, Value.int .i64 0, Value.int .i64 0, Value.int .i64 0]).alloc (.cells #[Value.int .i64 2, Value.int .i64 a, Value.int .i64 s.sr, Value.bool s.br, Value.bool s.ma, Value.int .i64 s.us, Value.int .i64 s.ge, Value.int .i64 s.ep, Value.int .i64 s.ve] 23)
  have r2 := new3 w (.cells #[Value.int .i64 s.st, Value.int .i64 s.ow, Value.int .i64 s.sr, Value.bool s.br, Value.bool s.ma, Value.int .i64 s.us, Value.int .i64 s.ge, Value.int .i64 s.ep, Value.int .i64 s.ve] 23) (.cells #[Value.int .i64 0, Value.int .i64 0, Value.int .i64 0, Value.bool false, Value.bool false, Value.int .i64 0, Value.int .i64 0, Value.int .i64 0, Value.int .i64 0] 23) 23 #[Value.int .i64 2, Value.int .i64 a, Value.int .i64 s.sr, Value.bool s.br, Value.bool s.ma, Value.int .i64 s.us, Value.int .i64 s.ge, Value.int .i64 s.ep, Value.int .i64 s.ve]
  obtain ⟨W, hW⟩ : ∃ W, W = ((w.alloc (.cells #[Value.int .i64 s.st, Value.int .i64 s.ow, Value.int .i64 s.sr, Value.bool s.br, Value.bool s.ma, Value.int .i64 s.us, Value.int .i64 s.ge, Value.int .i64 s.ep, Value.int .i64 s.ve] 23)).alloc (.cells #[Value.int .i64 0, Value.int .i64 0, Value.int .i64 0, Value.bool false, Value.bool false, Value.int .i64 0, Value.int .i64 0, Value.int .i64 0, Value.int .i64 0] 23)).alloc (.cells #[Value.int .i64 2, Value.int .i64 a, Value.int .i64 s.sr, Value.bool s.br, Value.bool s.ma, Value.int .i64 s.us, Value.int .i64 s.ge, Value.int .i64 s.ep, Value.int .i64 s.ve] 23) := ⟨_, rfl⟩
  rw [← hW] at hB r0 r1 r2 ⊢
  clear hW
  obtain ⟨B1, e1⟩ : ∃ B1, B1 = w.heap.size := ⟨_, rfl⟩
  have hle : w.heap.size ≤ B1 := by omega
  rw [← e1] at r0 r1 r2 ⊢
  clear e1
  have hne : B1 ≠ B1 + 1 := by omega
  have hne2 : B1 + 2 ≠ B1 + 1 := by omega
  have q0 := r0.drew
  have p0 := r1.drew
  have u0 := r2.drew
  have hB0 := hB.drew
  clear hB r0 r1 r2
  have c00 : W.drew.cell? ⟨B1, 0, none⟩ = some (Value.int .i64 s.st) := q0.cell 0 rfl
  have c01 : W.drew.cell? ⟨B1, 1, none⟩ = some (Value.int .i64 s.ow) := q0.cell 1 rfl
  have c02 : W.drew.cell? ⟨B1, 2, none⟩ = some (Value.int .i64 s.sr) := q0.cell 2 rfl
  have c03 : W.drew.cell? ⟨B1, 3, none⟩ = some (Value.bool s.br) := q0.cell 3 rfl
  have c04 : W.drew.cell? ⟨B1, 4, none⟩ = some (Value.bool s.ma) := q0.cell 4 rfl
  have c05 : W.drew.cell? ⟨B1, 5, none⟩ = some (Value.int .i64 s.us) := q0.cell 5 rfl
  have c06 : W.drew.cell? ⟨B1, 6, none⟩ = some (Value.int .i64 s.ge) := q0.cell 6 rfl
  have c07 : W.drew.cell? ⟨B1, 7, none⟩ = some (Value.int .i64 s.ep) := q0.cell 7 rfl
  have c08 : W.drew.cell? ⟨B1, 8, none⟩ = some (Value.int .i64 s.ve) := q0.cell 8 rfl
  have y00 : W.drew.cell? ⟨B1 + 2, 0, none⟩ = some (Value.int .i64 2) := u0.cell 0 rfl
  have y01 : W.drew.cell? ⟨B1 + 2, 1, none⟩ = some (Value.int .i64 a) := u0.cell 1 rfl
  have y02 : W.drew.cell? ⟨B1 + 2, 2, none⟩ = some (Value.int .i64 s.sr) := u0.cell 2 rfl
  have y03 : W.drew.cell? ⟨B1 + 2, 3, none⟩ = some (Value.bool s.br) := u0.cell 3 rfl
  have y04 : W.drew.cell? ⟨B1 + 2, 4, none⟩ = some (Value.bool s.ma) := u0.cell 4 rfl
  have y05 : W.drew.cell? ⟨B1 + 2, 5, none⟩ = some (Value.int .i64 s.us) := u0.cell 5 rfl
  have y06 : W.drew.cell? ⟨B1 + 2, 6, none⟩ = some (Value.int .i64 s.ge) := u0.cell 6 rfl
  have y07 : W.drew.cell? ⟨B1 + 2, 7, none⟩ = some (Value.int .i64 s.ep) := u0.cell 7 rfl
  have y08 : W.drew.cell? ⟨B1 + 2, 8, none⟩ = some (Value.int .i64 s.ve) := u0.cell 8 rfl
  have d00 : W.drew.cell? ⟨B1 + 1, 0, none⟩ = some (Value.int .i64 0) := p0.cell 0 rfl
  have d01 : W.drew.cell? ⟨B1 + 1, 1, none⟩ = some (Value.int .i64 0) := p0.cell 1 rfl
  have d02 : W.drew.cell? ⟨B1 + 1, 2, none⟩ = some (Value.int .i64 0) := p0.cell 2 rfl
  have d03 : W.drew.cell? ⟨B1 + 1, 3, none⟩ = some (Value.bool false) := p0.cell 3 rfl
  have d04 : W.drew.cell? ⟨B1 + 1, 4, none⟩ = some (Value.bool false) := p0.cell 4 rfl
  have d05 : W.drew.cell? ⟨B1 + 1, 5, none⟩ = some (Value.int .i64 0) := p0.cell 5 rfl
  have d06 : W.drew.cell? ⟨B1 + 1, 6, none⟩ = some (Value.int .i64 0) := p0.cell 6 rfl
  have d07 : W.drew.cell? ⟨B1 + 1, 7, none⟩ = some (Value.int .i64 0) := p0.cell 7 rfl
  have d08 : W.drew.cell? ⟨B1 + 1, 8, none⟩ = some (Value.int .i64 0) := p0.cell 8 rfl
  have g00 : W.drew.frozen? ⟨B1 + 1, 0, none⟩ = false := p0.frozen 0
  have g01 : W.drew.frozen? ⟨B1 + 1, 1, none⟩ = false := p0.frozen 1
  have g02 : W.drew.frozen? ⟨B1 + 1, 2, none⟩ = false := p0.frozen 2
  have g03 : W.drew.frozen? ⟨B1 + 1, 3, none⟩ = false := p0.frozen 3
  have g04 : W.drew.frozen? ⟨B1 + 1, 4, none⟩ = false := p0.frozen 4
  have g05 : W.drew.frozen? ⟨B1 + 1, 5, none⟩ = false := p0.frozen 5
  have g06 : W.drew.frozen? ⟨B1 + 1, 6, none⟩ = false := p0.frozen 6
  have g07 : W.drew.frozen? ⟨B1 + 1, 7, none⟩ = false := p0.frozen 7
  have g08 : W.drew.frozen? ⟨B1 + 1, 8, none⟩ = false := p0.frozen 8
  refine wp_region_held_drew (S := (fun w' => w'.cell? ⟨B1, 0, none⟩ = some (Value.int .i64 s.st) ∧ w'.cell? ⟨B1, 1, none⟩ = some (Value.int .i64 s.ow) ∧ w'.cell? ⟨B1, 2, none⟩ = some (Value.int .i64 s.sr) ∧ w'.cell? ⟨B1, 3, none⟩ = some (Value.bool s.br) ∧ w'.cell? ⟨B1, 4, none⟩ = some (Value.bool s.ma) ∧ w'.cell? ⟨B1, 5, none⟩ = some (Value.int .i64 s.us) ∧ w'.cell? ⟨B1, 6, none⟩ = some (Value.int .i64 s.ge) ∧ w'.cell? ⟨B1, 7, none⟩ = some (Value.int .i64 s.ep) ∧ w'.cell? ⟨B1, 8, none⟩ = some (Value.int .i64 s.ve) ∧ w'.cell? ⟨B1 + 2, 0, none⟩ = some (Value.int .i64 2) ∧ w'.cell? ⟨B1 + 2, 1, none⟩ = some (Value.int .i64 a) ∧ w'.cell? ⟨B1 + 2, 2, none⟩ = some (Value.int .i64 s.sr) ∧ w'.cell? ⟨B1 + 2, 3, none⟩ = some (Value.bool s.br) ∧ w'.cell? ⟨B1 + 2, 4, none⟩ = some (Value.bool s.ma) ∧ w'.cell? ⟨B1 + 2, 5, none⟩ = some (Value.int .i64 s.us) ∧ w'.cell? ⟨B1 + 2, 6, none⟩ = some (Value.int .i64 s.ge) ∧ w'.cell? ⟨B1 + 2, 7, none⟩ = some (Value.int .i64 s.ep) ∧ w'.cell? ⟨B1 + 2, 8, none⟩ = some (Value.int .i64 s.ve))) (by kernel_rfl) ⟨c00, c01, c02, c03, c04, c05, c06, c07, c08, y00, y01, y02, y03, y04, y05, y06, y07, y08⟩ (fun hS => ?_)
  generalize W.drew = WD at *
  refine wpAnyH_take (i := 0) (oi := { dst := some 99, op := Op.load 23 (Operand.tmp 10), type := 23, pos := "ref.go:69", after := #[], guard := none }) (v := ?v0_118) rfl (by kernel_rfl) (by kernel_rfl) (by kernel_rfl) (fun _ _ _ h => h) (Or.inl ⟨by rfl, ?hy0_118⟩) hS ?rest0_118
  case hy0_118 =>
    intro w hSw
    (try dsimp only at hSw)
    go_simp
    try with_reducible rfl
  try simp only [Act.put, List.setIfInBounds_toArray, List.set_cons_zero, List.set_cons_succ]
  refine wpAnyH_take (i := 1) (oi := { dst := some 100, op := Op.fieldAddr 23 (Operand.tmp 4) 0, type := 0, pos := "ref.go:69", after := #[{ on := 4, ground := Ground.gcOnly Departure.lateStores }], guard := none }) (v := ?v1_119) rfl (by kernel_rfl) (by kernel_rfl) (by kernel_rfl) (fun _ _ _ h => h) (Or.inl ⟨by rfl, ?hy1_119⟩) hS ?rest1_119
  case hy1_119 =>
    intro w hSw
    (try dsimp only at hSw)
    go_simp
    try with_reducible rfl
  try simp only [Act.put, List.setIfInBounds_toArray, List.set_cons_zero, List.set_cons_succ]
  refine wpAnyH_take (i := 2) (oi := { dst := some 101, op := Op.load 3 (Operand.tmp 100), type := 3, pos := "ref.go:69", after := #[{ on := 1, ground := Ground.data }, { on := 4, ground := Ground.gcOnly Departure.lateStores }], guard := none }) (v := ?v2_120) rfl (by kernel_rfl) (by kernel_rfl) (by kernel_rfl) (fun _ _ _ h => h) (Or.inl ⟨by rfl, ?hy2_120⟩) hS ?rest2_120
  case hy2_120 =>
    intro w hSw
    (try dsimp only at hSw)
    go_simp
    try with_reducible rfl
  try simp only [Act.put, List.setIfInBounds_toArray, List.set_cons_zero, List.set_cons_succ]
  refine wpAnyH_take (i := 3) (oi := { dst := some 102, op := Op.binOp BinOp.eql 3 (Operand.tmp 101) (Operand.const (Value.int IntKind.i64 4)) 3, type := 4, pos := "ref.go:69", after := #[{ on := 2, ground := Ground.data }, { on := 4, ground := Ground.gcOnly Departure.lateStores }], guard := none }) (v := ?v3_121) rfl (by kernel_rfl) (by kernel_rfl) (by kernel_rfl) (fun _ _ _ h => h) (Or.inl ⟨by rfl, ?hy3_121⟩) hS ?rest3_121
  case hy3_121 =>
    intro w hSw
    (try dsimp only at hSw)
    go_simp
    try with_reducible rfl
  try simp only [Act.put, List.setIfInBounds_toArray, List.set_cons_zero, List.set_cons_succ]
  refine wpAnyH_ready (rs := [4]) (by kernel_rfl) (by simp) ?_
  refine AllReadyH.cons (o := { dst := none, op := Op.store 23 (Operand.tmp 8) (Operand.tmp 99), type := 0, pos := "ref.go:69", after := #[{ on := 0, ground := Ground.data }, { on := 0, ground := Ground.phase }, { on := 1, ground := Ground.textOnly Departure.lateStores }, { on := 2, ground := Ground.textOnly Departure.lateStores }, { on := 3, ground := Ground.textOnly Departure.lateStores }], guard := none }) rfl (fun K hK => ?_) AllReadyH.nil
  go_simp
  refine hK.out _ _ (by (try dsimp only); go_keep) (fun hS => ?_)
  clear hK K
  try simp only [Act.put, List.setIfInBounds_toArray, List.set_cons_zero, List.set_cons_succ]
  refine wpAnyH_take (i := 5) (oi := { dst := some 9, op := Op.assign (Operand.tmp 102), type := 4, pos := "ref.go:69", after := #[{ on := 3, ground := Ground.data }, { on := 4, ground := Ground.chain }, { on := 0, ground := Ground.phase }, { on := 1, ground := Ground.phase }, { on := 2, ground := Ground.phase }, { on := 3, ground := Ground.phase }, { on := 4, ground := Ground.phase }], guard := none }) (v := ?v5_122) rfl (by kernel_rfl) (by kernel_rfl) (by kernel_rfl) (fun _ _ _ h => h) (Or.inl ⟨by rfl, ?hy5_122⟩) hS ?rest5_122
  case hy5_122 =>
    intro w hSw
    (try dsimp only at hSw)
    go_simp
    try with_reducible rfl
  try simp only [Act.put, List.setIfInBounds_toArray, List.set_cons_zero, List.set_cons_succ]
  refine wpAnyH_done (by kernel_rfl) ?_ _
  have rz := row9 p0 (Value.int .i64 2) (Value.int .i64 a) (Value.int .i64 s.sr) (Value.bool s.br) (Value.bool s.ma) (Value.int .i64 s.us) (Value.int .i64 s.ge) (Value.int .i64 s.ep) (Value.int .i64 s.ve)
  have hz := below9 (n := w.heap.size) (A := w) (b := B1 + 1) hB0 (by omega) (Value.int .i64 2) (Value.int .i64 a) (Value.int .i64 s.sr) (Value.bool s.br) (Value.bool s.ma) (Value.int .i64 s.us) (Value.int .i64 s.ge) (Value.int .i64 s.ep) (Value.int .i64 s.ve)
  go_wp2
  refine bodyPost_ret (res_pair (p := 8) (u := 9) rfl _ _ _ _ rfl rz rfl) rfl ⟨rfl, hz⟩
set_option maxRecDepth 100000 in
set_option maxHeartbeats 4000000 in
theorem w7_any (s : Sl) (a mo : Int) (w : World) (_ : Rt s) :
    Calls Tryd.prog 17 #[Value.agg #[Value.int .i64 s.st, Value.int .i64 s.ow, Value.int .i64 s.sr, Value.bool s.br, Value.bool s.ma, Value.int .i64 s.us, Value.int .i64 s.ge, Value.int .i64 s.ep, Value.int .i64 s.ve], .int .i64 7, .int .i64 a, .int .i64 mo] w fun e w' => e = .returned (.tuple #[.agg #[Value.int .i64 (rS 7 s a mo).st, Value.int .i64 (rS 7 s a mo).ow, Value.int .i64 (rS 7 s a mo).sr, Value.bool (rS 7 s a mo).br, Value.bool (rS 7 s a mo).ma, Value.int .i64 (rS 7 s a mo).us, Value.int .i64 (rS 7 s a mo).ge, Value.int .i64 (rS 7 s a mo).ep, Value.int .i64 (rS 7 s a mo).ve], .bool (rB 7 s a mo)]) ∧ Below w.heap.size w w' := by
  go_enter Tryd.func17, Tryd.ntmps17
  go_wp2_with fail
  have hB : Below w.heap.size w (((w.alloc (.cells #[Value.int .i64 s.st, Value.int .i64 s.ow, Value.int .i64 s.sr, Value.bool s.br, Value.bool s.ma, Value.int .i64 s.us, Value.int .i64 s.ge, Value.int .i64 s.ep, Value.int .i64 s.ve] 23)).alloc (.cells #[Value.int .i64 0, Value.int .i64 0, Value.int .i64 0, Value.bool false, Value.bool false, Value.int .i64 0, Value.int .i64 0, Value.int .i64 0, Value.int .i64 0] 23)).alloc (.cells #[Value.int .i64 s.st, Value.int .i64 s.ow, Value.int .i64 s.sr, Value.bool s.br, Value.bool s.ma, Value.int .i64 s.us, Value.int .i64 s.ge, Value.int .i64 s.ep, Value.int .i64 s.ve] 23)) := (((Below.refl _ _).alloc (Nat.le_refl _) _).alloc (by simp) _).alloc (by simp; omega) _
  have r0 := ((RowAt.new w 23 #[Value.int .i64 s.st, Value.int .i64 s.ow, Value.int .i64 s.sr, Value.bool s.br, Value.bool s.ma, Value.int .i64 s.us, Value.int .i64 s.ge, Value.int .i64 s.ep, Value.int .i64 s.ve]).alloc (.cells #[Value.int .i64 0, Value.int .i64 0, Value.int .i64 0, Value.bool false, Value.bool false, Value.int .i64 0, Value.int .i64 0, Value.int .i64 0, Value.int .i64 0] 23)).alloc (.cells #[Value.int .i64 s.st, Value.int .i64 s.ow, Value.int .i64 s.sr, Value.bool s.br, Value.bool s.ma, Value.int .i64 s.us, Value.int .i64 s.ge, Value.int .i64 s.ep, Value.int .i64 s.ve] 23)
  have r1 := (new2 w (.cells #[Value.int .i64 s.st, Value.int .i64 s.ow, Value.int .i64 s.sr, Value.bool s.br, Value.bool s.ma, Value.int .i64 s.us, Value.int .i64 s.ge, Value.int .i64 s.ep, Value.int .i64 s.ve] 23) 23 #[Value.int .i64 0, Value.int .i64 0, Value.int .i64 0, Value.bool false, Value.bool false, Value.int .i64 0, Value.int .i64 0, Value.int .i64 0, Value.int .i64 0]).alloc (.cells #[Value.int .i64 s.st, Value.int .i64 s.ow, Value.int .i64 s.sr, Value.bool s.br, Value.bool s.ma, Value.int .i64 s.us, Value.int .i64 s.ge, Value.int .i64 s.ep, Value.int .i64 s.ve] 23)
  have r2 := new3 w (.cells #[Value.int .i64 s.st, Value.int .i64 s.ow, Value.int .i64 s.sr, Value.bool s.br, Value.bool s.ma, Value.int .i64 s.us, Value.int .i64 s.ge, Value.int .i64 s.ep, Value.int .i64 s.ve] 23) (.cells #[Value.int .i64 0, Value.int .i64 0, Value.int .i64 0, Value.bool false, Value.bool false, Value.int .i64 0, Value.int .i64 0, Value.int .i64 0, Value.int .i64 0] 23) 23 #[Value.int .i64 s.st, Value.int .i64 s.ow, Value.int .i64 s.sr, Value.bool s.br, Value.bool s.ma, Value.int .i64 s.us, Value.int .i64 s.ge, Value.int .i64 s.ep, Value.int .i64 s.ve]
  obtain ⟨W, hW⟩ : ∃ W, W = ((w.alloc (.cells #[Value.int .i64 s.st, Value.int .i64 s.ow, Value.int .i64 s.sr, Value.bool s.br, Value.bool s.ma, Value.int .i64 s.us, Value.int .i64 s.ge, Value.int .i64 s.ep, Value.int .i64 s.ve] 23)).alloc (.cells #[Value.int .i64 0, Value.int .i64 0, Value.int .i64 0, Value.bool false, Value.bool false, Value.int .i64 0, Value.int .i64 0, Value.int .i64 0, Value.int .i64 0] 23)).alloc (.cells #[Value.int .i64 s.st, Value.int .i64 s.ow, Value.int .i64 s.sr, Value.bool s.br, Value.bool s.ma, Value.int .i64 s.us, Value.int .i64 s.ge, Value.int .i64 s.ep, Value.int .i64 s.ve] 23) := ⟨_, rfl⟩
  rw [← hW] at hB r0 r1 r2 ⊢
  clear hW
  obtain ⟨B1, e1⟩ : ∃ B1, B1 = w.heap.size := ⟨_, rfl⟩
  have hle : w.heap.size ≤ B1 := by omega
  rw [← e1] at r0 r1 r2 ⊢
  clear e1
  have hne : B1 ≠ B1 + 1 := by omega
  have hne2 : B1 + 2 ≠ B1 + 1 := by omega
  have q0 := r0.drew
  have p0 := r1.drew
  have u0 := r2.drew
  have hB0 := hB.drew
  clear hB r0 r1 r2
  have c00 : W.drew.cell? ⟨B1, 0, none⟩ = some (Value.int .i64 s.st) := q0.cell 0 rfl
  have c01 : W.drew.cell? ⟨B1, 1, none⟩ = some (Value.int .i64 s.ow) := q0.cell 1 rfl
  have c02 : W.drew.cell? ⟨B1, 2, none⟩ = some (Value.int .i64 s.sr) := q0.cell 2 rfl
  have c03 : W.drew.cell? ⟨B1, 3, none⟩ = some (Value.bool s.br) := q0.cell 3 rfl
  have c04 : W.drew.cell? ⟨B1, 4, none⟩ = some (Value.bool s.ma) := q0.cell 4 rfl
  have c05 : W.drew.cell? ⟨B1, 5, none⟩ = some (Value.int .i64 s.us) := q0.cell 5 rfl
  have c06 : W.drew.cell? ⟨B1, 6, none⟩ = some (Value.int .i64 s.ge) := q0.cell 6 rfl
  have c07 : W.drew.cell? ⟨B1, 7, none⟩ = some (Value.int .i64 s.ep) := q0.cell 7 rfl
  have c08 : W.drew.cell? ⟨B1, 8, none⟩ = some (Value.int .i64 s.ve) := q0.cell 8 rfl
  have d00 : W.drew.cell? ⟨B1 + 1, 0, none⟩ = some (Value.int .i64 0) := p0.cell 0 rfl
  have d01 : W.drew.cell? ⟨B1 + 1, 1, none⟩ = some (Value.int .i64 0) := p0.cell 1 rfl
  have d02 : W.drew.cell? ⟨B1 + 1, 2, none⟩ = some (Value.int .i64 0) := p0.cell 2 rfl
  have d03 : W.drew.cell? ⟨B1 + 1, 3, none⟩ = some (Value.bool false) := p0.cell 3 rfl
  have d04 : W.drew.cell? ⟨B1 + 1, 4, none⟩ = some (Value.bool false) := p0.cell 4 rfl
  have d05 : W.drew.cell? ⟨B1 + 1, 5, none⟩ = some (Value.int .i64 0) := p0.cell 5 rfl
  have d06 : W.drew.cell? ⟨B1 + 1, 6, none⟩ = some (Value.int .i64 0) := p0.cell 6 rfl
  have d07 : W.drew.cell? ⟨B1 + 1, 7, none⟩ = some (Value.int .i64 0) := p0.cell 7 rfl
  have d08 : W.drew.cell? ⟨B1 + 1, 8, none⟩ = some (Value.int .i64 0) := p0.cell 8 rfl
  have g00 : W.drew.frozen? ⟨B1 + 1, 0, none⟩ = false := p0.frozen 0
  have g01 : W.drew.frozen? ⟨B1 + 1, 1, none⟩ = false := p0.frozen 1
  have g02 : W.drew.frozen? ⟨B1 + 1, 2, none⟩ = false := p0.frozen 2
  have g03 : W.drew.frozen? ⟨B1 + 1, 3, none⟩ = false := p0.frozen 3
  have g04 : W.drew.frozen? ⟨B1 + 1, 4, none⟩ = false := p0.frozen 4
  have g05 : W.drew.frozen? ⟨B1 + 1, 5, none⟩ = false := p0.frozen 5
  have g06 : W.drew.frozen? ⟨B1 + 1, 6, none⟩ = false := p0.frozen 6
  have g07 : W.drew.frozen? ⟨B1 + 1, 7, none⟩ = false := p0.frozen 7
  have g08 : W.drew.frozen? ⟨B1 + 1, 8, none⟩ = false := p0.frozen 8
  refine wp_region_held_drew (S := (fun w' => w'.cell? ⟨B1, 0, none⟩ = some (Value.int .i64 s.st) ∧ w'.cell? ⟨B1, 1, none⟩ = some (Value.int .i64 s.ow) ∧ w'.cell? ⟨B1, 2, none⟩ = some (Value.int .i64 s.sr) ∧ w'.cell? ⟨B1, 3, none⟩ = some (Value.bool s.br) ∧ w'.cell? ⟨B1, 4, none⟩ = some (Value.bool s.ma) ∧ w'.cell? ⟨B1, 5, none⟩ = some (Value.int .i64 s.us) ∧ w'.cell? ⟨B1, 6, none⟩ = some (Value.int .i64 s.ge) ∧ w'.cell? ⟨B1, 7, none⟩ = some (Value.int .i64 s.ep) ∧ w'.cell? ⟨B1, 8, none⟩ = some (Value.int .i64 s.ve))) (by kernel_rfl) ⟨c00, c01, c02, c03, c04, c05, c06, c07, c08⟩ (fun hS => ?_)
  generalize W.drew = WD at *
  refine wpAnyH_take (i := 0) (oi := { dst := some 105, op := Op.load 23 (Operand.tmp 4), type := 23, pos := "ref.go:71", after := #[], guard := none }) (v := ?v0_123) rfl (by kernel_rfl) (by kernel_rfl) (by kernel_rfl) (fun _ _ _ h => h) (Or.inl ⟨by rfl, ?hy0_123⟩) hS ?rest0_123
  case hy0_123 =>
    intro w hSw
    (try dsimp only at hSw)
    go_simp
    try with_reducible rfl
  try simp only [Act.put, List.setIfInBounds_toArray, List.set_cons_zero, List.set_cons_succ]
  refine wpAnyH_take (i := 1) (oi := { dst := some 106, op := Op.move (Operand.tmp 2), type := 3, pos := "ref.go:71", after := #[], guard := none }) (v := ?v1_124) rfl (by kernel_rfl) (by kernel_rfl) (by kernel_rfl) (fun _ _ _ h => h) (Or.inl ⟨by rfl, ?hy1_124⟩) hS ?rest1_124
  case hy1_124 =>
    intro w hSw
    (try dsimp only at hSw)
    go_simp
    try with_reducible rfl
  try simp only [Act.put, List.setIfInBounds_toArray, List.set_cons_zero, List.set_cons_succ]
  refine wpAnyH_take (i := 3) (oi := { dst := some 108, op := Op.fieldAddr 23 (Operand.tmp 4) 0, type := 0, pos := "ref.go:71", after := #[{ on := 6, ground := Ground.gcOnly Departure.lateStores }], guard := none }) (v := ?v3_125) rfl (by kernel_rfl) (by kernel_rfl) (by kernel_rfl) (fun _ _ _ h => h) (Or.inl ⟨by rfl, ?hy3_125⟩) hS ?rest3_125
  case hy3_125 =>
    intro w hSw
    (try dsimp only at hSw)
    go_simp
    try with_reducible rfl
  try simp only [Act.put, List.setIfInBounds_toArray, List.set_cons_zero, List.set_cons_succ]
  refine wpAnyH_take (i := 4) (oi := { dst := some 109, op := Op.load 3 (Operand.tmp 108), type := 3, pos := "ref.go:71", after := #[{ on := 3, ground := Ground.data }, { on := 6, ground := Ground.gcOnly Departure.lateStores }], guard := none }) (v := ?v4_126) rfl (by kernel_rfl) (by kernel_rfl) (by kernel_rfl) (fun _ _ _ h => h) (Or.inl ⟨by rfl, ?hy4_126⟩) hS ?rest4_126
  case hy4_126 =>
    intro w hSw
    (try dsimp only at hSw)
    go_simp
    try with_reducible rfl
  try simp only [Act.put, List.setIfInBounds_toArray, List.set_cons_zero, List.set_cons_succ]
  refine wpAnyH_take (i := 5) (oi := { dst := some 110, op := Op.binOp BinOp.eql 3 (Operand.tmp 109) (Operand.const (Value.int IntKind.i64 0)) 3, type := 4, pos := "ref.go:71", after := #[{ on := 4, ground := Ground.data }, { on := 6, ground := Ground.gcOnly Departure.lateStores }], guard := none }) (v := ?v5_127) rfl (by kernel_rfl) (by kernel_rfl) (by kernel_rfl) (fun _ _ _ h => h) (Or.inl ⟨by rfl, ?hy5_127⟩) hS ?rest5_127
  case hy5_127 =>
    intro w hSw
    (try dsimp only at hSw)
    go_simp
    try with_reducible rfl
  try simp only [Act.put, List.setIfInBounds_toArray, List.set_cons_zero, List.set_cons_succ]
  refine wpAnyH_ready (rs := [2]) (by kernel_rfl) (by simp) ?_
  refine AllReadyH.cons (o := { dst := some 107, op := Op.call { callee := Callee.value (Operand.func 39), args := #[Operand.tmp 105, Operand.const (Value.int IntKind.i64 5), Operand.tmp 106], argTypes := #[23, 3, 3] }, type := 23, pos := "ref.go:71", after := #[{ on := 0, ground := Ground.data }, { on := 1, ground := Ground.data }], guard := none }) rfl (fun K hK => ?_) AllReadyH.nil
  go_simp
  refine (plain_any s 5 a _).mono ?_
  rintro e w1 ⟨rfl, hb⟩
  have q1 := q0.below hb q0.lt
  have p1 := p0.below hb p0.lt
  have u1 := u0.below hb u0.lt
  have hB1 := hB0.trans (hb.mono hB0.size)
  clear hb
  have c10 : w1.cell? ⟨B1, 0, none⟩ = some (Value.int .i64 s.st) := q1.cell 0 rfl
  have c11 : w1.cell? ⟨B1, 1, none⟩ = some (Value.int .i64 s.ow) := q1.cell 1 rfl
  have c12 : w1.cell? ⟨B1, 2, none⟩ = some (Value.int .i64 s.sr) := q1.cell 2 rfl
  have c13 : w1.cell? ⟨B1, 3, none⟩ = some (Value.bool s.br) := q1.cell 3 rfl
  have c14 : w1.cell? ⟨B1, 4, none⟩ = some (Value.bool s.ma) := q1.cell 4 rfl
  have c15 : w1.cell? ⟨B1, 5, none⟩ = some (Value.int .i64 s.us) := q1.cell 5 rfl
  have c16 : w1.cell? ⟨B1, 6, none⟩ = some (Value.int .i64 s.ge) := q1.cell 6 rfl
  have c17 : w1.cell? ⟨B1, 7, none⟩ = some (Value.int .i64 s.ep) := q1.cell 7 rfl
  have c18 : w1.cell? ⟨B1, 8, none⟩ = some (Value.int .i64 s.ve) := q1.cell 8 rfl
  have d10 : w1.cell? ⟨B1 + 1, 0, none⟩ = some (Value.int .i64 0) := p1.cell 0 rfl
  have d11 : w1.cell? ⟨B1 + 1, 1, none⟩ = some (Value.int .i64 0) := p1.cell 1 rfl
  have d12 : w1.cell? ⟨B1 + 1, 2, none⟩ = some (Value.int .i64 0) := p1.cell 2 rfl
  have d13 : w1.cell? ⟨B1 + 1, 3, none⟩ = some (Value.bool false) := p1.cell 3 rfl
  have d14 : w1.cell? ⟨B1 + 1, 4, none⟩ = some (Value.bool false) := p1.cell 4 rfl
  have d15 : w1.cell? ⟨B1 + 1, 5, none⟩ = some (Value.int .i64 0) := p1.cell 5 rfl
  have d16 : w1.cell? ⟨B1 + 1, 6, none⟩ = some (Value.int .i64 0) := p1.cell 6 rfl
  have d17 : w1.cell? ⟨B1 + 1, 7, none⟩ = some (Value.int .i64 0) := p1.cell 7 rfl
  have d18 : w1.cell? ⟨B1 + 1, 8, none⟩ = some (Value.int .i64 0) := p1.cell 8 rfl
  have g10 : w1.frozen? ⟨B1 + 1, 0, none⟩ = false := p1.frozen 0
  have g11 : w1.frozen? ⟨B1 + 1, 1, none⟩ = false := p1.frozen 1
  have g12 : w1.frozen? ⟨B1 + 1, 2, none⟩ = false := p1.frozen 2
  have g13 : w1.frozen? ⟨B1 + 1, 3, none⟩ = false := p1.frozen 3
  have g14 : w1.frozen? ⟨B1 + 1, 4, none⟩ = false := p1.frozen 4
  have g15 : w1.frozen? ⟨B1 + 1, 5, none⟩ = false := p1.frozen 5
  have g16 : w1.frozen? ⟨B1 + 1, 6, none⟩ = false := p1.frozen 6
  have g17 : w1.frozen? ⟨B1 + 1, 7, none⟩ = false := p1.frozen 7
  have g18 : w1.frozen? ⟨B1 + 1, 8, none⟩ = false := p1.frozen 8
  refine hK.out _ _ ⟨c10, c11, c12, c13, c14, c15, c16, c17, c18⟩ (fun hS => ?_)
  clear hK K
  try simp only [Act.put, List.setIfInBounds_toArray, List.set_cons_zero, List.set_cons_succ]
  refine wpAnyH_ready (rs := [6]) (by kernel_rfl) (by simp) ?_
  refine AllReadyH.cons (o := { dst := none, op := Op.store 23 (Operand.tmp 8) (Operand.tmp 107), type := 0, pos := "ref.go:71", after := #[{ on := 2, ground := Ground.data }, { on := 2, ground := Ground.chain }, { on := 0, ground := Ground.phase }, { on := 1, ground := Ground.phase }, { on := 2, ground := Ground.phase }, { on := 3, ground := Ground.textOnly Departure.lateStores }, { on := 4, ground := Ground.textOnly Departure.lateStores }, { on := 5, ground := Ground.textOnly Departure.lateStores }], guard := none }) rfl (fun K hK => ?_) AllReadyH.nil
  go_simp
  refine hK.out _ _ (by (try dsimp only); go_keep) (fun hS => ?_)
  clear hK K
  try simp only [Act.put, List.setIfInBounds_toArray, List.set_cons_zero, List.set_cons_succ]
  refine wpAnyH_take (i := 7) (oi := { dst := some 9, op := Op.assign (Operand.tmp 110), type := 4, pos := "ref.go:71", after := #[{ on := 5, ground := Ground.data }, { on := 6, ground := Ground.chain }, { on := 0, ground := Ground.phase }, { on := 1, ground := Ground.phase }, { on := 2, ground := Ground.phase }, { on := 3, ground := Ground.phase }, { on := 4, ground := Ground.phase }, { on := 5, ground := Ground.phase }, { on := 6, ground := Ground.phase }], guard := none }) (v := ?v7_128) rfl (by kernel_rfl) (by kernel_rfl) (by kernel_rfl) (fun _ _ _ h => h) (Or.inl ⟨by rfl, ?hy7_128⟩) hS ?rest7_128
  case hy7_128 =>
    intro w hSw
    (try dsimp only at hSw)
    go_simp
    try with_reducible rfl
  try simp only [Act.put, List.setIfInBounds_toArray, List.set_cons_zero, List.set_cons_succ]
  refine wpAnyH_done (by kernel_rfl) ?_ _
  have rz := row9 p1 (Value.int .i64 (s.plain 5 a).st) (Value.int .i64 (s.plain 5 a).ow) (Value.int .i64 (s.plain 5 a).sr) (Value.bool (s.plain 5 a).br) (Value.bool (s.plain 5 a).ma) (Value.int .i64 (s.plain 5 a).us) (Value.int .i64 (s.plain 5 a).ge) (Value.int .i64 (s.plain 5 a).ep) (Value.int .i64 (s.plain 5 a).ve)
  have hz := below9 (n := w.heap.size) (A := w) (b := B1 + 1) hB1 (by omega) (Value.int .i64 (s.plain 5 a).st) (Value.int .i64 (s.plain 5 a).ow) (Value.int .i64 (s.plain 5 a).sr) (Value.bool (s.plain 5 a).br) (Value.bool (s.plain 5 a).ma) (Value.int .i64 (s.plain 5 a).us) (Value.int .i64 (s.plain 5 a).ge) (Value.int .i64 (s.plain 5 a).ep) (Value.int .i64 (s.plain 5 a).ve)
  go_wp2
  refine bodyPost_ret (res_pair (p := 8) (u := 9) rfl _ _ _ _ rfl rz rfl) rfl ⟨rfl, hz⟩
set_option maxRecDepth 100000 in
set_option maxHeartbeats 4000000 in
theorem w8_any (s : Sl) (a mo : Int) (w : World) (_ : Rt s) :
    Calls Tryd.prog 17 #[Value.agg #[Value.int .i64 s.st, Value.int .i64 s.ow, Value.int .i64 s.sr, Value.bool s.br, Value.bool s.ma, Value.int .i64 s.us, Value.int .i64 s.ge, Value.int .i64 s.ep, Value.int .i64 s.ve], .int .i64 8, .int .i64 a, .int .i64 mo] w fun e w' => e = .returned (.tuple #[.agg #[Value.int .i64 (rS 8 s a mo).st, Value.int .i64 (rS 8 s a mo).ow, Value.int .i64 (rS 8 s a mo).sr, Value.bool (rS 8 s a mo).br, Value.bool (rS 8 s a mo).ma, Value.int .i64 (rS 8 s a mo).us, Value.int .i64 (rS 8 s a mo).ge, Value.int .i64 (rS 8 s a mo).ep, Value.int .i64 (rS 8 s a mo).ve], .bool (rB 8 s a mo)]) ∧ Below w.heap.size w w' := by
  go_enter Tryd.func17, Tryd.ntmps17
  go_wp2_with fail
  have hB : Below w.heap.size w (((w.alloc (.cells #[Value.int .i64 s.st, Value.int .i64 s.ow, Value.int .i64 s.sr, Value.bool s.br, Value.bool s.ma, Value.int .i64 s.us, Value.int .i64 s.ge, Value.int .i64 s.ep, Value.int .i64 s.ve] 23)).alloc (.cells #[Value.int .i64 0, Value.int .i64 0, Value.int .i64 0, Value.bool false, Value.bool false, Value.int .i64 0, Value.int .i64 0, Value.int .i64 0, Value.int .i64 0] 23)).alloc (.cells #[Value.int .i64 s.st, Value.int .i64 s.ow, Value.int .i64 s.sr, Value.bool s.br, Value.bool s.ma, Value.int .i64 s.us, Value.int .i64 s.ge, Value.int .i64 s.ep, Value.int .i64 s.ve] 23)) := (((Below.refl _ _).alloc (Nat.le_refl _) _).alloc (by simp) _).alloc (by simp; omega) _
  have r0 := ((RowAt.new w 23 #[Value.int .i64 s.st, Value.int .i64 s.ow, Value.int .i64 s.sr, Value.bool s.br, Value.bool s.ma, Value.int .i64 s.us, Value.int .i64 s.ge, Value.int .i64 s.ep, Value.int .i64 s.ve]).alloc (.cells #[Value.int .i64 0, Value.int .i64 0, Value.int .i64 0, Value.bool false, Value.bool false, Value.int .i64 0, Value.int .i64 0, Value.int .i64 0, Value.int .i64 0] 23)).alloc (.cells #[Value.int .i64 s.st, Value.int .i64 s.ow, Value.int .i64 s.sr, Value.bool s.br, Value.bool s.ma, Value.int .i64 s.us, Value.int .i64 s.ge, Value.int .i64 s.ep, Value.int .i64 s.ve] 23)
  have r1 := (new2 w (.cells #[Value.int .i64 s.st, Value.int .i64 s.ow, Value.int .i64 s.sr, Value.bool s.br, Value.bool s.ma, Value.int .i64 s.us, Value.int .i64 s.ge, Value.int .i64 s.ep, Value.int .i64 s.ve] 23) 23 #[Value.int .i64 0, Value.int .i64 0, Value.int .i64 0, Value.bool false, Value.bool false, Value.int .i64 0, Value.int .i64 0, Value.int .i64 0, Value.int .i64 0]).alloc (.cells #[Value.int .i64 s.st, Value.int .i64 s.ow, Value.int .i64 s.sr, Value.bool s.br, Value.bool s.ma, Value.int .i64 s.us, Value.int .i64 s.ge, Value.int .i64 s.ep, Value.int .i64 s.ve] 23)
  have r2 := new3 w (.cells #[Value.int .i64 s.st, Value.int .i64 s.ow, Value.int .i64 s.sr, Value.bool s.br, Value.bool s.ma, Value.int .i64 s.us, Value.int .i64 s.ge, Value.int .i64 s.ep, Value.int .i64 s.ve] 23) (.cells #[Value.int .i64 0, Value.int .i64 0, Value.int .i64 0, Value.bool false, Value.bool false, Value.int .i64 0, Value.int .i64 0, Value.int .i64 0, Value.int .i64 0] 23) 23 #[Value.int .i64 s.st, Value.int .i64 s.ow, Value.int .i64 s.sr, Value.bool s.br, Value.bool s.ma, Value.int .i64 s.us, Value.int .i64 s.ge, Value.int .i64 s.ep, Value.int .i64 s.ve]
  obtain ⟨W, hW⟩ : ∃ W, W = ((w.alloc (.cells #[Value.int .i64 s.st, Value.int .i64 s.ow, Value.int .i64 s.sr, Value.bool s.br, Value.bool s.ma, Value.int .i64 s.us, Value.int .i64 s.ge, Value.int .i64 s.ep, Value.int .i64 s.ve] 23)).alloc (.cells #[Value.int .i64 0, Value.int .i64 0, Value.int .i64 0, Value.bool false, Value.bool false, Value.int .i64 0, Value.int .i64 0, Value.int .i64 0, Value.int .i64 0] 23)).alloc (.cells #[Value.int .i64 s.st, Value.int .i64 s.ow, Value.int .i64 s.sr, Value.bool s.br, Value.bool s.ma, Value.int .i64 s.us, Value.int .i64 s.ge, Value.int .i64 s.ep, Value.int .i64 s.ve] 23) := ⟨_, rfl⟩
  rw [← hW] at hB r0 r1 r2 ⊢
  clear hW
  obtain ⟨B1, e1⟩ : ∃ B1, B1 = w.heap.size := ⟨_, rfl⟩
  have hle : w.heap.size ≤ B1 := by omega
  rw [← e1] at r0 r1 r2 ⊢
  clear e1
  have hne : B1 ≠ B1 + 1 := by omega
  have hne2 : B1 + 2 ≠ B1 + 1 := by omega
  have q0 := r0.drew
  have p0 := r1.drew
  have u0 := r2.drew
  have hB0 := hB.drew
  clear hB r0 r1 r2
  have c00 : W.drew.cell? ⟨B1, 0, none⟩ = some (Value.int .i64 s.st) := q0.cell 0 rfl
  have c01 : W.drew.cell? ⟨B1, 1, none⟩ = some (Value.int .i64 s.ow) := q0.cell 1 rfl
  have c02 : W.drew.cell? ⟨B1, 2, none⟩ = some (Value.int .i64 s.sr) := q0.cell 2 rfl
  have c03 : W.drew.cell? ⟨B1, 3, none⟩ = some (Value.bool s.br) := q0.cell 3 rfl
  have c04 : W.drew.cell? ⟨B1, 4, none⟩ = some (Value.bool s.ma) := q0.cell 4 rfl
  have c05 : W.drew.cell? ⟨B1, 5, none⟩ = some (Value.int .i64 s.us) := q0.cell 5 rfl
  have c06 : W.drew.cell? ⟨B1, 6, none⟩ = some (Value.int .i64 s.ge) := q0.cell 6 rfl
  have c07 : W.drew.cell? ⟨B1, 7, none⟩ = some (Value.int .i64 s.ep) := q0.cell 7 rfl
  have c08 : W.drew.cell? ⟨B1, 8, none⟩ = some (Value.int .i64 s.ve) := q0.cell 8 rfl
  have d00 : W.drew.cell? ⟨B1 + 1, 0, none⟩ = some (Value.int .i64 0) := p0.cell 0 rfl
  have d01 : W.drew.cell? ⟨B1 + 1, 1, none⟩ = some (Value.int .i64 0) := p0.cell 1 rfl
  have d02 : W.drew.cell? ⟨B1 + 1, 2, none⟩ = some (Value.int .i64 0) := p0.cell 2 rfl
  have d03 : W.drew.cell? ⟨B1 + 1, 3, none⟩ = some (Value.bool false) := p0.cell 3 rfl
  have d04 : W.drew.cell? ⟨B1 + 1, 4, none⟩ = some (Value.bool false) := p0.cell 4 rfl
  have d05 : W.drew.cell? ⟨B1 + 1, 5, none⟩ = some (Value.int .i64 0) := p0.cell 5 rfl
  have d06 : W.drew.cell? ⟨B1 + 1, 6, none⟩ = some (Value.int .i64 0) := p0.cell 6 rfl
  have d07 : W.drew.cell? ⟨B1 + 1, 7, none⟩ = some (Value.int .i64 0) := p0.cell 7 rfl
  have d08 : W.drew.cell? ⟨B1 + 1, 8, none⟩ = some (Value.int .i64 0) := p0.cell 8 rfl
  have g00 : W.drew.frozen? ⟨B1 + 1, 0, none⟩ = false := p0.frozen 0
  have g01 : W.drew.frozen? ⟨B1 + 1, 1, none⟩ = false := p0.frozen 1
  have g02 : W.drew.frozen? ⟨B1 + 1, 2, none⟩ = false := p0.frozen 2
  have g03 : W.drew.frozen? ⟨B1 + 1, 3, none⟩ = false := p0.frozen 3
  have g04 : W.drew.frozen? ⟨B1 + 1, 4, none⟩ = false := p0.frozen 4
  have g05 : W.drew.frozen? ⟨B1 + 1, 5, none⟩ = false := p0.frozen 5
  have g06 : W.drew.frozen? ⟨B1 + 1, 6, none⟩ = false := p0.frozen 6
  have g07 : W.drew.frozen? ⟨B1 + 1, 7, none⟩ = false := p0.frozen 7
  have g08 : W.drew.frozen? ⟨B1 + 1, 8, none⟩ = false := p0.frozen 8
  refine wp_region_held_drew (S := (fun w' => w'.cell? ⟨B1, 0, none⟩ = some (Value.int .i64 s.st) ∧ w'.cell? ⟨B1, 1, none⟩ = some (Value.int .i64 s.ow) ∧ w'.cell? ⟨B1, 2, none⟩ = some (Value.int .i64 s.sr) ∧ w'.cell? ⟨B1, 3, none⟩ = some (Value.bool s.br) ∧ w'.cell? ⟨B1, 4, none⟩ = some (Value.bool s.ma) ∧ w'.cell? ⟨B1, 5, none⟩ = some (Value.int .i64 s.us) ∧ w'.cell? ⟨B1, 6, none⟩ = some (Value.int .i64 s.ge) ∧ w'.cell? ⟨B1, 7, none⟩ = some (Value.int .i64 s.ep) ∧ w'.cell? ⟨B1, 8, none⟩ = some (Value.int .i64 s.ve))) (by kernel_rfl) ⟨c00, c01, c02, c03, c04, c05, c06, c07, c08⟩ (fun hS => ?_)
  generalize W.drew = WD at *
  refine wpAnyH_take (i := 0) (oi := { dst := some 113, op := Op.load 23 (Operand.tmp 4), type := 23, pos := "ref.go:73", after := #[], guard := none }) (v := ?v0_129) rfl (by kernel_rfl) (by kernel_rfl) (by kernel_rfl) (fun _ _ _ h => h) (Or.inl ⟨by rfl, ?hy0_129⟩) hS ?rest0_129
  case hy0_129 =>
    intro w hSw
    (try dsimp only at hSw)
    go_simp
    try with_reducible rfl
  try simp only [Act.put, List.setIfInBounds_toArray, List.set_cons_zero, List.set_cons_succ]
  refine wpAnyH_take (i := 2) (oi := { dst := some 115, op := Op.fieldAddr 23 (Operand.tmp 4) 0, type := 0, pos := "ref.go:73", after := #[{ on := 5, ground := Ground.gcOnly Departure.lateStores }], guard := none }) (v := ?v2_130) rfl (by kernel_rfl) (by kernel_rfl) (by kernel_rfl) (fun _ _ _ h => h) (Or.inl ⟨by rfl, ?hy2_130⟩) hS ?rest2_130
  case hy2_130 =>
    intro w hSw
    (try dsimp only at hSw)
    go_simp
    try with_reducible rfl
  try simp only [Act.put, List.setIfInBounds_toArray, List.set_cons_zero, List.set_cons_succ]
  refine wpAnyH_take (i := 3) (oi := { dst := some 116, op := Op.load 3 (Operand.tmp 115), type := 3, pos := "ref.go:73", after := #[{ on := 2, ground := Ground.data }, { on := 5, ground := Ground.gcOnly Departure.lateStores }], guard := none }) (v := ?v3_131) rfl (by kernel_rfl) (by kernel_rfl) (by kernel_rfl) (fun _ _ _ h => h) (Or.inl ⟨by rfl, ?hy3_131⟩) hS ?rest3_131
  case hy3_131 =>
    intro w hSw
    (try dsimp only at hSw)
    go_simp
    try with_reducible rfl
  try simp only [Act.put, List.setIfInBounds_toArray, List.set_cons_zero, List.set_cons_succ]
  refine wpAnyH_take (i := 4) (oi := { dst := some 117, op := Op.binOp BinOp.eql 3 (Operand.tmp 116) (Operand.const (Value.int IntKind.i64 5)) 3, type := 4, pos := "ref.go:73", after := #[{ on := 3, ground := Ground.data }, { on := 5, ground := Ground.gcOnly Departure.lateStores }], guard := none }) (v := ?v4_132) rfl (by kernel_rfl) (by kernel_rfl) (by kernel_rfl) (fun _ _ _ h => h) (Or.inl ⟨by rfl, ?hy4_132⟩) hS ?rest4_132
  case hy4_132 =>
    intro w hSw
    (try dsimp only at hSw)
    go_simp
    try with_reducible rfl
  try simp only [Act.put, List.setIfInBounds_toArray, List.set_cons_zero, List.set_cons_succ]
  refine wpAnyH_ready (rs := [1]) (by kernel_rfl) (by simp) ?_
  refine AllReadyH.cons (o := { dst := some 114, op := Op.call { callee := Callee.value (Operand.func 39), args := #[Operand.tmp 113, Operand.const (Value.int IntKind.i64 0), Operand.const (Value.int IntKind.i64 0)], argTypes := #[23, 3, 3] }, type := 23, pos := "ref.go:73", after := #[{ on := 0, ground := Ground.data }], guard := none }) rfl (fun K hK => ?_) AllReadyH.nil
  go_simp
  refine (plain_any s 0 0 _).mono ?_
  rintro e w1 ⟨rfl, hb⟩
  have q1 := q0.below hb q0.lt
  have p1 := p0.below hb p0.lt
  have u1 := u0.below hb u0.lt
  have hB1 := hB0.trans (hb.mono hB0.size)
  clear hb
  have c10 : w1.cell? ⟨B1, 0, none⟩ = some (Value.int .i64 s.st) := q1.cell 0 rfl
  have c11 : w1.cell? ⟨B1, 1, none⟩ = some (Value.int .i64 s.ow) := q1.cell 1 rfl
  have c12 : w1.cell? ⟨B1, 2, none⟩ = some (Value.int .i64 s.sr) := q1.cell 2 rfl
  have c13 : w1.cell? ⟨B1, 3, none⟩ = some (Value.bool s.br) := q1.cell 3 rfl
  have c14 : w1.cell? ⟨B1, 4, none⟩ = some (Value.bool s.ma) := q1.cell 4 rfl
  have c15 : w1.cell? ⟨B1, 5, none⟩ = some (Value.int .i64 s.us) := q1.cell 5 rfl
  have c16 : w1.cell? ⟨B1, 6, none⟩ = some (Value.int .i64 s.ge) := q1.cell 6 rfl
  have c17 : w1.cell? ⟨B1, 7, none⟩ = some (Value.int .i64 s.ep) := q1.cell 7 rfl
  have c18 : w1.cell? ⟨B1, 8, none⟩ = some (Value.int .i64 s.ve) := q1.cell 8 rfl
  have d10 : w1.cell? ⟨B1 + 1, 0, none⟩ = some (Value.int .i64 0) := p1.cell 0 rfl
  have d11 : w1.cell? ⟨B1 + 1, 1, none⟩ = some (Value.int .i64 0) := p1.cell 1 rfl
  have d12 : w1.cell? ⟨B1 + 1, 2, none⟩ = some (Value.int .i64 0) := p1.cell 2 rfl
  have d13 : w1.cell? ⟨B1 + 1, 3, none⟩ = some (Value.bool false) := p1.cell 3 rfl
  have d14 : w1.cell? ⟨B1 + 1, 4, none⟩ = some (Value.bool false) := p1.cell 4 rfl
  have d15 : w1.cell? ⟨B1 + 1, 5, none⟩ = some (Value.int .i64 0) := p1.cell 5 rfl
  have d16 : w1.cell? ⟨B1 + 1, 6, none⟩ = some (Value.int .i64 0) := p1.cell 6 rfl
  have d17 : w1.cell? ⟨B1 + 1, 7, none⟩ = some (Value.int .i64 0) := p1.cell 7 rfl
  have d18 : w1.cell? ⟨B1 + 1, 8, none⟩ = some (Value.int .i64 0) := p1.cell 8 rfl
  have g10 : w1.frozen? ⟨B1 + 1, 0, none⟩ = false := p1.frozen 0
  have g11 : w1.frozen? ⟨B1 + 1, 1, none⟩ = false := p1.frozen 1
  have g12 : w1.frozen? ⟨B1 + 1, 2, none⟩ = false := p1.frozen 2
  have g13 : w1.frozen? ⟨B1 + 1, 3, none⟩ = false := p1.frozen 3
  have g14 : w1.frozen? ⟨B1 + 1, 4, none⟩ = false := p1.frozen 4
  have g15 : w1.frozen? ⟨B1 + 1, 5, none⟩ = false := p1.frozen 5
  have g16 : w1.frozen? ⟨B1 + 1, 6, none⟩ = false := p1.frozen 6
  have g17 : w1.frozen? ⟨B1 + 1, 7, none⟩ = false := p1.frozen 7
  have g18 : w1.frozen? ⟨B1 + 1, 8, none⟩ = false := p1.frozen 8
  refine hK.out _ _ ⟨c10, c11, c12, c13, c14, c15, c16, c17, c18⟩ (fun hS => ?_)
  clear hK K
  try simp only [Act.put, List.setIfInBounds_toArray, List.set_cons_zero, List.set_cons_succ]
  refine wpAnyH_ready (rs := [5]) (by kernel_rfl) (by simp) ?_
  refine AllReadyH.cons (o := { dst := none, op := Op.store 23 (Operand.tmp 8) (Operand.tmp 114), type := 0, pos := "ref.go:73", after := #[{ on := 1, ground := Ground.data }, { on := 1, ground := Ground.chain }, { on := 0, ground := Ground.phase }, { on := 1, ground := Ground.phase }, { on := 2, ground := Ground.textOnly Departure.lateStores }, { on := 3, ground := Ground.textOnly Departure.lateStores }, { on := 4, ground := Ground.textOnly Departure.lateStores }], guard := none }) rfl (fun K hK => ?_) AllReadyH.nil
  go_simp
  refine hK.out _ _ (by (try dsimp only); go_keep) (fun hS => ?_)
  clear hK K
  try simp only [Act.put, List.setIfInBounds_toArray, List.set_cons_zero, List.set_cons_succ]
  refine wpAnyH_take (i := 6) (oi := { dst := some 9, op := Op.assign (Operand.tmp 117), type := 4, pos := "ref.go:73", after := #[{ on := 4, ground := Ground.data }, { on := 5, ground := Ground.chain }, { on := 0, ground := Ground.phase }, { on := 1, ground := Ground.phase }, { on := 2, ground := Ground.phase }, { on := 3, ground := Ground.phase }, { on := 4, ground := Ground.phase }, { on := 5, ground := Ground.phase }], guard := none }) (v := ?v6_133) rfl (by kernel_rfl) (by kernel_rfl) (by kernel_rfl) (fun _ _ _ h => h) (Or.inl ⟨by rfl, ?hy6_133⟩) hS ?rest6_133
  case hy6_133 =>
    intro w hSw
    (try dsimp only at hSw)
    go_simp
    try with_reducible rfl
  try simp only [Act.put, List.setIfInBounds_toArray, List.set_cons_zero, List.set_cons_succ]
  refine wpAnyH_done (by kernel_rfl) ?_ _
  have rz := row9 p1 (Value.int .i64 (s.plain 0 0).st) (Value.int .i64 (s.plain 0 0).ow) (Value.int .i64 (s.plain 0 0).sr) (Value.bool (s.plain 0 0).br) (Value.bool (s.plain 0 0).ma) (Value.int .i64 (s.plain 0 0).us) (Value.int .i64 (s.plain 0 0).ge) (Value.int .i64 (s.plain 0 0).ep) (Value.int .i64 (s.plain 0 0).ve)
  have hz := below9 (n := w.heap.size) (A := w) (b := B1 + 1) hB1 (by omega) (Value.int .i64 (s.plain 0 0).st) (Value.int .i64 (s.plain 0 0).ow) (Value.int .i64 (s.plain 0 0).sr) (Value.bool (s.plain 0 0).br) (Value.bool (s.plain 0 0).ma) (Value.int .i64 (s.plain 0 0).us) (Value.int .i64 (s.plain 0 0).ge) (Value.int .i64 (s.plain 0 0).ep) (Value.int .i64 (s.plain 0 0).ve)
  go_wp2
  refine bodyPost_ret (res_pair (p := 8) (u := 9) rfl _ _ _ _ rfl rz rfl) rfl ⟨rfl, hz⟩
end Go.Proofs.YtdiipmejkanhfaaDoor
