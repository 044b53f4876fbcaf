/- What is done with a slot, each thing by itself; nothing that was there changes. -/
import Derived.Test.YtdiipmejkanhfaaDoorChD
namespace Go.Proofs.YtdiipmejkanhfaaDoor
open Go.RowKit
attribute [local go_sem ↓] Go.wp_at_zero Go.wp_at_succ

set_option maxRecDepth 100000 in
set_option maxHeartbeats 4000000 in
theorem m15_any (s : Sl) (a mo : Int) (w : World) (_ : Rt s) :
    Calls Tryd.prog 35 #[Value.agg #[Value.int .i64 s.st, Value.int .i64 s.ow, Value.int .i64 s.sr, Value.bool s.br, Value.bool s.ma, Value.int .i64 s.us, Value.int .i64 s.ge, Value.int .i64 s.ep, Value.int .i64 s.ve, Value.int .i64 a, Value.int .i64 mo]] w fun e w' => e = .returned (.tuple #[.agg #[Value.int .i64 (chS 15 s a mo).st, Value.int .i64 (chS 15 s a mo).ow, Value.int .i64 (chS 15 s a mo).sr, Value.bool (chS 15 s a mo).br, Value.bool (chS 15 s a mo).ma, Value.int .i64 (chS 15 s a mo).us, Value.int .i64 (chS 15 s a mo).ge, Value.int .i64 (chS 15 s a mo).ep, Value.int .i64 (chS 15 s a mo).ve], .bool (chB 15 s a mo)]) ∧ Below w.heap.size w w' := by
  cases h0 : (minB s a 3) with
  | true =>
    go_enter Tryd.func35, Tryd.ntmps35
    go_wp2_with fail
    have e15 : bits .andNot .i64 s.sr (wrap64 (2 ^ min (IntKind.u64.wrap mo).toNat 64)) = shtI s.sr mo := rfl
    have e16 : (bits .and .i64 s.sr (wrap64 (2 ^ min (IntKind.u64.wrap mo).toNat 64)) != 0) = hadB s.sr mo := rfl
    rw [e15, e16]
    clear e15 e16
    have hB0 : Below w.heap.size w ((w.alloc (.cells #[Value.int .i64 s.st, Value.int .i64 s.ow, Value.int .i64 (shtI s.sr mo), Value.bool s.br, Value.bool s.ma, Value.int .i64 s.us, Value.int .i64 s.ge, Value.int .i64 s.ep, Value.int .i64 s.ve, Value.int .i64 a, Value.int .i64 mo] 39)).alloc (.cells #[Value.int .i64 0, Value.int .i64 0, Value.int .i64 0, Value.bool false, Value.bool false, Value.int .i64 0, Value.int .i64 0, Value.int .i64 0, Value.int .i64 0] 23)) := ((Below.refl _ _).alloc (Nat.le_refl _) _).alloc (by simp) _
    have r0 := (RowAt.new w 39 #[Value.int .i64 s.st, Value.int .i64 s.ow, Value.int .i64 (shtI s.sr mo), Value.bool s.br, Value.bool s.ma, Value.int .i64 s.us, Value.int .i64 s.ge, Value.int .i64 s.ep, Value.int .i64 s.ve, Value.int .i64 a, Value.int .i64 mo]).alloc (.cells #[Value.int .i64 0, Value.int .i64 0, Value.int .i64 0, Value.bool false, Value.bool false, Value.int .i64 0, Value.int .i64 0, Value.int .i64 0, Value.int .i64 0] 23)
    have r1 := new2 w (.cells #[Value.int .i64 s.st, Value.int .i64 s.ow, Value.int .i64 (shtI s.sr mo), Value.bool s.br, Value.bool s.ma, Value.int .i64 s.us, Value.int .i64 s.ge, Value.int .i64 s.ep, Value.int .i64 s.ve, Value.int .i64 a, Value.int .i64 mo] 39) 23 #[Value.int .i64 0, Value.int .i64 0, Value.int .i64 0, Value.bool false, Value.bool false, Value.int .i64 0, Value.int .i64 0, Value.int .i64 0, Value.int .i64 0]
    obtain ⟨W, hW⟩ : ∃ W, W = (w.alloc (.cells #[Value.int .i64 s.st, Value.int .i64 s.ow, Value.int .i64 (shtI s.sr mo), Value.bool s.br, Value.bool s.ma, Value.int .i64 s.us, Value.int .i64 s.ge, Value.int .i64 s.ep, Value.int .i64 s.ve, Value.int .i64 a, Value.int .i64 mo] 39)).alloc (.cells #[Value.int .i64 0, Value.int .i64 0, Value.int .i64 0, Value.bool false, Value.bool false, Value.int .i64 0, Value.int .i64 0, Value.int .i64 0, Value.int .i64 0] 23) := ⟨_, rfl⟩
    rw [← hW] at hB0 r0 r1 ⊢
    clear hW
    obtain ⟨B1, e1⟩ : ∃ B1, B1 = w.heap.size := ⟨_, rfl⟩
    have hle : w.heap.size ≤ B1 := by omega
    rw [← e1] at r0 r1 ⊢
    clear e1
    have hne : B1 ≠ B1 + 1 := by omega
    have q0 := r0.drew
    have p0 := r1.drew
    have hBd := hB0.drew
    clear hB0 r0 r1
    have c00 : W.drew.cell? ⟨B1, 0, none⟩ = some (Value.int .i64 s.st) := q0.cell 0 rfl
    have c01 : W.drew.cell? ⟨B1, 1, none⟩ = some (Value.int .i64 s.ow) := q0.cell 1 rfl
    have c02 : W.drew.cell? ⟨B1, 2, none⟩ = some (Value.int .i64 (shtI s.sr mo)) := q0.cell 2 rfl
    have c03 : W.drew.cell? ⟨B1, 3, none⟩ = some (Value.bool s.br) := q0.cell 3 rfl
    have c04 : W.drew.cell? ⟨B1, 4, none⟩ = some (Value.bool s.ma) := q0.cell 4 rfl
    have c05 : W.drew.cell? ⟨B1, 5, none⟩ = some (Value.int .i64 s.us) := q0.cell 5 rfl
    have c06 : W.drew.cell? ⟨B1, 6, none⟩ = some (Value.int .i64 s.ge) := q0.cell 6 rfl
    have c07 : W.drew.cell? ⟨B1, 7, none⟩ = some (Value.int .i64 s.ep) := q0.cell 7 rfl
    have c08 : W.drew.cell? ⟨B1, 8, none⟩ = some (Value.int .i64 s.ve) := q0.cell 8 rfl
    have c09 : W.drew.cell? ⟨B1, 9, none⟩ = some (Value.int .i64 a) := q0.cell 9 rfl
    have c010 : W.drew.cell? ⟨B1, 10, none⟩ = some (Value.int .i64 mo) := q0.cell 10 rfl
    have d00 : W.drew.cell? ⟨B1 + 1, 0, none⟩ = some (Value.int .i64 0) := p0.cell 0 rfl
    have g00 : W.drew.frozen? ⟨B1 + 1, 0, none⟩ = false := p0.frozen 0
    have d01 : W.drew.cell? ⟨B1 + 1, 1, none⟩ = some (Value.int .i64 0) := p0.cell 1 rfl
    have g01 : W.drew.frozen? ⟨B1 + 1, 1, none⟩ = false := p0.frozen 1
    have d02 : W.drew.cell? ⟨B1 + 1, 2, none⟩ = some (Value.int .i64 0) := p0.cell 2 rfl
    have g02 : W.drew.frozen? ⟨B1 + 1, 2, none⟩ = false := p0.frozen 2
    have d03 : W.drew.cell? ⟨B1 + 1, 3, none⟩ = some (Value.bool false) := p0.cell 3 rfl
    have g03 : W.drew.frozen? ⟨B1 + 1, 3, none⟩ = false := p0.frozen 3
    have d04 : W.drew.cell? ⟨B1 + 1, 4, none⟩ = some (Value.bool false) := p0.cell 4 rfl
    have g04 : W.drew.frozen? ⟨B1 + 1, 4, none⟩ = false := p0.frozen 4
    have d05 : W.drew.cell? ⟨B1 + 1, 5, none⟩ = some (Value.int .i64 0) := p0.cell 5 rfl
    have g05 : W.drew.frozen? ⟨B1 + 1, 5, none⟩ = false := p0.frozen 5
    have d06 : W.drew.cell? ⟨B1 + 1, 6, none⟩ = some (Value.int .i64 0) := p0.cell 6 rfl
    have g06 : W.drew.frozen? ⟨B1 + 1, 6, none⟩ = false := p0.frozen 6
    have d07 : W.drew.cell? ⟨B1 + 1, 7, none⟩ = some (Value.int .i64 0) := p0.cell 7 rfl
    have g07 : W.drew.frozen? ⟨B1 + 1, 7, none⟩ = false := p0.frozen 7
    have d08 : W.drew.cell? ⟨B1 + 1, 8, none⟩ = some (Value.int .i64 0) := p0.cell 8 rfl
    have g08 : W.drew.frozen? ⟨B1 + 1, 8, none⟩ = false := p0.frozen 8
    refine wp_region_held_drew (S := (fun w' => w'.cell? ⟨B1, 0, none⟩ = some (Value.int .i64 s.st) ∧ w'.cell? ⟨B1, 1, none⟩ = some (Value.int .i64 s.ow) ∧ w'.cell? ⟨B1, 2, none⟩ = some (Value.int .i64 (shtI s.sr mo)) ∧ w'.cell? ⟨B1, 3, none⟩ = some (Value.bool s.br) ∧ w'.cell? ⟨B1, 4, none⟩ = some (Value.bool s.ma) ∧ w'.cell? ⟨B1, 5, none⟩ = some (Value.int .i64 s.us) ∧ w'.cell? ⟨B1, 6, none⟩ = some (Value.int .i64 s.ge) ∧ w'.cell? ⟨B1, 7, none⟩ = some (Value.int .i64 s.ep) ∧ w'.cell? ⟨B1, 8, none⟩ = some (Value.int .i64 s.ve) ∧ w'.cell? ⟨B1, 9, none⟩ = some (Value.int .i64 a) ∧ w'.cell? ⟨B1, 10, none⟩ = some (Value.int .i64 mo))) (by kernel_rfl) ⟨c00, c01, c02, c03, c04, c05, c06, c07, c08, c09, c010⟩ (fun hS => ?_)
    generalize W.drew = WD at *
    refine wpAnyH_take (i := 0) (oi := { dst := some 23, op := Op.fieldAddr 39 (Operand.tmp 1) 0, type := 0, pos := "life.go:175", after := #[], guard := none }) (v := ?v0_90) rfl (by kernel_rfl) (by kernel_rfl) (by kernel_rfl) (fun _ _ _ h => h) (Or.inl ⟨by rfl, ?hy0_90⟩) hS ?rest0_90
    case hy0_90 =>
      intro w hSw
      (try dsimp only at hSw)
      go_simp
      try with_reducible rfl
    try simp only [Act.put, List.setIfInBounds_toArray, List.set_cons_zero, List.set_cons_succ]
    refine wpAnyH_take (i := 1) (oi := { dst := some 24, op := Op.load 23 (Operand.tmp 23), type := 23, pos := "life.go:175", after := #[{ on := 0, ground := Ground.data }], guard := none }) (v := ?v1_91) rfl (by kernel_rfl) (by kernel_rfl) (by kernel_rfl) (fun _ _ _ h => h) (Or.inl ⟨by rfl, ?hy1_91⟩) hS ?rest1_91
    case hy1_91 =>
      intro w hSw
      (try dsimp only at hSw)
      go_simp
      try with_reducible rfl
    try simp only [Act.put, List.setIfInBounds_toArray, List.set_cons_zero, List.set_cons_succ]
    refine wpAnyH_take (i := 2) (oi := { dst := some 25, op := Op.load 39 (Operand.tmp 1), type := 39, pos := "life.go:175", after := #[], guard := none }) (v := ?v2_92) rfl (by kernel_rfl) (by kernel_rfl) (by kernel_rfl) (fun _ _ _ h => h) (Or.inl ⟨by rfl, ?hy2_92⟩) hS ?rest2_92
    case hy2_92 =>
      intro w hSw
      (try dsimp only at hSw)
      go_simp
      try with_reducible rfl
    try simp only [Act.put, List.setIfInBounds_toArray, List.set_cons_zero, List.set_cons_succ]
    refine wpAnyH_ready (rs := [3]) (by kernel_rfl) (by simp) ?_
    refine AllReadyH.cons (o := { dst := some 26, op := Op.call { callee := Callee.value (Operand.func 48), args := #[Operand.tmp 25, Operand.const (Value.int IntKind.i64 3)], argTypes := #[39, 3] }, type := 4, pos := "life.go:175", after := #[{ on := 2, ground := Ground.data }], guard := none }) rfl (fun K hK => ?_) AllReadyH.nil
    go_simp
    refine (mine_is ⟨s.st, s.ow, shtI s.sr mo, s.br, s.ma, s.us, s.ge, s.ep, s.ve⟩ a mo 3 _ _ h0).mono ?_
    rintro e w1 ⟨rfl, hb1⟩
    have q1 := q0.below hb1 (by simpa using q0.lt)
    have p1 := p0.below hb1 (by simpa using p0.lt)
    have hB1 := hBd.trans (hb1.mono (by simpa using hBd.size))
    have c10 : w1.cell? ⟨B1, 0, none⟩ = some (Value.int .i64 s.st) := q1.cell 0 rfl
    have c11 : w1.cell? ⟨B1, 1, none⟩ = some (Value.int .i64 s.ow) := q1.cell 1 rfl
    have c12 : w1.cell? ⟨B1, 2, none⟩ = some (Value.int .i64 (shtI s.sr mo)) := q1.cell 2 rfl
    have c13 : w1.cell? ⟨B1, 3, none⟩ = some (Value.bool s.br) := q1.cell 3 rfl
    have c14 : w1.cell? ⟨B1, 4, none⟩ = some (Value.bool s.ma) := q1.cell 4 rfl
    have c15 : w1.cell? ⟨B1, 5, none⟩ = some (Value.int .i64 s.us) := q1.cell 5 rfl
    have c16 : w1.cell? ⟨B1, 6, none⟩ = some (Value.int .i64 s.ge) := q1.cell 6 rfl
    have c17 : w1.cell? ⟨B1, 7, none⟩ = some (Value.int .i64 s.ep) := q1.cell 7 rfl
    have c18 : w1.cell? ⟨B1, 8, none⟩ = some (Value.int .i64 s.ve) := q1.cell 8 rfl
    have c19 : w1.cell? ⟨B1, 9, none⟩ = some (Value.int .i64 a) := q1.cell 9 rfl
    have c110 : w1.cell? ⟨B1, 10, none⟩ = some (Value.int .i64 mo) := q1.cell 10 rfl
    have d10 : w1.cell? ⟨B1 + 1, 0, none⟩ = some (Value.int .i64 0) := p1.cell 0 rfl
    have g10 : w1.frozen? ⟨B1 + 1, 0, none⟩ = false := p1.frozen 0
    have d11 : w1.cell? ⟨B1 + 1, 1, none⟩ = some (Value.int .i64 0) := p1.cell 1 rfl
    have g11 : w1.frozen? ⟨B1 + 1, 1, none⟩ = false := p1.frozen 1
    have d12 : w1.cell? ⟨B1 + 1, 2, none⟩ = some (Value.int .i64 0) := p1.cell 2 rfl
    have g12 : w1.frozen? ⟨B1 + 1, 2, none⟩ = false := p1.frozen 2
    have d13 : w1.cell? ⟨B1 + 1, 3, none⟩ = some (Value.bool false) := p1.cell 3 rfl
    have g13 : w1.frozen? ⟨B1 + 1, 3, none⟩ = false := p1.frozen 3
    have d14 : w1.cell? ⟨B1 + 1, 4, none⟩ = some (Value.bool false) := p1.cell 4 rfl
    have g14 : w1.frozen? ⟨B1 + 1, 4, none⟩ = false := p1.frozen 4
    have d15 : w1.cell? ⟨B1 + 1, 5, none⟩ = some (Value.int .i64 0) := p1.cell 5 rfl
    have g15 : w1.frozen? ⟨B1 + 1, 5, none⟩ = false := p1.frozen 5
    have d16 : w1.cell? ⟨B1 + 1, 6, none⟩ = some (Value.int .i64 0) := p1.cell 6 rfl
    have g16 : w1.frozen? ⟨B1 + 1, 6, none⟩ = false := p1.frozen 6
    have d17 : w1.cell? ⟨B1 + 1, 7, none⟩ = some (Value.int .i64 0) := p1.cell 7 rfl
    have g17 : w1.frozen? ⟨B1 + 1, 7, none⟩ = false := p1.frozen 7
    have d18 : w1.cell? ⟨B1 + 1, 8, none⟩ = some (Value.int .i64 0) := p1.cell 8 rfl
    have g18 : w1.frozen? ⟨B1 + 1, 8, none⟩ = false := p1.frozen 8
    refine hK.out _ _ ⟨c10, c11, c12, c13, c14, c15, c16, c17, c18, c19, c110⟩ (fun hS => ?_)
    clear hK K
    try simp only [Act.put, List.setIfInBounds_toArray, List.set_cons_zero, List.set_cons_succ]
    refine wpAnyH_take (i := 4) (oi := { dst := some 27, op := Op.move (Operand.tmp 26), type := 4, pos := "life.go:175", after := #[{ on := 3, ground := Ground.data }, { on := 3, ground := Ground.chain }], guard := none }) (v := ?v4_93) rfl (by kernel_rfl) (by kernel_rfl) (by kernel_rfl) (fun _ _ _ h => h) (Or.inl ⟨by rfl, ?hy4_93⟩) hS ?rest4_93
    case hy4_93 =>
      intro w hSw
      (try dsimp only at hSw)
      go_simp
      try with_reducible rfl
    try simp only [Act.put, List.setIfInBounds_toArray, List.set_cons_zero, List.set_cons_succ]
    refine wpAnyH_take (i := 5) (oi := { dst := some 28, op := Op.move (Operand.tmp 5), type := 4, pos := "life.go:175", after := #[{ on := 4, ground := Ground.guard }, { on := 7, ground := Ground.gcOnly Departure.lateStores }], guard := some (4, true) }) (v := ?v5_94) rfl (by kernel_rfl) (by kernel_rfl) (by kernel_rfl) (fun _ _ _ h => h) (Or.inl ⟨by rfl, ?hy5_94⟩) hS ?rest5_94
    case hy5_94 =>
      intro w hSw
      (try dsimp only at hSw)
      go_simp
      try with_reducible rfl
    try simp only [Act.put, List.setIfInBounds_toArray, List.set_cons_zero, List.set_cons_succ]
    refine wpAnyH_take (i := 6) (oi := { dst := some 29, op := Op.pick (Operand.tmp 27) (Operand.tmp 28) (Operand.const (Value.bool false)), type := 4, pos := "life.go:175", after := #[{ on := 4, ground := Ground.data }, { on := 5, ground := Ground.data }, { on := 7, ground := Ground.gcOnly Departure.lateStores }], guard := none }) (v := ?v6_95) rfl (by kernel_rfl) (by kernel_rfl) (by kernel_rfl) (fun _ _ _ h => h) (Or.inl ⟨by rfl, ?hy6_95⟩) hS ?rest6_95
    case hy6_95 =>
      intro w hSw
      (try dsimp only at hSw)
      go_simp
      try with_reducible rfl
    try simp only [Act.put, List.setIfInBounds_toArray, List.set_cons_zero, List.set_cons_succ]
    refine wpAnyH_ready (rs := [7]) (by kernel_rfl) (by simp) ?_
    refine AllReadyH.cons (o := { dst := none, op := Op.store 23 (Operand.tmp 2) (Operand.tmp 24), type := 0, pos := "life.go:175", after := #[{ on := 1, ground := Ground.data }, { on := 4, ground := Ground.chain }, { on := 0, ground := Ground.phase }, { on := 1, ground := Ground.phase }, { on := 2, ground := Ground.textOnly Departure.lateStores }, { on := 3, ground := Ground.textOnly Departure.lateStoresUnsure }, { on := 4, ground := Ground.textOnly Departure.lateStores }, { on := 5, ground := Ground.textOnly Departure.lateStores }, { on := 6, ground := Ground.textOnly Departure.lateStores }], guard := none }) rfl (fun K hK => ?_) AllReadyH.nil
    go_simp
    refine hK.out _ _ (by (try dsimp only); go_keep) (fun hS => ?_)
    clear hK K
    try simp only [Act.put, List.setIfInBounds_toArray, List.set_cons_zero, List.set_cons_succ]
    refine wpAnyH_take (i := 8) (oi := { dst := some 3, op := Op.assign (Operand.tmp 29), type := 4, pos := "life.go:175", after := #[{ on := 6, ground := Ground.data }, { on := 7, ground := Ground.chain }, { on := 0, ground := Ground.phase }, { on := 1, ground := Ground.phase }, { on := 2, ground := Ground.phase }, { on := 3, ground := Ground.phase }, { on := 4, ground := Ground.phase }, { on := 5, ground := Ground.phase }, { on := 6, ground := Ground.phase }, { on := 7, ground := Ground.phase }], guard := none }) (v := ?v8_96) rfl (by kernel_rfl) (by kernel_rfl) (by kernel_rfl) (fun _ _ _ h => h) (Or.inl ⟨by rfl, ?hy8_96⟩) hS ?rest8_96
    case hy8_96 =>
      intro w hSw
      (try dsimp only at hSw)
      go_simp
      try with_reducible rfl
    try simp only [Act.put, List.setIfInBounds_toArray, List.set_cons_zero, List.set_cons_succ]
    refine wpAnyH_done (by kernel_rfl) ?_ _
    have rz := row9 p1 (Value.int .i64 s.st) (Value.int .i64 s.ow) (Value.int .i64 (shtI s.sr mo)) (Value.bool s.br) (Value.bool s.ma) (Value.int .i64 s.us) (Value.int .i64 s.ge) (Value.int .i64 s.ep) (Value.int .i64 s.ve)
    have hz := below9 (n := w.heap.size) (A := w) (b := B1 + 1) hB1 (by omega) (Value.int .i64 s.st) (Value.int .i64 s.ow) (Value.int .i64 (shtI s.sr mo)) (Value.bool s.br) (Value.bool s.ma) (Value.int .i64 s.us) (Value.int .i64 s.ge) (Value.int .i64 s.ep) (Value.int .i64 s.ve)
    go_wp2
    refine bodyPost_ret (res_pair (p := 2) (u := 3) rfl _ _ _ _ rfl rz rfl) rfl ⟨ret_pair (by simp [chB, *]), hz⟩
  | false =>
    go_enter Tryd.func35, Tryd.ntmps35
    go_wp2_with fail
    have e15 : bits .andNot .i64 s.sr (wrap64 (2 ^ min (IntKind.u64.wrap mo).toNat 64)) = shtI s.sr mo := rfl
    have e16 : (bits .and .i64 s.sr (wrap64 (2 ^ min (IntKind.u64.wrap mo).toNat 64)) != 0) = hadB s.sr mo := rfl
    rw [e15, e16]
    clear e15 e16
    have hB0 : Below w.heap.size w ((w.alloc (.cells #[Value.int .i64 s.st, Value.int .i64 s.ow, Value.int .i64 (shtI s.sr mo), Value.bool s.br, Value.bool s.ma, Value.int .i64 s.us, Value.int .i64 s.ge, Value.int .i64 s.ep, Value.int .i64 s.ve, Value.int .i64 a, Value.int .i64 mo] 39)).alloc (.cells #[Value.int .i64 0, Value.int .i64 0, Value.int .i64 0, Value.bool false, Value.bool false, Value.int .i64 0, Value.int .i64 0, Value.int .i64 0, Value.int .i64 0] 23)) := ((Below.refl _ _).alloc (Nat.le_refl _) _).alloc (by simp) _
    have r0 := (RowAt.new w 39 #[Value.int .i64 s.st, Value.int .i64 s.ow, Value.int .i64 (shtI s.sr mo), Value.bool s.br, Value.bool s.ma, Value.int .i64 s.us, Value.int .i64 s.ge, Value.int .i64 s.ep, Value.int .i64 s.ve, Value.int .i64 a, Value.int .i64 mo]).alloc (.cells #[Value.int .i64 0, Value.int .i64 0, Value.int .i64 0, Value.bool false, Value.bool false, Value.int .i64 0, Value.int .i64 0, Value.int .i64 0, Value.int .i64 0] 23)
    have r1 := new2 w (.cells #[Value.int .i64 s.st, Value.int .i64 s.ow, Value.int .i64 (shtI s.sr mo), Value.bool s.br, Value.bool s.ma, Value.int .i64 s.us, Value.int .i64 s.ge, Value.int .i64 s.ep, Value.int .i64 s.ve, Value.int .i64 a, Value.int .i64 mo] 39) 23 #[Value.int .i64 0, Value.int .i64 0, Value.int .i64 0, Value.bool false, Value.bool false, Value.int .i64 0, Value.int .i64 0, Value.int .i64 0, Value.int .i64 0]
    obtain ⟨W, hW⟩ : ∃ W, W = (w.alloc (.cells #[Value.int .i64 s.st, Value.int .i64 s.ow, Value.int .i64 (shtI s.sr mo), Value.bool s.br, Value.bool s.ma, Value.int .i64 s.us, Value.int .i64 s.ge, Value.int .i64 s.ep, Value.int .i64 s.ve, Value.int .i64 a, Value.int .i64 mo] 39)).alloc (.cells #[Value.int .i64 0, Value.int .i64 0, Value.int .i64 0, Value.bool false, Value.bool false, Value.int .i64 0, Value.int .i64 0, Value.int .i64 0, Value.int .i64 0] 23) := ⟨_, rfl⟩
    rw [← hW] at hB0 r0 r1 ⊢
    clear hW
    obtain ⟨B1, e1⟩ : ∃ B1, B1 = w.heap.size := ⟨_, rfl⟩
    have hle : w.heap.size ≤ B1 := by omega
    rw [← e1] at r0 r1 ⊢
    clear e1
    have hne : B1 ≠ B1 + 1 := by omega
    have q0 := r0.drew
    have p0 := r1.drew
    have hBd := hB0.drew
    clear hB0 r0 r1
    have c00 : W.drew.cell? ⟨B1, 0, none⟩ = some (Value.int .i64 s.st) := q0.cell 0 rfl
    have c01 : W.drew.cell? ⟨B1, 1, none⟩ = some (Value.int .i64 s.ow) := q0.cell 1 rfl
    have c02 : W.drew.cell? ⟨B1, 2, none⟩ = some (Value.int .i64 (shtI s.sr mo)) := q0.cell 2 rfl
    have c03 : W.drew.cell? ⟨B1, 3, none⟩ = some (Value.bool s.br) := q0.cell 3 rfl
    have c04 : W.drew.cell? ⟨B1, 4, none⟩ = some (Value.bool s.ma) := q0.cell 4 rfl
    have c05 : W.drew.cell? ⟨B1, 5, none⟩ = some (Value.int .i64 s.us) := q0.cell 5 rfl
    have c06 : W.drew.cell? ⟨B1, 6, none⟩ = some (Value.int .i64 s.ge) := q0.cell 6 rfl
    have c07 : W.drew.cell? ⟨B1, 7, none⟩ = some (Value.int .i64 s.ep) := q0.cell 7 rfl
    have c08 : W.drew.cell? ⟨B1, 8, none⟩ = some (Value.int .i64 s.ve) := q0.cell 8 rfl
    have c09 : W.drew.cell? ⟨B1, 9, none⟩ = some (Value.int .i64 a) := q0.cell 9 rfl
    have c010 : W.drew.cell? ⟨B1, 10, none⟩ = some (Value.int .i64 mo) := q0.cell 10 rfl
    have d00 : W.drew.cell? ⟨B1 + 1, 0, none⟩ = some (Value.int .i64 0) := p0.cell 0 rfl
    have g00 : W.drew.frozen? ⟨B1 + 1, 0, none⟩ = false := p0.frozen 0
    have d01 : W.drew.cell? ⟨B1 + 1, 1, none⟩ = some (Value.int .i64 0) := p0.cell 1 rfl
    have g01 : W.drew.frozen? ⟨B1 + 1, 1, none⟩ = false := p0.frozen 1
    have d02 : W.drew.cell? ⟨B1 + 1, 2, none⟩ = some (Value.int .i64 0) := p0.cell 2 rfl
    have g02 : W.drew.frozen? ⟨B1 + 1, 2, none⟩ = false := p0.frozen 2
    have d03 : W.drew.cell? ⟨B1 + 1, 3, none⟩ = some (Value.bool false) := p0.cell 3 rfl
    have g03 : W.drew.frozen? ⟨B1 + 1, 3, none⟩ = false := p0.frozen 3
    have d04 : W.drew.cell? ⟨B1 + 1, 4, none⟩ = some (Value.bool false) := p0.cell 4 rfl
    have g04 : W.drew.frozen? ⟨B1 + 1, 4, none⟩ = false := p0.frozen 4
    have d05 : W.drew.cell? ⟨B1 + 1, 5, none⟩ = some (Value.int .i64 0) := p0.cell 5 rfl
    have g05 : W.drew.frozen? ⟨B1 + 1, 5, none⟩ = false := p0.frozen 5
    have d06 : W.drew.cell? ⟨B1 + 1, 6, none⟩ = some (Value.int .i64 0) := p0.cell 6 rfl
    have g06 : W.drew.frozen? ⟨B1 + 1, 6, none⟩ = false := p0.frozen 6
    have d07 : W.drew.cell? ⟨B1 + 1, 7, none⟩ = some (Value.int .i64 0) := p0.cell 7 rfl
    have g07 : W.drew.frozen? ⟨B1 + 1, 7, none⟩ = false := p0.frozen 7
    have d08 : W.drew.cell? ⟨B1 + 1, 8, none⟩ = some (Value.int .i64 0) := p0.cell 8 rfl
    have g08 : W.drew.frozen? ⟨B1 + 1, 8, none⟩ = false := p0.frozen 8
    refine wp_region_held_drew (S := (fun w' => w'.cell? ⟨B1, 0, none⟩ = some (Value.int .i64 s.st) ∧ w'.cell? ⟨B1, 1, none⟩ = some (Value.int .i64 s.ow) ∧ w'.cell? ⟨B1, 2, none⟩ = some (Value.int .i64 (shtI s.sr mo)) ∧ w'.cell? ⟨B1, 3, none⟩ = some (Value.bool s.br) ∧ w'.cell? ⟨B1, 4, none⟩ = some (Value.bool s.ma) ∧ w'.cell? ⟨B1, 5, none⟩ = some (Value.int .i64 s.us) ∧ w'.cell? ⟨B1, 6, none⟩ = some (Value.int .i64 s.ge) ∧ w'.cell? ⟨B1, 7, none⟩ = some (Value.int .i64 s.ep) ∧ w'.cell? ⟨B1, 8, none⟩ = some (Value.int .i64 s.ve) ∧ w'.cell? ⟨B1, 9, none⟩ = some (Value.int .i64 a) ∧ w'.cell? ⟨B1, 10, none⟩ = some (Value.int .i64 mo))) (by kernel_rfl) ⟨c00, c01, c02, c03, c04, c05, c06, c07, c08, c09, c010⟩ (fun hS => ?_)
    generalize W.drew = WD at *
    refine wpAnyH_take (i := 0) (oi := { dst := some 23, op := Op.fieldAddr 39 (Operand.tmp 1) 0, type := 0, pos := "life.go:175", after := #[], guard := none }) (v := ?v0_97) rfl (by kernel_rfl) (by kernel_rfl) (by kernel_rfl) (fun _ _ _ h => h) (Or.inl ⟨by rfl, ?hy0_97⟩) hS ?rest0_97
    case hy0_97 =>
      intro w hSw
      (try dsimp only at hSw)
      go_simp
      try with_reducible rfl
    try simp only [Act.put, List.setIfInBounds_toArray, List.set_cons_zero, List.set_cons_succ]
    refine wpAnyH_take (i := 1) (oi := { dst := some 24, op := Op.load 23 (Operand.tmp 23), type := 23, pos := "life.go:175", after := #[{ on := 0, ground := Ground.data }], guard := none }) (v := ?v1_98) rfl (by kernel_rfl) (by kernel_rfl) (by kernel_rfl) (fun _ _ _ h => h) (Or.inl ⟨by rfl, ?hy1_98⟩) hS ?rest1_98
    case hy1_98 =>
      intro w hSw
      (try dsimp only at hSw)
      go_simp
      try with_reducible rfl
    try simp only [Act.put, List.setIfInBounds_toArray, List.set_cons_zero, List.set_cons_succ]
    refine wpAnyH_take (i := 2) (oi := { dst := some 25, op := Op.load 39 (Operand.tmp 1), type := 39, pos := "life.go:175", after := #[], guard := none }) (v := ?v2_99) rfl (by kernel_rfl) (by kernel_rfl) (by kernel_rfl) (fun _ _ _ h => h) (Or.inl ⟨by rfl, ?hy2_99⟩) hS ?rest2_99
    case hy2_99 =>
      intro w hSw
      (try dsimp only at hSw)
      go_simp
      try with_reducible rfl
    try simp only [Act.put, List.setIfInBounds_toArray, List.set_cons_zero, List.set_cons_succ]
    refine wpAnyH_ready (rs := [3]) (by kernel_rfl) (by simp) ?_
    refine AllReadyH.cons (o := { dst := some 26, op := Op.call { callee := Callee.value (Operand.func 48), args := #[Operand.tmp 25, Operand.const (Value.int IntKind.i64 3)], argTypes := #[39, 3] }, type := 4, pos := "life.go:175", after := #[{ on := 2, ground := Ground.data }], guard := none }) rfl (fun K hK => ?_) AllReadyH.nil
    go_simp
    refine (mine_is ⟨s.st, s.ow, shtI s.sr mo, s.br, s.ma, s.us, s.ge, s.ep, s.ve⟩ a mo 3 _ _ h0).mono ?_
    rintro e w1 ⟨rfl, hb1⟩
    have q1 := q0.below hb1 (by simpa using q0.lt)
    have p1 := p0.below hb1 (by simpa using p0.lt)
    have hB1 := hBd.trans (hb1.mono (by simpa using hBd.size))
    have c10 : w1.cell? ⟨B1, 0, none⟩ = some (Value.int .i64 s.st) := q1.cell 0 rfl
    have c11 : w1.cell? ⟨B1, 1, none⟩ = some (Value.int .i64 s.ow) := q1.cell 1 rfl
    have c12 : w1.cell? ⟨B1, 2, none⟩ = some (Value.int .i64 (shtI s.sr mo)) := q1.cell 2 rfl
    have c13 : w1.cell? ⟨B1, 3, none⟩ = some (Value.bool s.br) := q1.cell 3 rfl
    have c14 : w1.cell? ⟨B1, 4, none⟩ = some (Value.bool s.ma) := q1.cell 4 rfl
    have c15 : w1.cell? ⟨B1, 5, none⟩ = some (Value.int .i64 s.us) := q1.cell 5 rfl
    have c16 : w1.cell? ⟨B1, 6, none⟩ = some (Value.int .i64 s.ge) := q1.cell 6 rfl
    have c17 : w1.cell? ⟨B1, 7, none⟩ = some (Value.int .i64 s.ep) := q1.cell 7 rfl
    have c18 : w1.cell? ⟨B1, 8, none⟩ = some (Value.int .i64 s.ve) := q1.cell 8 rfl
    have c19 : w1.cell? ⟨B1, 9, none⟩ = some (Value.int .i64 a) := q1.cell 9 rfl
    have c110 : w1.cell? ⟨B1, 10, none⟩ = some (Value.int .i64 mo) := q1.cell 10 rfl
    have d10 : w1.cell? ⟨B1 + 1, 0, none⟩ = some (Value.int .i64 0) := p1.cell 0 rfl
    have g10 : w1.frozen? ⟨B1 + 1, 0, none⟩ = false := p1.frozen 0
    have d11 : w1.cell? ⟨B1 + 1, 1, none⟩ = some (Value.int .i64 0) := p1.cell 1 rfl
    have g11 : w1.frozen? ⟨B1 + 1, 1, none⟩ = false := p1.frozen 1
    have d12 : w1.cell? ⟨B1 + 1, 2, none⟩ = some (Value.int .i64 0) := p1.cell 2 rfl
    have g12 : w1.frozen? ⟨B1 + 1, 2, none⟩ = false := p1.frozen 2
    have d13 : w1.cell? ⟨B1 + 1, 3, none⟩ = some (Value.bool false) := p1.cell 3 rfl
    have g13 : w1.frozen? ⟨B1 + 1, 3, none⟩ = false := p1.frozen 3
    have d14 : w1.cell? ⟨B1 + 1, 4, none⟩ = some (Value.bool false) := p1.cell 4 rfl
    have g14 : w1.frozen? ⟨B1 + 1, 4, none⟩ = false := p1.frozen 4
    have d15 : w1.cell? ⟨B1 + 1, 5, none⟩ = some (Value.int .i64 0) := p1.cell 5 rfl
    have g15 : w1.frozen? ⟨B1 + 1, 5, none⟩ = false := p1.frozen 5
    have d16 : w1.cell? ⟨B1 + 1, 6, none⟩ = some (Value.int .i64 0) := p1.cell 6 rfl
    have g16 : w1.frozen? ⟨B1 + 1, 6, none⟩ = false := p1.frozen 6
    have d17 : w1.cell? ⟨B1 + 1, 7, none⟩ = some (Value.int .i64 0) := p1.cell 7 rfl
    have g17 : w1.frozen? ⟨B1 + 1, 7, none⟩ = false := p1.frozen 7
    have d18 : w1.cell? ⟨B1 + 1, 8, none⟩ = some (Value.int .i64 0) := p1.cell 8 rfl
    have g18 : w1.frozen? ⟨B1 + 1, 8, none⟩ = false := p1.frozen 8
    refine hK.out _ _ ⟨c10, c11, c12, c13, c14, c15, c16, c17, c18, c19, c110⟩ (fun hS => ?_)
    clear hK K
    try simp only [Act.put, List.setIfInBounds_toArray, List.set_cons_zero, List.set_cons_succ]
    refine wpAnyH_take (i := 4) (oi := { dst := some 27, op := Op.move (Operand.tmp 26), type := 4, pos := "life.go:175", after := #[{ on := 3, ground := Ground.data }, { on := 3, ground := Ground.chain }], guard := none }) (v := ?v4_100) rfl (by kernel_rfl) (by kernel_rfl) (by kernel_rfl) (fun _ _ _ h => h) (Or.inl ⟨by rfl, ?hy4_100⟩) hS ?rest4_100
    case hy4_100 =>
      intro w hSw
      (try dsimp only at hSw)
      go_simp
      try with_reducible rfl
    try simp only [Act.put, List.setIfInBounds_toArray, List.set_cons_zero, List.set_cons_succ]
    refine wpAnyH_take (i := 5) (oi := { dst := some 28, op := Op.move (Operand.tmp 5), type := 4, pos := "life.go:175", after := #[{ on := 4, ground := Ground.guard }, { on := 7, ground := Ground.gcOnly Departure.lateStores }], guard := some (4, true) }) (v := undef) rfl (by kernel_rfl) (by kernel_rfl) (by kernel_rfl) (fun _ _ _ h => h) (Or.inr ⟨by rfl, rfl⟩) hS ?_
    try simp only [Act.put, List.setIfInBounds_toArray, List.set_cons_zero, List.set_cons_succ]
    refine wpAnyH_take (i := 6) (oi := { dst := some 29, op := Op.pick (Operand.tmp 27) (Operand.tmp 28) (Operand.const (Value.bool false)), type := 4, pos := "life.go:175", after := #[{ on := 4, ground := Ground.data }, { on := 5, ground := Ground.data }, { on := 7, ground := Ground.gcOnly Departure.lateStores }], guard := none }) (v := ?v6_101) rfl (by kernel_rfl) (by kernel_rfl) (by kernel_rfl) (fun _ _ _ h => h) (Or.inl ⟨by rfl, ?hy6_101⟩) hS ?rest6_101
    case hy6_101 =>
      intro w hSw
      (try dsimp only at hSw)
      go_simp
      try with_reducible rfl
    try simp only [Act.put, List.setIfInBounds_toArray, List.set_cons_zero, List.set_cons_succ]
    refine wpAnyH_ready (rs := [7]) (by kernel_rfl) (by simp) ?_
    refine AllReadyH.cons (o := { dst := none, op := Op.store 23 (Operand.tmp 2) (Operand.tmp 24), type := 0, pos := "life.go:175", after := #[{ on := 1, ground := Ground.data }, { on := 4, ground := Ground.chain }, { on := 0, ground := Ground.phase }, { on := 1, ground := Ground.phase }, { on := 2, ground := Ground.textOnly Departure.lateStores }, { on := 3, ground := Ground.textOnly Departure.lateStoresUnsure }, { on := 4, ground := Ground.textOnly Departure.lateStores }, { on := 5, ground := Ground.textOnly Departure.lateStores }, { on := 6, ground := Ground.textOnly Departure.lateStores }], guard := none }) rfl (fun K hK => ?_) AllReadyH.nil
    go_simp
    refine hK.out _ _ (by (try dsimp only); go_keep) (fun hS => ?_)
    clear hK K
    try simp only [Act.put, List.setIfInBounds_toArray, List.set_cons_zero, List.set_cons_succ]
    refine wpAnyH_take (i := 8) (oi := { dst := some 3, op := Op.assign (Operand.tmp 29), type := 4, pos := "life.go:175", after := #[{ on := 6, ground := Ground.data }, { on := 7, ground := Ground.chain }, { on := 0, ground := Ground.phase }, { on := 1, ground := Ground.phase }, { on := 2, ground := Ground.phase }, { on := 3, ground := Ground.phase }, { on := 4, ground := Ground.phase }, { on := 5, ground := Ground.phase }, { on := 6, ground := Ground.phase }, { on := 7, ground := Ground.phase }], guard := none }) (v := ?v8_102) rfl (by kernel_rfl) (by kernel_rfl) (by kernel_rfl) (fun _ _ _ h => h) (Or.inl ⟨by rfl, ?hy8_102⟩) hS ?rest8_102
    case hy8_102 =>
      intro w hSw
      (try dsimp only at hSw)
      go_simp
      try with_reducible rfl
    try simp only [Act.put, List.setIfInBounds_toArray, List.set_cons_zero, List.set_cons_succ]
    refine wpAnyH_done (by kernel_rfl) ?_ _
    have rz := row9 p1 (Value.int .i64 s.st) (Value.int .i64 s.ow) (Value.int .i64 (shtI s.sr mo)) (Value.bool s.br) (Value.bool s.ma) (Value.int .i64 s.us) (Value.int .i64 s.ge) (Value.int .i64 s.ep) (Value.int .i64 s.ve)
    have hz := below9 (n := w.heap.size) (A := w) (b := B1 + 1) hB1 (by omega) (Value.int .i64 s.st) (Value.int .i64 s.ow) (Value.int .i64 (shtI s.sr mo)) (Value.bool s.br) (Value.bool s.ma) (Value.int .i64 s.us) (Value.int .i64 s.ge) (Value.int .i64 s.ep) (Value.int .i64 s.ve)
    go_wp2
    refine bodyPost_ret (res_pair (p := 2) (u := 3) rfl _ _ _ _ rfl rz rfl) rfl ⟨ret_pair (by simp [chB, *]), hz⟩

theorem take_y {s : Sl} {a mo : Int} (h : minB s a 5 = true) : chS 16 s a mo = s.becm a 1 ∧ chB 16 s a mo = true := by
  simp [chS, chB, h]
theorem take_n {s : Sl} {a mo : Int} (h : minB s a 5 = false) : chS 16 s a mo = s.leas a ∧ chB 16 s a mo = minB s a 4 := by
  simp [chS, chB, h]
set_option maxRecDepth 100000 in
set_option maxHeartbeats 4000000 in
theorem m16_any (s : Sl) (a mo : Int) (w : World) (hr : Rt s) :
    Calls Tryd.prog 36 #[Value.agg #[Value.int .i64 s.st, Value.int .i64 s.ow, Value.int .i64 s.sr, Value.bool s.br, Value.bool s.ma, Value.int .i64 s.us, Value.int .i64 s.ge, Value.int .i64 s.ep, Value.int .i64 s.ve, Value.int .i64 a, Value.int .i64 mo]] w fun e w' => e = .returned (.tuple #[.agg #[Value.int .i64 (chS 16 s a mo).st, Value.int .i64 (chS 16 s a mo).ow, Value.int .i64 (chS 16 s a mo).sr, Value.bool (chS 16 s a mo).br, Value.bool (chS 16 s a mo).ma, Value.int .i64 (chS 16 s a mo).us, Value.int .i64 (chS 16 s a mo).ge, Value.int .i64 (chS 16 s a mo).ep, Value.int .i64 (chS 16 s a mo).ve], .bool (chB 16 s a mo)]) ∧ Below w.heap.size w w' := by
  cases h0 : (minB s a 5) with
  | true =>
    rw [(take_y h0).1, (take_y h0).2]
    go_enter Tryd.func36, Tryd.ntmps36
    go_wp2_with fail
    have hB0 : Below w.heap.size w ((w.alloc (.cells #[Value.int .i64 s.st, Value.int .i64 s.ow, Value.int .i64 s.sr, Value.bool s.br, Value.bool s.ma, Value.int .i64 s.us, Value.int .i64 s.ge, Value.int .i64 s.ep, Value.int .i64 s.ve, Value.int .i64 a, Value.int .i64 mo] 39)).alloc (.cells #[Value.int .i64 0, Value.int .i64 0, Value.int .i64 0, Value.bool false, Value.bool false, Value.int .i64 0, Value.int .i64 0, Value.int .i64 0, Value.int .i64 0] 23)) := ((Below.refl _ _).alloc (Nat.le_refl _) _).alloc (by simp) _
    have r0 := (RowAt.new w 39 #[Value.int .i64 s.st, Value.int .i64 s.ow, Value.int .i64 s.sr, Value.bool s.br, Value.bool s.ma, Value.int .i64 s.us, Value.int .i64 s.ge, Value.int .i64 s.ep, Value.int .i64 s.ve, Value.int .i64 a, Value.int .i64 mo]).alloc (.cells #[Value.int .i64 0, Value.int .i64 0, Value.int .i64 0, Value.bool false, Value.bool false, Value.int .i64 0, Value.int .i64 0, Value.int .i64 0, Value.int .i64 0] 23)
    have r1 := new2 w (.cells #[Value.int .i64 s.st, Value.int .i64 s.ow, Value.int .i64 s.sr, Value.bool s.br, Value.bool s.ma, Value.int .i64 s.us, Value.int .i64 s.ge, Value.int .i64 s.ep, Value.int .i64 s.ve, Value.int .i64 a, Value.int .i64 mo] 39) 23 #[Value.int .i64 0, Value.int .i64 0, Value.int .i64 0, Value.bool false, Value.bool false, Value.int .i64 0, Value.int .i64 0, Value.int .i64 0, Value.int .i64 0]
    obtain ⟨W, hW⟩ : ∃ W, W = (w.alloc (.cells #[Value.int .i64 s.st, Value.int .i64 s.ow, Value.int .i64 s.sr, Value.bool s.br, Value.bool s.ma, Value.int .i64 s.us, Value.int .i64 s.ge, Value.int .i64 s.ep, Value.int .i64 s.ve, Value.int .i64 a, Value.int .i64 mo] 39)).alloc (.cells #[Value.int .i64 0, Value.int .i64 0, Value.int .i64 0, Value.bool false, Value.bool false, Value.int .i64 0, Value.int .i64 0, Value.int .i64 0, Value.int .i64 0] 23) := ⟨_, rfl⟩
    rw [← hW] at hB0 r0 r1 ⊢
    clear hW
    obtain ⟨B1, e1⟩ : ∃ B1, B1 = w.heap.size := ⟨_, rfl⟩
    have hle : w.heap.size ≤ B1 := by omega
    rw [← e1] at r0 r1 ⊢
    clear e1
    have hne : B1 ≠ B1 + 1 := by omega
    refine (mine_is s a mo 5 _ _ h0).mono ?_
    rintro e w1 ⟨rfl, hb⟩
    replace r0 := r0.below hb r0.lt
    replace r1 := r1.below hb r1.lt
    replace hB0 := hB0.trans (hb.mono hB0.size)
    clear hb
    have c00 : w1.cell? ⟨B1, 0, none⟩ = some (Value.int .i64 s.st) := r0.cell 0 rfl
    have c01 : w1.cell? ⟨B1, 1, none⟩ = some (Value.int .i64 s.ow) := r0.cell 1 rfl
    have c02 : w1.cell? ⟨B1, 2, none⟩ = some (Value.int .i64 s.sr) := r0.cell 2 rfl
    have c03 : w1.cell? ⟨B1, 3, none⟩ = some (Value.bool s.br) := r0.cell 3 rfl
    have c04 : w1.cell? ⟨B1, 4, none⟩ = some (Value.bool s.ma) := r0.cell 4 rfl
    have c05 : w1.cell? ⟨B1, 5, none⟩ = some (Value.int .i64 s.us) := r0.cell 5 rfl
    have c06 : w1.cell? ⟨B1, 6, none⟩ = some (Value.int .i64 s.ge) := r0.cell 6 rfl
    have c07 : w1.cell? ⟨B1, 7, none⟩ = some (Value.int .i64 s.ep) := r0.cell 7 rfl
    have c08 : w1.cell? ⟨B1, 8, none⟩ = some (Value.int .i64 s.ve) := r0.cell 8 rfl
    have c09 : w1.cell? ⟨B1, 9, none⟩ = some (Value.int .i64 a) := r0.cell 9 rfl
    have c010 : w1.cell? ⟨B1, 10, none⟩ = some (Value.int .i64 mo) := r0.cell 10 rfl
    go_wp2_with fail
    refine (become_any s a mo 1 _).mono ?_
    rintro e w2 ⟨rfl, hb⟩
    replace r1 := r1.below hb r1.lt
    replace hB0 := hB0.trans (hb.mono hB0.size)
    clear hb r0
    go_wp2_with (refine wpList_store_row rfl 23 _ _ rfl _ #[Value.int .i64 (s.becm a 1).st, Value.int .i64 (s.becm a 1).ow, Value.int .i64 (s.becm a 1).sr, Value.bool (s.becm a 1).br, Value.bool (s.becm a 1).ma, Value.int .i64 (s.becm a 1).us, Value.int .i64 (s.becm a 1).ge, Value.int .i64 (s.becm a 1).ep, Value.int .i64 (s.becm a 1).ve] rfl rfl 23 _ r1 (by kernel_rfl) rfl (by simp [Value.oneCell']) ?_)
    refine bodyPost_ret (res_pair (p := 2) (u := 3) rfl _ _ _ _ rfl (r1.set _) rfl) rfl ⟨rfl, below_setRow hB0 (by omega) _⟩
  | false =>
    rw [(take_n h0).1, (take_n h0).2]
    go_enter Tryd.func36, Tryd.ntmps36
    go_wp2_with fail
    have hB0 : Below w.heap.size w ((w.alloc (.cells #[Value.int .i64 s.st, Value.int .i64 s.ow, Value.int .i64 s.sr, Value.bool s.br, Value.bool s.ma, Value.int .i64 s.us, Value.int .i64 s.ge, Value.int .i64 s.ep, Value.int .i64 s.ve, Value.int .i64 a, Value.int .i64 mo] 39)).alloc (.cells #[Value.int .i64 0, Value.int .i64 0, Value.int .i64 0, Value.bool false, Value.bool false, Value.int .i64 0, Value.int .i64 0, Value.int .i64 0, Value.int .i64 0] 23)) := ((Below.refl _ _).alloc (Nat.le_refl _) _).alloc (by simp) _
    have r0 := (RowAt.new w 39 #[Value.int .i64 s.st, Value.int .i64 s.ow, Value.int .i64 s.sr, Value.bool s.br, Value.bool s.ma, Value.int .i64 s.us, Value.int .i64 s.ge, Value.int .i64 s.ep, Value.int .i64 s.ve, Value.int .i64 a, Value.int .i64 mo]).alloc (.cells #[Value.int .i64 0, Value.int .i64 0, Value.int .i64 0, Value.bool false, Value.bool false, Value.int .i64 0, Value.int .i64 0, Value.int .i64 0, Value.int .i64 0] 23)
    have r1 := new2 w (.cells #[Value.int .i64 s.st, Value.int .i64 s.ow, Value.int .i64 s.sr, Value.bool s.br, Value.bool s.ma, Value.int .i64 s.us, Value.int .i64 s.ge, Value.int .i64 s.ep, Value.int .i64 s.ve, Value.int .i64 a, Value.int .i64 mo] 39) 23 #[Value.int .i64 0, Value.int .i64 0, Value.int .i64 0, Value.bool false, Value.bool false, Value.int .i64 0, Value.int .i64 0, Value.int .i64 0, Value.int .i64 0]
    obtain ⟨W, hW⟩ : ∃ W, W = (w.alloc (.cells #[Value.int .i64 s.st, Value.int .i64 s.ow, Value.int .i64 s.sr, Value.bool s.br, Value.bool s.ma, Value.int .i64 s.us, Value.int .i64 s.ge, Value.int .i64 s.ep, Value.int .i64 s.ve, Value.int .i64 a, Value.int .i64 mo] 39)).alloc (.cells #[Value.int .i64 0, Value.int .i64 0, Value.int .i64 0, Value.bool false, Value.bool false, Value.int .i64 0, Value.int .i64 0, Value.int .i64 0, Value.int .i64 0] 23) := ⟨_, rfl⟩
    rw [← hW] at hB0 r0 r1 ⊢
    clear hW
    obtain ⟨B1, e1⟩ : ∃ B1, B1 = w.heap.size := ⟨_, rfl⟩
    have hle : w.heap.size ≤ B1 := by omega
    rw [← e1] at r0 r1 ⊢
    clear e1
    have hne : B1 ≠ B1 + 1 := by omega
    refine (mine_is s a mo 5 _ _ h0).mono ?_
    rintro e w1 ⟨rfl, hb⟩
    replace r0 := r0.below hb r0.lt
    replace r1 := r1.below hb r1.lt
    replace hB0 := hB0.trans (hb.mono hB0.size)
    clear hb
    go_wp2_with fail
    have q0 := r0.drew
    have p0 := r1.drew
    have hBd := hB0.drew
    clear hB0 r0 r1
    have c00 : w1.drew.cell? ⟨B1, 0, none⟩ = some (Value.int .i64 s.st) := q0.cell 0 rfl
    have c01 : w1.drew.cell? ⟨B1, 1, none⟩ = some (Value.int .i64 s.ow) := q0.cell 1 rfl
    have c02 : w1.drew.cell? ⟨B1, 2, none⟩ = some (Value.int .i64 s.sr) := q0.cell 2 rfl
    have c03 : w1.drew.cell? ⟨B1, 3, none⟩ = some (Value.bool s.br) := q0.cell 3 rfl
    have c04 : w1.drew.cell? ⟨B1, 4, none⟩ = some (Value.bool s.ma) := q0.cell 4 rfl
    have c05 : w1.drew.cell? ⟨B1, 5, none⟩ = some (Value.int .i64 s.us) := q0.cell 5 rfl
    have c06 : w1.drew.cell? ⟨B1, 6, none⟩ = some (Value.int .i64 s.ge) := q0.cell 6 rfl
    have c07 : w1.drew.cell? ⟨B1, 7, none⟩ = some (Value.int .i64 s.ep) := q0.cell 7 rfl
    have c08 : w1.drew.cell? ⟨B1, 8, none⟩ = some (Value.int .i64 s.ve) := q0.cell 8 rfl
    have c09 : w1.drew.cell? ⟨B1, 9, none⟩ = some (Value.int .i64 a) := q0.cell 9 rfl
    have c010 : w1.drew.cell? ⟨B1, 10, none⟩ = some (Value.int .i64 mo) := q0.cell 10 rfl
    have d00 : w1.drew.cell? ⟨B1 + 1, 0, none⟩ = some (Value.int .i64 0) := p0.cell 0 rfl
    have g00 : w1.drew.frozen? ⟨B1 + 1, 0, none⟩ = false := p0.frozen 0
    have d01 : w1.drew.cell? ⟨B1 + 1, 1, none⟩ = some (Value.int .i64 0) := p0.cell 1 rfl
    have g01 : w1.drew.frozen? ⟨B1 + 1, 1, none⟩ = false := p0.frozen 1
    have d02 : w1.drew.cell? ⟨B1 + 1, 2, none⟩ = some (Value.int .i64 0) := p0.cell 2 rfl
    have g02 : w1.drew.frozen? ⟨B1 + 1, 2, none⟩ = false := p0.frozen 2
    have d03 : w1.drew.cell? ⟨B1 + 1, 3, none⟩ = some (Value.bool false) := p0.cell 3 rfl
    have g03 : w1.drew.frozen? ⟨B1 + 1, 3, none⟩ = false := p0.frozen 3
    have d04 : w1.drew.cell? ⟨B1 + 1, 4, none⟩ = some (Value.bool false) := p0.cell 4 rfl
    have g04 : w1.drew.frozen? ⟨B1 + 1, 4, none⟩ = false := p0.frozen 4
    have d05 : w1.drew.cell? ⟨B1 + 1, 5, none⟩ = some (Value.int .i64 0) := p0.cell 5 rfl
    have g05 : w1.drew.frozen? ⟨B1 + 1, 5, none⟩ = false := p0.frozen 5
    have d06 : w1.drew.cell? ⟨B1 + 1, 6, none⟩ = some (Value.int .i64 0) := p0.cell 6 rfl
    have g06 : w1.drew.frozen? ⟨B1 + 1, 6, none⟩ = false := p0.frozen 6
    have d07 : w1.drew.cell? ⟨B1 + 1, 7, none⟩ = some (Value.int .i64 0) := p0.cell 7 rfl
    have g07 : w1.drew.frozen? ⟨B1 + 1, 7, none⟩ = false := p0.frozen 7
    have d08 : w1.drew.cell? ⟨B1 + 1, 8, none⟩ = some (Value.int .i64 0) := p0.cell 8 rfl
    have g08 : w1.drew.frozen? ⟨B1 + 1, 8, none⟩ = false := p0.frozen 8
    refine wp_region_held_drew (S := (fun w' => w'.cell? ⟨B1, 0, none⟩ = some (Value.int .i64 s.st) ∧ w'.cell? ⟨B1, 1, none⟩ = some (Value.int .i64 s.ow) ∧ w'.cell? ⟨B1, 2, none⟩ = some (Value.int .i64 s.sr) ∧ w'.cell? ⟨B1, 3, none⟩ = some (Value.bool s.br) ∧ w'.cell? ⟨B1, 4, none⟩ = some (Value.bool s.ma) ∧ w'.cell? ⟨B1, 5, none⟩ = some (Value.int .i64 s.us) ∧ w'.cell? ⟨B1, 6, none⟩ = some (Value.int .i64 s.ge) ∧ w'.cell? ⟨B1, 7, none⟩ = some (Value.int .i64 s.ep) ∧ w'.cell? ⟨B1, 8, none⟩ = some (Value.int .i64 s.ve) ∧ w'.cell? ⟨B1, 9, none⟩ = some (Value.int .i64 a) ∧ w'.cell? ⟨B1, 10, none⟩ = some (Value.int .i64 mo))) (by kernel_rfl) ⟨c00, c01, c02, c03, c04, c05, c06, c07, c08, c09, c010⟩ (fun hS => ?_)
    generalize w1.drew = WD at *
    refine wpAnyH_take (i := 0) (oi := { dst := some 8, op := Op.load 39 (Operand.tmp 1), type := 39, pos := "life.go:182", after := #[], guard := none }) (v := ?v0_148) rfl (by kernel_rfl) (by kernel_rfl) (by kernel_rfl) (fun _ _ _ h => h) (Or.inl ⟨by rfl, ?hy0_148⟩) hS ?rest0_148
    case hy0_148 =>
      intro w hSw
      (try dsimp only at hSw)
      go_simp
      try with_reducible rfl
    try simp only [Act.put, List.setIfInBounds_toArray, List.set_cons_zero, List.set_cons_succ]
    refine wpAnyH_take (i := 2) (oi := { dst := some 10, op := Op.load 39 (Operand.tmp 1), type := 39, pos := "life.go:182", after := #[], guard := none }) (v := ?v2_149) rfl (by kernel_rfl) (by kernel_rfl) (by kernel_rfl) (fun _ _ _ h => h) (Or.inl ⟨by rfl, ?hy2_149⟩) hS ?rest2_149
    case hy2_149 =>
      intro w hSw
      (try dsimp only at hSw)
      go_simp
      try with_reducible rfl
    try simp only [Act.put, List.setIfInBounds_toArray, List.set_cons_zero, List.set_cons_succ]
    refine wpAnyH_ready (rs := [1]) (by kernel_rfl) (by simp) ?_
    refine AllReadyH.cons (o := { dst := some 9, op := Op.call { callee := Callee.value (Operand.func 47), args := #[Operand.tmp 8], argTypes := #[39] }, type := 23, pos := "life.go:182", after := #[{ on := 0, ground := Ground.data }], guard := none }) rfl (fun K hK => ?_) AllReadyH.nil
    go_simp
    refine (leased_any s a mo _ hr.us.1 hr.us.2 hr.ge.1 hr.ge.2).mono ?_
    rintro e z1 ⟨rfl, hb1⟩
    have q1 := q0.below hb1 (by simpa using q0.lt)
    have p1 := p0.below hb1 (by simpa using p0.lt)
    have hB1 := hBd.trans (hb1.mono (by simpa using hBd.size))
    have c10 : z1.cell? ⟨B1, 0, none⟩ = some (Value.int .i64 s.st) := q1.cell 0 rfl
    have c11 : z1.cell? ⟨B1, 1, none⟩ = some (Value.int .i64 s.ow) := q1.cell 1 rfl
    have c12 : z1.cell? ⟨B1, 2, none⟩ = some (Value.int .i64 s.sr) := q1.cell 2 rfl
    have c13 : z1.cell? ⟨B1, 3, none⟩ = some (Value.bool s.br) := q1.cell 3 rfl
    have c14 : z1.cell? ⟨B1, 4, none⟩ = some (Value.bool s.ma) := q1.cell 4 rfl
    have c15 : z1.cell? ⟨B1, 5, none⟩ = some (Value.int .i64 s.us) := q1.cell 5 rfl
    have c16 : z1.cell? ⟨B1, 6, none⟩ = some (Value.int .i64 s.ge) := q1.cell 6 rfl
    have c17 : z1.cell? ⟨B1, 7, none⟩ = some (Value.int .i64 s.ep) := q1.cell 7 rfl
    have c18 : z1.cell? ⟨B1, 8, none⟩ = some (Value.int .i64 s.ve) := q1.cell 8 rfl
    have c19 : z1.cell? ⟨B1, 9, none⟩ = some (Value.int .i64 a) := q1.cell 9 rfl
    have c110 : z1.cell? ⟨B1, 10, none⟩ = some (Value.int .i64 mo) := q1.cell 10 rfl
    have d10 : z1.cell? ⟨B1 + 1, 0, none⟩ = some (Value.int .i64 0) := p1.cell 0 rfl
    have g10 : z1.frozen? ⟨B1 + 1, 0, none⟩ = false := p1.frozen 0
    have d11 : z1.cell? ⟨B1 + 1, 1, none⟩ = some (Value.int .i64 0) := p1.cell 1 rfl
    have g11 : z1.frozen? ⟨B1 + 1, 1, none⟩ = false := p1.frozen 1
    have d12 : z1.cell? ⟨B1 + 1, 2, none⟩ = some (Value.int .i64 0) := p1.cell 2 rfl
    have g12 : z1.frozen? ⟨B1 + 1, 2, none⟩ = false := p1.frozen 2
    have d13 : z1.cell? ⟨B1 + 1, 3, none⟩ = some (Value.bool false) := p1.cell 3 rfl
    have g13 : z1.frozen? ⟨B1 + 1, 3, none⟩ = false := p1.frozen 3
    have d14 : z1.cell? ⟨B1 + 1, 4, none⟩ = some (Value.bool false) := p1.cell 4 rfl
    have g14 : z1.frozen? ⟨B1 + 1, 4, none⟩ = false := p1.frozen 4
    have d15 : z1.cell? ⟨B1 + 1, 5, none⟩ = some (Value.int .i64 0) := p1.cell 5 rfl
    have g15 : z1.frozen? ⟨B1 + 1, 5, none⟩ = false := p1.frozen 5
    have d16 : z1.cell? ⟨B1 + 1, 6, none⟩ = some (Value.int .i64 0) := p1.cell 6 rfl
    have g16 : z1.frozen? ⟨B1 + 1, 6, none⟩ = false := p1.frozen 6
    have d17 : z1.cell? ⟨B1 + 1, 7, none⟩ = some (Value.int .i64 0) := p1.cell 7 rfl
    have g17 : z1.frozen? ⟨B1 + 1, 7, none⟩ = false := p1.frozen 7
    have d18 : z1.cell? ⟨B1 + 1, 8, none⟩ = some (Value.int .i64 0) := p1.cell 8 rfl
    have g18 : z1.frozen? ⟨B1 + 1, 8, none⟩ = false := p1.frozen 8
    refine hK.out _ _ ⟨c10, c11, c12, c13, c14, c15, c16, c17, c18, c19, c110⟩ (fun hS => ?_)
    clear hK K
    try simp only [Act.put, List.setIfInBounds_toArray, List.set_cons_zero, List.set_cons_succ]
    refine wpAnyH_ready (rs := [3]) (by kernel_rfl) (by simp) ?_
    refine AllReadyH.cons (o := { dst := some 11, op := Op.call { callee := Callee.value (Operand.func 48), args := #[Operand.tmp 10, Operand.const (Value.int IntKind.i64 4)], argTypes := #[39, 3] }, type := 4, pos := "life.go:182", after := #[{ on := 2, ground := Ground.data }, { on := 1, ground := Ground.chain }], guard := none }) rfl (fun K hK => ?_) AllReadyH.nil
    go_simp
    refine (mine_any s a mo 4 _).mono ?_
    rintro e z2 ⟨rfl, hb2⟩
    have q2 := q1.below hb2 (by simpa using q1.lt)
    have p2 := p1.below hb2 (by simpa using p1.lt)
    have hB2 := hB1.trans (hb2.mono (by simpa using hB1.size))
    have c20 : z2.cell? ⟨B1, 0, none⟩ = some (Value.int .i64 s.st) := q2.cell 0 rfl
    have c21 : z2.cell? ⟨B1, 1, none⟩ = some (Value.int .i64 s.ow) := q2.cell 1 rfl
    have c22 : z2.cell? ⟨B1, 2, none⟩ = some (Value.int .i64 s.sr) := q2.cell 2 rfl
    have c23 : z2.cell? ⟨B1, 3, none⟩ = some (Value.bool s.br) := q2.cell 3 rfl
    have c24 : z2.cell? ⟨B1, 4, none⟩ = some (Value.bool s.ma) := q2.cell 4 rfl
    have c25 : z2.cell? ⟨B1, 5, none⟩ = some (Value.int .i64 s.us) := q2.cell 5 rfl
    have c26 : z2.cell? ⟨B1, 6, none⟩ = some (Value.int .i64 s.ge) := q2.cell 6 rfl
    have c27 : z2.cell? ⟨B1, 7, none⟩ = some (Value.int .i64 s.ep) := q2.cell 7 rfl
    have c28 : z2.cell? ⟨B1, 8, none⟩ = some (Value.int .i64 s.ve) := q2.cell 8 rfl
    have c29 : z2.cell? ⟨B1, 9, none⟩ = some (Value.int .i64 a) := q2.cell 9 rfl
    have c210 : z2.cell? ⟨B1, 10, none⟩ = some (Value.int .i64 mo) := q2.cell 10 rfl
    have d20 : z2.cell? ⟨B1 + 1, 0, none⟩ = some (Value.int .i64 0) := p2.cell 0 rfl
    have g20 : z2.frozen? ⟨B1 + 1, 0, none⟩ = false := p2.frozen 0
    have d21 : z2.cell? ⟨B1 + 1, 1, none⟩ = some (Value.int .i64 0) := p2.cell 1 rfl
    have g21 : z2.frozen? ⟨B1 + 1, 1, none⟩ = false := p2.frozen 1
    have d22 : z2.cell? ⟨B1 + 1, 2, none⟩ = some (Value.int .i64 0) := p2.cell 2 rfl
    have g22 : z2.frozen? ⟨B1 + 1, 2, none⟩ = false := p2.frozen 2
    have d23 : z2.cell? ⟨B1 + 1, 3, none⟩ = some (Value.bool false) := p2.cell 3 rfl
    have g23 : z2.frozen? ⟨B1 + 1, 3, none⟩ = false := p2.frozen 3
    have d24 : z2.cell? ⟨B1 + 1, 4, none⟩ = some (Value.bool false) := p2.cell 4 rfl
    have g24 : z2.frozen? ⟨B1 + 1, 4, none⟩ = false := p2.frozen 4
    have d25 : z2.cell? ⟨B1 + 1, 5, none⟩ = some (Value.int .i64 0) := p2.cell 5 rfl
    have g25 : z2.frozen? ⟨B1 + 1, 5, none⟩ = false := p2.frozen 5
    have d26 : z2.cell? ⟨B1 + 1, 6, none⟩ = some (Value.int .i64 0) := p2.cell 6 rfl
    have g26 : z2.frozen? ⟨B1 + 1, 6, none⟩ = false := p2.frozen 6
    have d27 : z2.cell? ⟨B1 + 1, 7, none⟩ = some (Value.int .i64 0) := p2.cell 7 rfl
    have g27 : z2.frozen? ⟨B1 + 1, 7, none⟩ = false := p2.frozen 7
    have d28 : z2.cell? ⟨B1 + 1, 8, none⟩ = some (Value.int .i64 0) := p2.cell 8 rfl
    have g28 : z2.frozen? ⟨B1 + 1, 8, none⟩ = false := p2.frozen 8
    refine hK.out _ _ ⟨c20, c21, c22, c23, c24, c25, c26, c27, c28, c29, c210⟩ (fun hS => ?_)
    clear hK K
    try simp only [Act.put, List.setIfInBounds_toArray, List.set_cons_zero, List.set_cons_succ]
    refine wpAnyH_ready (rs := [4]) (by kernel_rfl) (by simp) ?_
    refine AllReadyH.cons (o := { dst := none, op := Op.store 23 (Operand.tmp 2) (Operand.tmp 9), type := 0, pos := "life.go:182", after := #[{ on := 1, ground := Ground.data }, { on := 3, ground := Ground.chain }, { on := 0, ground := Ground.phase }, { on := 1, ground := Ground.phase }, { on := 2, ground := Ground.textOnly Departure.lateStores }, { on := 3, ground := Ground.textOnly Departure.lateStoresUnsure }], guard := none }) rfl (fun K hK => ?_) AllReadyH.nil
    go_simp
    refine hK.out _ _ (by (try dsimp only); go_keep) (fun hS => ?_)
    clear hK K
    try simp only [Act.put, List.setIfInBounds_toArray, List.set_cons_zero, List.set_cons_succ]
    refine wpAnyH_take (i := 5) (oi := { dst := some 3, op := Op.assign (Operand.tmp 11), type := 4, pos := "life.go:182", after := #[{ on := 3, ground := Ground.data }, { on := 4, ground := Ground.chain }, { on := 0, ground := Ground.phase }, { on := 1, ground := Ground.phase }, { on := 2, ground := Ground.phase }, { on := 3, ground := Ground.phase }, { on := 4, ground := Ground.phase }], guard := none }) (v := ?v5_150) rfl (by kernel_rfl) (by kernel_rfl) (by kernel_rfl) (fun _ _ _ h => h) (Or.inl ⟨by rfl, ?hy5_150⟩) hS ?rest5_150
    case hy5_150 =>
      intro w hSw
      (try dsimp only at hSw)
      go_simp
      try with_reducible rfl
    try simp only [Act.put, List.setIfInBounds_toArray, List.set_cons_zero, List.set_cons_succ]
    refine wpAnyH_done (by kernel_rfl) ?_ _
    have rz := row9 p2 (Value.int .i64 (s.leas a).st) (Value.int .i64 (s.leas a).ow) (Value.int .i64 (s.leas a).sr) (Value.bool (s.leas a).br) (Value.bool (s.leas a).ma) (Value.int .i64 (s.leas a).us) (Value.int .i64 (s.leas a).ge) (Value.int .i64 (s.leas a).ep) (Value.int .i64 (s.leas a).ve)
    have hz := below9 (n := w.heap.size) (A := w) (b := B1 + 1) hB2 (by omega) (Value.int .i64 (s.leas a).st) (Value.int .i64 (s.leas a).ow) (Value.int .i64 (s.leas a).sr) (Value.bool (s.leas a).br) (Value.bool (s.leas a).ma) (Value.int .i64 (s.leas a).us) (Value.int .i64 (s.leas a).ge) (Value.int .i64 (s.leas a).ep) (Value.int .i64 (s.leas a).ve)
    go_wp2
    refine bodyPost_ret (res_pair (p := 2) (u := 3) rfl _ _ _ _ rfl rz rfl) rfl ⟨rfl, hz⟩
end Go.Proofs.YtdiipmejkanhfaaDoor
