/- What is done with a slot, each thing by itself; nothing that was there changes. -/
import Derived.Test.YtdiipmejkanhfaaDoorChD
namespace Go.Proofs.YtdiipmejkanhfaaDoor
open Go.RowKit
attribute [local go_sem ↓] Go.wp_at_zero Go.wp_at_succ

set_option maxRecDepth 100000 in
set_option maxHeartbeats 4000000 in
theorem m9_any (s : Sl) (a mo : Int) (w : World) (_ : Rt s) :
    Calls Tryd.prog 29 #[Value.agg #[Value.int .i64 s.st, Value.int .i64 s.ow, Value.int .i64 s.sr, Value.bool s.br, Value.bool s.ma, Value.int .i64 s.us, Value.int .i64 s.ge, Value.int .i64 s.ep, Value.int .i64 s.ve, Value.int .i64 a, Value.int .i64 mo]] w fun e w' => e = .returned (.tuple #[.agg #[Value.int .i64 (chS 9 s a mo).st, Value.int .i64 (chS 9 s a mo).ow, Value.int .i64 (chS 9 s a mo).sr, Value.bool (chS 9 s a mo).br, Value.bool (chS 9 s a mo).ma, Value.int .i64 (chS 9 s a mo).us, Value.int .i64 (chS 9 s a mo).ge, Value.int .i64 (chS 9 s a mo).ep, Value.int .i64 (chS 9 s a mo).ve], .bool (chB 9 s a mo)]) ∧ Below w.heap.size w w' := by
  go_enter Tryd.func29, Tryd.ntmps29
  go_wp2_with fail
  have hB0 : Below w.heap.size w ((w.alloc (.cells #[Value.int .i64 s.st, Value.int .i64 a, Value.int .i64 s.sr, Value.bool s.br, Value.bool s.ma, Value.int .i64 s.us, Value.int .i64 s.ge, Value.int .i64 s.ep, Value.int .i64 s.ve, Value.int .i64 a, Value.int .i64 mo] 39)).alloc (.cells #[Value.int .i64 0, Value.int .i64 0, Value.int .i64 0, Value.bool false, Value.bool false, Value.int .i64 0, Value.int .i64 0, Value.int .i64 0, Value.int .i64 0] 23)) := ((Below.refl _ _).alloc (Nat.le_refl _) _).alloc (by simp) _
  have r0 := (RowAt.new w 39 #[Value.int .i64 s.st, Value.int .i64 a, Value.int .i64 s.sr, Value.bool s.br, Value.bool s.ma, Value.int .i64 s.us, Value.int .i64 s.ge, Value.int .i64 s.ep, Value.int .i64 s.ve, Value.int .i64 a, Value.int .i64 mo]).alloc (.cells #[Value.int .i64 0, Value.int .i64 0, Value.int .i64 0, Value.bool false, Value.bool false, Value.int .i64 0, Value.int .i64 0, Value.int .i64 0, Value.int .i64 0] 23)
  have r1 := new2 w (.cells #[Value.int .i64 s.st, Value.int .i64 a, Value.int .i64 s.sr, Value.bool s.br, Value.bool s.ma, Value.int .i64 s.us, Value.int .i64 s.ge, Value.int .i64 s.ep, Value.int .i64 s.ve, Value.int .i64 a, Value.int .i64 mo] 39) 23 #[Value.int .i64 0, Value.int .i64 0, Value.int .i64 0, Value.bool false, Value.bool false, Value.int .i64 0, Value.int .i64 0, Value.int .i64 0, Value.int .i64 0]
  obtain ⟨W, hW⟩ : ∃ W, W = (w.alloc (.cells #[Value.int .i64 s.st, Value.int .i64 a, Value.int .i64 s.sr, Value.bool s.br, Value.bool s.ma, Value.int .i64 s.us, Value.int .i64 s.ge, Value.int .i64 s.ep, Value.int .i64 s.ve, Value.int .i64 a, Value.int .i64 mo] 39)).alloc (.cells #[Value.int .i64 0, Value.int .i64 0, Value.int .i64 0, Value.bool false, Value.bool false, Value.int .i64 0, Value.int .i64 0, Value.int .i64 0, Value.int .i64 0] 23) := ⟨_, rfl⟩
  rw [← hW] at hB0 r0 r1 ⊢
  clear hW
  obtain ⟨B1, e1⟩ : ∃ B1, B1 = w.heap.size := ⟨_, rfl⟩
  have hle : w.heap.size ≤ B1 := by omega
  rw [← e1] at r0 r1 ⊢
  clear e1
  have hne : B1 ≠ B1 + 1 := by omega
  have q0 := r0.drew
  have p0 := r1.drew
  have hBd := hB0.drew
  clear hB0 r0 r1
  have c00 : W.drew.cell? ⟨B1, 0, none⟩ = some (Value.int .i64 s.st) := q0.cell 0 rfl
  have c01 : W.drew.cell? ⟨B1, 1, none⟩ = some (Value.int .i64 a) := q0.cell 1 rfl
  have c02 : W.drew.cell? ⟨B1, 2, none⟩ = some (Value.int .i64 s.sr) := q0.cell 2 rfl
  have c03 : W.drew.cell? ⟨B1, 3, none⟩ = some (Value.bool s.br) := q0.cell 3 rfl
  have c04 : W.drew.cell? ⟨B1, 4, none⟩ = some (Value.bool s.ma) := q0.cell 4 rfl
  have c05 : W.drew.cell? ⟨B1, 5, none⟩ = some (Value.int .i64 s.us) := q0.cell 5 rfl
  have c06 : W.drew.cell? ⟨B1, 6, none⟩ = some (Value.int .i64 s.ge) := q0.cell 6 rfl
  have c07 : W.drew.cell? ⟨B1, 7, none⟩ = some (Value.int .i64 s.ep) := q0.cell 7 rfl
  have c08 : W.drew.cell? ⟨B1, 8, none⟩ = some (Value.int .i64 s.ve) := q0.cell 8 rfl
  have c09 : W.drew.cell? ⟨B1, 9, none⟩ = some (Value.int .i64 a) := q0.cell 9 rfl
  have c010 : W.drew.cell? ⟨B1, 10, none⟩ = some (Value.int .i64 mo) := q0.cell 10 rfl
  have d00 : W.drew.cell? ⟨B1 + 1, 0, none⟩ = some (Value.int .i64 0) := p0.cell 0 rfl
  have g00 : W.drew.frozen? ⟨B1 + 1, 0, none⟩ = false := p0.frozen 0
  have d01 : W.drew.cell? ⟨B1 + 1, 1, none⟩ = some (Value.int .i64 0) := p0.cell 1 rfl
  have g01 : W.drew.frozen? ⟨B1 + 1, 1, none⟩ = false := p0.frozen 1
  have d02 : W.drew.cell? ⟨B1 + 1, 2, none⟩ = some (Value.int .i64 0) := p0.cell 2 rfl
  have g02 : W.drew.frozen? ⟨B1 + 1, 2, none⟩ = false := p0.frozen 2
  have d03 : W.drew.cell? ⟨B1 + 1, 3, none⟩ = some (Value.bool false) := p0.cell 3 rfl
  have g03 : W.drew.frozen? ⟨B1 + 1, 3, none⟩ = false := p0.frozen 3
  have d04 : W.drew.cell? ⟨B1 + 1, 4, none⟩ = some (Value.bool false) := p0.cell 4 rfl
  have g04 : W.drew.frozen? ⟨B1 + 1, 4, none⟩ = false := p0.frozen 4
  have d05 : W.drew.cell? ⟨B1 + 1, 5, none⟩ = some (Value.int .i64 0) := p0.cell 5 rfl
  have g05 : W.drew.frozen? ⟨B1 + 1, 5, none⟩ = false := p0.frozen 5
  have d06 : W.drew.cell? ⟨B1 + 1, 6, none⟩ = some (Value.int .i64 0) := p0.cell 6 rfl
  have g06 : W.drew.frozen? ⟨B1 + 1, 6, none⟩ = false := p0.frozen 6
  have d07 : W.drew.cell? ⟨B1 + 1, 7, none⟩ = some (Value.int .i64 0) := p0.cell 7 rfl
  have g07 : W.drew.frozen? ⟨B1 + 1, 7, none⟩ = false := p0.frozen 7
  have d08 : W.drew.cell? ⟨B1 + 1, 8, none⟩ = some (Value.int .i64 0) := p0.cell 8 rfl
  have g08 : W.drew.frozen? ⟨B1 + 1, 8, none⟩ = false := p0.frozen 8
  refine wp_region_held_drew (S := (fun w' => w'.cell? ⟨B1, 0, none⟩ = some (Value.int .i64 s.st) ∧ w'.cell? ⟨B1, 1, none⟩ = some (Value.int .i64 a) ∧ w'.cell? ⟨B1, 2, none⟩ = some (Value.int .i64 s.sr) ∧ w'.cell? ⟨B1, 3, none⟩ = some (Value.bool s.br) ∧ w'.cell? ⟨B1, 4, none⟩ = some (Value.bool s.ma) ∧ w'.cell? ⟨B1, 5, none⟩ = some (Value.int .i64 s.us) ∧ w'.cell? ⟨B1, 6, none⟩ = some (Value.int .i64 s.ge) ∧ w'.cell? ⟨B1, 7, none⟩ = some (Value.int .i64 s.ep) ∧ w'.cell? ⟨B1, 8, none⟩ = some (Value.int .i64 s.ve) ∧ w'.cell? ⟨B1, 9, none⟩ = some (Value.int .i64 a) ∧ w'.cell? ⟨B1, 10, none⟩ = some (Value.int .i64 mo))) (by kernel_rfl) ⟨c00, c01, c02, c03, c04, c05, c06, c07, c08, c09, c010⟩ (fun hS => ?_)
  generalize W.drew = WD at *
  refine wpAnyH_take (i := 0) (oi := { dst := some 8, op := Op.fieldAddr 39 (Operand.tmp 1) 0, type := 0, pos := "life.go:139", after := #[], guard := none }) (v := ?v0_15) rfl (by kernel_rfl) (by kernel_rfl) (by kernel_rfl) (fun _ _ _ h => h) (Or.inl ⟨by rfl, ?hy0_15⟩) hS ?rest0_15
  case hy0_15 =>
    intro w hSw
    (try dsimp only at hSw)
    go_simp
    try with_reducible rfl
  try simp only [Act.put, List.setIfInBounds_toArray, List.set_cons_zero, List.set_cons_succ]
  refine wpAnyH_take (i := 1) (oi := { dst := some 9, op := Op.load 23 (Operand.tmp 8), type := 23, pos := "life.go:139", after := #[{ on := 0, ground := Ground.data }], guard := none }) (v := ?v1_16) rfl (by kernel_rfl) (by kernel_rfl) (by kernel_rfl) (fun _ _ _ h => h) (Or.inl ⟨by rfl, ?hy1_16⟩) hS ?rest1_16
  case hy1_16 =>
    intro w hSw
    (try dsimp only at hSw)
    go_simp
    try with_reducible rfl
  try simp only [Act.put, List.setIfInBounds_toArray, List.set_cons_zero, List.set_cons_succ]
  refine wpAnyH_take (i := 2) (oi := { dst := some 10, op := Op.fieldAddr 39 (Operand.tmp 1) 0, type := 0, pos := "life.go:139", after := #[{ on := 6, ground := Ground.gcOnly Departure.lateStores }], guard := none }) (v := ?v2_17) rfl (by kernel_rfl) (by kernel_rfl) (by kernel_rfl) (fun _ _ _ h => h) (Or.inl ⟨by rfl, ?hy2_17⟩) hS ?rest2_17
  case hy2_17 =>
    intro w hSw
    (try dsimp only at hSw)
    go_simp
    try with_reducible rfl
  try simp only [Act.put, List.setIfInBounds_toArray, List.set_cons_zero, List.set_cons_succ]
  refine wpAnyH_take (i := 3) (oi := { dst := some 11, op := Op.fieldAddr 23 (Operand.tmp 10) 0, type := 0, pos := "life.go:139", after := #[{ on := 2, ground := Ground.data }, { on := 6, ground := Ground.gcOnly Departure.lateStores }], guard := none }) (v := ?v3_18) rfl (by kernel_rfl) (by kernel_rfl) (by kernel_rfl) (fun _ _ _ h => h) (Or.inl ⟨by rfl, ?hy3_18⟩) hS ?rest3_18
  case hy3_18 =>
    intro w hSw
    (try dsimp only at hSw)
    go_simp
    try with_reducible rfl
  try simp only [Act.put, List.setIfInBounds_toArray, List.set_cons_zero, List.set_cons_succ]
  refine wpAnyH_take (i := 4) (oi := { dst := some 12, op := Op.load 3 (Operand.tmp 11), type := 3, pos := "life.go:139", after := #[{ on := 3, ground := Ground.data }, { on := 6, ground := Ground.gcOnly Departure.lateStores }], guard := none }) (v := ?v4_19) rfl (by kernel_rfl) (by kernel_rfl) (by kernel_rfl) (fun _ _ _ h => h) (Or.inl ⟨by rfl, ?hy4_19⟩) hS ?rest4_19
  case hy4_19 =>
    intro w hSw
    (try dsimp only at hSw)
    go_simp
    try with_reducible rfl
  try simp only [Act.put, List.setIfInBounds_toArray, List.set_cons_zero, List.set_cons_succ]
  refine wpAnyH_take (i := 5) (oi := { dst := some 13, op := Op.binOp BinOp.eql 3 (Operand.tmp 12) (Operand.const (Value.int IntKind.i64 2)) 3, type := 4, pos := "life.go:139", after := #[{ on := 4, ground := Ground.data }, { on := 6, ground := Ground.gcOnly Departure.lateStores }], guard := none }) (v := ?v5_20) rfl (by kernel_rfl) (by kernel_rfl) (by kernel_rfl) (fun _ _ _ h => h) (Or.inl ⟨by rfl, ?hy5_20⟩) hS ?rest5_20
  case hy5_20 =>
    intro w hSw
    (try dsimp only at hSw)
    go_simp
    try with_reducible rfl
  try simp only [Act.put, List.setIfInBounds_toArray, List.set_cons_zero, List.set_cons_succ]
  refine wpAnyH_ready (rs := [6]) (by kernel_rfl) (by simp) ?_
  refine AllReadyH.cons (o := { dst := none, op := Op.store 23 (Operand.tmp 2) (Operand.tmp 9), type := 0, pos := "life.go:139", after := #[{ on := 1, ground := Ground.data }, { on := 0, ground := Ground.phase }, { on := 1, ground := Ground.phase }, { on := 2, ground := Ground.textOnly Departure.lateStores }, { on := 3, ground := Ground.textOnly Departure.lateStores }, { on := 4, ground := Ground.textOnly Departure.lateStores }, { on := 5, ground := Ground.textOnly Departure.lateStores }], guard := none }) rfl (fun K hK => ?_) AllReadyH.nil
  go_simp
  refine hK.out _ _ (by (try dsimp only); go_keep) (fun hS => ?_)
  clear hK K
  try simp only [Act.put, List.setIfInBounds_toArray, List.set_cons_zero, List.set_cons_succ]
  refine wpAnyH_take (i := 7) (oi := { dst := some 3, op := Op.assign (Operand.tmp 13), type := 4, pos := "life.go:139", after := #[{ on := 5, ground := Ground.data }, { on := 6, ground := Ground.chain }, { on := 0, ground := Ground.phase }, { on := 1, ground := Ground.phase }, { on := 2, ground := Ground.phase }, { on := 3, ground := Ground.phase }, { on := 4, ground := Ground.phase }, { on := 5, ground := Ground.phase }, { on := 6, ground := Ground.phase }], guard := none }) (v := ?v7_21) rfl (by kernel_rfl) (by kernel_rfl) (by kernel_rfl) (fun _ _ _ h => h) (Or.inl ⟨by rfl, ?hy7_21⟩) hS ?rest7_21
  case hy7_21 =>
    intro w hSw
    (try dsimp only at hSw)
    go_simp
    try with_reducible rfl
  try simp only [Act.put, List.setIfInBounds_toArray, List.set_cons_zero, List.set_cons_succ]
  refine wpAnyH_done (by kernel_rfl) ?_ _
  have rz := row9 p0 (Value.int .i64 s.st) (Value.int .i64 a) (Value.int .i64 s.sr) (Value.bool s.br) (Value.bool s.ma) (Value.int .i64 s.us) (Value.int .i64 s.ge) (Value.int .i64 s.ep) (Value.int .i64 s.ve)
  have hz := below9 (n := w.heap.size) (A := w) (b := B1 + 1) hBd (by omega) (Value.int .i64 s.st) (Value.int .i64 a) (Value.int .i64 s.sr) (Value.bool s.br) (Value.bool s.ma) (Value.int .i64 s.us) (Value.int .i64 s.ge) (Value.int .i64 s.ep) (Value.int .i64 s.ve)
  go_wp2
  refine bodyPost_ret (res_pair (p := 2) (u := 3) rfl _ _ _ _ rfl rz rfl) rfl ⟨rfl, hz⟩

set_option maxRecDepth 100000 in
set_option maxHeartbeats 4000000 in
theorem m10_any (s : Sl) (a mo : Int) (w : World) (_ : Rt s) :
    Calls Tryd.prog 30 #[Value.agg #[Value.int .i64 s.st, Value.int .i64 s.ow, Value.int .i64 s.sr, Value.bool s.br, Value.bool s.ma, Value.int .i64 s.us, Value.int .i64 s.ge, Value.int .i64 s.ep, Value.int .i64 s.ve, Value.int .i64 a, Value.int .i64 mo]] w fun e w' => e = .returned (.tuple #[.agg #[Value.int .i64 (chS 10 s a mo).st, Value.int .i64 (chS 10 s a mo).ow, Value.int .i64 (chS 10 s a mo).sr, Value.bool (chS 10 s a mo).br, Value.bool (chS 10 s a mo).ma, Value.int .i64 (chS 10 s a mo).us, Value.int .i64 (chS 10 s a mo).ge, Value.int .i64 (chS 10 s a mo).ep, Value.int .i64 (chS 10 s a mo).ve], .bool (chB 10 s a mo)]) ∧ Below w.heap.size w w' := by
  obtain ⟨st, ow, sr, br, ma, us, ge, ep, ve⟩ := s
  go_enter Tryd.func30, Tryd.ntmps30
  go_wp2
  all_goals (try subst_vars)
  all_goals refine bodyPost_ret (res_pair (p := 2) (u := 3) rfl _ _ _ _ rfl (new2 _ _ _ _) rfl) rfl ⟨?_, ((Below.refl _ _).alloc (Nat.le_refl _) _).alloc (by simp) _⟩
  all_goals (refine ret_pair ?_; simp [chB, *])

set_option maxRecDepth 100000 in
set_option maxHeartbeats 4000000 in
theorem m11_any (s : Sl) (a mo : Int) (w : World) (_ : Rt s) :
    Calls Tryd.prog 31 #[Value.agg #[Value.int .i64 s.st, Value.int .i64 s.ow, Value.int .i64 s.sr, Value.bool s.br, Value.bool s.ma, Value.int .i64 s.us, Value.int .i64 s.ge, Value.int .i64 s.ep, Value.int .i64 s.ve, Value.int .i64 a, Value.int .i64 mo]] w fun e w' => e = .returned (.tuple #[.agg #[Value.int .i64 (chS 11 s a mo).st, Value.int .i64 (chS 11 s a mo).ow, Value.int .i64 (chS 11 s a mo).sr, Value.bool (chS 11 s a mo).br, Value.bool (chS 11 s a mo).ma, Value.int .i64 (chS 11 s a mo).us, Value.int .i64 (chS 11 s a mo).ge, Value.int .i64 (chS 11 s a mo).ep, Value.int .i64 (chS 11 s a mo).ve], .bool (chB 11 s a mo)]) ∧ Below w.heap.size w w' := by
  cases h0 : (s.st == 2) with
  | true =>
    cases h1 : (s.st == 3) with
    | true =>
      go_enter Tryd.func31, Tryd.ntmps31
      go_wp2_with fail
      have hB0 : Below w.heap.size w ((w.alloc (.cells #[Value.int .i64 s.st, Value.int .i64 s.ow, Value.int .i64 s.sr, Value.bool s.br, Value.bool s.ma, Value.int .i64 s.us, Value.int .i64 s.ge, Value.int .i64 s.ep, Value.int .i64 s.ve, Value.int .i64 a, Value.int .i64 mo] 39)).alloc (.cells #[Value.int .i64 0, Value.int .i64 0, Value.int .i64 0, Value.bool false, Value.bool false, Value.int .i64 0, Value.int .i64 0, Value.int .i64 0, Value.int .i64 0] 23)) := ((Below.refl _ _).alloc (Nat.le_refl _) _).alloc (by simp) _
      have r0 := (RowAt.new w 39 #[Value.int .i64 s.st, Value.int .i64 s.ow, Value.int .i64 s.sr, Value.bool s.br, Value.bool s.ma, Value.int .i64 s.us, Value.int .i64 s.ge, Value.int .i64 s.ep, Value.int .i64 s.ve, Value.int .i64 a, Value.int .i64 mo]).alloc (.cells #[Value.int .i64 0, Value.int .i64 0, Value.int .i64 0, Value.bool false, Value.bool false, Value.int .i64 0, Value.int .i64 0, Value.int .i64 0, Value.int .i64 0] 23)
      have r1 := new2 w (.cells #[Value.int .i64 s.st, Value.int .i64 s.ow, Value.int .i64 s.sr, Value.bool s.br, Value.bool s.ma, Value.int .i64 s.us, Value.int .i64 s.ge, Value.int .i64 s.ep, Value.int .i64 s.ve, Value.int .i64 a, Value.int .i64 mo] 39) 23 #[Value.int .i64 0, Value.int .i64 0, Value.int .i64 0, Value.bool false, Value.bool false, Value.int .i64 0, Value.int .i64 0, Value.int .i64 0, Value.int .i64 0]
      obtain ⟨W, hW⟩ : ∃ W, W = (w.alloc (.cells #[Value.int .i64 s.st, Value.int .i64 s.ow, Value.int .i64 s.sr, Value.bool s.br, Value.bool s.ma, Value.int .i64 s.us, Value.int .i64 s.ge, Value.int .i64 s.ep, Value.int .i64 s.ve, Value.int .i64 a, Value.int .i64 mo] 39)).alloc (.cells #[Value.int .i64 0, Value.int .i64 0, Value.int .i64 0, Value.bool false, Value.bool false, Value.int .i64 0, Value.int .i64 0, Value.int .i64 0, Value.int .i64 0] 23) := ⟨_, rfl⟩
      rw [← hW] at hB0 r0 r1 ⊢
      clear hW
      obtain ⟨B1, e1⟩ : ∃ B1, B1 = w.heap.size := ⟨_, rfl⟩
      have hle : w.heap.size ≤ B1 := by omega
      rw [← e1] at r0 r1 ⊢
      clear e1
      have hne : B1 ≠ B1 + 1 := by omega
      have q0 := r0.drew
      have p0 := r1.drew
      have hBd := hB0.drew
      clear hB0 r0 r1
      have c00 : W.drew.cell? ⟨B1, 0, none⟩ = some (Value.int .i64 s.st) := q0.cell 0 rfl
      have c01 : W.drew.cell? ⟨B1, 1, none⟩ = some (Value.int .i64 s.ow) := q0.cell 1 rfl
      have c02 : W.drew.cell? ⟨B1, 2, none⟩ = some (Value.int .i64 s.sr) := q0.cell 2 rfl
      have c03 : W.drew.cell? ⟨B1, 3, none⟩ = some (Value.bool s.br) := q0.cell 3 rfl
      have c04 : W.drew.cell? ⟨B1, 4, none⟩ = some (Value.bool s.ma) := q0.cell 4 rfl
      have c05 : W.drew.cell? ⟨B1, 5, none⟩ = some (Value.int .i64 s.us) := q0.cell 5 rfl
      have c06 : W.drew.cell? ⟨B1, 6, none⟩ = some (Value.int .i64 s.ge) := q0.cell 6 rfl
      have c07 : W.drew.cell? ⟨B1, 7, none⟩ = some (Value.int .i64 s.ep) := q0.cell 7 rfl
      have c08 : W.drew.cell? ⟨B1, 8, none⟩ = some (Value.int .i64 s.ve) := q0.cell 8 rfl
      have c09 : W.drew.cell? ⟨B1, 9, none⟩ = some (Value.int .i64 a) := q0.cell 9 rfl
      have c010 : W.drew.cell? ⟨B1, 10, none⟩ = some (Value.int .i64 mo) := q0.cell 10 rfl
      have d00 : W.drew.cell? ⟨B1 + 1, 0, none⟩ = some (Value.int .i64 0) := p0.cell 0 rfl
      have g00 : W.drew.frozen? ⟨B1 + 1, 0, none⟩ = false := p0.frozen 0
      have d01 : W.drew.cell? ⟨B1 + 1, 1, none⟩ = some (Value.int .i64 0) := p0.cell 1 rfl
      have g01 : W.drew.frozen? ⟨B1 + 1, 1, none⟩ = false := p0.frozen 1
      have d02 : W.drew.cell? ⟨B1 + 1, 2, none⟩ = some (Value.int .i64 0) := p0.cell 2 rfl
      have g02 : W.drew.frozen? ⟨B1 + 1, 2, none⟩ = false := p0.frozen 2
      have d03 : W.drew.cell? ⟨B1 + 1, 3, none⟩ = some (Value.bool false) := p0.cell 3 rfl
      have g03 : W.drew.frozen? ⟨B1 + 1, 3, none⟩ = false := p0.frozen 3
      have d04 : W.drew.cell? ⟨B1 + 1, 4, none⟩ = some (Value.bool false) := p0.cell 4 rfl
      have g04 : W.drew.frozen? ⟨B1 + 1, 4, none⟩ = false := p0.frozen 4
      have d05 : W.drew.cell? ⟨B1 + 1, 5, none⟩ = some (Value.int .i64 0) := p0.cell 5 rfl
      have g05 : W.drew.frozen? ⟨B1 + 1, 5, none⟩ = false := p0.frozen 5
      have d06 : W.drew.cell? ⟨B1 + 1, 6, none⟩ = some (Value.int .i64 0) := p0.cell 6 rfl
      have g06 : W.drew.frozen? ⟨B1 + 1, 6, none⟩ = false := p0.frozen 6
      have d07 : W.drew.cell? ⟨B1 + 1, 7, none⟩ = some (Value.int .i64 0) := p0.cell 7 rfl
      have g07 : W.drew.frozen? ⟨B1 + 1, 7, none⟩ = false := p0.frozen 7
      have d08 : W.drew.cell? ⟨B1 + 1, 8, none⟩ = some (Value.int .i64 0) := p0.cell 8 rfl
      have g08 : W.drew.frozen? ⟨B1 + 1, 8, none⟩ = false := p0.frozen 8
      refine wp_region_held_drew (S := (fun w' => w'.cell? ⟨B1, 0, none⟩ = some (Value.int .i64 s.st) ∧ w'.cell? ⟨B1, 1, none⟩ = some (Value.int .i64 s.ow) ∧ w'.cell? ⟨B1, 2, none⟩ = some (Value.int .i64 s.sr) ∧ w'.cell? ⟨B1, 3, none⟩ = some (Value.bool s.br) ∧ w'.cell? ⟨B1, 4, none⟩ = some (Value.bool s.ma) ∧ w'.cell? ⟨B1, 5, none⟩ = some (Value.int .i64 s.us) ∧ w'.cell? ⟨B1, 6, none⟩ = some (Value.int .i64 s.ge) ∧ w'.cell? ⟨B1, 7, none⟩ = some (Value.int .i64 s.ep) ∧ w'.cell? ⟨B1, 8, none⟩ = some (Value.int .i64 s.ve) ∧ w'.cell? ⟨B1, 9, none⟩ = some (Value.int .i64 a) ∧ w'.cell? ⟨B1, 10, none⟩ = some (Value.int .i64 mo))) (by kernel_rfl) ⟨c00, c01, c02, c03, c04, c05, c06, c07, c08, c09, c010⟩ (fun hS => ?_)
      generalize W.drew = WD at *
      refine wpAnyH_take (i := 0) (oi := { dst := some 4, op := Op.load 39 (Operand.tmp 1), type := 39, pos := "life.go:149", after := #[], guard := none }) (v := ?v0_22) rfl (by kernel_rfl) (by kernel_rfl) (by kernel_rfl) (fun _ _ _ h => h) (Or.inl ⟨by rfl, ?hy0_22⟩) hS ?rest0_22
      case hy0_22 =>
        intro w hSw
        (try dsimp only at hSw)
        go_simp
        try with_reducible rfl
      try simp only [Act.put, List.setIfInBounds_toArray, List.set_cons_zero, List.set_cons_succ]
      refine wpAnyH_take (i := 2) (oi := { dst := some 6, op := Op.fieldAddr 39 (Operand.tmp 1) 0, type := 0, pos := "life.go:149", after := #[], guard := none }) (v := ?v2_23) rfl (by kernel_rfl) (by kernel_rfl) (by kernel_rfl) (fun _ _ _ h => h) (Or.inl ⟨by rfl, ?hy2_23⟩) hS ?rest2_23
      case hy2_23 =>
        intro w hSw
        (try dsimp only at hSw)
        go_simp
        try with_reducible rfl
      try simp only [Act.put, List.setIfInBounds_toArray, List.set_cons_zero, List.set_cons_succ]
      refine wpAnyH_take (i := 3) (oi := { dst := some 7, op := Op.fieldAddr 23 (Operand.tmp 6) 0, type := 0, pos := "life.go:149", after := #[{ on := 2, ground := Ground.data }], guard := none }) (v := ?v3_24) rfl (by kernel_rfl) (by kernel_rfl) (by kernel_rfl) (fun _ _ _ h => h) (Or.inl ⟨by rfl, ?hy3_24⟩) hS ?rest3_24
      case hy3_24 =>
        intro w hSw
        (try dsimp only at hSw)
        go_simp
        try with_reducible rfl
      try simp only [Act.put, List.setIfInBounds_toArray, List.set_cons_zero, List.set_cons_succ]
      refine wpAnyH_take (i := 4) (oi := { dst := some 8, op := Op.load 3 (Operand.tmp 7), type := 3, pos := "life.go:149", after := #[{ on := 3, ground := Ground.data }], guard := none }) (v := ?v4_25) rfl (by kernel_rfl) (by kernel_rfl) (by kernel_rfl) (fun _ _ _ h => h) (Or.inl ⟨by rfl, ?hy4_25⟩) hS ?rest4_25
      case hy4_25 =>
        intro w hSw
        (try dsimp only at hSw)
        go_simp
        try with_reducible rfl
      try simp only [Act.put, List.setIfInBounds_toArray, List.set_cons_zero, List.set_cons_succ]
      refine wpAnyH_take (i := 5) (oi := { dst := some 9, op := Op.binOp BinOp.eql 3 (Operand.tmp 8) (Operand.const (Value.int IntKind.i64 2)) 3, type := 4, pos := "life.go:149", after := #[{ on := 4, ground := Ground.data }], guard := none }) (v := ?v5_26) rfl (by kernel_rfl) (by kernel_rfl) (by kernel_rfl) (fun _ _ _ h => h) (Or.inl ⟨by rfl, ?hy5_26⟩) hS ?rest5_26
      case hy5_26 =>
        intro w hSw
        (try dsimp only at hSw)
        go_simp
        try with_reducible rfl
      try simp only [Act.put, List.setIfInBounds_toArray, List.set_cons_zero, List.set_cons_succ]
      refine wpAnyH_ready (rs := [1]) (by kernel_rfl) (by simp) ?_
      refine AllReadyH.cons (o := { dst := some 5, op := Op.call { callee := Callee.value (Operand.func 51), args := #[Operand.tmp 4], argTypes := #[39] }, type := 23, pos := "life.go:149", after := #[{ on := 0, ground := Ground.data }], guard := none }) rfl (fun K hK => ?_) AllReadyH.nil
      go_simp
      refine (limbo_any s a mo _).mono ?_
      rintro e w1 ⟨rfl, hb1⟩
      have q1 := q0.below hb1 (by simpa using q0.lt)
      have p1 := p0.below hb1 (by simpa using p0.lt)
      have hB1 := hBd.trans (hb1.mono (by simpa using hBd.size))
      have c10 : w1.cell? ⟨B1, 0, none⟩ = some (Value.int .i64 s.st) := q1.cell 0 rfl
      have c11 : w1.cell? ⟨B1, 1, none⟩ = some (Value.int .i64 s.ow) := q1.cell 1 rfl
      have c12 : w1.cell? ⟨B1, 2, none⟩ = some (Value.int .i64 s.sr) := q1.cell 2 rfl
      have c13 : w1.cell? ⟨B1, 3, none⟩ = some (Value.bool s.br) := q1.cell 3 rfl
      have c14 : w1.cell? ⟨B1, 4, none⟩ = some (Value.bool s.ma) := q1.cell 4 rfl
      have c15 : w1.cell? ⟨B1, 5, none⟩ = some (Value.int .i64 s.us) := q1.cell 5 rfl
      have c16 : w1.cell? ⟨B1, 6, none⟩ = some (Value.int .i64 s.ge) := q1.cell 6 rfl
      have c17 : w1.cell? ⟨B1, 7, none⟩ = some (Value.int .i64 s.ep) := q1.cell 7 rfl
      have c18 : w1.cell? ⟨B1, 8, none⟩ = some (Value.int .i64 s.ve) := q1.cell 8 rfl
      have c19 : w1.cell? ⟨B1, 9, none⟩ = some (Value.int .i64 a) := q1.cell 9 rfl
      have c110 : w1.cell? ⟨B1, 10, none⟩ = some (Value.int .i64 mo) := q1.cell 10 rfl
      have d10 : w1.cell? ⟨B1 + 1, 0, none⟩ = some (Value.int .i64 0) := p1.cell 0 rfl
      have g10 : w1.frozen? ⟨B1 + 1, 0, none⟩ = false := p1.frozen 0
      have d11 : w1.cell? ⟨B1 + 1, 1, none⟩ = some (Value.int .i64 0) := p1.cell 1 rfl
      have g11 : w1.frozen? ⟨B1 + 1, 1, none⟩ = false := p1.frozen 1
      have d12 : w1.cell? ⟨B1 + 1, 2, none⟩ = some (Value.int .i64 0) := p1.cell 2 rfl
      have g12 : w1.frozen? ⟨B1 + 1, 2, none⟩ = false := p1.frozen 2
      have d13 : w1.cell? ⟨B1 + 1, 3, none⟩ = some (Value.bool false) := p1.cell 3 rfl
      have g13 : w1.frozen? ⟨B1 + 1, 3, none⟩ = false := p1.frozen 3
      have d14 : w1.cell? ⟨B1 + 1, 4, none⟩ = some (Value.bool false) := p1.cell 4 rfl
      have g14 : w1.frozen? ⟨B1 + 1, 4, none⟩ = false := p1.frozen 4
      have d15 : w1.cell? ⟨B1 + 1, 5, none⟩ = some (Value.int .i64 0) := p1.cell 5 rfl
      have g15 : w1.frozen? ⟨B1 + 1, 5, none⟩ = false := p1.frozen 5
      have d16 : w1.cell? ⟨B1 + 1, 6, none⟩ = some (Value.int .i64 0) := p1.cell 6 rfl
      have g16 : w1.frozen? ⟨B1 + 1, 6, none⟩ = false := p1.frozen 6
      have d17 : w1.cell? ⟨B1 + 1, 7, none⟩ = some (Value.int .i64 0) := p1.cell 7 rfl
      have g17 : w1.frozen? ⟨B1 + 1, 7, none⟩ = false := p1.frozen 7
      have d18 : w1.cell? ⟨B1 + 1, 8, none⟩ = some (Value.int .i64 0) := p1.cell 8 rfl
      have g18 : w1.frozen? ⟨B1 + 1, 8, none⟩ = false := p1.frozen 8
      refine hK.out _ _ ⟨c10, c11, c12, c13, c14, c15, c16, c17, c18, c19, c110⟩ (fun hS => ?_)
      clear hK K
      try simp only [Act.put, List.setIfInBounds_toArray, List.set_cons_zero, List.set_cons_succ]
      refine wpAnyH_take (i := 6) (oi := { dst := some 10, op := Op.move (Operand.tmp 9), type := 4, pos := "life.go:149", after := #[{ on := 5, ground := Ground.data }, { on := 1, ground := Ground.chain }], guard := none }) (v := ?v6_27) rfl (by kernel_rfl) (by kernel_rfl) (by kernel_rfl) (fun _ _ _ h => h) (Or.inl ⟨by rfl, ?hy6_27⟩) hS ?rest6_27
      case hy6_27 =>
        intro w hSw
        (try dsimp only at hSw)
        go_simp
        try with_reducible rfl
      try simp only [Act.put, List.setIfInBounds_toArray, List.set_cons_zero, List.set_cons_succ]
      refine wpAnyH_take (i := 7) (oi := { dst := some 11, op := Op.fieldAddr 39 (Operand.tmp 1) 0, type := 0, pos := "life.go:149", after := #[{ on := 6, ground := Ground.guard }], guard := some (6, false) }) (v := undef) rfl (by kernel_rfl) (by kernel_rfl) (by kernel_rfl) (fun _ _ _ h => h) (Or.inr ⟨by rfl, rfl⟩) hS ?_
      try simp only [Act.put, List.setIfInBounds_toArray, List.set_cons_zero, List.set_cons_succ]
      refine wpAnyH_take (i := 8) (oi := { dst := some 12, op := Op.fieldAddr 23 (Operand.tmp 11) 0, type := 0, pos := "life.go:149", after := #[{ on := 7, ground := Ground.data }, { on := 6, ground := Ground.guard }], guard := some (6, false) }) (v := undef) rfl (by kernel_rfl) (by kernel_rfl) (by kernel_rfl) (fun _ _ _ h => h) (Or.inr ⟨by rfl, rfl⟩) hS ?_
      try simp only [Act.put, List.setIfInBounds_toArray, List.set_cons_zero, List.set_cons_succ]
      refine wpAnyH_take (i := 9) (oi := { dst := some 13, op := Op.load 3 (Operand.tmp 12), type := 3, pos := "life.go:149", after := #[{ on := 8, ground := Ground.data }, { on := 6, ground := Ground.guard }], guard := some (6, false) }) (v := undef) rfl (by kernel_rfl) (by kernel_rfl) (by kernel_rfl) (fun _ _ _ h => h) (Or.inr ⟨by rfl, rfl⟩) hS ?_
      try simp only [Act.put, List.setIfInBounds_toArray, List.set_cons_zero, List.set_cons_succ]
      refine wpAnyH_take (i := 10) (oi := { dst := some 14, op := Op.binOp BinOp.eql 3 (Operand.tmp 13) (Operand.const (Value.int IntKind.i64 3)) 3, type := 4, pos := "life.go:149", after := #[{ on := 9, ground := Ground.data }, { on := 6, ground := Ground.guard }], guard := some (6, false) }) (v := undef) rfl (by kernel_rfl) (by kernel_rfl) (by kernel_rfl) (fun _ _ _ h => h) (Or.inr ⟨by rfl, rfl⟩) hS ?_
      try simp only [Act.put, List.setIfInBounds_toArray, List.set_cons_zero, List.set_cons_succ]
      refine wpAnyH_take (i := 11) (oi := { dst := some 15, op := Op.pick (Operand.tmp 10) (Operand.const (Value.bool true)) (Operand.tmp 14), type := 4, pos := "life.go:149", after := #[{ on := 6, ground := Ground.data }, { on := 10, ground := Ground.data }], guard := none }) (v := ?v11_28) rfl (by kernel_rfl) (by kernel_rfl) (by kernel_rfl) (fun _ _ _ h => h) (Or.inl ⟨by rfl, ?hy11_28⟩) hS ?rest11_28
      case hy11_28 =>
        intro w hSw
        (try dsimp only at hSw)
        go_simp
        try with_reducible rfl
      try simp only [Act.put, List.setIfInBounds_toArray, List.set_cons_zero, List.set_cons_succ]
      refine wpAnyH_take (i := 12) (oi := { dst := some 16, op := Op.move (Operand.tmp 15), type := 4, pos := "life.go:149", after := #[{ on := 11, ground := Ground.data }, { on := 6, ground := Ground.chain }], guard := none }) (v := ?v12_29) rfl (by kernel_rfl) (by kernel_rfl) (by kernel_rfl) (fun _ _ _ h => h) (Or.inl ⟨by rfl, ?hy12_29⟩) hS ?rest12_29
      case hy12_29 =>
        intro w hSw
        (try dsimp only at hSw)
        go_simp
        try with_reducible rfl
      try simp only [Act.put, List.setIfInBounds_toArray, List.set_cons_zero, List.set_cons_succ]
      refine wpAnyH_take (i := 13) (oi := { dst := some 17, op := Op.load 39 (Operand.tmp 1), type := 39, pos := "life.go:149", after := #[{ on := 12, ground := Ground.guard }], guard := some (12, true) }) (v := ?v13_30) rfl (by kernel_rfl) (by kernel_rfl) (by kernel_rfl) (fun _ _ _ h => h) (Or.inl ⟨by rfl, ?hy13_30⟩) hS ?rest13_30
      case hy13_30 =>
        intro w hSw
        (try dsimp only at hSw)
        go_simp
        try with_reducible rfl
      try simp only [Act.put, List.setIfInBounds_toArray, List.set_cons_zero, List.set_cons_succ]
      refine wpAnyH_ready (rs := [14]) (by kernel_rfl) (by simp) ?_
      refine AllReadyH.cons (o := { dst := some 18, op := Op.call { callee := Callee.value (Operand.func 52), args := #[Operand.tmp 17], argTypes := #[39] }, type := 4, pos := "life.go:149", after := #[{ on := 13, ground := Ground.data }, { on := 12, ground := Ground.chain }, { on := 12, ground := Ground.guard }], guard := some (12, true) }) rfl (fun K hK => ?_) AllReadyH.nil
      go_simp
      refine (epoch_any s a mo _).mono ?_
      rintro e w2 ⟨rfl, hb2⟩
      have q2 := q1.below hb2 (by simpa using q1.lt)
      have p2 := p1.below hb2 (by simpa using p1.lt)
      have hB2 := hB1.trans (hb2.mono (by simpa using hB1.size))
      have c20 : w2.cell? ⟨B1, 0, none⟩ = some (Value.int .i64 s.st) := q2.cell 0 rfl
      have c21 : w2.cell? ⟨B1, 1, none⟩ = some (Value.int .i64 s.ow) := q2.cell 1 rfl
      have c22 : w2.cell? ⟨B1, 2, none⟩ = some (Value.int .i64 s.sr) := q2.cell 2 rfl
      have c23 : w2.cell? ⟨B1, 3, none⟩ = some (Value.bool s.br) := q2.cell 3 rfl
      have c24 : w2.cell? ⟨B1, 4, none⟩ = some (Value.bool s.ma) := q2.cell 4 rfl
      have c25 : w2.cell? ⟨B1, 5, none⟩ = some (Value.int .i64 s.us) := q2.cell 5 rfl
      have c26 : w2.cell? ⟨B1, 6, none⟩ = some (Value.int .i64 s.ge) := q2.cell 6 rfl
      have c27 : w2.cell? ⟨B1, 7, none⟩ = some (Value.int .i64 s.ep) := q2.cell 7 rfl
      have c28 : w2.cell? ⟨B1, 8, none⟩ = some (Value.int .i64 s.ve) := q2.cell 8 rfl
      have c29 : w2.cell? ⟨B1, 9, none⟩ = some (Value.int .i64 a) := q2.cell 9 rfl
      have c210 : w2.cell? ⟨B1, 10, none⟩ = some (Value.int .i64 mo) := q2.cell 10 rfl
      have d20 : w2.cell? ⟨B1 + 1, 0, none⟩ = some (Value.int .i64 0) := p2.cell 0 rfl
      have g20 : w2.frozen? ⟨B1 + 1, 0, none⟩ = false := p2.frozen 0
      have d21 : w2.cell? ⟨B1 + 1, 1, none⟩ = some (Value.int .i64 0) := p2.cell 1 rfl
      have g21 : w2.frozen? ⟨B1 + 1, 1, none⟩ = false := p2.frozen 1
      have d22 : w2.cell? ⟨B1 + 1, 2, none⟩ = some (Value.int .i64 0) := p2.cell 2 rfl
      have g22 : w2.frozen? ⟨B1 + 1, 2, none⟩ = false := p2.frozen 2
      have d23 : w2.cell? ⟨B1 + 1, 3, none⟩ = some (Value.bool false) := p2.cell 3 rfl
      have g23 : w2.frozen? ⟨B1 + 1, 3, none⟩ = false := p2.frozen 3
      have d24 : w2.cell? ⟨B1 + 1, 4, none⟩ = some (Value.bool false) := p2.cell 4 rfl
      have g24 : w2.frozen? ⟨B1 + 1, 4, none⟩ = false := p2.frozen 4
      have d25 : w2.cell? ⟨B1 + 1, 5, none⟩ = some (Value.int .i64 0) := p2.cell 5 rfl
      have g25 : w2.frozen? ⟨B1 + 1, 5, none⟩ = false := p2.frozen 5
      have d26 : w2.cell? ⟨B1 + 1, 6, none⟩ = some (Value.int .i64 0) := p2.cell 6 rfl
      have g26 : w2.frozen? ⟨B1 + 1, 6, none⟩ = false := p2.frozen 6
      have d27 : w2.cell? ⟨B1 + 1, 7, none⟩ = some (Value.int .i64 0) := p2.cell 7 rfl
      have g27 : w2.frozen? ⟨B1 + 1, 7, none⟩ = false := p2.frozen 7
      have d28 : w2.cell? ⟨B1 + 1, 8, none⟩ = some (Value.int .i64 0) := p2.cell 8 rfl
      have g28 : w2.frozen? ⟨B1 + 1, 8, none⟩ = false := p2.frozen 8
      refine hK.out _ _ ⟨c20, c21, c22, c23, c24, c25, c26, c27, c28, c29, c210⟩ (fun hS => ?_)
      clear hK K
      try simp only [Act.put, List.setIfInBounds_toArray, List.set_cons_zero, List.set_cons_succ]
      refine wpAnyH_take (i := 15) (oi := { dst := some 19, op := Op.pick (Operand.tmp 16) (Operand.tmp 18) (Operand.const (Value.bool false)), type := 4, pos := "life.go:149", after := #[{ on := 12, ground := Ground.data }, { on := 14, ground := Ground.data }, { on := 16, ground := Ground.gcOnly Departure.lateStores }], guard := none }) (v := ?v15_31) rfl (by kernel_rfl) (by kernel_rfl) (by kernel_rfl) (fun _ _ _ h => h) (Or.inl ⟨by rfl, ?hy15_31⟩) hS ?rest15_31
      case hy15_31 =>
        intro w hSw
        (try dsimp only at hSw)
        go_simp
        try with_reducible rfl
      try simp only [Act.put, List.setIfInBounds_toArray, List.set_cons_zero, List.set_cons_succ]
      refine wpAnyH_ready (rs := [16]) (by kernel_rfl) (by simp) ?_
      refine AllReadyH.cons (o := { dst := none, op := Op.store 23 (Operand.tmp 2) (Operand.tmp 5), type := 0, pos := "life.go:149", after := #[{ on := 1, ground := Ground.data }, { on := 14, ground := Ground.chain }, { on := 0, ground := Ground.phase }, { on := 1, ground := Ground.phase }, { on := 2, ground := Ground.textOnly Departure.lateStores }, { on := 3, ground := Ground.textOnly Departure.lateStores }, { on := 4, ground := Ground.textOnly Departure.lateStores }, { on := 5, ground := Ground.textOnly Departure.lateStores }, { on := 6, ground := Ground.textOnly Departure.lateStores }, { on := 7, ground := Ground.textOnly Departure.lateStores }, { on := 8, ground := Ground.textOnly Departure.lateStores }, { on := 9, ground := Ground.textOnly Departure.lateStores }, { on := 10, ground := Ground.textOnly Departure.lateStores }, { on := 11, ground := Ground.textOnly Departure.lateStores }, { on := 12, ground := Ground.textOnly Departure.lateStores }, { on := 13, ground := Ground.textOnly Departure.lateStores }, { on := 14, ground := Ground.textOnly Departure.lateStoresUnsure }, { on := 15, ground := Ground.textOnly Departure.lateStores }], guard := none }) rfl (fun K hK => ?_) AllReadyH.nil
      go_simp
      refine hK.out _ _ (by (try dsimp only); go_keep) (fun hS => ?_)
      clear hK K
      try simp only [Act.put, List.setIfInBounds_toArray, List.set_cons_zero, List.set_cons_succ]
      refine wpAnyH_take (i := 17) (oi := { dst := some 3, op := Op.assign (Operand.tmp 19), type := 4, pos := "life.go:149", after := #[{ on := 15, ground := Ground.data }, { on := 16, ground := Ground.chain }, { on := 0, ground := Ground.phase }, { on := 1, ground := Ground.phase }, { on := 2, ground := Ground.phase }, { on := 3, ground := Ground.phase }, { on := 4, ground := Ground.phase }, { on := 5, ground := Ground.phase }, { on := 6, ground := Ground.phase }, { on := 7, ground := Ground.phase }, { on := 8, ground := Ground.phase }, { on := 9, ground := Ground.phase }, { on := 10, ground := Ground.phase }, { on := 11, ground := Ground.phase }, { on := 12, ground := Ground.phase }, { on := 13, ground := Ground.phase }, { on := 14, ground := Ground.phase }, { on := 15, ground := Ground.phase }, { on := 16, ground := Ground.phase }], guard := none }) (v := ?v17_32) rfl (by kernel_rfl) (by kernel_rfl) (by kernel_rfl) (fun _ _ _ h => h) (Or.inl ⟨by rfl, ?hy17_32⟩) hS ?rest17_32
      case hy17_32 =>
        intro w hSw
        (try dsimp only at hSw)
        go_simp
        try with_reducible rfl
      try simp only [Act.put, List.setIfInBounds_toArray, List.set_cons_zero, List.set_cons_succ]
      refine wpAnyH_done (by kernel_rfl) ?_ _
      have rz := row9 p2 (Value.int .i64 (s.limb mo).st) (Value.int .i64 (s.limb mo).ow) (Value.int .i64 (s.limb mo).sr) (Value.bool (s.limb mo).br) (Value.bool (s.limb mo).ma) (Value.int .i64 (s.limb mo).us) (Value.int .i64 (s.limb mo).ge) (Value.int .i64 (s.limb mo).ep) (Value.int .i64 (s.limb mo).ve)
      have hz := below9 (n := w.heap.size) (A := w) (b := B1 + 1) hB2 (by omega) (Value.int .i64 (s.limb mo).st) (Value.int .i64 (s.limb mo).ow) (Value.int .i64 (s.limb mo).sr) (Value.bool (s.limb mo).br) (Value.bool (s.limb mo).ma) (Value.int .i64 (s.limb mo).us) (Value.int .i64 (s.limb mo).ge) (Value.int .i64 (s.limb mo).ep) (Value.int .i64 (s.limb mo).ve)
      go_wp2
      refine bodyPost_ret (res_pair (p := 2) (u := 3) rfl _ _ _ _ rfl rz rfl) rfl ⟨ret_pair (by simp [chB, *]), hz⟩
    | false =>
      go_enter Tryd.func31, Tryd.ntmps31
      go_wp2_with fail
      have hB0 : Below w.heap.size w ((w.alloc (.cells #[Value.int .i64 s.st, Value.int .i64 s.ow, Value.int .i64 s.sr, Value.bool s.br, Value.bool s.ma, Value.int .i64 s.us, Value.int .i64 s.ge, Value.int .i64 s.ep, Value.int .i64 s.ve, Value.int .i64 a, Value.int .i64 mo] 39)).alloc (.cells #[Value.int .i64 0, Value.int .i64 0, Value.int .i64 0, Value.bool false, Value.bool false, Value.int .i64 0, Value.int .i64 0, Value.int .i64 0, Value.int .i64 0] 23)) := ((Below.refl _ _).alloc (Nat.le_refl _) _).alloc (by simp) _
      have r0 := (RowAt.new w 39 #[Value.int .i64 s.st, Value.int .i64 s.ow, Value.int .i64 s.sr, Value.bool s.br, Value.bool s.ma, Value.int .i64 s.us, Value.int .i64 s.ge, Value.int .i64 s.ep, Value.int .i64 s.ve, Value.int .i64 a, Value.int .i64 mo]).alloc (.cells #[Value.int .i64 0, Value.int .i64 0, Value.int .i64 0, Value.bool false, Value.bool false, Value.int .i64 0, Value.int .i64 0, Value.int .i64 0, Value.int .i64 0] 23)
      have r1 := new2 w (.cells #[Value.int .i64 s.st, Value.int .i64 s.ow, Value.int .i64 s.sr, Value.bool s.br, Value.bool s.ma, Value.int .i64 s.us, Value.int .i64 s.ge, Value.int .i64 s.ep, Value.int .i64 s.ve, Value.int .i64 a, Value.int .i64 mo] 39) 23 #[Value.int .i64 0, Value.int .i64 0, Value.int .i64 0, Value.bool false, Value.bool false, Value.int .i64 0, Value.int .i64 0, Value.int .i64 0, Value.int .i64 0]
      obtain ⟨W, hW⟩ : ∃ W, W = (w.alloc (.cells #[Value.int .i64 s.st, Value.int .i64 s.ow, Value.int .i64 s.sr, Value.bool s.br, Value.bool s.ma, Value.int .i64 s.us, Value.int .i64 s.ge, Value.int .i64 s.ep, Value.int .i64 s.ve, Value.int .i64 a, Value.int .i64 mo] 39)).alloc (.cells #[Value.int .i64 0, Value.int .i64 0, Value.int .i64 0, Value.bool false, Value.bool false, Value.int .i64 0, Value.int .i64 0, Value.int .i64 0, Value.int .i64 0] 23) := ⟨_, rfl⟩
      rw [← hW] at hB0 r0 r1 ⊢
      clear hW
      obtain ⟨B1, e1⟩ : ∃ B1, B1 = w.heap.size := ⟨_, rfl⟩
      have hle : w.heap.size ≤ B1 := by omega
      rw [← e1] at r0 r1 ⊢
      clear e1
      have hne : B1 ≠ B1 + 1 := by omega
      have q0 := r0.drew
      have p0 := r1.drew
      have hBd := hB0.drew
      clear hB0 r0 r1
      have c00 : W.drew.cell? ⟨B1, 0, none⟩ = some (Value.int .i64 s.st) := q0.cell 0 rfl
      have c01 : W.drew.cell? ⟨B1, 1, none⟩ = some (Value.int .i64 s.ow) := q0.cell 1 rfl
      have c02 : W.drew.cell? ⟨B1, 2, none⟩ = some (Value.int .i64 s.sr) := q0.cell 2 rfl
      have c03 : W.drew.cell? ⟨B1, 3, none⟩ = some (Value.bool s.br) := q0.cell 3 rfl
      have c04 : W.drew.cell? ⟨B1, 4, none⟩ = some (Value.bool s.ma) := q0.cell 4 rfl
      have c05 : W.drew.cell? ⟨B1, 5, none⟩ = some (Value.int .i64 s.us) := q0.cell 5 rfl
      have c06 : W.drew.cell? ⟨B1, 6, none⟩ = some (Value.int .i64 s.ge) := q0.cell 6 rfl
      have c07 : W.drew.cell? ⟨B1, 7, none⟩ = some (Value.int .i64 s.ep) := q0.cell 7 rfl
      have c08 : W.drew.cell? ⟨B1, 8, none⟩ = some (Value.int .i64 s.ve) := q0.cell 8 rfl
      have c09 : W.drew.cell? ⟨B1, 9, none⟩ = some (Value.int .i64 a) := q0.cell 9 rfl
      have c010 : W.drew.cell? ⟨B1, 10, none⟩ = some (Value.int .i64 mo) := q0.cell 10 rfl
      have d00 : W.drew.cell? ⟨B1 + 1, 0, none⟩ = some (Value.int .i64 0) := p0.cell 0 rfl
      have g00 : W.drew.frozen? ⟨B1 + 1, 0, none⟩ = false := p0.frozen 0
      have d01 : W.drew.cell? ⟨B1 + 1, 1, none⟩ = some (Value.int .i64 0) := p0.cell 1 rfl
      have g01 : W.drew.frozen? ⟨B1 + 1, 1, none⟩ = false := p0.frozen 1
      have d02 : W.drew.cell? ⟨B1 + 1, 2, none⟩ = some (Value.int .i64 0) := p0.cell 2 rfl
      have g02 : W.drew.frozen? ⟨B1 + 1, 2, none⟩ = false := p0.frozen 2
      have d03 : W.drew.cell? ⟨B1 + 1, 3, none⟩ = some (Value.bool false) := p0.cell 3 rfl
      have g03 : W.drew.frozen? ⟨B1 + 1, 3, none⟩ = false := p0.frozen 3
      have d04 : W.drew.cell? ⟨B1 + 1, 4, none⟩ = some (Value.bool false) := p0.cell 4 rfl
      have g04 : W.drew.frozen? ⟨B1 + 1, 4, none⟩ = false := p0.frozen 4
      have d05 : W.drew.cell? ⟨B1 + 1, 5, none⟩ = some (Value.int .i64 0) := p0.cell 5 rfl
      have g05 : W.drew.frozen? ⟨B1 + 1, 5, none⟩ = false := p0.frozen 5
      have d06 : W.drew.cell? ⟨B1 + 1, 6, none⟩ = some (Value.int .i64 0) := p0.cell 6 rfl
      have g06 : W.drew.frozen? ⟨B1 + 1, 6, none⟩ = false := p0.frozen 6
      have d07 : W.drew.cell? ⟨B1 + 1, 7, none⟩ = some (Value.int .i64 0) := p0.cell 7 rfl
      have g07 : W.drew.frozen? ⟨B1 + 1, 7, none⟩ = false := p0.frozen 7
      have d08 : W.drew.cell? ⟨B1 + 1, 8, none⟩ = some (Value.int .i64 0) := p0.cell 8 rfl
      have g08 : W.drew.frozen? ⟨B1 + 1, 8, none⟩ = false := p0.frozen 8
      refine wp_region_held_drew (S := (fun w' => w'.cell? ⟨B1, 0, none⟩ = some (Value.int .i64 s.st) ∧ w'.cell? ⟨B1, 1, none⟩ = some (Value.int .i64 s.ow) ∧ w'.cell? ⟨B1, 2, none⟩ = some (Value.int .i64 s.sr) ∧ w'.cell? ⟨B1, 3, none⟩ = some (Value.bool s.br) ∧ w'.cell? ⟨B1, 4, none⟩ = some (Value.bool s.ma) ∧ w'.cell? ⟨B1, 5, none⟩ = some (Value.int .i64 s.us) ∧ w'.cell? ⟨B1, 6, none⟩ = some (Value.int .i64 s.ge) ∧ w'.cell? ⟨B1, 7, none⟩ = some (Value.int .i64 s.ep) ∧ w'.cell? ⟨B1, 8, none⟩ = some (Value.int .i64 s.ve) ∧ w'.cell? ⟨B1, 9, none⟩ = some (Value.int .i64 a) ∧ w'.cell? ⟨B1, 10, none⟩ = some (Value.int .i64 mo))) (by kernel_rfl) ⟨c00, c01, c02, c03, c04, c05, c06, c07, c08, c09, c010⟩ (fun hS => ?_)
      generalize W.drew = WD at *
      refine wpAnyH_take (i := 0) (oi := { dst := some 4, op := Op.load 39 (Operand.tmp 1), type := 39, pos := "life.go:149", after := #[], guard := none }) (v := ?v0_33) rfl (by kernel_rfl) (by kernel_rfl) (by kernel_rfl) (fun _ _ _ h => h) (Or.inl ⟨by rfl, ?hy0_33⟩) hS ?rest0_33
      case hy0_33 =>
        intro w hSw
        (try dsimp only at hSw)
        go_simp
        try with_reducible rfl
      try simp only [Act.put, List.setIfInBounds_toArray, List.set_cons_zero, List.set_cons_succ]
      refine wpAnyH_take (i := 2) (oi := { dst := some 6, op := Op.fieldAddr 39 (Operand.tmp 1) 0, type := 0, pos := "life.go:149", after := #[], guard := none }) (v := ?v2_34) rfl (by kernel_rfl) (by kernel_rfl) (by kernel_rfl) (fun _ _ _ h => h) (Or.inl ⟨by rfl, ?hy2_34⟩) hS ?rest2_34
      case hy2_34 =>
        intro w hSw
        (try dsimp only at hSw)
        go_simp
        try with_reducible rfl
      try simp only [Act.put, List.setIfInBounds_toArray, List.set_cons_zero, List.set_cons_succ]
      refine wpAnyH_take (i := 3) (oi := { dst := some 7, op := Op.fieldAddr 23 (Operand.tmp 6) 0, type := 0, pos := "life.go:149", after := #[{ on := 2, ground := Ground.data }], guard := none }) (v := ?v3_35) rfl (by kernel_rfl) (by kernel_rfl) (by kernel_rfl) (fun _ _ _ h => h) (Or.inl ⟨by rfl, ?hy3_35⟩) hS ?rest3_35
      case hy3_35 =>
        intro w hSw
        (try dsimp only at hSw)
        go_simp
        try with_reducible rfl
      try simp only [Act.put, List.setIfInBounds_toArray, List.set_cons_zero, List.set_cons_succ]
      refine wpAnyH_take (i := 4) (oi := { dst := some 8, op := Op.load 3 (Operand.tmp 7), type := 3, pos := "life.go:149", after := #[{ on := 3, ground := Ground.data }], guard := none }) (v := ?v4_36) rfl (by kernel_rfl) (by kernel_rfl) (by kernel_rfl) (fun _ _ _ h => h) (Or.inl ⟨by rfl, ?hy4_36⟩) hS ?rest4_36
      case hy4_36 =>
        intro w hSw
        (try dsimp only at hSw)
        go_simp
        try with_reducible rfl
      try simp only [Act.put, List.setIfInBounds_toArray, List.set_cons_zero, List.set_cons_succ]
      refine wpAnyH_take (i := 5) (oi := { dst := some 9, op := Op.binOp BinOp.eql 3 (Operand.tmp 8) (Operand.const (Value.int IntKind.i64 2)) 3, type := 4, pos := "life.go:149", after := #[{ on := 4, ground := Ground.data }], guard := none }) (v := ?v5_37) rfl (by kernel_rfl) (by kernel_rfl) (by kernel_rfl) (fun _ _ _ h => h) (Or.inl ⟨by rfl, ?hy5_37⟩) hS ?rest5_37
      case hy5_37 =>
        intro w hSw
        (try dsimp only at hSw)
        go_simp
        try with_reducible rfl
      try simp only [Act.put, List.setIfInBounds_toArray, List.set_cons_zero, List.set_cons_succ]
      refine wpAnyH_ready (rs := [1]) (by kernel_rfl) (by simp) ?_
      refine AllReadyH.cons (o := { dst := some 5, op := Op.call { callee := Callee.value (Operand.func 51), args := #[Operand.tmp 4], argTypes := #[39] }, type := 23, pos := "life.go:149", after := #[{ on := 0, ground := Ground.data }], guard := none }) rfl (fun K hK => ?_) AllReadyH.nil
      go_simp
      refine (limbo_any s a mo _).mono ?_
      rintro e w1 ⟨rfl, hb1⟩
      have q1 := q0.below hb1 (by simpa using q0.lt)
      have p1 := p0.below hb1 (by simpa using p0.lt)
      have hB1 := hBd.trans (hb1.mono (by simpa using hBd.size))
      have c10 : w1.cell? ⟨B1, 0, none⟩ = some (Value.int .i64 s.st) := q1.cell 0 rfl
      have c11 : w1.cell? ⟨B1, 1, none⟩ = some (Value.int .i64 s.ow) := q1.cell 1 rfl
      have c12 : w1.cell? ⟨B1, 2, none⟩ = some (Value.int .i64 s.sr) := q1.cell 2 rfl
      have c13 : w1.cell? ⟨B1, 3, none⟩ = some (Value.bool s.br) := q1.cell 3 rfl
      have c14 : w1.cell? ⟨B1, 4, none⟩ = some (Value.bool s.ma) := q1.cell 4 rfl
      have c15 : w1.cell? ⟨B1, 5, none⟩ = some (Value.int .i64 s.us) := q1.cell 5 rfl
      have c16 : w1.cell? ⟨B1, 6, none⟩ = some (Value.int .i64 s.ge) := q1.cell 6 rfl
      have c17 : w1.cell? ⟨B1, 7, none⟩ = some (Value.int .i64 s.ep) := q1.cell 7 rfl
      have c18 : w1.cell? ⟨B1, 8, none⟩ = some (Value.int .i64 s.ve) := q1.cell 8 rfl
      have c19 : w1.cell? ⟨B1, 9, none⟩ = some (Value.int .i64 a) := q1.cell 9 rfl
      have c110 : w1.cell? ⟨B1, 10, none⟩ = some (Value.int .i64 mo) := q1.cell 10 rfl
      have d10 : w1.cell? ⟨B1 + 1, 0, none⟩ = some (Value.int .i64 0) := p1.cell 0 rfl
      have g10 : w1.frozen? ⟨B1 + 1, 0, none⟩ = false := p1.frozen 0
      have d11 : w1.cell? ⟨B1 + 1, 1, none⟩ = some (Value.int .i64 0) := p1.cell 1 rfl
      have g11 : w1.frozen? ⟨B1 + 1, 1, none⟩ = false := p1.frozen 1
      have d12 : w1.cell? ⟨B1 + 1, 2, none⟩ = some (Value.int .i64 0) := p1.cell 2 rfl
      have g12 : w1.frozen? ⟨B1 + 1, 2, none⟩ = false := p1.frozen 2
      have d13 : w1.cell? ⟨B1 + 1, 3, none⟩ = some (Value.bool false) := p1.cell 3 rfl
      have g13 : w1.frozen? ⟨B1 + 1, 3, none⟩ = false := p1.frozen 3
      have d14 : w1.cell? ⟨B1 + 1, 4, none⟩ = some (Value.bool false) := p1.cell 4 rfl
      have g14 : w1.frozen? ⟨B1 + 1, 4, none⟩ = false := p1.frozen 4
      have d15 : w1.cell? ⟨B1 + 1, 5, none⟩ = some (Value.int .i64 0) := p1.cell 5 rfl
      have g15 : w1.frozen? ⟨B1 + 1, 5, none⟩ = false := p1.frozen 5
      have d16 : w1.cell? ⟨B1 + 1, 6, none⟩ = some (Value.int .i64 0) := p1.cell 6 rfl
      have g16 : w1.frozen? ⟨B1 + 1, 6, none⟩ = false := p1.frozen 6
      have d17 : w1.cell? ⟨B1 + 1, 7, none⟩ = some (Value.int .i64 0) := p1.cell 7 rfl
      have g17 : w1.frozen? ⟨B1 + 1, 7, none⟩ = false := p1.frozen 7
      have d18 : w1.cell? ⟨B1 + 1, 8, none⟩ = some (Value.int .i64 0) := p1.cell 8 rfl
      have g18 : w1.frozen? ⟨B1 + 1, 8, none⟩ = false := p1.frozen 8
      refine hK.out _ _ ⟨c10, c11, c12, c13, c14, c15, c16, c17, c18, c19, c110⟩ (fun hS => ?_)
      clear hK K
      try simp only [Act.put, List.setIfInBounds_toArray, List.set_cons_zero, List.set_cons_succ]
      refine wpAnyH_take (i := 6) (oi := { dst := some 10, op := Op.move (Operand.tmp 9), type := 4, pos := "life.go:149", after := #[{ on := 5, ground := Ground.data }, { on := 1, ground := Ground.chain }], guard := none }) (v := ?v6_38) rfl (by kernel_rfl) (by kernel_rfl) (by kernel_rfl) (fun _ _ _ h => h) (Or.inl ⟨by rfl, ?hy6_38⟩) hS ?rest6_38
      case hy6_38 =>
        intro w hSw
        (try dsimp only at hSw)
        go_simp
        try with_reducible rfl
      try simp only [Act.put, List.setIfInBounds_toArray, List.set_cons_zero, List.set_cons_succ]
      refine wpAnyH_take (i := 7) (oi := { dst := some 11, op := Op.fieldAddr 39 (Operand.tmp 1) 0, type := 0, pos := "life.go:149", after := #[{ on := 6, ground := Ground.guard }], guard := some (6, false) }) (v := undef) rfl (by kernel_rfl) (by kernel_rfl) (by kernel_rfl) (fun _ _ _ h => h) (Or.inr ⟨by rfl, rfl⟩) hS ?_
      try simp only [Act.put, List.setIfInBounds_toArray, List.set_cons_zero, List.set_cons_succ]
      refine wpAnyH_take (i := 8) (oi := { dst := some 12, op := Op.fieldAddr 23 (Operand.tmp 11) 0, type := 0, pos := "life.go:149", after := #[{ on := 7, ground := Ground.data }, { on := 6, ground := Ground.guard }], guard := some (6, false) }) (v := undef) rfl (by kernel_rfl) (by kernel_rfl) (by kernel_rfl) (fun _ _ _ h => h) (Or.inr ⟨by rfl, rfl⟩) hS ?_
      try simp only [Act.put, List.setIfInBounds_toArray, List.set_cons_zero, List.set_cons_succ]
      refine wpAnyH_take (i := 9) (oi := { dst := some 13, op := Op.load 3 (Operand.tmp 12), type := 3, pos := "life.go:149", after := #[{ on := 8, ground := Ground.data }, { on := 6, ground := Ground.guard }], guard := some (6, false) }) (v := undef) rfl (by kernel_rfl) (by kernel_rfl) (by kernel_rfl) (fun _ _ _ h => h) (Or.inr ⟨by rfl, rfl⟩) hS ?_
      try simp only [Act.put, List.setIfInBounds_toArray, List.set_cons_zero, List.set_cons_succ]
      refine wpAnyH_take (i := 10) (oi := { dst := some 14, op := Op.binOp BinOp.eql 3 (Operand.tmp 13) (Operand.const (Value.int IntKind.i64 3)) 3, type := 4, pos := "life.go:149", after := #[{ on := 9, ground := Ground.data }, { on := 6, ground := Ground.guard }], guard := some (6, false) }) (v := undef) rfl (by kernel_rfl) (by kernel_rfl) (by kernel_rfl) (fun _ _ _ h => h) (Or.inr ⟨by rfl, rfl⟩) hS ?_
      try simp only [Act.put, List.setIfInBounds_toArray, List.set_cons_zero, List.set_cons_succ]
      refine wpAnyH_take (i := 11) (oi := { dst := some 15, op := Op.pick (Operand.tmp 10) (Operand.const (Value.bool true)) (Operand.tmp 14), type := 4, pos := "life.go:149", after := #[{ on := 6, ground := Ground.data }, { on := 10, ground := Ground.data }], guard := none }) (v := ?v11_39) rfl (by kernel_rfl) (by kernel_rfl) (by kernel_rfl) (fun _ _ _ h => h) (Or.inl ⟨by rfl, ?hy11_39⟩) hS ?rest11_39
      case hy11_39 =>
        intro w hSw
        (try dsimp only at hSw)
        go_simp
        try with_reducible rfl
      try simp only [Act.put, List.setIfInBounds_toArray, List.set_cons_zero, List.set_cons_succ]
      refine wpAnyH_take (i := 12) (oi := { dst := some 16, op := Op.move (Operand.tmp 15), type := 4, pos := "life.go:149", after := #[{ on := 11, ground := Ground.data }, { on := 6, ground := Ground.chain }], guard := none }) (v := ?v12_40) rfl (by kernel_rfl) (by kernel_rfl) (by kernel_rfl) (fun _ _ _ h => h) (Or.inl ⟨by rfl, ?hy12_40⟩) hS ?rest12_40
      case hy12_40 =>
        intro w hSw
        (try dsimp only at hSw)
        go_simp
        try with_reducible rfl
      try simp only [Act.put, List.setIfInBounds_toArray, List.set_cons_zero, List.set_cons_succ]
      refine wpAnyH_take (i := 13) (oi := { dst := some 17, op := Op.load 39 (Operand.tmp 1), type := 39, pos := "life.go:149", after := #[{ on := 12, ground := Ground.guard }], guard := some (12, true) }) (v := ?v13_41) rfl (by kernel_rfl) (by kernel_rfl) (by kernel_rfl) (fun _ _ _ h => h) (Or.inl ⟨by rfl, ?hy13_41⟩) hS ?rest13_41
      case hy13_41 =>
        intro w hSw
        (try dsimp only at hSw)
        go_simp
        try with_reducible rfl
      try simp only [Act.put, List.setIfInBounds_toArray, List.set_cons_zero, List.set_cons_succ]
      refine wpAnyH_ready (rs := [14]) (by kernel_rfl) (by simp) ?_
      refine AllReadyH.cons (o := { dst := some 18, op := Op.call { callee := Callee.value (Operand.func 52), args := #[Operand.tmp 17], argTypes := #[39] }, type := 4, pos := "life.go:149", after := #[{ on := 13, ground := Ground.data }, { on := 12, ground := Ground.chain }, { on := 12, ground := Ground.guard }], guard := some (12, true) }) rfl (fun K hK => ?_) AllReadyH.nil
      go_simp
      refine (epoch_any s a mo _).mono ?_
      rintro e w2 ⟨rfl, hb2⟩
      have q2 := q1.below hb2 (by simpa using q1.lt)
      have p2 := p1.below hb2 (by simpa using p1.lt)
      have hB2 := hB1.trans (hb2.mono (by simpa using hB1.size))
      have c20 : w2.cell? ⟨B1, 0, none⟩ = some (Value.int .i64 s.st) := q2.cell 0 rfl
      have c21 : w2.cell? ⟨B1, 1, none⟩ = some (Value.int .i64 s.ow) := q2.cell 1 rfl
      have c22 : w2.cell? ⟨B1, 2, none⟩ = some (Value.int .i64 s.sr) := q2.cell 2 rfl
      have c23 : w2.cell? ⟨B1, 3, none⟩ = some (Value.bool s.br) := q2.cell 3 rfl
      have c24 : w2.cell? ⟨B1, 4, none⟩ = some (Value.bool s.ma) := q2.cell 4 rfl
      have c25 : w2.cell? ⟨B1, 5, none⟩ = some (Value.int .i64 s.us) := q2.cell 5 rfl
      have c26 : w2.cell? ⟨B1, 6, none⟩ = some (Value.int .i64 s.ge) := q2.cell 6 rfl
      have c27 : w2.cell? ⟨B1, 7, none⟩ = some (Value.int .i64 s.ep) := q2.cell 7 rfl
      have c28 : w2.cell? ⟨B1, 8, none⟩ = some (Value.int .i64 s.ve) := q2.cell 8 rfl
      have c29 : w2.cell? ⟨B1, 9, none⟩ = some (Value.int .i64 a) := q2.cell 9 rfl
      have c210 : w2.cell? ⟨B1, 10, none⟩ = some (Value.int .i64 mo) := q2.cell 10 rfl
      have d20 : w2.cell? ⟨B1 + 1, 0, none⟩ = some (Value.int .i64 0) := p2.cell 0 rfl
      have g20 : w2.frozen? ⟨B1 + 1, 0, none⟩ = false := p2.frozen 0
      have d21 : w2.cell? ⟨B1 + 1, 1, none⟩ = some (Value.int .i64 0) := p2.cell 1 rfl
      have g21 : w2.frozen? ⟨B1 + 1, 1, none⟩ = false := p2.frozen 1
      have d22 : w2.cell? ⟨B1 + 1, 2, none⟩ = some (Value.int .i64 0) := p2.cell 2 rfl
      have g22 : w2.frozen? ⟨B1 + 1, 2, none⟩ = false := p2.frozen 2
      have d23 : w2.cell? ⟨B1 + 1, 3, none⟩ = some (Value.bool false) := p2.cell 3 rfl
      have g23 : w2.frozen? ⟨B1 + 1, 3, none⟩ = false := p2.frozen 3
      have d24 : w2.cell? ⟨B1 + 1, 4, none⟩ = some (Value.bool false) := p2.cell 4 rfl
      have g24 : w2.frozen? ⟨B1 + 1, 4, none⟩ = false := p2.frozen 4
      have d25 : w2.cell? ⟨B1 + 1, 5, none⟩ = some (Value.int .i64 0) := p2.cell 5 rfl
      have g25 : w2.frozen? ⟨B1 + 1, 5, none⟩ = false := p2.frozen 5
      have d26 : w2.cell? ⟨B1 + 1, 6, none⟩ = some (Value.int .i64 0) := p2.cell 6 rfl
      have g26 : w2.frozen? ⟨B1 + 1, 6, none⟩ = false := p2.frozen 6
      have d27 : w2.cell? ⟨B1 + 1, 7, none⟩ = some (Value.int .i64 0) := p2.cell 7 rfl
      have g27 : w2.frozen? ⟨B1 + 1, 7, none⟩ = false := p2.frozen 7
      have d28 : w2.cell? ⟨B1 + 1, 8, none⟩ = some (Value.int .i64 0) := p2.cell 8 rfl
      have g28 : w2.frozen? ⟨B1 + 1, 8, none⟩ = false := p2.frozen 8
      refine hK.out _ _ ⟨c20, c21, c22, c23, c24, c25, c26, c27, c28, c29, c210⟩ (fun hS => ?_)
      clear hK K
      try simp only [Act.put, List.setIfInBounds_toArray, List.set_cons_zero, List.set_cons_succ]
      refine wpAnyH_take (i := 15) (oi := { dst := some 19, op := Op.pick (Operand.tmp 16) (Operand.tmp 18) (Operand.const (Value.bool false)), type := 4, pos := "life.go:149", after := #[{ on := 12, ground := Ground.data }, { on := 14, ground := Ground.data }, { on := 16, ground := Ground.gcOnly Departure.lateStores }], guard := none }) (v := ?v15_42) rfl (by kernel_rfl) (by kernel_rfl) (by kernel_rfl) (fun _ _ _ h => h) (Or.inl ⟨by rfl, ?hy15_42⟩) hS ?rest15_42
      case hy15_42 =>
        intro w hSw
        (try dsimp only at hSw)
        go_simp
        try with_reducible rfl
      try simp only [Act.put, List.setIfInBounds_toArray, List.set_cons_zero, List.set_cons_succ]
      refine wpAnyH_ready (rs := [16]) (by kernel_rfl) (by simp) ?_
      refine AllReadyH.cons (o := { dst := none, op := Op.store 23 (Operand.tmp 2) (Operand.tmp 5), type := 0, pos := "life.go:149", after := #[{ on := 1, ground := Ground.data }, { on := 14, ground := Ground.chain }, { on := 0, ground := Ground.phase }, { on := 1, ground := Ground.phase }, { on := 2, ground := Ground.textOnly Departure.lateStores }, { on := 3, ground := Ground.textOnly Departure.lateStores }, { on := 4, ground := Ground.textOnly Departure.lateStores }, { on := 5, ground := Ground.textOnly Departure.lateStores }, { on := 6, ground := Ground.textOnly Departure.lateStores }, { on := 7, ground := Ground.textOnly Departure.lateStores }, { on := 8, ground := Ground.textOnly Departure.lateStores }, { on := 9, ground := Ground.textOnly Departure.lateStores }, { on := 10, ground := Ground.textOnly Departure.lateStores }, { on := 11, ground := Ground.textOnly Departure.lateStores }, { on := 12, ground := Ground.textOnly Departure.lateStores }, { on := 13, ground := Ground.textOnly Departure.lateStores }, { on := 14, ground := Ground.textOnly Departure.lateStoresUnsure }, { on := 15, ground := Ground.textOnly Departure.lateStores }], guard := none }) rfl (fun K hK => ?_) AllReadyH.nil
      go_simp
      refine hK.out _ _ (by (try dsimp only); go_keep) (fun hS => ?_)
      clear hK K
      try simp only [Act.put, List.setIfInBounds_toArray, List.set_cons_zero, List.set_cons_succ]
      refine wpAnyH_take (i := 17) (oi := { dst := some 3, op := Op.assign (Operand.tmp 19), type := 4, pos := "life.go:149", after := #[{ on := 15, ground := Ground.data }, { on := 16, ground := Ground.chain }, { on := 0, ground := Ground.phase }, { on := 1, ground := Ground.phase }, { on := 2, ground := Ground.phase }, { on := 3, ground := Ground.phase }, { on := 4, ground := Ground.phase }, { on := 5, ground := Ground.phase }, { on := 6, ground := Ground.phase }, { on := 7, ground := Ground.phase }, { on := 8, ground := Ground.phase }, { on := 9, ground := Ground.phase }, { on := 10, ground := Ground.phase }, { on := 11, ground := Ground.phase }, { on := 12, ground := Ground.phase }, { on := 13, ground := Ground.phase }, { on := 14, ground := Ground.phase }, { on := 15, ground := Ground.phase }, { on := 16, ground := Ground.phase }], guard := none }) (v := ?v17_43) rfl (by kernel_rfl) (by kernel_rfl) (by kernel_rfl) (fun _ _ _ h => h) (Or.inl ⟨by rfl, ?hy17_43⟩) hS ?rest17_43
      case hy17_43 =>
        intro w hSw
        (try dsimp only at hSw)
        go_simp
        try with_reducible rfl
      try simp only [Act.put, List.setIfInBounds_toArray, List.set_cons_zero, List.set_cons_succ]
      refine wpAnyH_done (by kernel_rfl) ?_ _
      have rz := row9 p2 (Value.int .i64 (s.limb mo).st) (Value.int .i64 (s.limb mo).ow) (Value.int .i64 (s.limb mo).sr) (Value.bool (s.limb mo).br) (Value.bool (s.limb mo).ma) (Value.int .i64 (s.limb mo).us) (Value.int .i64 (s.limb mo).ge) (Value.int .i64 (s.limb mo).ep) (Value.int .i64 (s.limb mo).ve)
      have hz := below9 (n := w.heap.size) (A := w) (b := B1 + 1) hB2 (by omega) (Value.int .i64 (s.limb mo).st) (Value.int .i64 (s.limb mo).ow) (Value.int .i64 (s.limb mo).sr) (Value.bool (s.limb mo).br) (Value.bool (s.limb mo).ma) (Value.int .i64 (s.limb mo).us) (Value.int .i64 (s.limb mo).ge) (Value.int .i64 (s.limb mo).ep) (Value.int .i64 (s.limb mo).ve)
      go_wp2
      refine bodyPost_ret (res_pair (p := 2) (u := 3) rfl _ _ _ _ rfl rz rfl) rfl ⟨ret_pair (by simp [chB, *]), hz⟩
  | false =>
    cases h1 : (s.st == 3) with
    | true =>
      go_enter Tryd.func31, Tryd.ntmps31
      go_wp2_with fail
      have hB0 : Below w.heap.size w ((w.alloc (.cells #[Value.int .i64 s.st, Value.int .i64 s.ow, Value.int .i64 s.sr, Value.bool s.br, Value.bool s.ma, Value.int .i64 s.us, Value.int .i64 s.ge, Value.int .i64 s.ep, Value.int .i64 s.ve, Value.int .i64 a, Value.int .i64 mo] 39)).alloc (.cells #[Value.int .i64 0, Value.int .i64 0, Value.int .i64 0, Value.bool false, Value.bool false, Value.int .i64 0, Value.int .i64 0, Value.int .i64 0, Value.int .i64 0] 23)) := ((Below.refl _ _).alloc (Nat.le_refl _) _).alloc (by simp) _
      have r0 := (RowAt.new w 39 #[Value.int .i64 s.st, Value.int .i64 s.ow, Value.int .i64 s.sr, Value.bool s.br, Value.bool s.ma, Value.int .i64 s.us, Value.int .i64 s.ge, Value.int .i64 s.ep, Value.int .i64 s.ve, Value.int .i64 a, Value.int .i64 mo]).alloc (.cells #[Value.int .i64 0, Value.int .i64 0, Value.int .i64 0, Value.bool false, Value.bool false, Value.int .i64 0, Value.int .i64 0, Value.int .i64 0, Value.int .i64 0] 23)
      have r1 := new2 w (.cells #[Value.int .i64 s.st, Value.int .i64 s.ow, Value.int .i64 s.sr, Value.bool s.br, Value.bool s.ma, Value.int .i64 s.us, Value.int .i64 s.ge, Value.int .i64 s.ep, Value.int .i64 s.ve, Value.int .i64 a, Value.int .i64 mo] 39) 23 #[Value.int .i64 0, Value.int .i64 0, Value.int .i64 0, Value.bool false, Value.bool false, Value.int .i64 0, Value.int .i64 0, Value.int .i64 0, Value.int .i64 0]
      obtain ⟨W, hW⟩ : ∃ W, W = (w.alloc (.cells #[Value.int .i64 s.st, Value.int .i64 s.ow, Value.int .i64 s.sr, Value.bool s.br, Value.bool s.ma, Value.int .i64 s.us, Value.int .i64 s.ge, Value.int .i64 s.ep, Value.int .i64 s.ve, Value.int .i64 a, Value.int .i64 mo] 39)).alloc (.cells #[Value.int .i64 0, Value.int .i64 0, Value.int .i64 0, Value.bool false, Value.bool false, Value.int .i64 0, Value.int .i64 0, Value.int .i64 0, Value.int .i64 0] 23) := ⟨_, rfl⟩
      rw [← hW] at hB0 r0 r1 ⊢
      clear hW
      obtain ⟨B1, e1⟩ : ∃ B1, B1 = w.heap.size := ⟨_, rfl⟩
      have hle : w.heap.size ≤ B1 := by omega
      rw [← e1] at r0 r1 ⊢
      clear e1
      have hne : B1 ≠ B1 + 1 := by omega
      have q0 := r0.drew
      have p0 := r1.drew
      have hBd := hB0.drew
      clear hB0 r0 r1
      have c00 : W.drew.cell? ⟨B1, 0, none⟩ = some (Value.int .i64 s.st) := q0.cell 0 rfl
      have c01 : W.drew.cell? ⟨B1, 1, none⟩ = some (Value.int .i64 s.ow) := q0.cell 1 rfl
      have c02 : W.drew.cell? ⟨B1, 2, none⟩ = some (Value.int .i64 s.sr) := q0.cell 2 rfl
      have c03 : W.drew.cell? ⟨B1, 3, none⟩ = some (Value.bool s.br) := q0.cell 3 rfl
      have c04 : W.drew.cell? ⟨B1, 4, none⟩ = some (Value.bool s.ma) := q0.cell 4 rfl
      have c05 : W.drew.cell? ⟨B1, 5, none⟩ = some (Value.int .i64 s.us) := q0.cell 5 rfl
      have c06 : W.drew.cell? ⟨B1, 6, none⟩ = some (Value.int .i64 s.ge) := q0.cell 6 rfl
      have c07 : W.drew.cell? ⟨B1, 7, none⟩ = some (Value.int .i64 s.ep) := q0.cell 7 rfl
      have c08 : W.drew.cell? ⟨B1, 8, none⟩ = some (Value.int .i64 s.ve) := q0.cell 8 rfl
      have c09 : W.drew.cell? ⟨B1, 9, none⟩ = some (Value.int .i64 a) := q0.cell 9 rfl
      have c010 : W.drew.cell? ⟨B1, 10, none⟩ = some (Value.int .i64 mo) := q0.cell 10 rfl
      have d00 : W.drew.cell? ⟨B1 + 1, 0, none⟩ = some (Value.int .i64 0) := p0.cell 0 rfl
      have g00 : W.drew.frozen? ⟨B1 + 1, 0, none⟩ = false := p0.frozen 0
      have d01 : W.drew.cell? ⟨B1 + 1, 1, none⟩ = some (Value.int .i64 0) := p0.cell 1 rfl
      have g01 : W.drew.frozen? ⟨B1 + 1, 1, none⟩ = false := p0.frozen 1
      have d02 : W.drew.cell? ⟨B1 + 1, 2, none⟩ = some (Value.int .i64 0) := p0.cell 2 rfl
      have g02 : W.drew.frozen? ⟨B1 + 1, 2, none⟩ = false := p0.frozen 2
      have d03 : W.drew.cell? ⟨B1 + 1, 3, none⟩ = some (Value.bool false) := p0.cell 3 rfl
      have g03 : W.drew.frozen? ⟨B1 + 1, 3, none⟩ = false := p0.frozen 3
      have d04 : W.drew.cell? ⟨B1 + 1, 4, none⟩ = some (Value.bool false) := p0.cell 4 rfl
      have g04 : W.drew.frozen? ⟨B1 + 1, 4, none⟩ = false := p0.frozen 4
      have d05 : W.drew.cell? ⟨B1 + 1, 5, none⟩ = some (Value.int .i64 0) := p0.cell 5 rfl
      have g05 : W.drew.frozen? ⟨B1 + 1, 5, none⟩ = false := p0.frozen 5
      have d06 : W.drew.cell? ⟨B1 + 1, 6, none⟩ = some (Value.int .i64 0) := p0.cell 6 rfl
      have g06 : W.drew.frozen? ⟨B1 + 1, 6, none⟩ = false := p0.frozen 6
      have d07 : W.drew.cell? ⟨B1 + 1, 7, none⟩ = some (Value.int .i64 0) := p0.cell 7 rfl
      have g07 : W.drew.frozen? ⟨B1 + 1, 7, none⟩ = false := p0.frozen 7
      have d08 : W.drew.cell? ⟨B1 + 1, 8, none⟩ = some (Value.int .i64 0) := p0.cell 8 rfl
      have g08 : W.drew.frozen? ⟨B1 + 1, 8, none⟩ = false := p0.frozen 8
      refine wp_region_held_drew (S := (fun w' => w'.cell? ⟨B1, 0, none⟩ = some (Value.int .i64 s.st) ∧ w'.cell? ⟨B1, 1, none⟩ = some (Value.int .i64 s.ow) ∧ w'.cell? ⟨B1, 2, none⟩ = some (Value.int .i64 s.sr) ∧ w'.cell? ⟨B1, 3, none⟩ = some (Value.bool s.br) ∧ w'.cell? ⟨B1, 4, none⟩ = some (Value.bool s.ma) ∧ w'.cell? ⟨B1, 5, none⟩ = some (Value.int .i64 s.us) ∧ w'.cell? ⟨B1, 6, none⟩ = some (Value.int .i64 s.ge) ∧ w'.cell? ⟨B1, 7, none⟩ = some (Value.int .i64 s.ep) ∧ w'.cell? ⟨B1, 8, none⟩ = some (Value.int .i64 s.ve) ∧ w'.cell? ⟨B1, 9, none⟩ = some (Value.int .i64 a) ∧ w'.cell? ⟨B1, 10, none⟩ = some (Value.int .i64 mo))) (by kernel_rfl) ⟨c00, c01, c02, c03, c04, c05, c06, c07, c08, c09, c010⟩ (fun hS => ?_)
      generalize W.drew = WD at *
      refine wpAnyH_take (i := 0) (oi := { dst := some 4, op := Op.load 39 (Operand.tmp 1), type := 39, pos := "life.go:149", after := #[], guard := none }) (v := ?v0_44) rfl (by kernel_rfl) (by kernel_rfl) (by kernel_rfl) (fun _ _ _ h => h) (Or.inl ⟨by rfl, ?hy0_44⟩) hS ?rest0_44
      case hy0_44 =>
        intro w hSw
        (try dsimp only at hSw)
        go_simp
        try with_reducible rfl
      try simp only [Act.put, List.setIfInBounds_toArray, List.set_cons_zero, List.set_cons_succ]
      refine wpAnyH_take (i := 2) (oi := { dst := some 6, op := Op.fieldAddr 39 (Operand.tmp 1) 0, type := 0, pos := "life.go:149", after := #[], guard := none }) (v := ?v2_45) rfl (by kernel_rfl) (by kernel_rfl) (by kernel_rfl) (fun _ _ _ h => h) (Or.inl ⟨by rfl, ?hy2_45⟩) hS ?rest2_45
      case hy2_45 =>
        intro w hSw
        (try dsimp only at hSw)
        go_simp
        try with_reducible rfl
      try simp only [Act.put, List.setIfInBounds_toArray, List.set_cons_zero, List.set_cons_succ]
      refine wpAnyH_take (i := 3) (oi := { dst := some 7, op := Op.fieldAddr 23 (Operand.tmp 6) 0, type := 0, pos := "life.go:149", after := #[{ on := 2, ground := Ground.data }], guard := none }) (v := ?v3_46) rfl (by kernel_rfl) (by kernel_rfl) (by kernel_rfl) (fun _ _ _ h => h) (Or.inl ⟨by rfl, ?hy3_46⟩) hS ?rest3_46
      case hy3_46 =>
        intro w hSw
        (try dsimp only at hSw)
        go_simp
        try with_reducible rfl
      try simp only [Act.put, List.setIfInBounds_toArray, List.set_cons_zero, List.set_cons_succ]
      refine wpAnyH_take (i := 4) (oi := { dst := some 8, op := Op.load 3 (Operand.tmp 7), type := 3, pos := "life.go:149", after := #[{ on := 3, ground := Ground.data }], guard := none }) (v := ?v4_47) rfl (by kernel_rfl) (by kernel_rfl) (by kernel_rfl) (fun _ _ _ h => h) (Or.inl ⟨by rfl, ?hy4_47⟩) hS ?rest4_47
      case hy4_47 =>
        intro w hSw
        (try dsimp only at hSw)
        go_simp
        try with_reducible rfl
      try simp only [Act.put, List.setIfInBounds_toArray, List.set_cons_zero, List.set_cons_succ]
      refine wpAnyH_take (i := 5) (oi := { dst := some 9, op := Op.binOp BinOp.eql 3 (Operand.tmp 8) (Operand.const (Value.int IntKind.i64 2)) 3, type := 4, pos := "life.go:149", after := #[{ on := 4, ground := Ground.data }], guard := none }) (v := ?v5_48) rfl (by kernel_rfl) (by kernel_rfl) (by kernel_rfl) (fun _ _ _ h => h) (Or.inl ⟨by rfl, ?hy5_48⟩) hS ?rest5_48
      case hy5_48 =>
        intro w hSw
        (try dsimp only at hSw)
        go_simp
        try with_reducible rfl
      try simp only [Act.put, List.setIfInBounds_toArray, List.set_cons_zero, List.set_cons_succ]
      refine wpAnyH_ready (rs := [1]) (by kernel_rfl) (by simp) ?_
      refine AllReadyH.cons (o := { dst := some 5, op := Op.call { callee := Callee.value (Operand.func 51), args := #[Operand.tmp 4], argTypes := #[39] }, type := 23, pos := "life.go:149", after := #[{ on := 0, ground := Ground.data }], guard := none }) rfl (fun K hK => ?_) AllReadyH.nil
      go_simp
      refine (limbo_any s a mo _).mono ?_
      rintro e w1 ⟨rfl, hb1⟩
      have q1 := q0.below hb1 (by simpa using q0.lt)
      have p1 := p0.below hb1 (by simpa using p0.lt)
      have hB1 := hBd.trans (hb1.mono (by simpa using hBd.size))
      have c10 : w1.cell? ⟨B1, 0, none⟩ = some (Value.int .i64 s.st) := q1.cell 0 rfl
      have c11 : w1.cell? ⟨B1, 1, none⟩ = some (Value.int .i64 s.ow) := q1.cell 1 rfl
      have c12 : w1.cell? ⟨B1, 2, none⟩ = some (Value.int .i64 s.sr) := q1.cell 2 rfl
      have c13 : w1.cell? ⟨B1, 3, none⟩ = some (Value.bool s.br) := q1.cell 3 rfl
      have c14 : w1.cell? ⟨B1, 4, none⟩ = some (Value.bool s.ma) := q1.cell 4 rfl
      have c15 : w1.cell? ⟨B1, 5, none⟩ = some (Value.int .i64 s.us) := q1.cell 5 rfl
      have c16 : w1.cell? ⟨B1, 6, none⟩ = some (Value.int .i64 s.ge) := q1.cell 6 rfl
      have c17 : w1.cell? ⟨B1, 7, none⟩ = some (Value.int .i64 s.ep) := q1.cell 7 rfl
      have c18 : w1.cell? ⟨B1, 8, none⟩ = some (Value.int .i64 s.ve) := q1.cell 8 rfl
      have c19 : w1.cell? ⟨B1, 9, none⟩ = some (Value.int .i64 a) := q1.cell 9 rfl
      have c110 : w1.cell? ⟨B1, 10, none⟩ = some (Value.int .i64 mo) := q1.cell 10 rfl
      have d10 : w1.cell? ⟨B1 + 1, 0, none⟩ = some (Value.int .i64 0) := p1.cell 0 rfl
      have g10 : w1.frozen? ⟨B1 + 1, 0, none⟩ = false := p1.frozen 0
      have d11 : w1.cell? ⟨B1 + 1, 1, none⟩ = some (Value.int .i64 0) := p1.cell 1 rfl
      have g11 : w1.frozen? ⟨B1 + 1, 1, none⟩ = false := p1.frozen 1
      have d12 : w1.cell? ⟨B1 + 1, 2, none⟩ = some (Value.int .i64 0) := p1.cell 2 rfl
      have g12 : w1.frozen? ⟨B1 + 1, 2, none⟩ = false := p1.frozen 2
      have d13 : w1.cell? ⟨B1 + 1, 3, none⟩ = some (Value.bool false) := p1.cell 3 rfl
      have g13 : w1.frozen? ⟨B1 + 1, 3, none⟩ = false := p1.frozen 3
      have d14 : w1.cell? ⟨B1 + 1, 4, none⟩ = some (Value.bool false) := p1.cell 4 rfl
      have g14 : w1.frozen? ⟨B1 + 1, 4, none⟩ = false := p1.frozen 4
      have d15 : w1.cell? ⟨B1 + 1, 5, none⟩ = some (Value.int .i64 0) := p1.cell 5 rfl
      have g15 : w1.frozen? ⟨B1 + 1, 5, none⟩ = false := p1.frozen 5
      have d16 : w1.cell? ⟨B1 + 1, 6, none⟩ = some (Value.int .i64 0) := p1.cell 6 rfl
      have g16 : w1.frozen? ⟨B1 + 1, 6, none⟩ = false := p1.frozen 6
      have d17 : w1.cell? ⟨B1 + 1, 7, none⟩ = some (Value.int .i64 0) := p1.cell 7 rfl
      have g17 : w1.frozen? ⟨B1 + 1, 7, none⟩ = false := p1.frozen 7
      have d18 : w1.cell? ⟨B1 + 1, 8, none⟩ = some (Value.int .i64 0) := p1.cell 8 rfl
      have g18 : w1.frozen? ⟨B1 + 1, 8, none⟩ = false := p1.frozen 8
      refine hK.out _ _ ⟨c10, c11, c12, c13, c14, c15, c16, c17, c18, c19, c110⟩ (fun hS => ?_)
      clear hK K
      try simp only [Act.put, List.setIfInBounds_toArray, List.set_cons_zero, List.set_cons_succ]
      refine wpAnyH_take (i := 6) (oi := { dst := some 10, op := Op.move (Operand.tmp 9), type := 4, pos := "life.go:149", after := #[{ on := 5, ground := Ground.data }, { on := 1, ground := Ground.chain }], guard := none }) (v := ?v6_49) rfl (by kernel_rfl) (by kernel_rfl) (by kernel_rfl) (fun _ _ _ h => h) (Or.inl ⟨by rfl, ?hy6_49⟩) hS ?rest6_49
      case hy6_49 =>
        intro w hSw
        (try dsimp only at hSw)
        go_simp
        try with_reducible rfl
      try simp only [Act.put, List.setIfInBounds_toArray, List.set_cons_zero, List.set_cons_succ]
      refine wpAnyH_take (i := 7) (oi := { dst := some 11, op := Op.fieldAddr 39 (Operand.tmp 1) 0, type := 0, pos := "life.go:149", after := #[{ on := 6, ground := Ground.guard }], guard := some (6, false) }) (v := ?v7_50) rfl (by kernel_rfl) (by kernel_rfl) (by kernel_rfl) (fun _ _ _ h => h) (Or.inl ⟨by rfl, ?hy7_50⟩) hS ?rest7_50
      case hy7_50 =>
        intro w hSw
        (try dsimp only at hSw)
        go_simp
        try with_reducible rfl
      try simp only [Act.put, List.setIfInBounds_toArray, List.set_cons_zero, List.set_cons_succ]
      refine wpAnyH_take (i := 8) (oi := { dst := some 12, op := Op.fieldAddr 23 (Operand.tmp 11) 0, type := 0, pos := "life.go:149", after := #[{ on := 7, ground := Ground.data }, { on := 6, ground := Ground.guard }], guard := some (6, false) }) (v := ?v8_51) rfl (by kernel_rfl) (by kernel_rfl) (by kernel_rfl) (fun _ _ _ h => h) (Or.inl ⟨by rfl, ?hy8_51⟩) hS ?rest8_51
      case hy8_51 =>
        intro w hSw
        (try dsimp only at hSw)
        go_simp
        try with_reducible rfl
      try simp only [Act.put, List.setIfInBounds_toArray, List.set_cons_zero, List.set_cons_succ]
      refine wpAnyH_take (i := 9) (oi := { dst := some 13, op := Op.load 3 (Operand.tmp 12), type := 3, pos := "life.go:149", after := #[{ on := 8, ground := Ground.data }, { on := 6, ground := Ground.guard }], guard := some (6, false) }) (v := ?v9_52) rfl (by kernel_rfl) (by kernel_rfl) (by kernel_rfl) (fun _ _ _ h => h) (Or.inl ⟨by rfl, ?hy9_52⟩) hS ?rest9_52
      case hy9_52 =>
        intro w hSw
        (try dsimp only at hSw)
        go_simp
        try with_reducible rfl
      try simp only [Act.put, List.setIfInBounds_toArray, List.set_cons_zero, List.set_cons_succ]
      refine wpAnyH_take (i := 10) (oi := { dst := some 14, op := Op.binOp BinOp.eql 3 (Operand.tmp 13) (Operand.const (Value.int IntKind.i64 3)) 3, type := 4, pos := "life.go:149", after := #[{ on := 9, ground := Ground.data }, { on := 6, ground := Ground.guard }], guard := some (6, false) }) (v := ?v10_53) rfl (by kernel_rfl) (by kernel_rfl) (by kernel_rfl) (fun _ _ _ h => h) (Or.inl ⟨by rfl, ?hy10_53⟩) hS ?rest10_53
      case hy10_53 =>
        intro w hSw
        (try dsimp only at hSw)
        go_simp
        try with_reducible rfl
      try simp only [Act.put, List.setIfInBounds_toArray, List.set_cons_zero, List.set_cons_succ]
      refine wpAnyH_take (i := 11) (oi := { dst := some 15, op := Op.pick (Operand.tmp 10) (Operand.const (Value.bool true)) (Operand.tmp 14), type := 4, pos := "life.go:149", after := #[{ on := 6, ground := Ground.data }, { on := 10, ground := Ground.data }], guard := none }) (v := ?v11_54) rfl (by kernel_rfl) (by kernel_rfl) (by kernel_rfl) (fun _ _ _ h => h) (Or.inl ⟨by rfl, ?hy11_54⟩) hS ?rest11_54
      case hy11_54 =>
        intro w hSw
        (try dsimp only at hSw)
        go_simp
        try with_reducible rfl
      try simp only [Act.put, List.setIfInBounds_toArray, List.set_cons_zero, List.set_cons_succ]
      refine wpAnyH_take (i := 12) (oi := { dst := some 16, op := Op.move (Operand.tmp 15), type := 4, pos := "life.go:149", after := #[{ on := 11, ground := Ground.data }, { on := 6, ground := Ground.chain }], guard := none }) (v := ?v12_55) rfl (by kernel_rfl) (by kernel_rfl) (by kernel_rfl) (fun _ _ _ h => h) (Or.inl ⟨by rfl, ?hy12_55⟩) hS ?rest12_55
      case hy12_55 =>
        intro w hSw
        (try dsimp only at hSw)
        go_simp
        try with_reducible rfl
      try simp only [Act.put, List.setIfInBounds_toArray, List.set_cons_zero, List.set_cons_succ]
      refine wpAnyH_take (i := 13) (oi := { dst := some 17, op := Op.load 39 (Operand.tmp 1), type := 39, pos := "life.go:149", after := #[{ on := 12, ground := Ground.guard }], guard := some (12, true) }) (v := ?v13_56) rfl (by kernel_rfl) (by kernel_rfl) (by kernel_rfl) (fun _ _ _ h => h) (Or.inl ⟨by rfl, ?hy13_56⟩) hS ?rest13_56
      case hy13_56 =>
        intro w hSw
        (try dsimp only at hSw)
        go_simp
        try with_reducible rfl
      try simp only [Act.put, List.setIfInBounds_toArray, List.set_cons_zero, List.set_cons_succ]
      refine wpAnyH_ready (rs := [14]) (by kernel_rfl) (by simp) ?_
      refine AllReadyH.cons (o := { dst := some 18, op := Op.call { callee := Callee.value (Operand.func 52), args := #[Operand.tmp 17], argTypes := #[39] }, type := 4, pos := "life.go:149", after := #[{ on := 13, ground := Ground.data }, { on := 12, ground := Ground.chain }, { on := 12, ground := Ground.guard }], guard := some (12, true) }) rfl (fun K hK => ?_) AllReadyH.nil
      go_simp
      refine (epoch_any s a mo _).mono ?_
      rintro e w2 ⟨rfl, hb2⟩
      have q2 := q1.below hb2 (by simpa using q1.lt)
      have p2 := p1.below hb2 (by simpa using p1.lt)
      have hB2 := hB1.trans (hb2.mono (by simpa using hB1.size))
      have c20 : w2.cell? ⟨B1, 0, none⟩ = some (Value.int .i64 s.st) := q2.cell 0 rfl
      have c21 : w2.cell? ⟨B1, 1, none⟩ = some (Value.int .i64 s.ow) := q2.cell 1 rfl
      have c22 : w2.cell? ⟨B1, 2, none⟩ = some (Value.int .i64 s.sr) := q2.cell 2 rfl
      have c23 : w2.cell? ⟨B1, 3, none⟩ = some (Value.bool s.br) := q2.cell 3 rfl
      have c24 : w2.cell? ⟨B1, 4, none⟩ = some (Value.bool s.ma) := q2.cell 4 rfl
      have c25 : w2.cell? ⟨B1, 5, none⟩ = some (Value.int .i64 s.us) := q2.cell 5 rfl
      have c26 : w2.cell? ⟨B1, 6, none⟩ = some (Value.int .i64 s.ge) := q2.cell 6 rfl
      have c27 : w2.cell? ⟨B1, 7, none⟩ = some (Value.int .i64 s.ep) := q2.cell 7 rfl
      have c28 : w2.cell? ⟨B1, 8, none⟩ = some (Value.int .i64 s.ve) := q2.cell 8 rfl
      have c29 : w2.cell? ⟨B1, 9, none⟩ = some (Value.int .i64 a) := q2.cell 9 rfl
      have c210 : w2.cell? ⟨B1, 10, none⟩ = some (Value.int .i64 mo) := q2.cell 10 rfl
      have d20 : w2.cell? ⟨B1 + 1, 0, none⟩ = some (Value.int .i64 0) := p2.cell 0 rfl
      have g20 : w2.frozen? ⟨B1 + 1, 0, none⟩ = false := p2.frozen 0
      have d21 : w2.cell? ⟨B1 + 1, 1, none⟩ = some (Value.int .i64 0) := p2.cell 1 rfl
      have g21 : w2.frozen? ⟨B1 + 1, 1, none⟩ = false := p2.frozen 1
      have d22 : w2.cell? ⟨B1 + 1, 2, none⟩ = some (Value.int .i64 0) := p2.cell 2 rfl
      have g22 : w2.frozen? ⟨B1 + 1, 2, none⟩ = false := p2.frozen 2
      have d23 : w2.cell? ⟨B1 + 1, 3, none⟩ = some (Value.bool false) := p2.cell 3 rfl
      have g23 : w2.frozen? ⟨B1 + 1, 3, none⟩ = false := p2.frozen 3
      have d24 : w2.cell? ⟨B1 + 1, 4, none⟩ = some (Value.bool false) := p2.cell 4 rfl
      have g24 : w2.frozen? ⟨B1 + 1, 4, none⟩ = false := p2.frozen 4
      have d25 : w2.cell? ⟨B1 + 1, 5, none⟩ = some (Value.int .i64 0) := p2.cell 5 rfl
      have g25 : w2.frozen? ⟨B1 + 1, 5, none⟩ = false := p2.frozen 5
      have d26 : w2.cell? ⟨B1 + 1, 6, none⟩ = some (Value.int .i64 0) := p2.cell 6 rfl
      have g26 : w2.frozen? ⟨B1 + 1, 6, none⟩ = false := p2.frozen 6
      have d27 : w2.cell? ⟨B1 + 1, 7, none⟩ = some (Value.int .i64 0) := p2.cell 7 rfl
      have g27 : w2.frozen? ⟨B1 + 1, 7, none⟩ = false := p2.frozen 7
      have d28 : w2.cell? ⟨B1 + 1, 8, none⟩ = some (Value.int .i64 0) := p2.cell 8 rfl
      have g28 : w2.frozen? ⟨B1 + 1, 8, none⟩ = false := p2.frozen 8
      refine hK.out _ _ ⟨c20, c21, c22, c23, c24, c25, c26, c27, c28, c29, c210⟩ (fun hS => ?_)
      clear hK K
      try simp only [Act.put, List.setIfInBounds_toArray, List.set_cons_zero, List.set_cons_succ]
      refine wpAnyH_take (i := 15) (oi := { dst := some 19, op := Op.pick (Operand.tmp 16) (Operand.tmp 18) (Operand.const (Value.bool false)), type := 4, pos := "life.go:149", after := #[{ on := 12, ground := Ground.data }, { on := 14, ground := Ground.data }, { on := 16, ground := Ground.gcOnly Departure.lateStores }], guard := none }) (v := ?v15_57) rfl (by kernel_rfl) (by kernel_rfl) (by kernel_rfl) (fun _ _ _ h => h) (Or.inl ⟨by rfl, ?hy15_57⟩) hS ?rest15_57
      case hy15_57 =>
        intro w hSw
        (try dsimp only at hSw)
        go_simp
        try with_reducible rfl
      try simp only [Act.put, List.setIfInBounds_toArray, List.set_cons_zero, List.set_cons_succ]
      refine wpAnyH_ready (rs := [16]) (by kernel_rfl) (by simp) ?_
      refine AllReadyH.cons (o := { dst := none, op := Op.store 23 (Operand.tmp 2) (Operand.tmp 5), type := 0, pos := "life.go:149", after := #[{ on := 1, ground := Ground.data }, { on := 14, ground := Ground.chain }, { on := 0, ground := Ground.phase }, { on := 1, ground := Ground.phase }, { on := 2, ground := Ground.textOnly Departure.lateStores }, { on := 3, ground := Ground.textOnly Departure.lateStores }, { on := 4, ground := Ground.textOnly Departure.lateStores }, { on := 5, ground := Ground.textOnly Departure.lateStores }, { on := 6, ground := Ground.textOnly Departure.lateStores }, { on := 7, ground := Ground.textOnly Departure.lateStores }, { on := 8, ground := Ground.textOnly Departure.lateStores }, { on := 9, ground := Ground.textOnly Departure.lateStores }, { on := 10, ground := Ground.textOnly Departure.lateStores }, { on := 11, ground := Ground.textOnly Departure.lateStores }, { on := 12, ground := Ground.textOnly Departure.lateStores }, { on := 13, ground := Ground.textOnly Departure.lateStores }, { on := 14, ground := Ground.textOnly Departure.lateStoresUnsure }, { on := 15, ground := Ground.textOnly Departure.lateStores }], guard := none }) rfl (fun K hK => ?_) AllReadyH.nil
      go_simp
      refine hK.out _ _ (by (try dsimp only); go_keep) (fun hS => ?_)
      clear hK K
      try simp only [Act.put, List.setIfInBounds_toArray, List.set_cons_zero, List.set_cons_succ]
      refine wpAnyH_take (i := 17) (oi := { dst := some 3, op := Op.assign (Operand.tmp 19), type := 4, pos := "life.go:149", after := #[{ on := 15, ground := Ground.data }, { on := 16, ground := Ground.chain }, { on := 0, ground := Ground.phase }, { on := 1, ground := Ground.phase }, { on := 2, ground := Ground.phase }, { on := 3, ground := Ground.phase }, { on := 4, ground := Ground.phase }, { on := 5, ground := Ground.phase }, { on := 6, ground := Ground.phase }, { on := 7, ground := Ground.phase }, { on := 8, ground := Ground.phase }, { on := 9, ground := Ground.phase }, { on := 10, ground := Ground.phase }, { on := 11, ground := Ground.phase }, { on := 12, ground := Ground.phase }, { on := 13, ground := Ground.phase }, { on := 14, ground := Ground.phase }, { on := 15, ground := Ground.phase }, { on := 16, ground := Ground.phase }], guard := none }) (v := ?v17_58) rfl (by kernel_rfl) (by kernel_rfl) (by kernel_rfl) (fun _ _ _ h => h) (Or.inl ⟨by rfl, ?hy17_58⟩) hS ?rest17_58
      case hy17_58 =>
        intro w hSw
        (try dsimp only at hSw)
        go_simp
        try with_reducible rfl
      try simp only [Act.put, List.setIfInBounds_toArray, List.set_cons_zero, List.set_cons_succ]
      refine wpAnyH_done (by kernel_rfl) ?_ _
      have rz := row9 p2 (Value.int .i64 (s.limb mo).st) (Value.int .i64 (s.limb mo).ow) (Value.int .i64 (s.limb mo).sr) (Value.bool (s.limb mo).br) (Value.bool (s.limb mo).ma) (Value.int .i64 (s.limb mo).us) (Value.int .i64 (s.limb mo).ge) (Value.int .i64 (s.limb mo).ep) (Value.int .i64 (s.limb mo).ve)
      have hz := below9 (n := w.heap.size) (A := w) (b := B1 + 1) hB2 (by omega) (Value.int .i64 (s.limb mo).st) (Value.int .i64 (s.limb mo).ow) (Value.int .i64 (s.limb mo).sr) (Value.bool (s.limb mo).br) (Value.bool (s.limb mo).ma) (Value.int .i64 (s.limb mo).us) (Value.int .i64 (s.limb mo).ge) (Value.int .i64 (s.limb mo).ep) (Value.int .i64 (s.limb mo).ve)
      go_wp2
      refine bodyPost_ret (res_pair (p := 2) (u := 3) rfl _ _ _ _ rfl rz rfl) rfl ⟨ret_pair (by simp [chB, *]), hz⟩
    | false =>
      go_enter Tryd.func31, Tryd.ntmps31
      go_wp2_with fail
      have hB0 : Below w.heap.size w ((w.alloc (.cells #[Value.int .i64 s.st, Value.int .i64 s.ow, Value.int .i64 s.sr, Value.bool s.br, Value.bool s.ma, Value.int .i64 s.us, Value.int .i64 s.ge, Value.int .i64 s.ep, Value.int .i64 s.ve, Value.int .i64 a, Value.int .i64 mo] 39)).alloc (.cells #[Value.int .i64 0, Value.int .i64 0, Value.int .i64 0, Value.bool false, Value.bool false, Value.int .i64 0, Value.int .i64 0, Value.int .i64 0, Value.int .i64 0] 23)) := ((Below.refl _ _).alloc (Nat.le_refl _) _).alloc (by simp) _
      have r0 := (RowAt.new w 39 #[Value.int .i64 s.st, Value.int .i64 s.ow, Value.int .i64 s.sr, Value.bool s.br, Value.bool s.ma, Value.int .i64 s.us, Value.int .i64 s.ge, Value.int .i64 s.ep, Value.int .i64 s.ve, Value.int .i64 a, Value.int .i64 mo]).alloc (.cells #[Value.int .i64 0, Value.int .i64 0, Value.int .i64 0, Value.bool false, Value.bool false, Value.int .i64 0, Value.int .i64 0, Value.int .i64 0, Value.int .i64 0] 23)
      have r1 := new2 w (.cells #[Value.int .i64 s.st, Value.int .i64 s.ow, Value.int .i64 s.sr, Value.bool s.br, Value.bool s.ma, Value.int .i64 s.us, Value.int .i64 s.ge, Value.int .i64 s.ep, Value.int .i64 s.ve, Value.int .i64 a, Value.int .i64 mo] 39) 23 #[Value.int .i64 0, Value.int .i64 0, Value.int .i64 0, Value.bool false, Value.bool false, Value.int .i64 0, Value.int .i64 0, Value.int .i64 0, Value.int .i64 0]
      obtain ⟨W, hW⟩ : ∃ W, W = (w.alloc (.cells #[Value.int .i64 s.st, Value.int .i64 s.ow, Value.int .i64 s.sr, Value.bool s.br, Value.bool s.ma, Value.int .i64 s.us, Value.int .i64 s.ge, Value.int .i64 s.ep, Value.int .i64 s.ve, Value.int .i64 a, Value.int .i64 mo] 39)).alloc (.cells #[Value.int .i64 0, Value.int .i64 0, Value.int .i64 0, Value.bool false, Value.bool false, Value.int .i64 0, Value.int .i64 0, Value.int .i64 0, Value.int .i64 0] 23) := ⟨_, rfl⟩
      rw [← hW] at hB0 r0 r1 ⊢
      clear hW
      obtain ⟨B1, e1⟩ : ∃ B1, B1 = w.heap.size := ⟨_, rfl⟩
      have hle : w.heap.size ≤ B1 := by omega
      rw [← e1] at r0 r1 ⊢
      clear e1
      have hne : B1 ≠ B1 + 1 := by omega
      have q0 := r0.drew
      have p0 := r1.drew
      have hBd := hB0.drew
      clear hB0 r0 r1
      have c00 : W.drew.cell? ⟨B1, 0, none⟩ = some (Value.int .i64 s.st) := q0.cell 0 rfl
      have c01 : W.drew.cell? ⟨B1, 1, none⟩ = some (Value.int .i64 s.ow) := q0.cell 1 rfl
      have c02 : W.drew.cell? ⟨B1, 2, none⟩ = some (Value.int .i64 s.sr) := q0.cell 2 rfl
      have c03 : W.drew.cell? ⟨B1, 3, none⟩ = some (Value.bool s.br) := q0.cell 3 rfl
      have c04 : W.drew.cell? ⟨B1, 4, none⟩ = some (Value.bool s.ma) := q0.cell 4 rfl
      have c05 : W.drew.cell? ⟨B1, 5, none⟩ = some (Value.int .i64 s.us) := q0.cell 5 rfl
      have c06 : W.drew.cell? ⟨B1, 6, none⟩ = some (Value.int .i64 s.ge) := q0.cell 6 rfl
      have c07 : W.drew.cell? ⟨B1, 7, none⟩ = some (Value.int .i64 s.ep) := q0.cell 7 rfl
      have c08 : W.drew.cell? ⟨B1, 8, none⟩ = some (Value.int .i64 s.ve) := q0.cell 8 rfl
      have c09 : W.drew.cell? ⟨B1, 9, none⟩ = some (Value.int .i64 a) := q0.cell 9 rfl
      have c010 : W.drew.cell? ⟨B1, 10, none⟩ = some (Value.int .i64 mo) := q0.cell 10 rfl
      have d00 : W.drew.cell? ⟨B1 + 1, 0, none⟩ = some (Value.int .i64 0) := p0.cell 0 rfl
      have g00 : W.drew.frozen? ⟨B1 + 1, 0, none⟩ = false := p0.frozen 0
      have d01 : W.drew.cell? ⟨B1 + 1, 1, none⟩ = some (Value.int .i64 0) := p0.cell 1 rfl
      have g01 : W.drew.frozen? ⟨B1 + 1, 1, none⟩ = false := p0.frozen 1
      have d02 : W.drew.cell? ⟨B1 + 1, 2, none⟩ = some (Value.int .i64 0) := p0.cell 2 rfl
      have g02 : W.drew.frozen? ⟨B1 + 1, 2, none⟩ = false := p0.frozen 2
      have d03 : W.drew.cell? ⟨B1 + 1, 3, none⟩ = some (Value.bool false) := p0.cell 3 rfl
      have g03 : W.drew.frozen? ⟨B1 + 1, 3, none⟩ = false := p0.frozen 3
      have d04 : W.drew.cell? ⟨B1 + 1, 4, none⟩ = some (Value.bool false) := p0.cell 4 rfl
      have g04 : W.drew.frozen? ⟨B1 + 1, 4, none⟩ = false := p0.frozen 4
      have d05 : W.drew.cell? ⟨B1 + 1, 5, none⟩ = some (Value.int .i64 0) := p0.cell 5 rfl
      have g05 : W.drew.frozen? ⟨B1 + 1, 5, none⟩ = false := p0.frozen 5
      have d06 : W.drew.cell? ⟨B1 + 1, 6, none⟩ = some (Value.int .i64 0) := p0.cell 6 rfl
      have g06 : W.drew.frozen? ⟨B1 + 1, 6, none⟩ = false := p0.frozen 6
      have d07 : W.drew.cell? ⟨B1 + 1, 7, none⟩ = some (Value.int .i64 0) := p0.cell 7 rfl
      have g07 : W.drew.frozen? ⟨B1 + 1, 7, none⟩ = false := p0.frozen 7
      have d08 : W.drew.cell? ⟨B1 + 1, 8, none⟩ = some (Value.int .i64 0) := p0.cell 8 rfl
      have g08 : W.drew.frozen? ⟨B1 + 1, 8, none⟩ = false := p0.frozen 8
      refine wp_region_held_drew (S := (fun w' => w'.cell? ⟨B1, 0, none⟩ = some (Value.int .i64 s.st) ∧ w'.cell? ⟨B1, 1, none⟩ = some (Value.int .i64 s.ow) ∧ w'.cell? ⟨B1, 2, none⟩ = some (Value.int .i64 s.sr) ∧ w'.cell? ⟨B1, 3, none⟩ = some (Value.bool s.br) ∧ w'.cell? ⟨B1, 4, none⟩ = some (Value.bool s.ma) ∧ w'.cell? ⟨B1, 5, none⟩ = some (Value.int .i64 s.us) ∧ w'.cell? ⟨B1, 6, none⟩ = some (Value.int .i64 s.ge) ∧ w'.cell? ⟨B1, 7, none⟩ = some (Value.int .i64 s.ep) ∧ w'.cell? ⟨B1, 8, none⟩ = some (Value.int .i64 s.ve) ∧ w'.cell? ⟨B1, 9, none⟩ = some (Value.int .i64 a) ∧ w'.cell? ⟨B1, 10, none⟩ = some (Value.int .i64 mo))) (by kernel_rfl) ⟨c00, c01, c02, c03, c04, c05, c06, c07, c08, c09, c010⟩ (fun hS => ?_)
      generalize W.drew = WD at *
      refine wpAnyH_take (i := 0) (oi := { dst := some 4, op := Op.load 39 (Operand.tmp 1), type := 39, pos := "life.go:149", after := #[], guard := none }) (v := ?v0_59) rfl (by kernel_rfl) (by kernel_rfl) (by kernel_rfl) (fun _ _ _ h => h) (Or.inl ⟨by rfl, ?hy0_59⟩) hS ?rest0_59
      case hy0_59 =>
        intro w hSw
        (try dsimp only at hSw)
        go_simp
        try with_reducible rfl
      try simp only [Act.put, List.setIfInBounds_toArray, List.set_cons_zero, List.set_cons_succ]
      refine wpAnyH_take (i := 2) (oi := { dst := some 6, op := Op.fieldAddr 39 (Operand.tmp 1) 0, type := 0, pos := "life.go:149", after := #[], guard := none }) (v := ?v2_60) rfl (by kernel_rfl) (by kernel_rfl) (by kernel_rfl) (fun _ _ _ h => h) (Or.inl ⟨by rfl, ?hy2_60⟩) hS ?rest2_60
      case hy2_60 =>
        intro w hSw
        (try dsimp only at hSw)
        go_simp
        try with_reducible rfl
      try simp only [Act.put, List.setIfInBounds_toArray, List.set_cons_zero, List.set_cons_succ]
      refine wpAnyH_take (i := 3) (oi := { dst := some 7, op := Op.fieldAddr 23 (Operand.tmp 6) 0, type := 0, pos := "life.go:149", after := #[{ on := 2, ground := Ground.data }], guard := none }) (v := ?v3_61) rfl (by kernel_rfl) (by kernel_rfl) (by kernel_rfl) (fun _ _ _ h => h) (Or.inl ⟨by rfl, ?hy3_61⟩) hS ?rest3_61
      case hy3_61 =>
        intro w hSw
        (try dsimp only at hSw)
        go_simp
        try with_reducible rfl
      try simp only [Act.put, List.setIfInBounds_toArray, List.set_cons_zero, List.set_cons_succ]
      refine wpAnyH_take (i := 4) (oi := { dst := some 8, op := Op.load 3 (Operand.tmp 7), type := 3, pos := "life.go:149", after := #[{ on := 3, ground := Ground.data }], guard := none }) (v := ?v4_62) rfl (by kernel_rfl) (by kernel_rfl) (by kernel_rfl) (fun _ _ _ h => h) (Or.inl ⟨by rfl, ?hy4_62⟩) hS ?rest4_62
      case hy4_62 =>
        intro w hSw
        (try dsimp only at hSw)
        go_simp
        try with_reducible rfl
      try simp only [Act.put, List.setIfInBounds_toArray, List.set_cons_zero, List.set_cons_succ]
      refine wpAnyH_take (i := 5) (oi := { dst := some 9, op := Op.binOp BinOp.eql 3 (Operand.tmp 8) (Operand.const (Value.int IntKind.i64 2)) 3, type := 4, pos := "life.go:149", after := #[{ on := 4, ground := Ground.data }], guard := none }) (v := ?v5_63) rfl (by kernel_rfl) (by kernel_rfl) (by kernel_rfl) (fun _ _ _ h => h) (Or.inl ⟨by rfl, ?hy5_63⟩) hS ?rest5_63
      case hy5_63 =>
        intro w hSw
        (try dsimp only at hSw)
        go_simp
        try with_reducible rfl
      try simp only [Act.put, List.setIfInBounds_toArray, List.set_cons_zero, List.set_cons_succ]
      refine wpAnyH_ready (rs := [1]) (by kernel_rfl) (by simp) ?_
      refine AllReadyH.cons (o := { dst := some 5, op := Op.call { callee := Callee.value (Operand.func 51), args := #[Operand.tmp 4], argTypes := #[39] }, type := 23, pos := "life.go:149", after := #[{ on := 0, ground := Ground.data }], guard := none }) rfl (fun K hK => ?_) AllReadyH.nil
      go_simp
      refine (limbo_any s a mo _).mono ?_
      rintro e w1 ⟨rfl, hb1⟩
      have q1 := q0.below hb1 (by simpa using q0.lt)
      have p1 := p0.below hb1 (by simpa using p0.lt)
      have hB1 := hBd.trans (hb1.mono (by simpa using hBd.size))
      have c10 : w1.cell? ⟨B1, 0, none⟩ = some (Value.int .i64 s.st) := q1.cell 0 rfl
      have c11 : w1.cell? ⟨B1, 1, none⟩ = some (Value.int .i64 s.ow) := q1.cell 1 rfl
      have c12 : w1.cell? ⟨B1, 2, none⟩ = some (Value.int .i64 s.sr) := q1.cell 2 rfl
      have c13 : w1.cell? ⟨B1, 3, none⟩ = some (Value.bool s.br) := q1.cell 3 rfl
      have c14 : w1.cell? ⟨B1, 4, none⟩ = some (Value.bool s.ma) := q1.cell 4 rfl
      have c15 : w1.cell? ⟨B1, 5, none⟩ = some (Value.int .i64 s.us) := q1.cell 5 rfl
      have c16 : w1.cell? ⟨B1, 6, none⟩ = some (Value.int .i64 s.ge) := q1.cell 6 rfl
      have c17 : w1.cell? ⟨B1, 7, none⟩ = some (Value.int .i64 s.ep) := q1.cell 7 rfl
      have c18 : w1.cell? ⟨B1, 8, none⟩ = some (Value.int .i64 s.ve) := q1.cell 8 rfl
      have c19 : w1.cell? ⟨B1, 9, none⟩ = some (Value.int .i64 a) := q1.cell 9 rfl
      have c110 : w1.cell? ⟨B1, 10, none⟩ = some (Value.int .i64 mo) := q1.cell 10 rfl
      have d10 : w1.cell? ⟨B1 + 1, 0, none⟩ = some (Value.int .i64 0) := p1.cell 0 rfl
      have g10 : w1.frozen? ⟨B1 + 1, 0, none⟩ = false := p1.frozen 0
      have d11 : w1.cell? ⟨B1 + 1, 1, none⟩ = some (Value.int .i64 0) := p1.cell 1 rfl
      have g11 : w1.frozen? ⟨B1 + 1, 1, none⟩ = false := p1.frozen 1
      have d12 : w1.cell? ⟨B1 + 1, 2, none⟩ = some (Value.int .i64 0) := p1.cell 2 rfl
      have g12 : w1.frozen? ⟨B1 + 1, 2, none⟩ = false := p1.frozen 2
      have d13 : w1.cell? ⟨B1 + 1, 3, none⟩ = some (Value.bool false) := p1.cell 3 rfl
      have g13 : w1.frozen? ⟨B1 + 1, 3, none⟩ = false := p1.frozen 3
      have d14 : w1.cell? ⟨B1 + 1, 4, none⟩ = some (Value.bool false) := p1.cell 4 rfl
      have g14 : w1.frozen? ⟨B1 + 1, 4, none⟩ = false := p1.frozen 4
      have d15 : w1.cell? ⟨B1 + 1, 5, none⟩ = some (Value.int .i64 0) := p1.cell 5 rfl
      have g15 : w1.frozen? ⟨B1 + 1, 5, none⟩ = false := p1.frozen 5
      have d16 : w1.cell? ⟨B1 + 1, 6, none⟩ = some (Value.int .i64 0) := p1.cell 6 rfl
      have g16 : w1.frozen? ⟨B1 + 1, 6, none⟩ = false := p1.frozen 6
      have d17 : w1.cell? ⟨B1 + 1, 7, none⟩ = some (Value.int .i64 0) := p1.cell 7 rfl
      have g17 : w1.frozen? ⟨B1 + 1, 7, none⟩ = false := p1.frozen 7
      have d18 : w1.cell? ⟨B1 + 1, 8, none⟩ = some (Value.int .i64 0) := p1.cell 8 rfl
      have g18 : w1.frozen? ⟨B1 + 1, 8, none⟩ = false := p1.frozen 8
      refine hK.out _ _ ⟨c10, c11, c12, c13, c14, c15, c16, c17, c18, c19, c110⟩ (fun hS => ?_)
      clear hK K
      try simp only [Act.put, List.setIfInBounds_toArray, List.set_cons_zero, List.set_cons_succ]
      refine wpAnyH_take (i := 6) (oi := { dst := some 10, op := Op.move (Operand.tmp 9), type := 4, pos := "life.go:149", after := #[{ on := 5, ground := Ground.data }, { on := 1, ground := Ground.chain }], guard := none }) (v := ?v6_64) rfl (by kernel_rfl) (by kernel_rfl) (by kernel_rfl) (fun _ _ _ h => h) (Or.inl ⟨by rfl, ?hy6_64⟩) hS ?rest6_64
      case hy6_64 =>
        intro w hSw
        (try dsimp only at hSw)
        go_simp
        try with_reducible rfl
      try simp only [Act.put, List.setIfInBounds_toArray, List.set_cons_zero, List.set_cons_succ]
      refine wpAnyH_take (i := 7) (oi := { dst := some 11, op := Op.fieldAddr 39 (Operand.tmp 1) 0, type := 0, pos := "life.go:149", after := #[{ on := 6, ground := Ground.guard }], guard := some (6, false) }) (v := ?v7_65) rfl (by kernel_rfl) (by kernel_rfl) (by kernel_rfl) (fun _ _ _ h => h) (Or.inl ⟨by rfl, ?hy7_65⟩) hS ?rest7_65
      case hy7_65 =>
        intro w hSw
        (try dsimp only at hSw)
        go_simp
        try with_reducible rfl
      try simp only [Act.put, List.setIfInBounds_toArray, List.set_cons_zero, List.set_cons_succ]
      refine wpAnyH_take (i := 8) (oi := { dst := some 12, op := Op.fieldAddr 23 (Operand.tmp 11) 0, type := 0, pos := "life.go:149", after := #[{ on := 7, ground := Ground.data }, { on := 6, ground := Ground.guard }], guard := some (6, false) }) (v := ?v8_66) rfl (by kernel_rfl) (by kernel_rfl) (by kernel_rfl) (fun _ _ _ h => h) (Or.inl ⟨by rfl, ?hy8_66⟩) hS ?rest8_66
      case hy8_66 =>
        intro w hSw
        (try dsimp only at hSw)
        go_simp
        try with_reducible rfl
      try simp only [Act.put, List.setIfInBounds_toArray, List.set_cons_zero, List.set_cons_succ]
      refine wpAnyH_take (i := 9) (oi := { dst := some 13, op := Op.load 3 (Operand.tmp 12), type := 3, pos := "life.go:149", after := #[{ on := 8, ground := Ground.data }, { on := 6, ground := Ground.guard }], guard := some (6, false) }) (v := ?v9_67) rfl (by kernel_rfl) (by kernel_rfl) (by kernel_rfl) (fun _ _ _ h => h) (Or.inl ⟨by rfl, ?hy9_67⟩) hS ?rest9_67
      case hy9_67 =>
        intro w hSw
        (try dsimp only at hSw)
        go_simp
        try with_reducible rfl
      try simp only [Act.put, List.setIfInBounds_toArray, List.set_cons_zero, List.set_cons_succ]
      refine wpAnyH_take (i := 10) (oi := { dst := some 14, op := Op.binOp BinOp.eql 3 (Operand.tmp 13) (Operand.const (Value.int IntKind.i64 3)) 3, type := 4, pos := "life.go:149", after := #[{ on := 9, ground := Ground.data }, { on := 6, ground := Ground.guard }], guard := some (6, false) }) (v := ?v10_68) rfl (by kernel_rfl) (by kernel_rfl) (by kernel_rfl) (fun _ _ _ h => h) (Or.inl ⟨by rfl, ?hy10_68⟩) hS ?rest10_68
      case hy10_68 =>
        intro w hSw
        (try dsimp only at hSw)
        go_simp
        try with_reducible rfl
      try simp only [Act.put, List.setIfInBounds_toArray, List.set_cons_zero, List.set_cons_succ]
      refine wpAnyH_take (i := 11) (oi := { dst := some 15, op := Op.pick (Operand.tmp 10) (Operand.const (Value.bool true)) (Operand.tmp 14), type := 4, pos := "life.go:149", after := #[{ on := 6, ground := Ground.data }, { on := 10, ground := Ground.data }], guard := none }) (v := ?v11_69) rfl (by kernel_rfl) (by kernel_rfl) (by kernel_rfl) (fun _ _ _ h => h) (Or.inl ⟨by rfl, ?hy11_69⟩) hS ?rest11_69
      case hy11_69 =>
        intro w hSw
        (try dsimp only at hSw)
        go_simp
        try with_reducible rfl
      try simp only [Act.put, List.setIfInBounds_toArray, List.set_cons_zero, List.set_cons_succ]
      refine wpAnyH_take (i := 12) (oi := { dst := some 16, op := Op.move (Operand.tmp 15), type := 4, pos := "life.go:149", after := #[{ on := 11, ground := Ground.data }, { on := 6, ground := Ground.chain }], guard := none }) (v := ?v12_70) rfl (by kernel_rfl) (by kernel_rfl) (by kernel_rfl) (fun _ _ _ h => h) (Or.inl ⟨by rfl, ?hy12_70⟩) hS ?rest12_70
      case hy12_70 =>
        intro w hSw
        (try dsimp only at hSw)
        go_simp
        try with_reducible rfl
      try simp only [Act.put, List.setIfInBounds_toArray, List.set_cons_zero, List.set_cons_succ]
      refine wpAnyH_take (i := 13) (oi := { dst := some 17, op := Op.load 39 (Operand.tmp 1), type := 39, pos := "life.go:149", after := #[{ on := 12, ground := Ground.guard }], guard := some (12, true) }) (v := undef) rfl (by kernel_rfl) (by kernel_rfl) (by kernel_rfl) (fun _ _ _ h => h) (Or.inr ⟨by rfl, rfl⟩) hS ?_
      try simp only [Act.put, List.setIfInBounds_toArray, List.set_cons_zero, List.set_cons_succ]
      refine wpAnyH_take (i := 14) (oi := { dst := some 18, op := Op.call { callee := Callee.value (Operand.func 52), args := #[Operand.tmp 17], argTypes := #[39] }, type := 4, pos := "life.go:149", after := #[{ on := 13, ground := Ground.data }, { on := 12, ground := Ground.chain }, { on := 12, ground := Ground.guard }], guard := some (12, true) }) (v := undef) rfl (by kernel_rfl) (by kernel_rfl) (by kernel_rfl) (fun _ _ _ h => h) (Or.inr ⟨by rfl, rfl⟩) hS ?_
      try simp only [Act.put, List.setIfInBounds_toArray, List.set_cons_zero, List.set_cons_succ]
      refine wpAnyH_take (i := 15) (oi := { dst := some 19, op := Op.pick (Operand.tmp 16) (Operand.tmp 18) (Operand.const (Value.bool false)), type := 4, pos := "life.go:149", after := #[{ on := 12, ground := Ground.data }, { on := 14, ground := Ground.data }, { on := 16, ground := Ground.gcOnly Departure.lateStores }], guard := none }) (v := ?v15_71) rfl (by kernel_rfl) (by kernel_rfl) (by kernel_rfl) (fun _ _ _ h => h) (Or.inl ⟨by rfl, ?hy15_71⟩) hS ?rest15_71
      case hy15_71 =>
        intro w hSw
        (try dsimp only at hSw)
        go_simp
        try with_reducible rfl
      try simp only [Act.put, List.setIfInBounds_toArray, List.set_cons_zero, List.set_cons_succ]
      refine wpAnyH_ready (rs := [16]) (by kernel_rfl) (by simp) ?_
      refine AllReadyH.cons (o := { dst := none, op := Op.store 23 (Operand.tmp 2) (Operand.tmp 5), type := 0, pos := "life.go:149", after := #[{ on := 1, ground := Ground.data }, { on := 14, ground := Ground.chain }, { on := 0, ground := Ground.phase }, { on := 1, ground := Ground.phase }, { on := 2, ground := Ground.textOnly Departure.lateStores }, { on := 3, ground := Ground.textOnly Departure.lateStores }, { on := 4, ground := Ground.textOnly Departure.lateStores }, { on := 5, ground := Ground.textOnly Departure.lateStores }, { on := 6, ground := Ground.textOnly Departure.lateStores }, { on := 7, ground := Ground.textOnly Departure.lateStores }, { on := 8, ground := Ground.textOnly Departure.lateStores }, { on := 9, ground := Ground.textOnly Departure.lateStores }, { on := 10, ground := Ground.textOnly Departure.lateStores }, { on := 11, ground := Ground.textOnly Departure.lateStores }, { on := 12, ground := Ground.textOnly Departure.lateStores }, { on := 13, ground := Ground.textOnly Departure.lateStores }, { on := 14, ground := Ground.textOnly Departure.lateStoresUnsure }, { on := 15, ground := Ground.textOnly Departure.lateStores }], guard := none }) rfl (fun K hK => ?_) AllReadyH.nil
      go_simp
      refine hK.out _ _ (by (try dsimp only); go_keep) (fun hS => ?_)
      clear hK K
      try simp only [Act.put, List.setIfInBounds_toArray, List.set_cons_zero, List.set_cons_succ]
      refine wpAnyH_take (i := 17) (oi := { dst := some 3, op := Op.assign (Operand.tmp 19), type := 4, pos := "life.go:149", after := #[{ on := 15, ground := Ground.data }, { on := 16, ground := Ground.chain }, { on := 0, ground := Ground.phase }, { on := 1, ground := Ground.phase }, { on := 2, ground := Ground.phase }, { on := 3, ground := Ground.phase }, { on := 4, ground := Ground.phase }, { on := 5, ground := Ground.phase }, { on := 6, ground := Ground.phase }, { on := 7, ground := Ground.phase }, { on := 8, ground := Ground.phase }, { on := 9, ground := Ground.phase }, { on := 10, ground := Ground.phase }, { on := 11, ground := Ground.phase }, { on := 12, ground := Ground.phase }, { on := 13, ground := Ground.phase }, { on := 14, ground := Ground.phase }, { on := 15, ground := Ground.phase }, { on := 16, ground := Ground.phase }], guard := none }) (v := ?v17_72) rfl (by kernel_rfl) (by kernel_rfl) (by kernel_rfl) (fun _ _ _ h => h) (Or.inl ⟨by rfl, ?hy17_72⟩) hS ?rest17_72
      case hy17_72 =>
        intro w hSw
        (try dsimp only at hSw)
        go_simp
        try with_reducible rfl
      try simp only [Act.put, List.setIfInBounds_toArray, List.set_cons_zero, List.set_cons_succ]
      refine wpAnyH_done (by kernel_rfl) ?_ _
      have rz := row9 p1 (Value.int .i64 (s.limb mo).st) (Value.int .i64 (s.limb mo).ow) (Value.int .i64 (s.limb mo).sr) (Value.bool (s.limb mo).br) (Value.bool (s.limb mo).ma) (Value.int .i64 (s.limb mo).us) (Value.int .i64 (s.limb mo).ge) (Value.int .i64 (s.limb mo).ep) (Value.int .i64 (s.limb mo).ve)
      have hz := below9 (n := w.heap.size) (A := w) (b := B1 + 1) hB1 (by omega) (Value.int .i64 (s.limb mo).st) (Value.int .i64 (s.limb mo).ow) (Value.int .i64 (s.limb mo).sr) (Value.bool (s.limb mo).br) (Value.bool (s.limb mo).ma) (Value.int .i64 (s.limb mo).us) (Value.int .i64 (s.limb mo).ge) (Value.int .i64 (s.limb mo).ep) (Value.int .i64 (s.limb mo).ve)
      go_wp2
      refine bodyPost_ret (res_pair (p := 2) (u := 3) rfl _ _ _ _ rfl rz rfl) rfl ⟨ret_pair (by simp [chB, *]), hz⟩

set_option maxRecDepth 100000 in
set_option maxHeartbeats 4000000 in
theorem m13_any (s : Sl) (a mo : Int) (w : World) (_ : Rt s) :
    Calls Tryd.prog 33 #[Value.agg #[Value.int .i64 s.st, Value.int .i64 s.ow, Value.int .i64 s.sr, Value.bool s.br, Value.bool s.ma, Value.int .i64 s.us, Value.int .i64 s.ge, Value.int .i64 s.ep, Value.int .i64 s.ve, Value.int .i64 a, Value.int .i64 mo]] w fun e w' => e = .returned (.tuple #[.agg #[Value.int .i64 (chS 13 s a mo).st, Value.int .i64 (chS 13 s a mo).ow, Value.int .i64 (chS 13 s a mo).sr, Value.bool (chS 13 s a mo).br, Value.bool (chS 13 s a mo).ma, Value.int .i64 (chS 13 s a mo).us, Value.int .i64 (chS 13 s a mo).ge, Value.int .i64 (chS 13 s a mo).ep, Value.int .i64 (chS 13 s a mo).ve], .bool (chB 13 s a mo)]) ∧ Below w.heap.size w w' := by
  obtain ⟨st, ow, sr, br, ma, us, ge, ep, ve⟩ := s
  go_enter Tryd.func33, Tryd.ntmps33
  go_wp2
  all_goals (try subst_vars)
  all_goals refine bodyPost_ret (res_pair (p := 2) (u := 3) rfl _ _ _ _ rfl (new2 _ _ _ _) rfl) rfl ⟨?_, ((Below.refl _ _).alloc (Nat.le_refl _) _).alloc (by simp) _⟩
  all_goals (refine ret_pair ?_; simp [chB, *])

set_option maxRecDepth 100000 in
set_option maxHeartbeats 4000000 in
theorem m17_any (s : Sl) (a mo : Int) (w : World) (_ : Rt s) :
    Calls Tryd.prog 37 #[Value.agg #[Value.int .i64 s.st, Value.int .i64 s.ow, Value.int .i64 s.sr, Value.bool s.br, Value.bool s.ma, Value.int .i64 s.us, Value.int .i64 s.ge, Value.int .i64 s.ep, Value.int .i64 s.ve, Value.int .i64 a, Value.int .i64 mo]] w fun e w' => e = .returned (.tuple #[.agg #[Value.int .i64 (chS 17 s a mo).st, Value.int .i64 (chS 17 s a mo).ow, Value.int .i64 (chS 17 s a mo).sr, Value.bool (chS 17 s a mo).br, Value.bool (chS 17 s a mo).ma, Value.int .i64 (chS 17 s a mo).us, Value.int .i64 (chS 17 s a mo).ge, Value.int .i64 (chS 17 s a mo).ep, Value.int .i64 (chS 17 s a mo).ve], .bool (chB 17 s a mo)]) ∧ Below w.heap.size w w' := by
  cases h0 : (s.st == 6) with
  | true =>
    go_enter Tryd.func37, Tryd.ntmps37
    go_wp2_with fail
    have hB0 : Below w.heap.size w ((w.alloc (.cells #[Value.int .i64 s.st, Value.int .i64 s.ow, Value.int .i64 s.sr, Value.bool s.br, Value.bool s.ma, Value.int .i64 s.us, Value.int .i64 s.ge, Value.int .i64 s.ep, Value.int .i64 s.ve, Value.int .i64 a, Value.int .i64 mo] 39)).alloc (.cells #[Value.int .i64 0, Value.int .i64 0, Value.int .i64 0, Value.bool false, Value.bool false, Value.int .i64 0, Value.int .i64 0, Value.int .i64 0, Value.int .i64 0] 23)) := ((Below.refl _ _).alloc (Nat.le_refl _) _).alloc (by simp) _
    have r0 := (RowAt.new w 39 #[Value.int .i64 s.st, Value.int .i64 s.ow, Value.int .i64 s.sr, Value.bool s.br, Value.bool s.ma, Value.int .i64 s.us, Value.int .i64 s.ge, Value.int .i64 s.ep, Value.int .i64 s.ve, Value.int .i64 a, Value.int .i64 mo]).alloc (.cells #[Value.int .i64 0, Value.int .i64 0, Value.int .i64 0, Value.bool false, Value.bool false, Value.int .i64 0, Value.int .i64 0, Value.int .i64 0, Value.int .i64 0] 23)
    have r1 := new2 w (.cells #[Value.int .i64 s.st, Value.int .i64 s.ow, Value.int .i64 s.sr, Value.bool s.br, Value.bool s.ma, Value.int .i64 s.us, Value.int .i64 s.ge, Value.int .i64 s.ep, Value.int .i64 s.ve, Value.int .i64 a, Value.int .i64 mo] 39) 23 #[Value.int .i64 0, Value.int .i64 0, Value.int .i64 0, Value.bool false, Value.bool false, Value.int .i64 0, Value.int .i64 0, Value.int .i64 0, Value.int .i64 0]
    obtain ⟨W, hW⟩ : ∃ W, W = (w.alloc (.cells #[Value.int .i64 s.st, Value.int .i64 s.ow, Value.int .i64 s.sr, Value.bool s.br, Value.bool s.ma, Value.int .i64 s.us, Value.int .i64 s.ge, Value.int .i64 s.ep, Value.int .i64 s.ve, Value.int .i64 a, Value.int .i64 mo] 39)).alloc (.cells #[Value.int .i64 0, Value.int .i64 0, Value.int .i64 0, Value.bool false, Value.bool false, Value.int .i64 0, Value.int .i64 0, Value.int .i64 0, Value.int .i64 0] 23) := ⟨_, rfl⟩
    rw [← hW] at hB0 r0 r1 ⊢
    clear hW
    obtain ⟨B1, e1⟩ : ∃ B1, B1 = w.heap.size := ⟨_, rfl⟩
    have hle : w.heap.size ≤ B1 := by omega
    rw [← e1] at r0 r1 ⊢
    clear e1
    have hne : B1 ≠ B1 + 1 := by omega
    have q0 := r0.drew
    have p0 := r1.drew
    have hBd := hB0.drew
    clear hB0 r0 r1
    have c00 : W.drew.cell? ⟨B1, 0, none⟩ = some (Value.int .i64 s.st) := q0.cell 0 rfl
    have c01 : W.drew.cell? ⟨B1, 1, none⟩ = some (Value.int .i64 s.ow) := q0.cell 1 rfl
    have c02 : W.drew.cell? ⟨B1, 2, none⟩ = some (Value.int .i64 s.sr) := q0.cell 2 rfl
    have c03 : W.drew.cell? ⟨B1, 3, none⟩ = some (Value.bool s.br) := q0.cell 3 rfl
    have c04 : W.drew.cell? ⟨B1, 4, none⟩ = some (Value.bool s.ma) := q0.cell 4 rfl
    have c05 : W.drew.cell? ⟨B1, 5, none⟩ = some (Value.int .i64 s.us) := q0.cell 5 rfl
    have c06 : W.drew.cell? ⟨B1, 6, none⟩ = some (Value.int .i64 s.ge) := q0.cell 6 rfl
    have c07 : W.drew.cell? ⟨B1, 7, none⟩ = some (Value.int .i64 s.ep) := q0.cell 7 rfl
    have c08 : W.drew.cell? ⟨B1, 8, none⟩ = some (Value.int .i64 s.ve) := q0.cell 8 rfl
    have c09 : W.drew.cell? ⟨B1, 9, none⟩ = some (Value.int .i64 a) := q0.cell 9 rfl
    have c010 : W.drew.cell? ⟨B1, 10, none⟩ = some (Value.int .i64 mo) := q0.cell 10 rfl
    have d00 : W.drew.cell? ⟨B1 + 1, 0, none⟩ = some (Value.int .i64 0) := p0.cell 0 rfl
    have g00 : W.drew.frozen? ⟨B1 + 1, 0, none⟩ = false := p0.frozen 0
    have d01 : W.drew.cell? ⟨B1 + 1, 1, none⟩ = some (Value.int .i64 0) := p0.cell 1 rfl
    have g01 : W.drew.frozen? ⟨B1 + 1, 1, none⟩ = false := p0.frozen 1
    have d02 : W.drew.cell? ⟨B1 + 1, 2, none⟩ = some (Value.int .i64 0) := p0.cell 2 rfl
    have g02 : W.drew.frozen? ⟨B1 + 1, 2, none⟩ = false := p0.frozen 2
    have d03 : W.drew.cell? ⟨B1 + 1, 3, none⟩ = some (Value.bool false) := p0.cell 3 rfl
    have g03 : W.drew.frozen? ⟨B1 + 1, 3, none⟩ = false := p0.frozen 3
    have d04 : W.drew.cell? ⟨B1 + 1, 4, none⟩ = some (Value.bool false) := p0.cell 4 rfl
    have g04 : W.drew.frozen? ⟨B1 + 1, 4, none⟩ = false := p0.frozen 4
    have d05 : W.drew.cell? ⟨B1 + 1, 5, none⟩ = some (Value.int .i64 0) := p0.cell 5 rfl
    have g05 : W.drew.frozen? ⟨B1 + 1, 5, none⟩ = false := p0.frozen 5
    have d06 : W.drew.cell? ⟨B1 + 1, 6, none⟩ = some (Value.int .i64 0) := p0.cell 6 rfl
    have g06 : W.drew.frozen? ⟨B1 + 1, 6, none⟩ = false := p0.frozen 6
    have d07 : W.drew.cell? ⟨B1 + 1, 7, none⟩ = some (Value.int .i64 0) := p0.cell 7 rfl
    have g07 : W.drew.frozen? ⟨B1 + 1, 7, none⟩ = false := p0.frozen 7
    have d08 : W.drew.cell? ⟨B1 + 1, 8, none⟩ = some (Value.int .i64 0) := p0.cell 8 rfl
    have g08 : W.drew.frozen? ⟨B1 + 1, 8, none⟩ = false := p0.frozen 8
    refine wp_region_held_drew (S := (fun w' => w'.cell? ⟨B1, 0, none⟩ = some (Value.int .i64 s.st) ∧ w'.cell? ⟨B1, 1, none⟩ = some (Value.int .i64 s.ow) ∧ w'.cell? ⟨B1, 2, none⟩ = some (Value.int .i64 s.sr) ∧ w'.cell? ⟨B1, 3, none⟩ = some (Value.bool s.br) ∧ w'.cell? ⟨B1, 4, none⟩ = some (Value.bool s.ma) ∧ w'.cell? ⟨B1, 5, none⟩ = some (Value.int .i64 s.us) ∧ w'.cell? ⟨B1, 6, none⟩ = some (Value.int .i64 s.ge) ∧ w'.cell? ⟨B1, 7, none⟩ = some (Value.int .i64 s.ep) ∧ w'.cell? ⟨B1, 8, none⟩ = some (Value.int .i64 s.ve) ∧ w'.cell? ⟨B1, 9, none⟩ = some (Value.int .i64 a) ∧ w'.cell? ⟨B1, 10, none⟩ = some (Value.int .i64 mo))) (by kernel_rfl) ⟨c00, c01, c02, c03, c04, c05, c06, c07, c08, c09, c010⟩ (fun hS => ?_)
    generalize W.drew = WD at *
    refine wpAnyH_take (i := 0) (oi := { dst := some 4, op := Op.load 39 (Operand.tmp 1), type := 39, pos := "life.go:186", after := #[], guard := none }) (v := ?v0_73) rfl (by kernel_rfl) (by kernel_rfl) (by kernel_rfl) (fun _ _ _ h => h) (Or.inl ⟨by rfl, ?hy0_73⟩) hS ?rest0_73
    case hy0_73 =>
      intro w hSw
      (try dsimp only at hSw)
      go_simp
      try with_reducible rfl
    try simp only [Act.put, List.setIfInBounds_toArray, List.set_cons_zero, List.set_cons_succ]
    refine wpAnyH_take (i := 2) (oi := { dst := some 6, op := Op.fieldAddr 39 (Operand.tmp 1) 0, type := 0, pos := "life.go:186", after := #[], guard := none }) (v := ?v2_74) rfl (by kernel_rfl) (by kernel_rfl) (by kernel_rfl) (fun _ _ _ h => h) (Or.inl ⟨by rfl, ?hy2_74⟩) hS ?rest2_74
    case hy2_74 =>
      intro w hSw
      (try dsimp only at hSw)
      go_simp
      try with_reducible rfl
    try simp only [Act.put, List.setIfInBounds_toArray, List.set_cons_zero, List.set_cons_succ]
    refine wpAnyH_take (i := 3) (oi := { dst := some 7, op := Op.fieldAddr 23 (Operand.tmp 6) 0, type := 0, pos := "life.go:186", after := #[{ on := 2, ground := Ground.data }], guard := none }) (v := ?v3_75) rfl (by kernel_rfl) (by kernel_rfl) (by kernel_rfl) (fun _ _ _ h => h) (Or.inl ⟨by rfl, ?hy3_75⟩) hS ?rest3_75
    case hy3_75 =>
      intro w hSw
      (try dsimp only at hSw)
      go_simp
      try with_reducible rfl
    try simp only [Act.put, List.setIfInBounds_toArray, List.set_cons_zero, List.set_cons_succ]
    refine wpAnyH_take (i := 4) (oi := { dst := some 8, op := Op.load 3 (Operand.tmp 7), type := 3, pos := "life.go:186", after := #[{ on := 3, ground := Ground.data }], guard := none }) (v := ?v4_76) rfl (by kernel_rfl) (by kernel_rfl) (by kernel_rfl) (fun _ _ _ h => h) (Or.inl ⟨by rfl, ?hy4_76⟩) hS ?rest4_76
    case hy4_76 =>
      intro w hSw
      (try dsimp only at hSw)
      go_simp
      try with_reducible rfl
    try simp only [Act.put, List.setIfInBounds_toArray, List.set_cons_zero, List.set_cons_succ]
    refine wpAnyH_take (i := 5) (oi := { dst := some 9, op := Op.binOp BinOp.eql 3 (Operand.tmp 8) (Operand.const (Value.int IntKind.i64 6)) 3, type := 4, pos := "life.go:186", after := #[{ on := 4, ground := Ground.data }], guard := none }) (v := ?v5_77) rfl (by kernel_rfl) (by kernel_rfl) (by kernel_rfl) (fun _ _ _ h => h) (Or.inl ⟨by rfl, ?hy5_77⟩) hS ?rest5_77
    case hy5_77 =>
      intro w hSw
      (try dsimp only at hSw)
      go_simp
      try with_reducible rfl
    try simp only [Act.put, List.setIfInBounds_toArray, List.set_cons_zero, List.set_cons_succ]
    refine wpAnyH_ready (rs := [1]) (by kernel_rfl) (by simp) ?_
    refine AllReadyH.cons (o := { dst := some 5, op := Op.call { callee := Callee.value (Operand.func 51), args := #[Operand.tmp 4], argTypes := #[39] }, type := 23, pos := "life.go:186", after := #[{ on := 0, ground := Ground.data }], guard := none }) rfl (fun K hK => ?_) AllReadyH.nil
    go_simp
    refine (limbo_any s a mo _).mono ?_
    rintro e w1 ⟨rfl, hb1⟩
    have q1 := q0.below hb1 (by simpa using q0.lt)
    have p1 := p0.below hb1 (by simpa using p0.lt)
    have hB1 := hBd.trans (hb1.mono (by simpa using hBd.size))
    have c10 : w1.cell? ⟨B1, 0, none⟩ = some (Value.int .i64 s.st) := q1.cell 0 rfl
    have c11 : w1.cell? ⟨B1, 1, none⟩ = some (Value.int .i64 s.ow) := q1.cell 1 rfl
    have c12 : w1.cell? ⟨B1, 2, none⟩ = some (Value.int .i64 s.sr) := q1.cell 2 rfl
    have c13 : w1.cell? ⟨B1, 3, none⟩ = some (Value.bool s.br) := q1.cell 3 rfl
    have c14 : w1.cell? ⟨B1, 4, none⟩ = some (Value.bool s.ma) := q1.cell 4 rfl
    have c15 : w1.cell? ⟨B1, 5, none⟩ = some (Value.int .i64 s.us) := q1.cell 5 rfl
    have c16 : w1.cell? ⟨B1, 6, none⟩ = some (Value.int .i64 s.ge) := q1.cell 6 rfl
    have c17 : w1.cell? ⟨B1, 7, none⟩ = some (Value.int .i64 s.ep) := q1.cell 7 rfl
    have c18 : w1.cell? ⟨B1, 8, none⟩ = some (Value.int .i64 s.ve) := q1.cell 8 rfl
    have c19 : w1.cell? ⟨B1, 9, none⟩ = some (Value.int .i64 a) := q1.cell 9 rfl
    have c110 : w1.cell? ⟨B1, 10, none⟩ = some (Value.int .i64 mo) := q1.cell 10 rfl
    have d10 : w1.cell? ⟨B1 + 1, 0, none⟩ = some (Value.int .i64 0) := p1.cell 0 rfl
    have g10 : w1.frozen? ⟨B1 + 1, 0, none⟩ = false := p1.frozen 0
    have d11 : w1.cell? ⟨B1 + 1, 1, none⟩ = some (Value.int .i64 0) := p1.cell 1 rfl
    have g11 : w1.frozen? ⟨B1 + 1, 1, none⟩ = false := p1.frozen 1
    have d12 : w1.cell? ⟨B1 + 1, 2, none⟩ = some (Value.int .i64 0) := p1.cell 2 rfl
    have g12 : w1.frozen? ⟨B1 + 1, 2, none⟩ = false := p1.frozen 2
    have d13 : w1.cell? ⟨B1 + 1, 3, none⟩ = some (Value.bool false) := p1.cell 3 rfl
    have g13 : w1.frozen? ⟨B1 + 1, 3, none⟩ = false := p1.frozen 3
    have d14 : w1.cell? ⟨B1 + 1, 4, none⟩ = some (Value.bool false) := p1.cell 4 rfl
    have g14 : w1.frozen? ⟨B1 + 1, 4, none⟩ = false := p1.frozen 4
    have d15 : w1.cell? ⟨B1 + 1, 5, none⟩ = some (Value.int .i64 0) := p1.cell 5 rfl
    have g15 : w1.frozen? ⟨B1 + 1, 5, none⟩ = false := p1.frozen 5
    have d16 : w1.cell? ⟨B1 + 1, 6, none⟩ = some (Value.int .i64 0) := p1.cell 6 rfl
    have g16 : w1.frozen? ⟨B1 + 1, 6, none⟩ = false := p1.frozen 6
    have d17 : w1.cell? ⟨B1 + 1, 7, none⟩ = some (Value.int .i64 0) := p1.cell 7 rfl
    have g17 : w1.frozen? ⟨B1 + 1, 7, none⟩ = false := p1.frozen 7
    have d18 : w1.cell? ⟨B1 + 1, 8, none⟩ = some (Value.int .i64 0) := p1.cell 8 rfl
    have g18 : w1.frozen? ⟨B1 + 1, 8, none⟩ = false := p1.frozen 8
    refine hK.out _ _ ⟨c10, c11, c12, c13, c14, c15, c16, c17, c18, c19, c110⟩ (fun hS => ?_)
    clear hK K
    try simp only [Act.put, List.setIfInBounds_toArray, List.set_cons_zero, List.set_cons_succ]
    refine wpAnyH_take (i := 6) (oi := { dst := some 10, op := Op.move (Operand.tmp 9), type := 4, pos := "life.go:186", after := #[{ on := 5, ground := Ground.data }, { on := 1, ground := Ground.chain }], guard := none }) (v := ?v6_78) rfl (by kernel_rfl) (by kernel_rfl) (by kernel_rfl) (fun _ _ _ h => h) (Or.inl ⟨by rfl, ?hy6_78⟩) hS ?rest6_78
    case hy6_78 =>
      intro w hSw
      (try dsimp only at hSw)
      go_simp
      try with_reducible rfl
    try simp only [Act.put, List.setIfInBounds_toArray, List.set_cons_zero, List.set_cons_succ]
    refine wpAnyH_take (i := 7) (oi := { dst := some 11, op := Op.load 39 (Operand.tmp 1), type := 39, pos := "life.go:186", after := #[{ on := 6, ground := Ground.guard }], guard := some (6, true) }) (v := ?v7_79) rfl (by kernel_rfl) (by kernel_rfl) (by kernel_rfl) (fun _ _ _ h => h) (Or.inl ⟨by rfl, ?hy7_79⟩) hS ?rest7_79
    case hy7_79 =>
      intro w hSw
      (try dsimp only at hSw)
      go_simp
      try with_reducible rfl
    try simp only [Act.put, List.setIfInBounds_toArray, List.set_cons_zero, List.set_cons_succ]
    refine wpAnyH_ready (rs := [8]) (by kernel_rfl) (by simp) ?_
    refine AllReadyH.cons (o := { dst := some 12, op := Op.call { callee := Callee.value (Operand.func 52), args := #[Operand.tmp 11], argTypes := #[39] }, type := 4, pos := "life.go:186", after := #[{ on := 7, ground := Ground.data }, { on := 6, ground := Ground.chain }, { on := 6, ground := Ground.guard }], guard := some (6, true) }) rfl (fun K hK => ?_) AllReadyH.nil
    go_simp
    refine (epoch_any s a mo _).mono ?_
    rintro e w2 ⟨rfl, hb2⟩
    have q2 := q1.below hb2 (by simpa using q1.lt)
    have p2 := p1.below hb2 (by simpa using p1.lt)
    have hB2 := hB1.trans (hb2.mono (by simpa using hB1.size))
    have c20 : w2.cell? ⟨B1, 0, none⟩ = some (Value.int .i64 s.st) := q2.cell 0 rfl
    have c21 : w2.cell? ⟨B1, 1, none⟩ = some (Value.int .i64 s.ow) := q2.cell 1 rfl
    have c22 : w2.cell? ⟨B1, 2, none⟩ = some (Value.int .i64 s.sr) := q2.cell 2 rfl
    have c23 : w2.cell? ⟨B1, 3, none⟩ = some (Value.bool s.br) := q2.cell 3 rfl
    have c24 : w2.cell? ⟨B1, 4, none⟩ = some (Value.bool s.ma) := q2.cell 4 rfl
    have c25 : w2.cell? ⟨B1, 5, none⟩ = some (Value.int .i64 s.us) := q2.cell 5 rfl
    have c26 : w2.cell? ⟨B1, 6, none⟩ = some (Value.int .i64 s.ge) := q2.cell 6 rfl
    have c27 : w2.cell? ⟨B1, 7, none⟩ = some (Value.int .i64 s.ep) := q2.cell 7 rfl
    have c28 : w2.cell? ⟨B1, 8, none⟩ = some (Value.int .i64 s.ve) := q2.cell 8 rfl
    have c29 : w2.cell? ⟨B1, 9, none⟩ = some (Value.int .i64 a) := q2.cell 9 rfl
    have c210 : w2.cell? ⟨B1, 10, none⟩ = some (Value.int .i64 mo) := q2.cell 10 rfl
    have d20 : w2.cell? ⟨B1 + 1, 0, none⟩ = some (Value.int .i64 0) := p2.cell 0 rfl
    have g20 : w2.frozen? ⟨B1 + 1, 0, none⟩ = false := p2.frozen 0
    have d21 : w2.cell? ⟨B1 + 1, 1, none⟩ = some (Value.int .i64 0) := p2.cell 1 rfl
    have g21 : w2.frozen? ⟨B1 + 1, 1, none⟩ = false := p2.frozen 1
    have d22 : w2.cell? ⟨B1 + 1, 2, none⟩ = some (Value.int .i64 0) := p2.cell 2 rfl
    have g22 : w2.frozen? ⟨B1 + 1, 2, none⟩ = false := p2.frozen 2
    have d23 : w2.cell? ⟨B1 + 1, 3, none⟩ = some (Value.bool false) := p2.cell 3 rfl
    have g23 : w2.frozen? ⟨B1 + 1, 3, none⟩ = false := p2.frozen 3
    have d24 : w2.cell? ⟨B1 + 1, 4, none⟩ = some (Value.bool false) := p2.cell 4 rfl
    have g24 : w2.frozen? ⟨B1 + 1, 4, none⟩ = false := p2.frozen 4
    have d25 : w2.cell? ⟨B1 + 1, 5, none⟩ = some (Value.int .i64 0) := p2.cell 5 rfl
    have g25 : w2.frozen? ⟨B1 + 1, 5, none⟩ = false := p2.frozen 5
    have d26 : w2.cell? ⟨B1 + 1, 6, none⟩ = some (Value.int .i64 0) := p2.cell 6 rfl
    have g26 : w2.frozen? ⟨B1 + 1, 6, none⟩ = false := p2.frozen 6
    have d27 : w2.cell? ⟨B1 + 1, 7, none⟩ = some (Value.int .i64 0) := p2.cell 7 rfl
    have g27 : w2.frozen? ⟨B1 + 1, 7, none⟩ = false := p2.frozen 7
    have d28 : w2.cell? ⟨B1 + 1, 8, none⟩ = some (Value.int .i64 0) := p2.cell 8 rfl
    have g28 : w2.frozen? ⟨B1 + 1, 8, none⟩ = false := p2.frozen 8
    refine hK.out _ _ ⟨c20, c21, c22, c23, c24, c25, c26, c27, c28, c29, c210⟩ (fun hS => ?_)
    clear hK K
    try simp only [Act.put, List.setIfInBounds_toArray, List.set_cons_zero, List.set_cons_succ]
    refine wpAnyH_take (i := 9) (oi := { dst := some 13, op := Op.pick (Operand.tmp 10) (Operand.tmp 12) (Operand.const (Value.bool false)), type := 4, pos := "life.go:186", after := #[{ on := 6, ground := Ground.data }, { on := 8, ground := Ground.data }, { on := 10, ground := Ground.gcOnly Departure.lateStores }], guard := none }) (v := ?v9_80) rfl (by kernel_rfl) (by kernel_rfl) (by kernel_rfl) (fun _ _ _ h => h) (Or.inl ⟨by rfl, ?hy9_80⟩) hS ?rest9_80
    case hy9_80 =>
      intro w hSw
      (try dsimp only at hSw)
      go_simp
      try with_reducible rfl
    try simp only [Act.put, List.setIfInBounds_toArray, List.set_cons_zero, List.set_cons_succ]
    refine wpAnyH_ready (rs := [10]) (by kernel_rfl) (by simp) ?_
    refine AllReadyH.cons (o := { dst := none, op := Op.store 23 (Operand.tmp 2) (Operand.tmp 5), type := 0, pos := "life.go:186", after := #[{ on := 1, ground := Ground.data }, { on := 8, ground := Ground.chain }, { on := 0, ground := Ground.phase }, { on := 1, ground := Ground.phase }, { on := 2, ground := Ground.textOnly Departure.lateStores }, { on := 3, ground := Ground.textOnly Departure.lateStores }, { on := 4, ground := Ground.textOnly Departure.lateStores }, { on := 5, ground := Ground.textOnly Departure.lateStores }, { on := 6, ground := Ground.textOnly Departure.lateStores }, { on := 7, ground := Ground.textOnly Departure.lateStores }, { on := 8, ground := Ground.textOnly Departure.lateStoresUnsure }, { on := 9, ground := Ground.textOnly Departure.lateStores }], guard := none }) rfl (fun K hK => ?_) AllReadyH.nil
    go_simp
    refine hK.out _ _ (by (try dsimp only); go_keep) (fun hS => ?_)
    clear hK K
    try simp only [Act.put, List.setIfInBounds_toArray, List.set_cons_zero, List.set_cons_succ]
    refine wpAnyH_take (i := 11) (oi := { dst := some 3, op := Op.assign (Operand.tmp 13), type := 4, pos := "life.go:186", after := #[{ on := 9, ground := Ground.data }, { on := 10, ground := Ground.chain }, { on := 0, ground := Ground.phase }, { on := 1, ground := Ground.phase }, { on := 2, ground := Ground.phase }, { on := 3, ground := Ground.phase }, { on := 4, ground := Ground.phase }, { on := 5, ground := Ground.phase }, { on := 6, ground := Ground.phase }, { on := 7, ground := Ground.phase }, { on := 8, ground := Ground.phase }, { on := 9, ground := Ground.phase }, { on := 10, ground := Ground.phase }], guard := none }) (v := ?v11_81) rfl (by kernel_rfl) (by kernel_rfl) (by kernel_rfl) (fun _ _ _ h => h) (Or.inl ⟨by rfl, ?hy11_81⟩) hS ?rest11_81
    case hy11_81 =>
      intro w hSw
      (try dsimp only at hSw)
      go_simp
      try with_reducible rfl
    try simp only [Act.put, List.setIfInBounds_toArray, List.set_cons_zero, List.set_cons_succ]
    refine wpAnyH_done (by kernel_rfl) ?_ _
    have rz := row9 p2 (Value.int .i64 (s.limb mo).st) (Value.int .i64 (s.limb mo).ow) (Value.int .i64 (s.limb mo).sr) (Value.bool (s.limb mo).br) (Value.bool (s.limb mo).ma) (Value.int .i64 (s.limb mo).us) (Value.int .i64 (s.limb mo).ge) (Value.int .i64 (s.limb mo).ep) (Value.int .i64 (s.limb mo).ve)
    have hz := below9 (n := w.heap.size) (A := w) (b := B1 + 1) hB2 (by omega) (Value.int .i64 (s.limb mo).st) (Value.int .i64 (s.limb mo).ow) (Value.int .i64 (s.limb mo).sr) (Value.bool (s.limb mo).br) (Value.bool (s.limb mo).ma) (Value.int .i64 (s.limb mo).us) (Value.int .i64 (s.limb mo).ge) (Value.int .i64 (s.limb mo).ep) (Value.int .i64 (s.limb mo).ve)
    go_wp2
    refine bodyPost_ret (res_pair (p := 2) (u := 3) rfl _ _ _ _ rfl rz rfl) rfl ⟨ret_pair (by simp [chB, *]), hz⟩
  | false =>
    go_enter Tryd.func37, Tryd.ntmps37
    go_wp2_with fail
    have hB0 : Below w.heap.size w ((w.alloc (.cells #[Value.int .i64 s.st, Value.int .i64 s.ow, Value.int .i64 s.sr, Value.bool s.br, Value.bool s.ma, Value.int .i64 s.us, Value.int .i64 s.ge, Value.int .i64 s.ep, Value.int .i64 s.ve, Value.int .i64 a, Value.int .i64 mo] 39)).alloc (.cells #[Value.int .i64 0, Value.int .i64 0, Value.int .i64 0, Value.bool false, Value.bool false, Value.int .i64 0, Value.int .i64 0, Value.int .i64 0, Value.int .i64 0] 23)) := ((Below.refl _ _).alloc (Nat.le_refl _) _).alloc (by simp) _
    have r0 := (RowAt.new w 39 #[Value.int .i64 s.st, Value.int .i64 s.ow, Value.int .i64 s.sr, Value.bool s.br, Value.bool s.ma, Value.int .i64 s.us, Value.int .i64 s.ge, Value.int .i64 s.ep, Value.int .i64 s.ve, Value.int .i64 a, Value.int .i64 mo]).alloc (.cells #[Value.int .i64 0, Value.int .i64 0, Value.int .i64 0, Value.bool false, Value.bool false, Value.int .i64 0, Value.int .i64 0, Value.int .i64 0, Value.int .i64 0] 23)
    have r1 := new2 w (.cells #[Value.int .i64 s.st, Value.int .i64 s.ow, Value.int .i64 s.sr, Value.bool s.br, Value.bool s.ma, Value.int .i64 s.us, Value.int .i64 s.ge, Value.int .i64 s.ep, Value.int .i64 s.ve, Value.int .i64 a, Value.int .i64 mo] 39) 23 #[Value.int .i64 0, Value.int .i64 0, Value.int .i64 0, Value.bool false, Value.bool false, Value.int .i64 0, Value.int .i64 0, Value.int .i64 0, Value.int .i64 0]
    obtain ⟨W, hW⟩ : ∃ W, W = (w.alloc (.cells #[Value.int .i64 s.st, Value.int .i64 s.ow, Value.int .i64 s.sr, Value.bool s.br, Value.bool s.ma, Value.int .i64 s.us, Value.int .i64 s.ge, Value.int .i64 s.ep, Value.int .i64 s.ve, Value.int .i64 a, Value.int .i64 mo] 39)).alloc (.cells #[Value.int .i64 0, Value.int .i64 0, Value.int .i64 0, Value.bool false, Value.bool false, Value.int .i64 0, Value.int .i64 0, Value.int .i64 0, Value.int .i64 0] 23) := ⟨_, rfl⟩
    rw [← hW] at hB0 r0 r1 ⊢
    clear hW
    obtain ⟨B1, e1⟩ : ∃ B1, B1 = w.heap.size := ⟨_, rfl⟩
    have hle : w.heap.size ≤ B1 := by omega
    rw [← e1] at r0 r1 ⊢
    clear e1
    have hne : B1 ≠ B1 + 1 := by omega
    have q0 := r0.drew
    have p0 := r1.drew
    have hBd := hB0.drew
    clear hB0 r0 r1
    have c00 : W.drew.cell? ⟨B1, 0, none⟩ = some (Value.int .i64 s.st) := q0.cell 0 rfl
    have c01 : W.drew.cell? ⟨B1, 1, none⟩ = some (Value.int .i64 s.ow) := q0.cell 1 rfl
    have c02 : W.drew.cell? ⟨B1, 2, none⟩ = some (Value.int .i64 s.sr) := q0.cell 2 rfl
    have c03 : W.drew.cell? ⟨B1, 3, none⟩ = some (Value.bool s.br) := q0.cell 3 rfl
    have c04 : W.drew.cell? ⟨B1, 4, none⟩ = some (Value.bool s.ma) := q0.cell 4 rfl
    have c05 : W.drew.cell? ⟨B1, 5, none⟩ = some (Value.int .i64 s.us) := q0.cell 5 rfl
    have c06 : W.drew.cell? ⟨B1, 6, none⟩ = some (Value.int .i64 s.ge) := q0.cell 6 rfl
    have c07 : W.drew.cell? ⟨B1, 7, none⟩ = some (Value.int .i64 s.ep) := q0.cell 7 rfl
    have c08 : W.drew.cell? ⟨B1, 8, none⟩ = some (Value.int .i64 s.ve) := q0.cell 8 rfl
    have c09 : W.drew.cell? ⟨B1, 9, none⟩ = some (Value.int .i64 a) := q0.cell 9 rfl
    have c010 : W.drew.cell? ⟨B1, 10, none⟩ = some (Value.int .i64 mo) := q0.cell 10 rfl
    have d00 : W.drew.cell? ⟨B1 + 1, 0, none⟩ = some (Value.int .i64 0) := p0.cell 0 rfl
    have g00 : W.drew.frozen? ⟨B1 + 1, 0, none⟩ = false := p0.frozen 0
    have d01 : W.drew.cell? ⟨B1 + 1, 1, none⟩ = some (Value.int .i64 0) := p0.cell 1 rfl
    have g01 : W.drew.frozen? ⟨B1 + 1, 1, none⟩ = false := p0.frozen 1
    have d02 : W.drew.cell? ⟨B1 + 1, 2, none⟩ = some (Value.int .i64 0) := p0.cell 2 rfl
    have g02 : W.drew.frozen? ⟨B1 + 1, 2, none⟩ = false := p0.frozen 2
    have d03 : W.drew.cell? ⟨B1 + 1, 3, none⟩ = some (Value.bool false) := p0.cell 3 rfl
    have g03 : W.drew.frozen? ⟨B1 + 1, 3, none⟩ = false := p0.frozen 3
    have d04 : W.drew.cell? ⟨B1 + 1, 4, none⟩ = some (Value.bool false) := p0.cell 4 rfl
    have g04 : W.drew.frozen? ⟨B1 + 1, 4, none⟩ = false := p0.frozen 4
    have d05 : W.drew.cell? ⟨B1 + 1, 5, none⟩ = some (Value.int .i64 0) := p0.cell 5 rfl
    have g05 : W.drew.frozen? ⟨B1 + 1, 5, none⟩ = false := p0.frozen 5
    have d06 : W.drew.cell? ⟨B1 + 1, 6, none⟩ = some (Value.int .i64 0) := p0.cell 6 rfl
    have g06 : W.drew.frozen? ⟨B1 + 1, 6, none⟩ = false := p0.frozen 6
    have d07 : W.drew.cell? ⟨B1 + 1, 7, none⟩ = some (Value.int .i64 0) := p0.cell 7 rfl
    have g07 : W.drew.frozen? ⟨B1 + 1, 7, none⟩ = false := p0.frozen 7
    have d08 : W.drew.cell? ⟨B1 + 1, 8, none⟩ = some (Value.int .i64 0) := p0.cell 8 rfl
    have g08 : W.drew.frozen? ⟨B1 + 1, 8, none⟩ = false := p0.frozen 8
    refine wp_region_held_drew (S := (fun w' => w'.cell? ⟨B1, 0, none⟩ = some (Value.int .i64 s.st) ∧ w'.cell? ⟨B1, 1, none⟩ = some (Value.int .i64 s.ow) ∧ w'.cell? ⟨B1, 2, none⟩ = some (Value.int .i64 s.sr) ∧ w'.cell? ⟨B1, 3, none⟩ = some (Value.bool s.br) ∧ w'.cell? ⟨B1, 4, none⟩ = some (Value.bool s.ma) ∧ w'.cell? ⟨B1, 5, none⟩ = some (Value.int .i64 s.us) ∧ w'.cell? ⟨B1, 6, none⟩ = some (Value.int .i64 s.ge) ∧ w'.cell? ⟨B1, 7, none⟩ = some (Value.int .i64 s.ep) ∧ w'.cell? ⟨B1, 8, none⟩ = some (Value.int .i64 s.ve) ∧ w'.cell? ⟨B1, 9, none⟩ = some (Value.int .i64 a) ∧ w'.cell? ⟨B1, 10, none⟩ = some (Value.int .i64 mo))) (by kernel_rfl) ⟨c00, c01, c02, c03, c04, c05, c06, c07, c08, c09, c010⟩ (fun hS => ?_)
    generalize W.drew = WD at *
    refine wpAnyH_take (i := 0) (oi := { dst := some 4, op := Op.load 39 (Operand.tmp 1), type := 39, pos := "life.go:186", after := #[], guard := none }) (v := ?v0_82) rfl (by kernel_rfl) (by kernel_rfl) (by kernel_rfl) (fun _ _ _ h => h) (Or.inl ⟨by rfl, ?hy0_82⟩) hS ?rest0_82
    case hy0_82 =>
      intro w hSw
      (try dsimp only at hSw)
      go_simp
      try with_reducible rfl
    try simp only [Act.put, List.setIfInBounds_toArray, List.set_cons_zero, List.set_cons_succ]
    refine wpAnyH_take (i := 2) (oi := { dst := some 6, op := Op.fieldAddr 39 (Operand.tmp 1) 0, type := 0, pos := "life.go:186", after := #[], guard := none }) (v := ?v2_83) rfl (by kernel_rfl) (by kernel_rfl) (by kernel_rfl) (fun _ _ _ h => h) (Or.inl ⟨by rfl, ?hy2_83⟩) hS ?rest2_83
    case hy2_83 =>
      intro w hSw
      (try dsimp only at hSw)
      go_simp
      try with_reducible rfl
    try simp only [Act.put, List.setIfInBounds_toArray, List.set_cons_zero, List.set_cons_succ]
    refine wpAnyH_take (i := 3) (oi := { dst := some 7, op := Op.fieldAddr 23 (Operand.tmp 6) 0, type := 0, pos := "life.go:186", after := #[{ on := 2, ground := Ground.data }], guard := none }) (v := ?v3_84) rfl (by kernel_rfl) (by kernel_rfl) (by kernel_rfl) (fun _ _ _ h => h) (Or.inl ⟨by rfl, ?hy3_84⟩) hS ?rest3_84
    case hy3_84 =>
      intro w hSw
      (try dsimp only at hSw)
      go_simp
      try with_reducible rfl
    try simp only [Act.put, List.setIfInBounds_toArray, List.set_cons_zero, List.set_cons_succ]
    refine wpAnyH_take (i := 4) (oi := { dst := some 8, op := Op.load 3 (Operand.tmp 7), type := 3, pos := "life.go:186", after := #[{ on := 3, ground := Ground.data }], guard := none }) (v := ?v4_85) rfl (by kernel_rfl) (by kernel_rfl) (by kernel_rfl) (fun _ _ _ h => h) (Or.inl ⟨by rfl, ?hy4_85⟩) hS ?rest4_85
    case hy4_85 =>
      intro w hSw
      (try dsimp only at hSw)
      go_simp
      try with_reducible rfl
    try simp only [Act.put, List.setIfInBounds_toArray, List.set_cons_zero, List.set_cons_succ]
    refine wpAnyH_take (i := 5) (oi := { dst := some 9, op := Op.binOp BinOp.eql 3 (Operand.tmp 8) (Operand.const (Value.int IntKind.i64 6)) 3, type := 4, pos := "life.go:186", after := #[{ on := 4, ground := Ground.data }], guard := none }) (v := ?v5_86) rfl (by kernel_rfl) (by kernel_rfl) (by kernel_rfl) (fun _ _ _ h => h) (Or.inl ⟨by rfl, ?hy5_86⟩) hS ?rest5_86
    case hy5_86 =>
      intro w hSw
      (try dsimp only at hSw)
      go_simp
      try with_reducible rfl
    try simp only [Act.put, List.setIfInBounds_toArray, List.set_cons_zero, List.set_cons_succ]
    refine wpAnyH_ready (rs := [1]) (by kernel_rfl) (by simp) ?_
    refine AllReadyH.cons (o := { dst := some 5, op := Op.call { callee := Callee.value (Operand.func 51), args := #[Operand.tmp 4], argTypes := #[39] }, type := 23, pos := "life.go:186", after := #[{ on := 0, ground := Ground.data }], guard := none }) rfl (fun K hK => ?_) AllReadyH.nil
    go_simp
    refine (limbo_any s a mo _).mono ?_
    rintro e w1 ⟨rfl, hb1⟩
    have q1 := q0.below hb1 (by simpa using q0.lt)
    have p1 := p0.below hb1 (by simpa using p0.lt)
    have hB1 := hBd.trans (hb1.mono (by simpa using hBd.size))
    have c10 : w1.cell? ⟨B1, 0, none⟩ = some (Value.int .i64 s.st) := q1.cell 0 rfl
    have c11 : w1.cell? ⟨B1, 1, none⟩ = some (Value.int .i64 s.ow) := q1.cell 1 rfl
    have c12 : w1.cell? ⟨B1, 2, none⟩ = some (Value.int .i64 s.sr) := q1.cell 2 rfl
    have c13 : w1.cell? ⟨B1, 3, none⟩ = some (Value.bool s.br) := q1.cell 3 rfl
    have c14 : w1.cell? ⟨B1, 4, none⟩ = some (Value.bool s.ma) := q1.cell 4 rfl
    have c15 : w1.cell? ⟨B1, 5, none⟩ = some (Value.int .i64 s.us) := q1.cell 5 rfl
    have c16 : w1.cell? ⟨B1, 6, none⟩ = some (Value.int .i64 s.ge) := q1.cell 6 rfl
    have c17 : w1.cell? ⟨B1, 7, none⟩ = some (Value.int .i64 s.ep) := q1.cell 7 rfl
    have c18 : w1.cell? ⟨B1, 8, none⟩ = some (Value.int .i64 s.ve) := q1.cell 8 rfl
    have c19 : w1.cell? ⟨B1, 9, none⟩ = some (Value.int .i64 a) := q1.cell 9 rfl
    have c110 : w1.cell? ⟨B1, 10, none⟩ = some (Value.int .i64 mo) := q1.cell 10 rfl
    have d10 : w1.cell? ⟨B1 + 1, 0, none⟩ = some (Value.int .i64 0) := p1.cell 0 rfl
    have g10 : w1.frozen? ⟨B1 + 1, 0, none⟩ = false := p1.frozen 0
    have d11 : w1.cell? ⟨B1 + 1, 1, none⟩ = some (Value.int .i64 0) := p1.cell 1 rfl
    have g11 : w1.frozen? ⟨B1 + 1, 1, none⟩ = false := p1.frozen 1
    have d12 : w1.cell? ⟨B1 + 1, 2, none⟩ = some (Value.int .i64 0) := p1.cell 2 rfl
    have g12 : w1.frozen? ⟨B1 + 1, 2, none⟩ = false := p1.frozen 2
    have d13 : w1.cell? ⟨B1 + 1, 3, none⟩ = some (Value.bool false) := p1.cell 3 rfl
    have g13 : w1.frozen? ⟨B1 + 1, 3, none⟩ = false := p1.frozen 3
    have d14 : w1.cell? ⟨B1 + 1, 4, none⟩ = some (Value.bool false) := p1.cell 4 rfl
    have g14 : w1.frozen? ⟨B1 + 1, 4, none⟩ = false := p1.frozen 4
    have d15 : w1.cell? ⟨B1 + 1, 5, none⟩ = some (Value.int .i64 0) := p1.cell 5 rfl
    have g15 : w1.frozen? ⟨B1 + 1, 5, none⟩ = false := p1.frozen 5
    have d16 : w1.cell? ⟨B1 + 1, 6, none⟩ = some (Value.int .i64 0) := p1.cell 6 rfl
    have g16 : w1.frozen? ⟨B1 + 1, 6, none⟩ = false := p1.frozen 6
    have d17 : w1.cell? ⟨B1 + 1, 7, none⟩ = some (Value.int .i64 0) := p1.cell 7 rfl
    have g17 : w1.frozen? ⟨B1 + 1, 7, none⟩ = false := p1.frozen 7
    have d18 : w1.cell? ⟨B1 + 1, 8, none⟩ = some (Value.int .i64 0) := p1.cell 8 rfl
    have g18 : w1.frozen? ⟨B1 + 1, 8, none⟩ = false := p1.frozen 8
    refine hK.out _ _ ⟨c10, c11, c12, c13, c14, c15, c16, c17, c18, c19, c110⟩ (fun hS => ?_)
    clear hK K
    try simp only [Act.put, List.setIfInBounds_toArray, List.set_cons_zero, List.set_cons_succ]
    refine wpAnyH_take (i := 6) (oi := { dst := some 10, op := Op.move (Operand.tmp 9), type := 4, pos := "life.go:186", after := #[{ on := 5, ground := Ground.data }, { on := 1, ground := Ground.chain }], guard := none }) (v := ?v6_87) rfl (by kernel_rfl) (by kernel_rfl) (by kernel_rfl) (fun _ _ _ h => h) (Or.inl ⟨by rfl, ?hy6_87⟩) hS ?rest6_87
    case hy6_87 =>
      intro w hSw
      (try dsimp only at hSw)
      go_simp
      try with_reducible rfl
    try simp only [Act.put, List.setIfInBounds_toArray, List.set_cons_zero, List.set_cons_succ]
    refine wpAnyH_take (i := 7) (oi := { dst := some 11, op := Op.load 39 (Operand.tmp 1), type := 39, pos := "life.go:186", after := #[{ on := 6, ground := Ground.guard }], guard := some (6, true) }) (v := undef) rfl (by kernel_rfl) (by kernel_rfl) (by kernel_rfl) (fun _ _ _ h => h) (Or.inr ⟨by rfl, rfl⟩) hS ?_
    try simp only [Act.put, List.setIfInBounds_toArray, List.set_cons_zero, List.set_cons_succ]
    refine wpAnyH_take (i := 8) (oi := { dst := some 12, op := Op.call { callee := Callee.value (Operand.func 52), args := #[Operand.tmp 11], argTypes := #[39] }, type := 4, pos := "life.go:186", after := #[{ on := 7, ground := Ground.data }, { on := 6, ground := Ground.chain }, { on := 6, ground := Ground.guard }], guard := some (6, true) }) (v := undef) rfl (by kernel_rfl) (by kernel_rfl) (by kernel_rfl) (fun _ _ _ h => h) (Or.inr ⟨by rfl, rfl⟩) hS ?_
    try simp only [Act.put, List.setIfInBounds_toArray, List.set_cons_zero, List.set_cons_succ]
    refine wpAnyH_take (i := 9) (oi := { dst := some 13, op := Op.pick (Operand.tmp 10) (Operand.tmp 12) (Operand.const (Value.bool false)), type := 4, pos := "life.go:186", after := #[{ on := 6, ground := Ground.data }, { on := 8, ground := Ground.data }, { on := 10, ground := Ground.gcOnly Departure.lateStores }], guard := none }) (v := ?v9_88) rfl (by kernel_rfl) (by kernel_rfl) (by kernel_rfl) (fun _ _ _ h => h) (Or.inl ⟨by rfl, ?hy9_88⟩) hS ?rest9_88
    case hy9_88 =>
      intro w hSw
      (try dsimp only at hSw)
      go_simp
      try with_reducible rfl
    try simp only [Act.put, List.setIfInBounds_toArray, List.set_cons_zero, List.set_cons_succ]
    refine wpAnyH_ready (rs := [10]) (by kernel_rfl) (by simp) ?_
    refine AllReadyH.cons (o := { dst := none, op := Op.store 23 (Operand.tmp 2) (Operand.tmp 5), type := 0, pos := "life.go:186", after := #[{ on := 1, ground := Ground.data }, { on := 8, ground := Ground.chain }, { on := 0, ground := Ground.phase }, { on := 1, ground := Ground.phase }, { on := 2, ground := Ground.textOnly Departure.lateStores }, { on := 3, ground := Ground.textOnly Departure.lateStores }, { on := 4, ground := Ground.textOnly Departure.lateStores }, { on := 5, ground := Ground.textOnly Departure.lateStores }, { on := 6, ground := Ground.textOnly Departure.lateStores }, { on := 7, ground := Ground.textOnly Departure.lateStores }, { on := 8, ground := Ground.textOnly Departure.lateStoresUnsure }, { on := 9, ground := Ground.textOnly Departure.lateStores }], guard := none }) rfl (fun K hK => ?_) AllReadyH.nil
    go_simp
    refine hK.out _ _ (by (try dsimp only); go_keep) (fun hS => ?_)
    clear hK K
    try simp only [Act.put, List.setIfInBounds_toArray, List.set_cons_zero, List.set_cons_succ]
    refine wpAnyH_take (i := 11) (oi := { dst := some 3, op := Op.assign (Operand.tmp 13), type := 4, pos := "life.go:186", after := #[{ on := 9, ground := Ground.data }, { on := 10, ground := Ground.chain }, { on := 0, ground := Ground.phase }, { on := 1, ground := Ground.phase }, { on := 2, ground := Ground.phase }, { on := 3, ground := Ground.phase }, { on := 4, ground := Ground.phase }, { on := 5, ground := Ground.phase }, { on := 6, ground := Ground.phase }, { on := 7, ground := Ground.phase }, { on := 8, ground := Ground.phase }, { on := 9, ground := Ground.phase }, { on := 10, ground := Ground.phase }], guard := none }) (v := ?v11_89) rfl (by kernel_rfl) (by kernel_rfl) (by kernel_rfl) (fun _ _ _ h => h) (Or.inl ⟨by rfl, ?hy11_89⟩) hS ?rest11_89
    case hy11_89 =>
      intro w hSw
      (try dsimp only at hSw)
      go_simp
      try with_reducible rfl
    try simp only [Act.put, List.setIfInBounds_toArray, List.set_cons_zero, List.set_cons_succ]
    refine wpAnyH_done (by kernel_rfl) ?_ _
    have rz := row9 p1 (Value.int .i64 (s.limb mo).st) (Value.int .i64 (s.limb mo).ow) (Value.int .i64 (s.limb mo).sr) (Value.bool (s.limb mo).br) (Value.bool (s.limb mo).ma) (Value.int .i64 (s.limb mo).us) (Value.int .i64 (s.limb mo).ge) (Value.int .i64 (s.limb mo).ep) (Value.int .i64 (s.limb mo).ve)
    have hz := below9 (n := w.heap.size) (A := w) (b := B1 + 1) hB1 (by omega) (Value.int .i64 (s.limb mo).st) (Value.int .i64 (s.limb mo).ow) (Value.int .i64 (s.limb mo).sr) (Value.bool (s.limb mo).br) (Value.bool (s.limb mo).ma) (Value.int .i64 (s.limb mo).us) (Value.int .i64 (s.limb mo).ge) (Value.int .i64 (s.limb mo).ep) (Value.int .i64 (s.limb mo).ve)
    go_wp2
    refine bodyPost_ret (res_pair (p := 2) (u := 3) rfl _ _ _ _ rfl rz rfl) rfl ⟨ret_pair (by simp [chB, *]), hz⟩
end Go.Proofs.YtdiipmejkanhfaaDoor
