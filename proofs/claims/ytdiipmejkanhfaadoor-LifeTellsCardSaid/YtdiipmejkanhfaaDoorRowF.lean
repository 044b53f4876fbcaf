/- Rows of the document's own table; nothing that was there changes. -/
import Derived.Test.YtdiipmejkanhfaaDoorRowD
namespace Go.Proofs.YtdiipmejkanhfaaDoor
open Go.RowKit
attribute [local go_sem ↓] Go.wp_at_zero Go.wp_at_succ
set_option maxRecDepth 100000 in
set_option maxHeartbeats 4000000 in
theorem w14_any (s : Sl) (a mo : Int) (w : World) (hr : Rt s) :
    Calls Tryd.prog 17 #[Value.agg #[Value.int .i64 s.st, Value.int .i64 s.ow, Value.int .i64 s.sr, Value.bool s.br, Value.bool s.ma, Value.int .i64 s.us, Value.int .i64 s.ge, Value.int .i64 s.ep, Value.int .i64 s.ve], .int .i64 14, .int .i64 a, .int .i64 mo] w fun e w' => e = .returned (.tuple #[.agg #[Value.int .i64 (rS 14 s a mo).st, Value.int .i64 (rS 14 s a mo).ow, Value.int .i64 (rS 14 s a mo).sr, Value.bool (rS 14 s a mo).br, Value.bool (rS 14 s a mo).ma, Value.int .i64 (rS 14 s a mo).us, Value.int .i64 (rS 14 s a mo).ge, Value.int .i64 (rS 14 s a mo).ep, Value.int .i64 (rS 14 s a mo).ve], .bool (rB 14 s a mo)]) ∧ Below w.heap.size w w' := by
  obtain ⟨st, ow, sr, br, ma, us, ge, ep, ve⟩ := s
  cases br with
  | false =>
    have hsr : 0 ≤ sr ∧ sr ≤ 255 := hr.sr
    obtain ⟨n, en⟩ : ∃ n : Nat, lowI sr = n := ⟨(lowI sr).toNat, by have := low_bd hsr; omega⟩
    have n8 : n ≤ 8 := by have := low_bd hsr; omega
    have CL : ∀ w : World, Calls Tryd.prog 41 #[.int .i64 sr] w fun e w' => e = .returned (.int .i64 (n : Int)) ∧ w = w' := fun w => by rw [← en]; exact low_any sr w hsr
    obtain ⟨p, ep2⟩ : ∃ p : Int, p = 2 ^ n := ⟨_, rfl⟩
    have CP : ∀ w : World, Calls Tryd.prog 42 #[.int .i64 (n : Int)] w fun e w' => e = .returned (.int .i64 p) ∧ w = w' := fun w => by rw [ep2]; exact power_any n w n8
    have p1 : 0 < p := by rw [ep2]; exact Int.pow_pos (by omega)
    have p2 : p ≤ 256 := by rw [ep2]; exact pow_256 n8
    have E0 := r14_eq (st := st) (ow := ow) (br := false) (ma := ma) (us := us) (ge := ge) (ep := ep) (ve := ve) (a := a) (mo := mo) en ep2
    rw [E0.1]
    have E := Lib.hid E0.2
    clear E0 en ep2 hr
    have s1 := hsr.1
    have s2 := hsr.2
    clear hsr
    have hw : IntKind.i64.wrap (sr + p) = sr + p := by rw [i64_wrap]; unfold wrap64; omega
    go_enter Tryd.func17, Tryd.ntmps17
    go_wp2_with fail
    refine (CL _).mono ?_
    rintro e w1 ⟨rfl, rfl⟩
    go_wp2_with fail
    have hB : Below w.heap.size w (((w.alloc (.cells #[Value.int .i64 st, Value.int .i64 ow, Value.int .i64 sr, Value.bool false, Value.bool ma, Value.int .i64 us, Value.int .i64 ge, Value.int .i64 ep, Value.int .i64 ve] 23)).alloc (.cells #[Value.int .i64 0, Value.int .i64 0, Value.int .i64 0, Value.bool false, Value.bool false, Value.int .i64 0, Value.int .i64 0, Value.int .i64 0, Value.int .i64 0] 23)).alloc (.cells #[Value.int .i64 st, Value.int .i64 ow, Value.int .i64 sr, Value.bool false, Value.bool ma, Value.int .i64 us, Value.int .i64 ge, Value.int .i64 ep, Value.int .i64 ve] 23)) := (((Below.refl _ _).alloc (Nat.le_refl _) _).alloc (by simp) _).alloc (by simp; omega) _
    have r0 := ((RowAt.new w 23 #[Value.int .i64 st, Value.int .i64 ow, Value.int .i64 sr, Value.bool false, Value.bool ma, Value.int .i64 us, Value.int .i64 ge, Value.int .i64 ep, Value.int .i64 ve]).alloc (.cells #[Value.int .i64 0, Value.int .i64 0, Value.int .i64 0, Value.bool false, Value.bool false, Value.int .i64 0, Value.int .i64 0, Value.int .i64 0, Value.int .i64 0] 23)).alloc (.cells #[Value.int .i64 st, Value.int .i64 ow, Value.int .i64 sr, Value.bool false, Value.bool ma, Value.int .i64 us, Value.int .i64 ge, Value.int .i64 ep, Value.int .i64 ve] 23)
    have r1 := (new2 w (.cells #[Value.int .i64 st, Value.int .i64 ow, Value.int .i64 sr, Value.bool false, Value.bool ma, Value.int .i64 us, Value.int .i64 ge, Value.int .i64 ep, Value.int .i64 ve] 23) 23 #[Value.int .i64 0, Value.int .i64 0, Value.int .i64 0, Value.bool false, Value.bool false, Value.int .i64 0, Value.int .i64 0, Value.int .i64 0, Value.int .i64 0]).alloc (.cells #[Value.int .i64 st, Value.int .i64 ow, Value.int .i64 sr, Value.bool false, Value.bool ma, Value.int .i64 us, Value.int .i64 ge, Value.int .i64 ep, Value.int .i64 ve] 23)
    have r2 := new3 w (.cells #[Value.int .i64 st, Value.int .i64 ow, Value.int .i64 sr, Value.bool false, Value.bool ma, Value.int .i64 us, Value.int .i64 ge, Value.int .i64 ep, Value.int .i64 ve] 23) (.cells #[Value.int .i64 0, Value.int .i64 0, Value.int .i64 0, Value.bool false, Value.bool false, Value.int .i64 0, Value.int .i64 0, Value.int .i64 0, Value.int .i64 0] 23) 23 #[Value.int .i64 st, Value.int .i64 ow, Value.int .i64 sr, Value.bool false, Value.bool ma, Value.int .i64 us, Value.int .i64 ge, Value.int .i64 ep, Value.int .i64 ve]
    obtain ⟨W, hW⟩ : ∃ W, W = ((w.alloc (.cells #[Value.int .i64 st, Value.int .i64 ow, Value.int .i64 sr, Value.bool false, Value.bool ma, Value.int .i64 us, Value.int .i64 ge, Value.int .i64 ep, Value.int .i64 ve] 23)).alloc (.cells #[Value.int .i64 0, Value.int .i64 0, Value.int .i64 0, Value.bool false, Value.bool false, Value.int .i64 0, Value.int .i64 0, Value.int .i64 0, Value.int .i64 0] 23)).alloc (.cells #[Value.int .i64 st, Value.int .i64 ow, Value.int .i64 sr, Value.bool false, Value.bool ma, Value.int .i64 us, Value.int .i64 ge, Value.int .i64 ep, Value.int .i64 ve] 23) := ⟨_, rfl⟩
    rw [← hW] at hB r0 r1 r2 ⊢
    clear hW
    obtain ⟨B1, e1⟩ : ∃ B1, B1 = w.heap.size := ⟨_, rfl⟩
    have hle : w.heap.size ≤ B1 := by omega
    rw [← e1] at r0 r1 r2 ⊢
    clear e1
    have hne : B1 ≠ B1 + 1 := by omega
    have hne2 : B1 + 2 ≠ B1 + 1 := by omega
    have q0 := r0.drew
    have p0 := r1.drew
    have u0 := r2.drew
    have hB0 := hB.drew
    clear hB r0 r1 r2
    have c00 : W.drew.cell? ⟨B1, 0, none⟩ = some (Value.int .i64 st) := q0.cell 0 rfl
    have c01 : W.drew.cell? ⟨B1, 1, none⟩ = some (Value.int .i64 ow) := q0.cell 1 rfl
    have c02 : W.drew.cell? ⟨B1, 2, none⟩ = some (Value.int .i64 sr) := q0.cell 2 rfl
    have c03 : W.drew.cell? ⟨B1, 3, none⟩ = some (Value.bool false) := q0.cell 3 rfl
    have c04 : W.drew.cell? ⟨B1, 4, none⟩ = some (Value.bool ma) := q0.cell 4 rfl
    have c05 : W.drew.cell? ⟨B1, 5, none⟩ = some (Value.int .i64 us) := q0.cell 5 rfl
    have c06 : W.drew.cell? ⟨B1, 6, none⟩ = some (Value.int .i64 ge) := q0.cell 6 rfl
    have c07 : W.drew.cell? ⟨B1, 7, none⟩ = some (Value.int .i64 ep) := q0.cell 7 rfl
    have c08 : W.drew.cell? ⟨B1, 8, none⟩ = some (Value.int .i64 ve) := q0.cell 8 rfl
    have x0 : W.drew.cell? ⟨B1 + 2, 2, none⟩ = some (Value.int .i64 sr) := u0.cell 2 rfl
    have f0 : W.drew.frozen? ⟨B1 + 2, 2, none⟩ = false := u0.frozen 2
    refine wp_region_held_drew (S := (fun w' => w'.cell? ⟨B1, 0, none⟩ = some (Value.int .i64 st) ∧ w'.cell? ⟨B1, 1, none⟩ = some (Value.int .i64 ow) ∧ w'.cell? ⟨B1, 2, none⟩ = some (Value.int .i64 sr) ∧ w'.cell? ⟨B1, 3, none⟩ = some (Value.bool false) ∧ w'.cell? ⟨B1, 4, none⟩ = some (Value.bool ma) ∧ w'.cell? ⟨B1, 5, none⟩ = some (Value.int .i64 us) ∧ w'.cell? ⟨B1, 6, none⟩ = some (Value.int .i64 ge) ∧ w'.cell? ⟨B1, 7, none⟩ = some (Value.int .i64 ep) ∧ w'.cell? ⟨B1, 8, none⟩ = some (Value.int .i64 ve))) (by kernel_rfl) ⟨c00, c01, c02, c03, c04, c05, c06, c07, c08⟩ (fun hS => ?_)
    generalize W.drew = WD at *
    refine wpAnyH_take (i := 0) (oi := { dst := some 190, op := Op.fieldAddr 23 (Operand.tmp 4) 2, type := 0, pos := "ref.go:91", after := #[], guard := none }) (v := ?v0_223f) rfl (by kernel_rfl) (by kernel_rfl) (by kernel_rfl) (fun _ _ _ h => h) (Or.inl ⟨by rfl, ?hy0_223f⟩) hS ?rest0_223f
    case hy0_223f =>
      intro w hSw
      (try dsimp only at hSw)
      go_simp
      try with_reducible rfl
    try simp only [Act.put, List.setIfInBounds_toArray, List.set_cons_zero, List.set_cons_succ]
    refine wpAnyH_take (i := 1) (oi := { dst := some 191, op := Op.load 3 (Operand.tmp 190), type := 3, pos := "ref.go:91", after := #[{ on := 0, ground := Ground.data }], guard := none }) (v := ?v1_224f) rfl (by kernel_rfl) (by kernel_rfl) (by kernel_rfl) (fun _ _ _ h => h) (Or.inl ⟨by rfl, ?hy1_224f⟩) hS ?rest1_224f
    case hy1_224f =>
      intro w hSw
      (try dsimp only at hSw)
      go_simp
      try with_reducible rfl
    try simp only [Act.put, List.setIfInBounds_toArray, List.set_cons_zero, List.set_cons_succ]
    refine wpAnyH_take (i := 2) (oi := { dst := some 192, op := Op.move (Operand.tmp 12), type := 3, pos := "ref.go:91", after := #[], guard := none }) (v := ?v2_225f) rfl (by kernel_rfl) (by kernel_rfl) (by kernel_rfl) (fun _ _ _ h => h) (Or.inl ⟨by rfl, ?hy2_225f⟩) hS ?rest2_225f
    case hy2_225f =>
      intro w hSw
      (try dsimp only at hSw)
      go_simp
      try with_reducible rfl
    try simp only [Act.put, List.setIfInBounds_toArray, List.set_cons_zero, List.set_cons_succ]
    refine wpAnyH_ready (rs := [3]) (by kernel_rfl) (by simp) ?_
    refine AllReadyH.cons (o := { dst := some 193, op := Op.call { callee := Callee.value (Operand.func 42), args := #[Operand.tmp 192], argTypes := #[3] }, type := 3, pos := "ref.go:91", after := #[{ on := 2, ground := Ground.data }], guard := none }) rfl (fun K hK => ?_) AllReadyH.nil
    go_simp
    refine (CP _).mono ?_
    rintro e w9 ⟨rfl, rfl⟩
    refine hK.out _ _ ⟨c00, c01, c02, c03, c04, c05, c06, c07, c08⟩ (fun hS => ?_)
    clear hK K
    try simp only [Act.put, List.setIfInBounds_toArray, List.set_cons_zero, List.set_cons_succ]
    refine wpAnyH_take (i := 4) (oi := { dst := some 194, op := Op.binOp BinOp.add 3 (Operand.tmp 191) (Operand.tmp 193) 3, type := 3, pos := "ref.go:91", after := #[{ on := 1, ground := Ground.data }, { on := 3, ground := Ground.data }], guard := none }) (v := ?v4_226f) rfl (by kernel_rfl) (by kernel_rfl) (by kernel_rfl) (fun _ _ _ h => h) (Or.inl ⟨by rfl, ?hy4_226f⟩) hS ?rest4_226f
    case hy4_226f =>
      intro w hSw
      (try dsimp only at hSw)
      go_simp
      try with_reducible rfl
    try simp only [Act.put, List.setIfInBounds_toArray, List.set_cons_zero, List.set_cons_succ]
    refine wpAnyH_take (i := 5) (oi := { dst := some 195, op := Op.fieldAddr 23 (Operand.tmp 10) 2, type := 0, pos := "ref.go:91", after := #[{ on := 0, ground := Ground.phase }, { on := 1, ground := Ground.phase }, { on := 2, ground := Ground.phase }, { on := 3, ground := Ground.phase }, { on := 4, ground := Ground.phase }], guard := none }) (v := ?v5_227f) rfl (by kernel_rfl) (by kernel_rfl) (by kernel_rfl) (fun _ _ _ h => h) (Or.inl ⟨by rfl, ?hy5_227f⟩) hS ?rest5_227f
    case hy5_227f =>
      intro w hSw
      (try dsimp only at hSw)
      go_simp
      try with_reducible rfl
    try simp only [Act.put, List.setIfInBounds_toArray, List.set_cons_zero, List.set_cons_succ]
    refine wpAnyH_ready (rs := [6]) (by kernel_rfl) (by simp) ?_
    refine AllReadyH.cons (o := { dst := none, op := Op.store 3 (Operand.tmp 195) (Operand.tmp 194), type := 0, pos := "ref.go:91", after := #[{ on := 5, ground := Ground.data }, { on := 4, ground := Ground.data }, { on := 3, ground := Ground.chain }, { on := 0, ground := Ground.phase }, { on := 1, ground := Ground.phase }, { on := 2, ground := Ground.phase }, { on := 3, ground := Ground.phase }, { on := 4, ground := Ground.phase }], guard := none }) rfl (fun K hK => ?_) AllReadyH.nil
    go_simp
    have tq := q0.putOther ⟨B1 + 2, 2, none⟩ (show B1 ≠ B1 + 2 by omega) (.int .i64 (sr + p))
    have k0 : (WD.setCell ⟨B1 + 2, 2, none⟩ (.int .i64 (sr + p))).cell? ⟨B1, 0, none⟩ = some (Value.int .i64 st) := tq.cell 0 rfl
    have k1 : (WD.setCell ⟨B1 + 2, 2, none⟩ (.int .i64 (sr + p))).cell? ⟨B1, 1, none⟩ = some (Value.int .i64 ow) := tq.cell 1 rfl
    have k2 : (WD.setCell ⟨B1 + 2, 2, none⟩ (.int .i64 (sr + p))).cell? ⟨B1, 2, none⟩ = some (Value.int .i64 sr) := tq.cell 2 rfl
    have k3 : (WD.setCell ⟨B1 + 2, 2, none⟩ (.int .i64 (sr + p))).cell? ⟨B1, 3, none⟩ = some (Value.bool false) := tq.cell 3 rfl
    have k4 : (WD.setCell ⟨B1 + 2, 2, none⟩ (.int .i64 (sr + p))).cell? ⟨B1, 4, none⟩ = some (Value.bool ma) := tq.cell 4 rfl
    have k5 : (WD.setCell ⟨B1 + 2, 2, none⟩ (.int .i64 (sr + p))).cell? ⟨B1, 5, none⟩ = some (Value.int .i64 us) := tq.cell 5 rfl
    have k6 : (WD.setCell ⟨B1 + 2, 2, none⟩ (.int .i64 (sr + p))).cell? ⟨B1, 6, none⟩ = some (Value.int .i64 ge) := tq.cell 6 rfl
    have k7 : (WD.setCell ⟨B1 + 2, 2, none⟩ (.int .i64 (sr + p))).cell? ⟨B1, 7, none⟩ = some (Value.int .i64 ep) := tq.cell 7 rfl
    have k8 : (WD.setCell ⟨B1 + 2, 2, none⟩ (.int .i64 (sr + p))).cell? ⟨B1, 8, none⟩ = some (Value.int .i64 ve) := tq.cell 8 rfl
    refine hK.out _ _ ⟨k0, k1, k2, k3, k4, k5, k6, k7, k8⟩ (fun hS => ?_)
    clear hK K
    try simp only [Act.put, List.setIfInBounds_toArray, List.set_cons_zero, List.set_cons_succ]
    refine wpAnyH_done (by kernel_rfl) ?_ _
    have n1 : B1 ≠ B1 + 2 := by omega
    have n2 : B1 + 1 ≠ B1 + 2 := by omega
    have t0 := q0.putOther ⟨B1 + 2, 2, none⟩ n1 (.int .i64 (sr + p))
    have t1 := p0.putOther ⟨B1 + 2, 2, none⟩ n2 (.int .i64 (sr + p))
    have t2 : RowAt _ (B1 + 2) 23 #[Value.int .i64 st, Value.int .i64 ow, Value.int .i64 (sr + p), Value.bool false, Value.bool ma, Value.int .i64 us, Value.int .i64 ge, Value.int .i64 ep, Value.int .i64 ve] := u0.put 2 (.int .i64 (sr + p))
    have hB2 := hB0.setCell (p := ⟨B1 + 2, 2, none⟩) (show w.heap.size ≤ B1 + 2 by omega) (.int .i64 (sr + p))
    clear c00 c01 c02 c03 c04 c05 c06 c07 c08 x0 f0 hS tq k0 k1 k2 k3 k4 k5 k6 k7 k8
    have c0 : (WD.setCell ⟨B1 + 2, 2, none⟩ (.int .i64 (sr + p))).cell? ⟨B1, 0, none⟩ = some (Value.int .i64 st) := t0.cell 0 rfl
    have c1 : (WD.setCell ⟨B1 + 2, 2, none⟩ (.int .i64 (sr + p))).cell? ⟨B1, 1, none⟩ = some (Value.int .i64 ow) := t0.cell 1 rfl
    have c2 : (WD.setCell ⟨B1 + 2, 2, none⟩ (.int .i64 (sr + p))).cell? ⟨B1, 2, none⟩ = some (Value.int .i64 sr) := t0.cell 2 rfl
    have c3 : (WD.setCell ⟨B1 + 2, 2, none⟩ (.int .i64 (sr + p))).cell? ⟨B1, 3, none⟩ = some (Value.bool false) := t0.cell 3 rfl
    have c4 : (WD.setCell ⟨B1 + 2, 2, none⟩ (.int .i64 (sr + p))).cell? ⟨B1, 4, none⟩ = some (Value.bool ma) := t0.cell 4 rfl
    have c5 : (WD.setCell ⟨B1 + 2, 2, none⟩ (.int .i64 (sr + p))).cell? ⟨B1, 5, none⟩ = some (Value.int .i64 us) := t0.cell 5 rfl
    have c6 : (WD.setCell ⟨B1 + 2, 2, none⟩ (.int .i64 (sr + p))).cell? ⟨B1, 6, none⟩ = some (Value.int .i64 ge) := t0.cell 6 rfl
    have c7 : (WD.setCell ⟨B1 + 2, 2, none⟩ (.int .i64 (sr + p))).cell? ⟨B1, 7, none⟩ = some (Value.int .i64 ep) := t0.cell 7 rfl
    have c8 : (WD.setCell ⟨B1 + 2, 2, none⟩ (.int .i64 (sr + p))).cell? ⟨B1, 8, none⟩ = some (Value.int .i64 ve) := t0.cell 8 rfl
    have y0 : (WD.setCell ⟨B1 + 2, 2, none⟩ (.int .i64 (sr + p))).cell? ⟨B1 + 2, 0, none⟩ = some (Value.int .i64 st) := t2.cell 0 rfl
    have y1 : (WD.setCell ⟨B1 + 2, 2, none⟩ (.int .i64 (sr + p))).cell? ⟨B1 + 2, 1, none⟩ = some (Value.int .i64 ow) := t2.cell 1 rfl
    have y2 : (WD.setCell ⟨B1 + 2, 2, none⟩ (.int .i64 (sr + p))).cell? ⟨B1 + 2, 2, none⟩ = some (Value.int .i64 (sr + p)) := t2.cell 2 rfl
    have y3 : (WD.setCell ⟨B1 + 2, 2, none⟩ (.int .i64 (sr + p))).cell? ⟨B1 + 2, 3, none⟩ = some (Value.bool false) := t2.cell 3 rfl
    have y4 : (WD.setCell ⟨B1 + 2, 2, none⟩ (.int .i64 (sr + p))).cell? ⟨B1 + 2, 4, none⟩ = some (Value.bool ma) := t2.cell 4 rfl
    have y5 : (WD.setCell ⟨B1 + 2, 2, none⟩ (.int .i64 (sr + p))).cell? ⟨B1 + 2, 5, none⟩ = some (Value.int .i64 us) := t2.cell 5 rfl
    have y6 : (WD.setCell ⟨B1 + 2, 2, none⟩ (.int .i64 (sr + p))).cell? ⟨B1 + 2, 6, none⟩ = some (Value.int .i64 ge) := t2.cell 6 rfl
    have y7 : (WD.setCell ⟨B1 + 2, 2, none⟩ (.int .i64 (sr + p))).cell? ⟨B1 + 2, 7, none⟩ = some (Value.int .i64 ep) := t2.cell 7 rfl
    have y8 : (WD.setCell ⟨B1 + 2, 2, none⟩ (.int .i64 (sr + p))).cell? ⟨B1 + 2, 8, none⟩ = some (Value.int .i64 ve) := t2.cell 8 rfl
    go_wp2_with (refine wpList_store_row rfl 23 _ _ rfl _ _ rfl rfl 23 _ t1 (by kernel_rfl) rfl (by simp [Value.oneCell']) ?_)
    all_goals (try subst_vars)
    all_goals refine bodyPost_ret (res_pair (p := 8) (u := 9) rfl _ _ _ _ rfl (t1.set _) rfl) rfl ⟨?_, below_setRow hB2 (by omega) _⟩
    all_goals (clear q0 p0 u0 t0 t1 t2 hB0 hB2 c0 c1 c2 c3 c4 c5 c6 c7 c8 y0 y1 y2 y3 y4 y5 y6 y7 y8)
    all_goals (refine ret_pair ?_; rw [E.out]; first | (simp [*]; done) | (simp [*]; omega))
  | true =>
    have hsr : 0 ≤ sr ∧ sr ≤ 255 := hr.sr
    obtain ⟨n, en⟩ : ∃ n : Nat, lowI sr = n := ⟨(lowI sr).toNat, by have := low_bd hsr; omega⟩
    have n8 : n ≤ 8 := by have := low_bd hsr; omega
    have CL : ∀ w : World, Calls Tryd.prog 41 #[.int .i64 sr] w fun e w' => e = .returned (.int .i64 (n : Int)) ∧ w = w' := fun w => by rw [← en]; exact low_any sr w hsr
    obtain ⟨p, ep2⟩ : ∃ p : Int, p = 2 ^ n := ⟨_, rfl⟩
    have CP : ∀ w : World, Calls Tryd.prog 42 #[.int .i64 (n : Int)] w fun e w' => e = .returned (.int .i64 p) ∧ w = w' := fun w => by rw [ep2]; exact power_any n w n8
    have p1 : 0 < p := by rw [ep2]; exact Int.pow_pos (by omega)
    have p2 : p ≤ 256 := by rw [ep2]; exact pow_256 n8
    have E0 := r14_eq (st := st) (ow := ow) (br := true) (ma := ma) (us := us) (ge := ge) (ep := ep) (ve := ve) (a := a) (mo := mo) en ep2
    rw [E0.1]
    have E := Lib.hid E0.2
    clear E0 en ep2 hr
    have s1 := hsr.1
    have s2 := hsr.2
    clear hsr
    have hw : IntKind.i64.wrap (sr + p) = sr + p := by rw [i64_wrap]; unfold wrap64; omega
    go_enter Tryd.func17, Tryd.ntmps17
    go_wp2_with fail
    refine (CL _).mono ?_
    rintro e w1 ⟨rfl, rfl⟩
    go_wp2_with fail
    have hB : Below w.heap.size w (((w.alloc (.cells #[Value.int .i64 st, Value.int .i64 ow, Value.int .i64 sr, Value.bool true, Value.bool ma, Value.int .i64 us, Value.int .i64 ge, Value.int .i64 ep, Value.int .i64 ve] 23)).alloc (.cells #[Value.int .i64 0, Value.int .i64 0, Value.int .i64 0, Value.bool false, Value.bool false, Value.int .i64 0, Value.int .i64 0, Value.int .i64 0, Value.int .i64 0] 23)).alloc (.cells #[Value.int .i64 st, Value.int .i64 ow, Value.int .i64 sr, Value.bool true, Value.bool ma, Value.int .i64 us, Value.int .i64 ge, Value.int .i64 ep, Value.int .i64 ve] 23)) := (((Below.refl _ _).alloc (Nat.le_refl _) _).alloc (by simp) _).alloc (by simp; omega) _
    have r0 := ((RowAt.new w 23 #[Value.int .i64 st, Value.int .i64 ow, Value.int .i64 sr, Value.bool true, Value.bool ma, Value.int .i64 us, Value.int .i64 ge, Value.int .i64 ep, Value.int .i64 ve]).alloc (.cells #[Value.int .i64 0, Value.int .i64 0, Value.int .i64 0, Value.bool false, Value.bool false, Value.int .i64 0, Value.int .i64 0, Value.int .i64 0, Value.int .i64 0] 23)).alloc (.cells #[Value.int .i64 st, Value.int .i64 ow, Value.int .i64 sr, Value.bool true, Value.bool ma, Value.int .i64 us, Value.int .i64 ge, Value.int .i64 ep, Value.int .i64 ve] 23)
    have r1 := (new2 w (.cells #[Value.int .i64 st, Value.int .i64 ow, Value.int .i64 sr, Value.bool true, Value.bool ma, Value.int .i64 us, Value.int .i64 ge, Value.int .i64 ep, Value.int .i64 ve] 23) 23 #[Value.int .i64 0, Value.int .i64 0, Value.int .i64 0, Value.bool false, Value.bool false, Value.int .i64 0, Value.int .i64 0, Value.int .i64 0, Value.int .i64 0]).alloc (.cells #[Value.int .i64 st, Value.int .i64 ow, Value.int .i64 sr, Value.bool true, Value.bool ma, Value.int .i64 us, Value.int .i64 ge, Value.int .i64 ep, Value.int .i64 ve] 23)
    have r2 := new3 w (.cells #[Value.int .i64 st, Value.int .i64 ow, Value.int .i64 sr, Value.bool true, Value.bool ma, Value.int .i64 us, Value.int .i64 ge, Value.int .i64 ep, Value.int .i64 ve] 23) (.cells #[Value.int .i64 0, Value.int .i64 0, Value.int .i64 0, Value.bool false, Value.bool false, Value.int .i64 0, Value.int .i64 0, Value.int .i64 0, Value.int .i64 0] 23) 23 #[Value.int .i64 st, Value.int .i64 ow, Value.int .i64 sr, Value.bool true, Value.bool ma, Value.int .i64 us, Value.int .i64 ge, Value.int .i64 ep, Value.int .i64 ve]
    obtain ⟨W, hW⟩ : ∃ W, W = ((w.alloc (.cells #[Value.int .i64 st, Value.int .i64 ow, Value.int .i64 sr, Value.bool true, Value.bool ma, Value.int .i64 us, Value.int .i64 ge, Value.int .i64 ep, Value.int .i64 ve] 23)).alloc (.cells #[Value.int .i64 0, Value.int .i64 0, Value.int .i64 0, Value.bool false, Value.bool false, Value.int .i64 0, Value.int .i64 0, Value.int .i64 0, Value.int .i64 0] 23)).alloc (.cells #[Value.int .i64 st, Value.int .i64 ow, Value.int .i64 sr, Value.bool true, Value.bool ma, Value.int .i64 us, Value.int .i64 ge, Value.int .i64 ep, Value.int .i64 ve] 23) := ⟨_, rfl⟩
    rw [← hW] at hB r0 r1 r2 ⊢
    clear hW
    obtain ⟨B1, e1⟩ : ∃ B1, B1 = w.heap.size := ⟨_, rfl⟩
    have hle : w.heap.size ≤ B1 := by omega
    rw [← e1] at r0 r1 r2 ⊢
    clear e1
    have hne : B1 ≠ B1 + 1 := by omega
    have hne2 : B1 + 2 ≠ B1 + 1 := by omega
    have q0 := r0.drew
    have p0 := r1.drew
    have u0 := r2.drew
    have hB0 := hB.drew
    clear hB r0 r1 r2
    have c00 : W.drew.cell? ⟨B1, 0, none⟩ = some (Value.int .i64 st) := q0.cell 0 rfl
    have c01 : W.drew.cell? ⟨B1, 1, none⟩ = some (Value.int .i64 ow) := q0.cell 1 rfl
    have c02 : W.drew.cell? ⟨B1, 2, none⟩ = some (Value.int .i64 sr) := q0.cell 2 rfl
    have c03 : W.drew.cell? ⟨B1, 3, none⟩ = some (Value.bool true) := q0.cell 3 rfl
    have c04 : W.drew.cell? ⟨B1, 4, none⟩ = some (Value.bool ma) := q0.cell 4 rfl
    have c05 : W.drew.cell? ⟨B1, 5, none⟩ = some (Value.int .i64 us) := q0.cell 5 rfl
    have c06 : W.drew.cell? ⟨B1, 6, none⟩ = some (Value.int .i64 ge) := q0.cell 6 rfl
    have c07 : W.drew.cell? ⟨B1, 7, none⟩ = some (Value.int .i64 ep) := q0.cell 7 rfl
    have c08 : W.drew.cell? ⟨B1, 8, none⟩ = some (Value.int .i64 ve) := q0.cell 8 rfl
    have x0 : W.drew.cell? ⟨B1 + 2, 2, none⟩ = some (Value.int .i64 sr) := u0.cell 2 rfl
    have f0 : W.drew.frozen? ⟨B1 + 2, 2, none⟩ = false := u0.frozen 2
    refine wp_region_held_drew (S := (fun w' => w'.cell? ⟨B1, 0, none⟩ = some (Value.int .i64 st) ∧ w'.cell? ⟨B1, 1, none⟩ = some (Value.int .i64 ow) ∧ w'.cell? ⟨B1, 2, none⟩ = some (Value.int .i64 sr) ∧ w'.cell? ⟨B1, 3, none⟩ = some (Value.bool true) ∧ w'.cell? ⟨B1, 4, none⟩ = some (Value.bool ma) ∧ w'.cell? ⟨B1, 5, none⟩ = some (Value.int .i64 us) ∧ w'.cell? ⟨B1, 6, none⟩ = some (Value.int .i64 ge) ∧ w'.cell? ⟨B1, 7, none⟩ = some (Value.int .i64 ep) ∧ w'.cell? ⟨B1, 8, none⟩ = some (Value.int .i64 ve))) (by kernel_rfl) ⟨c00, c01, c02, c03, c04, c05, c06, c07, c08⟩ (fun hS => ?_)
    generalize W.drew = WD at *
    refine wpAnyH_take (i := 0) (oi := { dst := some 190, op := Op.fieldAddr 23 (Operand.tmp 4) 2, type := 0, pos := "ref.go:91", after := #[], guard := none }) (v := ?v0_223t) rfl (by kernel_rfl) (by kernel_rfl) (by kernel_rfl) (fun _ _ _ h => h) (Or.inl ⟨by rfl, ?hy0_223t⟩) hS ?rest0_223t
    case hy0_223t =>
      intro w hSw
      (try dsimp only at hSw)
      go_simp
      try with_reducible rfl
    try simp only [Act.put, List.setIfInBounds_toArray, List.set_cons_zero, List.set_cons_succ]
    refine wpAnyH_take (i := 1) (oi := { dst := some 191, op := Op.load 3 (Operand.tmp 190), type := 3, pos := "ref.go:91", after := #[{ on := 0, ground := Ground.data }], guard := none }) (v := ?v1_224t) rfl (by kernel_rfl) (by kernel_rfl) (by kernel_rfl) (fun _ _ _ h => h) (Or.inl ⟨by rfl, ?hy1_224t⟩) hS ?rest1_224t
    case hy1_224t =>
      intro w hSw
      (try dsimp only at hSw)
      go_simp
      try with_reducible rfl
    try simp only [Act.put, List.setIfInBounds_toArray, List.set_cons_zero, List.set_cons_succ]
    refine wpAnyH_take (i := 2) (oi := { dst := some 192, op := Op.move (Operand.tmp 12), type := 3, pos := "ref.go:91", after := #[], guard := none }) (v := ?v2_225t) rfl (by kernel_rfl) (by kernel_rfl) (by kernel_rfl) (fun _ _ _ h => h) (Or.inl ⟨by rfl, ?hy2_225t⟩) hS ?rest2_225t
    case hy2_225t =>
      intro w hSw
      (try dsimp only at hSw)
      go_simp
      try with_reducible rfl
    try simp only [Act.put, List.setIfInBounds_toArray, List.set_cons_zero, List.set_cons_succ]
    refine wpAnyH_ready (rs := [3]) (by kernel_rfl) (by simp) ?_
    refine AllReadyH.cons (o := { dst := some 193, op := Op.call { callee := Callee.value (Operand.func 42), args := #[Operand.tmp 192], argTypes := #[3] }, type := 3, pos := "ref.go:91", after := #[{ on := 2, ground := Ground.data }], guard := none }) rfl (fun K hK => ?_) AllReadyH.nil
    go_simp
    refine (CP _).mono ?_
    rintro e w9 ⟨rfl, rfl⟩
    refine hK.out _ _ ⟨c00, c01, c02, c03, c04, c05, c06, c07, c08⟩ (fun hS => ?_)
    clear hK K
    try simp only [Act.put, List.setIfInBounds_toArray, List.set_cons_zero, List.set_cons_succ]
    refine wpAnyH_take (i := 4) (oi := { dst := some 194, op := Op.binOp BinOp.add 3 (Operand.tmp 191) (Operand.tmp 193) 3, type := 3, pos := "ref.go:91", after := #[{ on := 1, ground := Ground.data }, { on := 3, ground := Ground.data }], guard := none }) (v := ?v4_226t) rfl (by kernel_rfl) (by kernel_rfl) (by kernel_rfl) (fun _ _ _ h => h) (Or.inl ⟨by rfl, ?hy4_226t⟩) hS ?rest4_226t
    case hy4_226t =>
      intro w hSw
      (try dsimp only at hSw)
      go_simp
      try with_reducible rfl
    try simp only [Act.put, List.setIfInBounds_toArray, List.set_cons_zero, List.set_cons_succ]
    refine wpAnyH_take (i := 5) (oi := { dst := some 195, op := Op.fieldAddr 23 (Operand.tmp 10) 2, type := 0, pos := "ref.go:91", after := #[{ on := 0, ground := Ground.phase }, { on := 1, ground := Ground.phase }, { on := 2, ground := Ground.phase }, { on := 3, ground := Ground.phase }, { on := 4, ground := Ground.phase }], guard := none }) (v := ?v5_227t) rfl (by kernel_rfl) (by kernel_rfl) (by kernel_rfl) (fun _ _ _ h => h) (Or.inl ⟨by rfl, ?hy5_227t⟩) hS ?rest5_227t
    case hy5_227t =>
      intro w hSw
      (try dsimp only at hSw)
      go_simp
      try with_reducible rfl
    try simp only [Act.put, List.setIfInBounds_toArray, List.set_cons_zero, List.set_cons_succ]
    refine wpAnyH_ready (rs := [6]) (by kernel_rfl) (by simp) ?_
    refine AllReadyH.cons (o := { dst := none, op := Op.store 3 (Operand.tmp 195) (Operand.tmp 194), type := 0, pos := "ref.go:91", after := #[{ on := 5, ground := Ground.data }, { on := 4, ground := Ground.data }, { on := 3, ground := Ground.chain }, { on := 0, ground := Ground.phase }, { on := 1, ground := Ground.phase }, { on := 2, ground := Ground.phase }, { on := 3, ground := Ground.phase }, { on := 4, ground := Ground.phase }], guard := none }) rfl (fun K hK => ?_) AllReadyH.nil
    go_simp
    have tq := q0.putOther ⟨B1 + 2, 2, none⟩ (show B1 ≠ B1 + 2 by omega) (.int .i64 (sr + p))
    have k0 : (WD.setCell ⟨B1 + 2, 2, none⟩ (.int .i64 (sr + p))).cell? ⟨B1, 0, none⟩ = some (Value.int .i64 st) := tq.cell 0 rfl
    have k1 : (WD.setCell ⟨B1 + 2, 2, none⟩ (.int .i64 (sr + p))).cell? ⟨B1, 1, none⟩ = some (Value.int .i64 ow) := tq.cell 1 rfl
    have k2 : (WD.setCell ⟨B1 + 2, 2, none⟩ (.int .i64 (sr + p))).cell? ⟨B1, 2, none⟩ = some (Value.int .i64 sr) := tq.cell 2 rfl
    have k3 : (WD.setCell ⟨B1 + 2, 2, none⟩ (.int .i64 (sr + p))).cell? ⟨B1, 3, none⟩ = some (Value.bool true) := tq.cell 3 rfl
    have k4 : (WD.setCell ⟨B1 + 2, 2, none⟩ (.int .i64 (sr + p))).cell? ⟨B1, 4, none⟩ = some (Value.bool ma) := tq.cell 4 rfl
    have k5 : (WD.setCell ⟨B1 + 2, 2, none⟩ (.int .i64 (sr + p))).cell? ⟨B1, 5, none⟩ = some (Value.int .i64 us) := tq.cell 5 rfl
    have k6 : (WD.setCell ⟨B1 + 2, 2, none⟩ (.int .i64 (sr + p))).cell? ⟨B1, 6, none⟩ = some (Value.int .i64 ge) := tq.cell 6 rfl
    have k7 : (WD.setCell ⟨B1 + 2, 2, none⟩ (.int .i64 (sr + p))).cell? ⟨B1, 7, none⟩ = some (Value.int .i64 ep) := tq.cell 7 rfl
    have k8 : (WD.setCell ⟨B1 + 2, 2, none⟩ (.int .i64 (sr + p))).cell? ⟨B1, 8, none⟩ = some (Value.int .i64 ve) := tq.cell 8 rfl
    refine hK.out _ _ ⟨k0, k1, k2, k3, k4, k5, k6, k7, k8⟩ (fun hS => ?_)
    clear hK K
    try simp only [Act.put, List.setIfInBounds_toArray, List.set_cons_zero, List.set_cons_succ]
    refine wpAnyH_done (by kernel_rfl) ?_ _
    have n1 : B1 ≠ B1 + 2 := by omega
    have n2 : B1 + 1 ≠ B1 + 2 := by omega
    have t0 := q0.putOther ⟨B1 + 2, 2, none⟩ n1 (.int .i64 (sr + p))
    have t1 := p0.putOther ⟨B1 + 2, 2, none⟩ n2 (.int .i64 (sr + p))
    have t2 : RowAt _ (B1 + 2) 23 #[Value.int .i64 st, Value.int .i64 ow, Value.int .i64 (sr + p), Value.bool true, Value.bool ma, Value.int .i64 us, Value.int .i64 ge, Value.int .i64 ep, Value.int .i64 ve] := u0.put 2 (.int .i64 (sr + p))
    have hB2 := hB0.setCell (p := ⟨B1 + 2, 2, none⟩) (show w.heap.size ≤ B1 + 2 by omega) (.int .i64 (sr + p))
    clear c00 c01 c02 c03 c04 c05 c06 c07 c08 x0 f0 hS tq k0 k1 k2 k3 k4 k5 k6 k7 k8
    have c0 : (WD.setCell ⟨B1 + 2, 2, none⟩ (.int .i64 (sr + p))).cell? ⟨B1, 0, none⟩ = some (Value.int .i64 st) := t0.cell 0 rfl
    have c1 : (WD.setCell ⟨B1 + 2, 2, none⟩ (.int .i64 (sr + p))).cell? ⟨B1, 1, none⟩ = some (Value.int .i64 ow) := t0.cell 1 rfl
    have c2 : (WD.setCell ⟨B1 + 2, 2, none⟩ (.int .i64 (sr + p))).cell? ⟨B1, 2, none⟩ = some (Value.int .i64 sr) := t0.cell 2 rfl
    have c3 : (WD.setCell ⟨B1 + 2, 2, none⟩ (.int .i64 (sr + p))).cell? ⟨B1, 3, none⟩ = some (Value.bool true) := t0.cell 3 rfl
    have c4 : (WD.setCell ⟨B1 + 2, 2, none⟩ (.int .i64 (sr + p))).cell? ⟨B1, 4, none⟩ = some (Value.bool ma) := t0.cell 4 rfl
    have c5 : (WD.setCell ⟨B1 + 2, 2, none⟩ (.int .i64 (sr + p))).cell? ⟨B1, 5, none⟩ = some (Value.int .i64 us) := t0.cell 5 rfl
    have c6 : (WD.setCell ⟨B1 + 2, 2, none⟩ (.int .i64 (sr + p))).cell? ⟨B1, 6, none⟩ = some (Value.int .i64 ge) := t0.cell 6 rfl
    have c7 : (WD.setCell ⟨B1 + 2, 2, none⟩ (.int .i64 (sr + p))).cell? ⟨B1, 7, none⟩ = some (Value.int .i64 ep) := t0.cell 7 rfl
    have c8 : (WD.setCell ⟨B1 + 2, 2, none⟩ (.int .i64 (sr + p))).cell? ⟨B1, 8, none⟩ = some (Value.int .i64 ve) := t0.cell 8 rfl
    have y0 : (WD.setCell ⟨B1 + 2, 2, none⟩ (.int .i64 (sr + p))).cell? ⟨B1 + 2, 0, none⟩ = some (Value.int .i64 st) := t2.cell 0 rfl
    have y1 : (WD.setCell ⟨B1 + 2, 2, none⟩ (.int .i64 (sr + p))).cell? ⟨B1 + 2, 1, none⟩ = some (Value.int .i64 ow) := t2.cell 1 rfl
    have y2 : (WD.setCell ⟨B1 + 2, 2, none⟩ (.int .i64 (sr + p))).cell? ⟨B1 + 2, 2, none⟩ = some (Value.int .i64 (sr + p)) := t2.cell 2 rfl
    have y3 : (WD.setCell ⟨B1 + 2, 2, none⟩ (.int .i64 (sr + p))).cell? ⟨B1 + 2, 3, none⟩ = some (Value.bool true) := t2.cell 3 rfl
    have y4 : (WD.setCell ⟨B1 + 2, 2, none⟩ (.int .i64 (sr + p))).cell? ⟨B1 + 2, 4, none⟩ = some (Value.bool ma) := t2.cell 4 rfl
    have y5 : (WD.setCell ⟨B1 + 2, 2, none⟩ (.int .i64 (sr + p))).cell? ⟨B1 + 2, 5, none⟩ = some (Value.int .i64 us) := t2.cell 5 rfl
    have y6 : (WD.setCell ⟨B1 + 2, 2, none⟩ (.int .i64 (sr + p))).cell? ⟨B1 + 2, 6, none⟩ = some (Value.int .i64 ge) := t2.cell 6 rfl
    have y7 : (WD.setCell ⟨B1 + 2, 2, none⟩ (.int .i64 (sr + p))).cell? ⟨B1 + 2, 7, none⟩ = some (Value.int .i64 ep) := t2.cell 7 rfl
    have y8 : (WD.setCell ⟨B1 + 2, 2, none⟩ (.int .i64 (sr + p))).cell? ⟨B1 + 2, 8, none⟩ = some (Value.int .i64 ve) := t2.cell 8 rfl
    go_wp2_with (refine wpList_store_row rfl 23 _ _ rfl _ _ rfl rfl 23 _ t1 (by kernel_rfl) rfl (by simp [Value.oneCell']) ?_)
    all_goals (try subst_vars)
    all_goals refine bodyPost_ret (res_pair (p := 8) (u := 9) rfl _ _ _ _ rfl (t1.set _) rfl) rfl ⟨?_, below_setRow hB2 (by omega) _⟩
    all_goals (clear q0 p0 u0 t0 t1 t2 hB0 hB2 c0 c1 c2 c3 c4 c5 c6 c7 c8 y0 y1 y2 y3 y4 y5 y6 y7 y8)
    all_goals (refine ret_pair ?_; rw [E.out]; first | (simp [*]; done) | (simp [*]; omega))
set_option maxRecDepth 100000 in
set_option maxHeartbeats 4000000 in
theorem w16_any (s : Sl) (a mo : Int) (w : World) (hr : Rt s) :
    Calls Tryd.prog 17 #[Value.agg #[Value.int .i64 s.st, Value.int .i64 s.ow, Value.int .i64 s.sr, Value.bool s.br, Value.bool s.ma, Value.int .i64 s.us, Value.int .i64 s.ge, Value.int .i64 s.ep, Value.int .i64 s.ve], .int .i64 16, .int .i64 a, .int .i64 mo] w fun e w' => e = .returned (.tuple #[.agg #[Value.int .i64 (rS 16 s a mo).st, Value.int .i64 (rS 16 s a mo).ow, Value.int .i64 (rS 16 s a mo).sr, Value.bool (rS 16 s a mo).br, Value.bool (rS 16 s a mo).ma, Value.int .i64 (rS 16 s a mo).us, Value.int .i64 (rS 16 s a mo).ge, Value.int .i64 (rS 16 s a mo).ep, Value.int .i64 (rS 16 s a mo).ve], .bool (rB 16 s a mo)]) ∧ Below w.heap.size w w' := by
  cases h0 : (s.st == 4) with
  | true =>
    have e1 : rS 16 s a mo = s.lref a := by simp [rS, h0]
    have e2 : rB 16 s a mo = (s.ow == a) := by simp [rB, h0]
    rw [e1, e2]
    clear e1 e2
    go_enter Tryd.func17, Tryd.ntmps17
    go_wp2_with fail
    have hB : Below w.heap.size w (((w.alloc (.cells #[Value.int .i64 s.st, Value.int .i64 s.ow, Value.int .i64 s.sr, Value.bool s.br, Value.bool s.ma, Value.int .i64 s.us, Value.int .i64 s.ge, Value.int .i64 s.ep, Value.int .i64 s.ve] 23)).alloc (.cells #[Value.int .i64 0, Value.int .i64 0, Value.int .i64 0, Value.bool false, Value.bool false, Value.int .i64 0, Value.int .i64 0, Value.int .i64 0, Value.int .i64 0] 23)).alloc (.cells #[Value.int .i64 s.st, Value.int .i64 s.ow, Value.int .i64 s.sr, Value.bool s.br, Value.bool s.ma, Value.int .i64 s.us, Value.int .i64 s.ge, Value.int .i64 s.ep, Value.int .i64 s.ve] 23)) := (((Below.refl _ _).alloc (Nat.le_refl _) _).alloc (by simp) _).alloc (by simp; omega) _
    have r0 := ((RowAt.new w 23 #[Value.int .i64 s.st, Value.int .i64 s.ow, Value.int .i64 s.sr, Value.bool s.br, Value.bool s.ma, Value.int .i64 s.us, Value.int .i64 s.ge, Value.int .i64 s.ep, Value.int .i64 s.ve]).alloc (.cells #[Value.int .i64 0, Value.int .i64 0, Value.int .i64 0, Value.bool false, Value.bool false, Value.int .i64 0, Value.int .i64 0, Value.int .i64 0, Value.int .i64 0] 23)).alloc (.cells #[Value.int .i64 s.st, Value.int .i64 s.ow, Value.int .i64 s.sr, Value.bool s.br, Value.bool s.ma, Value.int .i64 s.us, Value.int .i64 s.ge, Value.int .i64 s.ep, Value.int .i64 s.ve] 23)
    have r1 := (new2 w (.cells #[Value.int .i64 s.st, Value.int .i64 s.ow, Value.int .i64 s.sr, Value.bool s.br, Value.bool s.ma, Value.int .i64 s.us, Value.int .i64 s.ge, Value.int .i64 s.ep, Value.int .i64 s.ve] 23) 23 #[Value.int .i64 0, Value.int .i64 0, Value.int .i64 0, Value.bool false, Value.bool false, Value.int .i64 0, Value.int .i64 0, Value.int .i64 0, Value.int .i64 0]).alloc (.cells #[Value.int .i64 s.st, Value.int .i64 s.ow, Value.int .i64 s.sr, Value.bool s.br, Value.bool s.ma, Value.int .i64 s.us, Value.int .i64 s.ge, Value.int .i64 s.ep, Value.int .i64 s.ve] 23)
    have r2 := new3 w (.cells #[Value.int .i64 s.st, Value.int .i64 s.ow, Value.int .i64 s.sr, Value.bool s.br, Value.bool s.ma, Value.int .i64 s.us, Value.int .i64 s.ge, Value.int .i64 s.ep, Value.int .i64 s.ve] 23) (.cells #[Value.int .i64 0, Value.int .i64 0, Value.int .i64 0, Value.bool false, Value.bool false, Value.int .i64 0, Value.int .i64 0, Value.int .i64 0, Value.int .i64 0] 23) 23 #[Value.int .i64 s.st, Value.int .i64 s.ow, Value.int .i64 s.sr, Value.bool s.br, Value.bool s.ma, Value.int .i64 s.us, Value.int .i64 s.ge, Value.int .i64 s.ep, Value.int .i64 s.ve]
    obtain ⟨W, hW⟩ : ∃ W, W = ((w.alloc (.cells #[Value.int .i64 s.st, Value.int .i64 s.ow, Value.int .i64 s.sr, Value.bool s.br, Value.bool s.ma, Value.int .i64 s.us, Value.int .i64 s.ge, Value.int .i64 s.ep, Value.int .i64 s.ve] 23)).alloc (.cells #[Value.int .i64 0, Value.int .i64 0, Value.int .i64 0, Value.bool false, Value.bool false, Value.int .i64 0, Value.int .i64 0, Value.int .i64 0, Value.int .i64 0] 23)).alloc (.cells #[Value.int .i64 s.st, Value.int .i64 s.ow, Value.int .i64 s.sr, Value.bool s.br, Value.bool s.ma, Value.int .i64 s.us, Value.int .i64 s.ge, Value.int .i64 s.ep, Value.int .i64 s.ve] 23) := ⟨_, rfl⟩
    rw [← hW] at hB r0 r1 r2 ⊢
    clear hW
    obtain ⟨B1, e1⟩ : ∃ B1, B1 = w.heap.size := ⟨_, rfl⟩
    have hle : w.heap.size ≤ B1 := by omega
    rw [← e1] at r0 r1 r2 ⊢
    clear e1
    have hne : B1 ≠ B1 + 1 := by omega
    have hne2 : B1 + 2 ≠ B1 + 1 := by omega
    refine (lref_any s a _ hr.us.1 hr.us.2 hr.ge.1 hr.ge.2).mono ?_
    rintro e w1 ⟨rfl, hb⟩
    replace r1 := r1.below hb r1.lt
    replace hB := hB.trans (hb.mono hB.size)
    clear hb r0 r2
    go_wp2_with (refine wpList_store_row rfl 23 _ _ rfl _ #[Value.int .i64 (s.lref a).st, Value.int .i64 (s.lref a).ow, Value.int .i64 (s.lref a).sr, Value.bool (s.lref a).br, Value.bool (s.lref a).ma, Value.int .i64 (s.lref a).us, Value.int .i64 (s.lref a).ge, Value.int .i64 (s.lref a).ep, Value.int .i64 (s.lref a).ve] rfl rfl 23 _ r1 (by kernel_rfl) rfl (by simp [Value.oneCell']) ?_)
    refine bodyPost_ret (res_pair (p := 8) (u := 9) rfl _ _ _ _ rfl (r1.set _) rfl) rfl ⟨rfl, below_setRow hB (by omega) _⟩
  | false =>
    have e1 : rS 16 s a mo = s.plain 1 a := by simp [rS, h0]
    have e2 : rB 16 s a mo = (s.st == 5 && s.ow == a) := by simp [rB, h0]
    rw [e1, e2]
    clear e1 e2
    cases h1 : (s.st == 5) with
    | true =>
      go_enter Tryd.func17, Tryd.ntmps17
      go_wp2_with fail
      have hB : Below w.heap.size w (((w.alloc (.cells #[Value.int .i64 s.st, Value.int .i64 s.ow, Value.int .i64 s.sr, Value.bool s.br, Value.bool s.ma, Value.int .i64 s.us, Value.int .i64 s.ge, Value.int .i64 s.ep, Value.int .i64 s.ve] 23)).alloc (.cells #[Value.int .i64 0, Value.int .i64 0, Value.int .i64 0, Value.bool false, Value.bool false, Value.int .i64 0, Value.int .i64 0, Value.int .i64 0, Value.int .i64 0] 23)).alloc (.cells #[Value.int .i64 s.st, Value.int .i64 s.ow, Value.int .i64 s.sr, Value.bool s.br, Value.bool s.ma, Value.int .i64 s.us, Value.int .i64 s.ge, Value.int .i64 s.ep, Value.int .i64 s.ve] 23)) := (((Below.refl _ _).alloc (Nat.le_refl _) _).alloc (by simp) _).alloc (by simp; omega) _
      have r0 := ((RowAt.new w 23 #[Value.int .i64 s.st, Value.int .i64 s.ow, Value.int .i64 s.sr, Value.bool s.br, Value.bool s.ma, Value.int .i64 s.us, Value.int .i64 s.ge, Value.int .i64 s.ep, Value.int .i64 s.ve]).alloc (.cells #[Value.int .i64 0, Value.int .i64 0, Value.int .i64 0, Value.bool false, Value.bool false, Value.int .i64 0, Value.int .i64 0, Value.int .i64 0, Value.int .i64 0] 23)).alloc (.cells #[Value.int .i64 s.st, Value.int .i64 s.ow, Value.int .i64 s.sr, Value.bool s.br, Value.bool s.ma, Value.int .i64 s.us, Value.int .i64 s.ge, Value.int .i64 s.ep, Value.int .i64 s.ve] 23)
      have r1 := (new2 w (.cells #[Value.int .i64 s.st, Value.int .i64 s.ow, Value.int .i64 s.sr, Value.bool s.br, Value.bool s.ma, Value.int .i64 s.us, Value.int .i64 s.ge, Value.int .i64 s.ep, Value.int .i64 s.ve] 23) 23 #[Value.int .i64 0, Value.int .i64 0, Value.int .i64 0, Value.bool false, Value.bool false, Value.int .i64 0, Value.int .i64 0, Value.int .i64 0, Value.int .i64 0]).alloc (.cells #[Value.int .i64 s.st, Value.int .i64 s.ow, Value.int .i64 s.sr, Value.bool s.br, Value.bool s.ma, Value.int .i64 s.us, Value.int .i64 s.ge, Value.int .i64 s.ep, Value.int .i64 s.ve] 23)
      have r2 := new3 w (.cells #[Value.int .i64 s.st, Value.int .i64 s.ow, Value.int .i64 s.sr, Value.bool s.br, Value.bool s.ma, Value.int .i64 s.us, Value.int .i64 s.ge, Value.int .i64 s.ep, Value.int .i64 s.ve] 23) (.cells #[Value.int .i64 0, Value.int .i64 0, Value.int .i64 0, Value.bool false, Value.bool false, Value.int .i64 0, Value.int .i64 0, Value.int .i64 0, Value.int .i64 0] 23) 23 #[Value.int .i64 s.st, Value.int .i64 s.ow, Value.int .i64 s.sr, Value.bool s.br, Value.bool s.ma, Value.int .i64 s.us, Value.int .i64 s.ge, Value.int .i64 s.ep, Value.int .i64 s.ve]
      obtain ⟨W, hW⟩ : ∃ W, W = ((w.alloc (.cells #[Value.int .i64 s.st, Value.int .i64 s.ow, Value.int .i64 s.sr, Value.bool s.br, Value.bool s.ma, Value.int .i64 s.us, Value.int .i64 s.ge, Value.int .i64 s.ep, Value.int .i64 s.ve] 23)).alloc (.cells #[Value.int .i64 0, Value.int .i64 0, Value.int .i64 0, Value.bool false, Value.bool false, Value.int .i64 0, Value.int .i64 0, Value.int .i64 0, Value.int .i64 0] 23)).alloc (.cells #[Value.int .i64 s.st, Value.int .i64 s.ow, Value.int .i64 s.sr, Value.bool s.br, Value.bool s.ma, Value.int .i64 s.us, Value.int .i64 s.ge, Value.int .i64 s.ep, Value.int .i64 s.ve] 23) := ⟨_, rfl⟩
      rw [← hW] at hB r0 r1 r2 ⊢
      clear hW
      obtain ⟨B1, e1⟩ : ∃ B1, B1 = w.heap.size := ⟨_, rfl⟩
      have hle : w.heap.size ≤ B1 := by omega
      rw [← e1] at r0 r1 r2 ⊢
      clear e1
      have hne : B1 ≠ B1 + 1 := by omega
      have hne2 : B1 + 2 ≠ B1 + 1 := by omega
      have q0 := r0.drew
      have p0 := r1.drew
      have u0 := r2.drew
      have hB0 := hB.drew
      clear hB r0 r1 r2
      have c00 : W.drew.cell? ⟨B1, 0, none⟩ = some (Value.int .i64 s.st) := q0.cell 0 rfl
      have c01 : W.drew.cell? ⟨B1, 1, none⟩ = some (Value.int .i64 s.ow) := q0.cell 1 rfl
      have c02 : W.drew.cell? ⟨B1, 2, none⟩ = some (Value.int .i64 s.sr) := q0.cell 2 rfl
      have c03 : W.drew.cell? ⟨B1, 3, none⟩ = some (Value.bool s.br) := q0.cell 3 rfl
      have c04 : W.drew.cell? ⟨B1, 4, none⟩ = some (Value.bool s.ma) := q0.cell 4 rfl
      have c05 : W.drew.cell? ⟨B1, 5, none⟩ = some (Value.int .i64 s.us) := q0.cell 5 rfl
      have c06 : W.drew.cell? ⟨B1, 6, none⟩ = some (Value.int .i64 s.ge) := q0.cell 6 rfl
      have c07 : W.drew.cell? ⟨B1, 7, none⟩ = some (Value.int .i64 s.ep) := q0.cell 7 rfl
      have c08 : W.drew.cell? ⟨B1, 8, none⟩ = some (Value.int .i64 s.ve) := q0.cell 8 rfl
      have d00 : W.drew.cell? ⟨B1 + 1, 0, none⟩ = some (Value.int .i64 0) := p0.cell 0 rfl
      have d01 : W.drew.cell? ⟨B1 + 1, 1, none⟩ = some (Value.int .i64 0) := p0.cell 1 rfl
      have d02 : W.drew.cell? ⟨B1 + 1, 2, none⟩ = some (Value.int .i64 0) := p0.cell 2 rfl
      have d03 : W.drew.cell? ⟨B1 + 1, 3, none⟩ = some (Value.bool false) := p0.cell 3 rfl
      have d04 : W.drew.cell? ⟨B1 + 1, 4, none⟩ = some (Value.bool false) := p0.cell 4 rfl
      have d05 : W.drew.cell? ⟨B1 + 1, 5, none⟩ = some (Value.int .i64 0) := p0.cell 5 rfl
      have d06 : W.drew.cell? ⟨B1 + 1, 6, none⟩ = some (Value.int .i64 0) := p0.cell 6 rfl
      have d07 : W.drew.cell? ⟨B1 + 1, 7, none⟩ = some (Value.int .i64 0) := p0.cell 7 rfl
      have d08 : W.drew.cell? ⟨B1 + 1, 8, none⟩ = some (Value.int .i64 0) := p0.cell 8 rfl
      have g00 : W.drew.frozen? ⟨B1 + 1, 0, none⟩ = false := p0.frozen 0
      have g01 : W.drew.frozen? ⟨B1 + 1, 1, none⟩ = false := p0.frozen 1
      have g02 : W.drew.frozen? ⟨B1 + 1, 2, none⟩ = false := p0.frozen 2
      have g03 : W.drew.frozen? ⟨B1 + 1, 3, none⟩ = false := p0.frozen 3
      have g04 : W.drew.frozen? ⟨B1 + 1, 4, none⟩ = false := p0.frozen 4
      have g05 : W.drew.frozen? ⟨B1 + 1, 5, none⟩ = false := p0.frozen 5
      have g06 : W.drew.frozen? ⟨B1 + 1, 6, none⟩ = false := p0.frozen 6
      have g07 : W.drew.frozen? ⟨B1 + 1, 7, none⟩ = false := p0.frozen 7
      have g08 : W.drew.frozen? ⟨B1 + 1, 8, none⟩ = false := p0.frozen 8
      refine wp_region_held_drew (S := (fun w' => w'.cell? ⟨B1, 0, none⟩ = some (Value.int .i64 s.st) ∧ w'.cell? ⟨B1, 1, none⟩ = some (Value.int .i64 s.ow) ∧ w'.cell? ⟨B1, 2, none⟩ = some (Value.int .i64 s.sr) ∧ w'.cell? ⟨B1, 3, none⟩ = some (Value.bool s.br) ∧ w'.cell? ⟨B1, 4, none⟩ = some (Value.bool s.ma) ∧ w'.cell? ⟨B1, 5, none⟩ = some (Value.int .i64 s.us) ∧ w'.cell? ⟨B1, 6, none⟩ = some (Value.int .i64 s.ge) ∧ w'.cell? ⟨B1, 7, none⟩ = some (Value.int .i64 s.ep) ∧ w'.cell? ⟨B1, 8, none⟩ = some (Value.int .i64 s.ve))) (by kernel_rfl) ⟨c00, c01, c02, c03, c04, c05, c06, c07, c08⟩ (fun hS => ?_)
      generalize W.drew = WD at *
      refine wpAnyH_take (i := 0) (oi := { dst := some 259, op := Op.load 23 (Operand.tmp 4), type := 23, pos := "ref.go:104", after := #[], guard := none }) (v := ?v0_206) rfl (by kernel_rfl) (by kernel_rfl) (by kernel_rfl) (fun _ _ _ h => h) (Or.inl ⟨by rfl, ?hy0_206⟩) hS ?rest0_206
      case hy0_206 =>
        intro w hSw
        (try dsimp only at hSw)
        go_simp
        try with_reducible rfl
      try simp only [Act.put, List.setIfInBounds_toArray, List.set_cons_zero, List.set_cons_succ]
      refine wpAnyH_take (i := 1) (oi := { dst := some 260, op := Op.move (Operand.tmp 2), type := 3, pos := "ref.go:104", after := #[], guard := none }) (v := ?v1_207) rfl (by kernel_rfl) (by kernel_rfl) (by kernel_rfl) (fun _ _ _ h => h) (Or.inl ⟨by rfl, ?hy1_207⟩) hS ?rest1_207
      case hy1_207 =>
        intro w hSw
        (try dsimp only at hSw)
        go_simp
        try with_reducible rfl
      try simp only [Act.put, List.setIfInBounds_toArray, List.set_cons_zero, List.set_cons_succ]
      refine wpAnyH_take (i := 3) (oi := { dst := some 262, op := Op.fieldAddr 23 (Operand.tmp 4) 0, type := 0, pos := "ref.go:104", after := #[], guard := none }) (v := ?v3_208) rfl (by kernel_rfl) (by kernel_rfl) (by kernel_rfl) (fun _ _ _ h => h) (Or.inl ⟨by rfl, ?hy3_208⟩) hS ?rest3_208
      case hy3_208 =>
        intro w hSw
        (try dsimp only at hSw)
        go_simp
        try with_reducible rfl
      try simp only [Act.put, List.setIfInBounds_toArray, List.set_cons_zero, List.set_cons_succ]
      refine wpAnyH_take (i := 4) (oi := { dst := some 263, op := Op.load 3 (Operand.tmp 262), type := 3, pos := "ref.go:104", after := #[{ on := 3, ground := Ground.data }], guard := none }) (v := ?v4_209) rfl (by kernel_rfl) (by kernel_rfl) (by kernel_rfl) (fun _ _ _ h => h) (Or.inl ⟨by rfl, ?hy4_209⟩) hS ?rest4_209
      case hy4_209 =>
        intro w hSw
        (try dsimp only at hSw)
        go_simp
        try with_reducible rfl
      try simp only [Act.put, List.setIfInBounds_toArray, List.set_cons_zero, List.set_cons_succ]
      refine wpAnyH_take (i := 5) (oi := { dst := some 264, op := Op.binOp BinOp.eql 3 (Operand.tmp 263) (Operand.const (Value.int IntKind.i64 5)) 3, type := 4, pos := "ref.go:104", after := #[{ on := 4, ground := Ground.data }], guard := none }) (v := ?v5_210) rfl (by kernel_rfl) (by kernel_rfl) (by kernel_rfl) (fun _ _ _ h => h) (Or.inl ⟨by rfl, ?hy5_210⟩) hS ?rest5_210
      case hy5_210 =>
        intro w hSw
        (try dsimp only at hSw)
        go_simp
        try with_reducible rfl
      try simp only [Act.put, List.setIfInBounds_toArray, List.set_cons_zero, List.set_cons_succ]
      refine wpAnyH_ready (rs := [2]) (by kernel_rfl) (by simp) ?_
      refine AllReadyH.cons (o := { dst := some 261, op := Op.call { callee := Callee.value (Operand.func 39), args := #[Operand.tmp 259, Operand.const (Value.int IntKind.i64 1), Operand.tmp 260], argTypes := #[23, 3, 3] }, type := 23, pos := "ref.go:104", after := #[{ on := 0, ground := Ground.data }, { on := 1, ground := Ground.data }], guard := none }) rfl (fun K hK => ?_) AllReadyH.nil
      go_simp
      refine (plain_any s 1 a _).mono ?_
      rintro e w1 ⟨rfl, hb⟩
      have q1 := q0.below hb q0.lt
      have p1 := p0.below hb p0.lt
      have u1 := u0.below hb u0.lt
      have hB1 := hB0.trans (hb.mono hB0.size)
      clear hb
      have c10 : w1.cell? ⟨B1, 0, none⟩ = some (Value.int .i64 s.st) := q1.cell 0 rfl
      have c11 : w1.cell? ⟨B1, 1, none⟩ = some (Value.int .i64 s.ow) := q1.cell 1 rfl
      have c12 : w1.cell? ⟨B1, 2, none⟩ = some (Value.int .i64 s.sr) := q1.cell 2 rfl
      have c13 : w1.cell? ⟨B1, 3, none⟩ = some (Value.bool s.br) := q1.cell 3 rfl
      have c14 : w1.cell? ⟨B1, 4, none⟩ = some (Value.bool s.ma) := q1.cell 4 rfl
      have c15 : w1.cell? ⟨B1, 5, none⟩ = some (Value.int .i64 s.us) := q1.cell 5 rfl
      have c16 : w1.cell? ⟨B1, 6, none⟩ = some (Value.int .i64 s.ge) := q1.cell 6 rfl
      have c17 : w1.cell? ⟨B1, 7, none⟩ = some (Value.int .i64 s.ep) := q1.cell 7 rfl
      have c18 : w1.cell? ⟨B1, 8, none⟩ = some (Value.int .i64 s.ve) := q1.cell 8 rfl
      have d10 : w1.cell? ⟨B1 + 1, 0, none⟩ = some (Value.int .i64 0) := p1.cell 0 rfl
      have d11 : w1.cell? ⟨B1 + 1, 1, none⟩ = some (Value.int .i64 0) := p1.cell 1 rfl
      have d12 : w1.cell? ⟨B1 + 1, 2, none⟩ = some (Value.int .i64 0) := p1.cell 2 rfl
      have d13 : w1.cell? ⟨B1 + 1, 3, none⟩ = some (Value.bool false) := p1.cell 3 rfl
      have d14 : w1.cell? ⟨B1 + 1, 4, none⟩ = some (Value.bool false) := p1.cell 4 rfl
      have d15 : w1.cell? ⟨B1 + 1, 5, none⟩ = some (Value.int .i64 0) := p1.cell 5 rfl
      have d16 : w1.cell? ⟨B1 + 1, 6, none⟩ = some (Value.int .i64 0) := p1.cell 6 rfl
      have d17 : w1.cell? ⟨B1 + 1, 7, none⟩ = some (Value.int .i64 0) := p1.cell 7 rfl
      have d18 : w1.cell? ⟨B1 + 1, 8, none⟩ = some (Value.int .i64 0) := p1.cell 8 rfl
      have g10 : w1.frozen? ⟨B1 + 1, 0, none⟩ = false := p1.frozen 0
      have g11 : w1.frozen? ⟨B1 + 1, 1, none⟩ = false := p1.frozen 1
      have g12 : w1.frozen? ⟨B1 + 1, 2, none⟩ = false := p1.frozen 2
      have g13 : w1.frozen? ⟨B1 + 1, 3, none⟩ = false := p1.frozen 3
      have g14 : w1.frozen? ⟨B1 + 1, 4, none⟩ = false := p1.frozen 4
      have g15 : w1.frozen? ⟨B1 + 1, 5, none⟩ = false := p1.frozen 5
      have g16 : w1.frozen? ⟨B1 + 1, 6, none⟩ = false := p1.frozen 6
      have g17 : w1.frozen? ⟨B1 + 1, 7, none⟩ = false := p1.frozen 7
      have g18 : w1.frozen? ⟨B1 + 1, 8, none⟩ = false := p1.frozen 8
      refine hK.out _ _ ⟨c10, c11, c12, c13, c14, c15, c16, c17, c18⟩ (fun hS => ?_)
      clear hK K
      try simp only [Act.put, List.setIfInBounds_toArray, List.set_cons_zero, List.set_cons_succ]
      refine wpAnyH_take (i := 6) (oi := { dst := some 265, op := Op.move (Operand.tmp 264), type := 4, pos := "ref.go:104", after := #[{ on := 5, ground := Ground.data }, { on := 2, ground := Ground.chain }], guard := none }) (v := ?v6_211) rfl (by kernel_rfl) (by kernel_rfl) (by kernel_rfl) (fun _ _ _ h => h) (Or.inl ⟨by rfl, ?hy6_211⟩) hS ?rest6_211
      case hy6_211 =>
        intro w hSw
        (try dsimp only at hSw)
        go_simp
        try with_reducible rfl
      try simp only [Act.put, List.setIfInBounds_toArray, List.set_cons_zero, List.set_cons_succ]
      refine wpAnyH_take (i := 7) (oi := { dst := some 266, op := Op.move (Operand.tmp 11), type := 4, pos := "ref.go:104", after := #[{ on := 6, ground := Ground.guard }, { on := 9, ground := Ground.gcOnly Departure.lateStores }], guard := some (6, true) }) (v := ?v7_212) rfl (by kernel_rfl) (by kernel_rfl) (by kernel_rfl) (fun _ _ _ h => h) (Or.inl ⟨by rfl, ?hy7_212⟩) hS ?rest7_212
      case hy7_212 =>
        intro w hSw
        (try dsimp only at hSw)
        go_simp
        try with_reducible rfl
      try simp only [Act.put, List.setIfInBounds_toArray, List.set_cons_zero, List.set_cons_succ]
      refine wpAnyH_take (i := 8) (oi := { dst := some 267, op := Op.pick (Operand.tmp 265) (Operand.tmp 266) (Operand.const (Value.bool false)), type := 4, pos := "ref.go:104", after := #[{ on := 6, ground := Ground.data }, { on := 7, ground := Ground.data }, { on := 9, ground := Ground.gcOnly Departure.lateStores }], guard := none }) (v := ?v8_213) rfl (by kernel_rfl) (by kernel_rfl) (by kernel_rfl) (fun _ _ _ h => h) (Or.inl ⟨by rfl, ?hy8_213⟩) hS ?rest8_213
      case hy8_213 =>
        intro w hSw
        (try dsimp only at hSw)
        go_simp
        try with_reducible rfl
      try simp only [Act.put, List.setIfInBounds_toArray, List.set_cons_zero, List.set_cons_succ]
      refine wpAnyH_ready (rs := [9]) (by kernel_rfl) (by simp) ?_
      refine AllReadyH.cons (o := { dst := none, op := Op.store 23 (Operand.tmp 8) (Operand.tmp 261), type := 0, pos := "ref.go:104", after := #[{ on := 2, ground := Ground.data }, { on := 6, ground := Ground.chain }, { on := 0, ground := Ground.phase }, { on := 1, ground := Ground.phase }, { on := 2, ground := Ground.phase }, { on := 3, ground := Ground.textOnly Departure.lateStores }, { on := 4, ground := Ground.textOnly Departure.lateStores }, { on := 5, ground := Ground.textOnly Departure.lateStores }, { on := 6, ground := Ground.textOnly Departure.lateStores }, { on := 7, ground := Ground.textOnly Departure.lateStores }, { on := 8, ground := Ground.textOnly Departure.lateStores }], guard := none }) rfl (fun K hK => ?_) AllReadyH.nil
      go_simp
      refine hK.out _ _ (by (try dsimp only); go_keep) (fun hS => ?_)
      clear hK K
      try simp only [Act.put, List.setIfInBounds_toArray, List.set_cons_zero, List.set_cons_succ]
      refine wpAnyH_take (i := 10) (oi := { dst := some 9, op := Op.assign (Operand.tmp 267), type := 4, pos := "ref.go:104", after := #[{ on := 8, ground := Ground.data }, { on := 9, ground := Ground.chain }, { on := 0, ground := Ground.phase }, { on := 1, ground := Ground.phase }, { on := 2, ground := Ground.phase }, { on := 3, ground := Ground.phase }, { on := 4, ground := Ground.phase }, { on := 5, ground := Ground.phase }, { on := 6, ground := Ground.phase }, { on := 7, ground := Ground.phase }, { on := 8, ground := Ground.phase }, { on := 9, ground := Ground.phase }], guard := none }) (v := ?v10_214) rfl (by kernel_rfl) (by kernel_rfl) (by kernel_rfl) (fun _ _ _ h => h) (Or.inl ⟨by rfl, ?hy10_214⟩) hS ?rest10_214
      case hy10_214 =>
        intro w hSw
        (try dsimp only at hSw)
        go_simp
        try with_reducible rfl
      try simp only [Act.put, List.setIfInBounds_toArray, List.set_cons_zero, List.set_cons_succ]
      refine wpAnyH_done (by kernel_rfl) ?_ _
      have rz := row9 p1 (Value.int .i64 (s.plain 1 a).st) (Value.int .i64 (s.plain 1 a).ow) (Value.int .i64 (s.plain 1 a).sr) (Value.bool (s.plain 1 a).br) (Value.bool (s.plain 1 a).ma) (Value.int .i64 (s.plain 1 a).us) (Value.int .i64 (s.plain 1 a).ge) (Value.int .i64 (s.plain 1 a).ep) (Value.int .i64 (s.plain 1 a).ve)
      have hz := below9 (n := w.heap.size) (A := w) (b := B1 + 1) hB1 (by omega) (Value.int .i64 (s.plain 1 a).st) (Value.int .i64 (s.plain 1 a).ow) (Value.int .i64 (s.plain 1 a).sr) (Value.bool (s.plain 1 a).br) (Value.bool (s.plain 1 a).ma) (Value.int .i64 (s.plain 1 a).us) (Value.int .i64 (s.plain 1 a).ge) (Value.int .i64 (s.plain 1 a).ep) (Value.int .i64 (s.plain 1 a).ve)
      go_wp2
      refine bodyPost_ret (res_pair (p := 8) (u := 9) rfl _ _ _ _ rfl rz rfl) rfl ⟨rfl, hz⟩
    | false =>
      go_enter Tryd.func17, Tryd.ntmps17
      go_wp2_with fail
      have hB : Below w.heap.size w (((w.alloc (.cells #[Value.int .i64 s.st, Value.int .i64 s.ow, Value.int .i64 s.sr, Value.bool s.br, Value.bool s.ma, Value.int .i64 s.us, Value.int .i64 s.ge, Value.int .i64 s.ep, Value.int .i64 s.ve] 23)).alloc (.cells #[Value.int .i64 0, Value.int .i64 0, Value.int .i64 0, Value.bool false, Value.bool false, Value.int .i64 0, Value.int .i64 0, Value.int .i64 0, Value.int .i64 0] 23)).alloc (.cells #[Value.int .i64 s.st, Value.int .i64 s.ow, Value.int .i64 s.sr, Value.bool s.br, Value.bool s.ma, Value.int .i64 s.us, Value.int .i64 s.ge, Value.int .i64 s.ep, Value.int .i64 s.ve] 23)) := (((Below.refl _ _).alloc (Nat.le_refl _) _).alloc (by simp) _).alloc (by simp; omega) _
      have r0 := ((RowAt.new w 23 #[Value.int .i64 s.st, Value.int .i64 s.ow, Value.int .i64 s.sr, Value.bool s.br, Value.bool s.ma, Value.int .i64 s.us, Value.int .i64 s.ge, Value.int .i64 s.ep, Value.int .i64 s.ve]).alloc (.cells #[Value.int .i64 0, Value.int .i64 0, Value.int .i64 0, Value.bool false, Value.bool false, Value.int .i64 0, Value.int .i64 0, Value.int .i64 0, Value.int .i64 0] 23)).alloc (.cells #[Value.int .i64 s.st, Value.int .i64 s.ow, Value.int .i64 s.sr, Value.bool s.br, Value.bool s.ma, Value.int .i64 s.us, Value.int .i64 s.ge, Value.int .i64 s.ep, Value.int .i64 s.ve] 23)
      have r1 := (new2 w (.cells #[Value.int .i64 s.st, Value.int .i64 s.ow, Value.int .i64 s.sr, Value.bool s.br, Value.bool s.ma, Value.int .i64 s.us, Value.int .i64 s.ge, Value.int .i64 s.ep, Value.int .i64 s.ve] 23) 23 #[Value.int .i64 0, Value.int .i64 0, Value.int .i64 0, Value.bool false, Value.bool false, Value.int .i64 0, Value.int .i64 0, Value.int .i64 0, Value.int .i64 0]).alloc (.cells #[Value.int .i64 s.st, Value.int .i64 s.ow, Value.int .i64 s.sr, Value.bool s.br, Value.bool s.ma, Value.int .i64 s.us, Value.int .i64 s.ge, Value.int .i64 s.ep, Value.int .i64 s.ve] 23)
      have r2 := new3 w (.cells #[Value.int .i64 s.st, Value.int .i64 s.ow, Value.int .i64 s.sr, Value.bool s.br, Value.bool s.ma, Value.int .i64 s.us, Value.int .i64 s.ge, Value.int .i64 s.ep, Value.int .i64 s.ve] 23) (.cells #[Value.int .i64 0, Value.int .i64 0, Value.int .i64 0, Value.bool false, Value.bool false, Value.int .i64 0, Value.int .i64 0, Value.int .i64 0, Value.int .i64 0] 23) 23 #[Value.int .i64 s.st, Value.int .i64 s.ow, Value.int .i64 s.sr, Value.bool s.br, Value.bool s.ma, Value.int .i64 s.us, Value.int .i64 s.ge, Value.int .i64 s.ep, Value.int .i64 s.ve]
      obtain ⟨W, hW⟩ : ∃ W, W = ((w.alloc (.cells #[Value.int .i64 s.st, Value.int .i64 s.ow, Value.int .i64 s.sr, Value.bool s.br, Value.bool s.ma, Value.int .i64 s.us, Value.int .i64 s.ge, Value.int .i64 s.ep, Value.int .i64 s.ve] 23)).alloc (.cells #[Value.int .i64 0, Value.int .i64 0, Value.int .i64 0, Value.bool false, Value.bool false, Value.int .i64 0, Value.int .i64 0, Value.int .i64 0, Value.int .i64 0] 23)).alloc (.cells #[Value.int .i64 s.st, Value.int .i64 s.ow, Value.int .i64 s.sr, Value.bool s.br, Value.bool s.ma, Value.int .i64 s.us, Value.int .i64 s.ge, Value.int .i64 s.ep, Value.int .i64 s.ve] 23) := ⟨_, rfl⟩
      rw [← hW] at hB r0 r1 r2 ⊢
      clear hW
      obtain ⟨B1, e1⟩ : ∃ B1, B1 = w.heap.size := ⟨_, rfl⟩
      have hle : w.heap.size ≤ B1 := by omega
      rw [← e1] at r0 r1 r2 ⊢
      clear e1
      have hne : B1 ≠ B1 + 1 := by omega
      have hne2 : B1 + 2 ≠ B1 + 1 := by omega
      have q0 := r0.drew
      have p0 := r1.drew
      have u0 := r2.drew
      have hB0 := hB.drew
      clear hB r0 r1 r2
      have c00 : W.drew.cell? ⟨B1, 0, none⟩ = some (Value.int .i64 s.st) := q0.cell 0 rfl
      have c01 : W.drew.cell? ⟨B1, 1, none⟩ = some (Value.int .i64 s.ow) := q0.cell 1 rfl
      have c02 : W.drew.cell? ⟨B1, 2, none⟩ = some (Value.int .i64 s.sr) := q0.cell 2 rfl
      have c03 : W.drew.cell? ⟨B1, 3, none⟩ = some (Value.bool s.br) := q0.cell 3 rfl
      have c04 : W.drew.cell? ⟨B1, 4, none⟩ = some (Value.bool s.ma) := q0.cell 4 rfl
      have c05 : W.drew.cell? ⟨B1, 5, none⟩ = some (Value.int .i64 s.us) := q0.cell 5 rfl
      have c06 : W.drew.cell? ⟨B1, 6, none⟩ = some (Value.int .i64 s.ge) := q0.cell 6 rfl
      have c07 : W.drew.cell? ⟨B1, 7, none⟩ = some (Value.int .i64 s.ep) := q0.cell 7 rfl
      have c08 : W.drew.cell? ⟨B1, 8, none⟩ = some (Value.int .i64 s.ve) := q0.cell 8 rfl
      have d00 : W.drew.cell? ⟨B1 + 1, 0, none⟩ = some (Value.int .i64 0) := p0.cell 0 rfl
      have d01 : W.drew.cell? ⟨B1 + 1, 1, none⟩ = some (Value.int .i64 0) := p0.cell 1 rfl
      have d02 : W.drew.cell? ⟨B1 + 1, 2, none⟩ = some (Value.int .i64 0) := p0.cell 2 rfl
      have d03 : W.drew.cell? ⟨B1 + 1, 3, none⟩ = some (Value.bool false) := p0.cell 3 rfl
      have d04 : W.drew.cell? ⟨B1 + 1, 4, none⟩ = some (Value.bool false) := p0.cell 4 rfl
      have d05 : W.drew.cell? ⟨B1 + 1, 5, none⟩ = some (Value.int .i64 0) := p0.cell 5 rfl
      have d06 : W.drew.cell? ⟨B1 + 1, 6, none⟩ = some (Value.int .i64 0) := p0.cell 6 rfl
      have d07 : W.drew.cell? ⟨B1 + 1, 7, none⟩ = some (Value.int .i64 0) := p0.cell 7 rfl
      have d08 : W.drew.cell? ⟨B1 + 1, 8, none⟩ = some (Value.int .i64 0) := p0.cell 8 rfl
      have g00 : W.drew.frozen? ⟨B1 + 1, 0, none⟩ = false := p0.frozen 0
      have g01 : W.drew.frozen? ⟨B1 + 1, 1, none⟩ = false := p0.frozen 1
      have g02 : W.drew.frozen? ⟨B1 + 1, 2, none⟩ = false := p0.frozen 2
      have g03 : W.drew.frozen? ⟨B1 + 1, 3, none⟩ = false := p0.frozen 3
      have g04 : W.drew.frozen? ⟨B1 + 1, 4, none⟩ = false := p0.frozen 4
      have g05 : W.drew.frozen? ⟨B1 + 1, 5, none⟩ = false := p0.frozen 5
      have g06 : W.drew.frozen? ⟨B1 + 1, 6, none⟩ = false := p0.frozen 6
      have g07 : W.drew.frozen? ⟨B1 + 1, 7, none⟩ = false := p0.frozen 7
      have g08 : W.drew.frozen? ⟨B1 + 1, 8, none⟩ = false := p0.frozen 8
      refine wp_region_held_drew (S := (fun w' => w'.cell? ⟨B1, 0, none⟩ = some (Value.int .i64 s.st) ∧ w'.cell? ⟨B1, 1, none⟩ = some (Value.int .i64 s.ow) ∧ w'.cell? ⟨B1, 2, none⟩ = some (Value.int .i64 s.sr) ∧ w'.cell? ⟨B1, 3, none⟩ = some (Value.bool s.br) ∧ w'.cell? ⟨B1, 4, none⟩ = some (Value.bool s.ma) ∧ w'.cell? ⟨B1, 5, none⟩ = some (Value.int .i64 s.us) ∧ w'.cell? ⟨B1, 6, none⟩ = some (Value.int .i64 s.ge) ∧ w'.cell? ⟨B1, 7, none⟩ = some (Value.int .i64 s.ep) ∧ w'.cell? ⟨B1, 8, none⟩ = some (Value.int .i64 s.ve))) (by kernel_rfl) ⟨c00, c01, c02, c03, c04, c05, c06, c07, c08⟩ (fun hS => ?_)
      generalize W.drew = WD at *
      refine wpAnyH_take (i := 0) (oi := { dst := some 259, op := Op.load 23 (Operand.tmp 4), type := 23, pos := "ref.go:104", after := #[], guard := none }) (v := ?v0_215) rfl (by kernel_rfl) (by kernel_rfl) (by kernel_rfl) (fun _ _ _ h => h) (Or.inl ⟨by rfl, ?hy0_215⟩) hS ?rest0_215
      case hy0_215 =>
        intro w hSw
        (try dsimp only at hSw)
        go_simp
        try with_reducible rfl
      try simp only [Act.put, List.setIfInBounds_toArray, List.set_cons_zero, List.set_cons_succ]
      refine wpAnyH_take (i := 1) (oi := { dst := some 260, op := Op.move (Operand.tmp 2), type := 3, pos := "ref.go:104", after := #[], guard := none }) (v := ?v1_216) rfl (by kernel_rfl) (by kernel_rfl) (by kernel_rfl) (fun _ _ _ h => h) (Or.inl ⟨by rfl, ?hy1_216⟩) hS ?rest1_216
      case hy1_216 =>
        intro w hSw
        (try dsimp only at hSw)
        go_simp
        try with_reducible rfl
      try simp only [Act.put, List.setIfInBounds_toArray, List.set_cons_zero, List.set_cons_succ]
      refine wpAnyH_take (i := 3) (oi := { dst := some 262, op := Op.fieldAddr 23 (Operand.tmp 4) 0, type := 0, pos := "ref.go:104", after := #[], guard := none }) (v := ?v3_217) rfl (by kernel_rfl) (by kernel_rfl) (by kernel_rfl) (fun _ _ _ h => h) (Or.inl ⟨by rfl, ?hy3_217⟩) hS ?rest3_217
      case hy3_217 =>
        intro w hSw
        (try dsimp only at hSw)
        go_simp
        try with_reducible rfl
      try simp only [Act.put, List.setIfInBounds_toArray, List.set_cons_zero, List.set_cons_succ]
      refine wpAnyH_take (i := 4) (oi := { dst := some 263, op := Op.load 3 (Operand.tmp 262), type := 3, pos := "ref.go:104", after := #[{ on := 3, ground := Ground.data }], guard := none }) (v := ?v4_218) rfl (by kernel_rfl) (by kernel_rfl) (by kernel_rfl) (fun _ _ _ h => h) (Or.inl ⟨by rfl, ?hy4_218⟩) hS ?rest4_218
      case hy4_218 =>
        intro w hSw
        (try dsimp only at hSw)
        go_simp
        try with_reducible rfl
      try simp only [Act.put, List.setIfInBounds_toArray, List.set_cons_zero, List.set_cons_succ]
      refine wpAnyH_take (i := 5) (oi := { dst := some 264, op := Op.binOp BinOp.eql 3 (Operand.tmp 263) (Operand.const (Value.int IntKind.i64 5)) 3, type := 4, pos := "ref.go:104", after := #[{ on := 4, ground := Ground.data }], guard := none }) (v := ?v5_219) rfl (by kernel_rfl) (by kernel_rfl) (by kernel_rfl) (fun _ _ _ h => h) (Or.inl ⟨by rfl, ?hy5_219⟩) hS ?rest5_219
      case hy5_219 =>
        intro w hSw
        (try dsimp only at hSw)
        go_simp
        try with_reducible rfl
      try simp only [Act.put, List.setIfInBounds_toArray, List.set_cons_zero, List.set_cons_succ]
      refine wpAnyH_ready (rs := [2]) (by kernel_rfl) (by simp) ?_
      refine AllReadyH.cons (o := { dst := some 261, op := Op.call { callee := Callee.value (Operand.func 39), args := #[Operand.tmp 259, Operand.const (Value.int IntKind.i64 1), Operand.tmp 260], argTypes := #[23, 3, 3] }, type := 23, pos := "ref.go:104", after := #[{ on := 0, ground := Ground.data }, { on := 1, ground := Ground.data }], guard := none }) rfl (fun K hK => ?_) AllReadyH.nil
      go_simp
      refine (plain_any s 1 a _).mono ?_
      rintro e w1 ⟨rfl, hb⟩
      have q1 := q0.below hb q0.lt
      have p1 := p0.below hb p0.lt
      have u1 := u0.below hb u0.lt
      have hB1 := hB0.trans (hb.mono hB0.size)
      clear hb
      have c10 : w1.cell? ⟨B1, 0, none⟩ = some (Value.int .i64 s.st) := q1.cell 0 rfl
      have c11 : w1.cell? ⟨B1, 1, none⟩ = some (Value.int .i64 s.ow) := q1.cell 1 rfl
      have c12 : w1.cell? ⟨B1, 2, none⟩ = some (Value.int .i64 s.sr) := q1.cell 2 rfl
      have c13 : w1.cell? ⟨B1, 3, none⟩ = some (Value.bool s.br) := q1.cell 3 rfl
      have c14 : w1.cell? ⟨B1, 4, none⟩ = some (Value.bool s.ma) := q1.cell 4 rfl
      have c15 : w1.cell? ⟨B1, 5, none⟩ = some (Value.int .i64 s.us) := q1.cell 5 rfl
      have c16 : w1.cell? ⟨B1, 6, none⟩ = some (Value.int .i64 s.ge) := q1.cell 6 rfl
      have c17 : w1.cell? ⟨B1, 7, none⟩ = some (Value.int .i64 s.ep) := q1.cell 7 rfl
      have c18 : w1.cell? ⟨B1, 8, none⟩ = some (Value.int .i64 s.ve) := q1.cell 8 rfl
      have d10 : w1.cell? ⟨B1 + 1, 0, none⟩ = some (Value.int .i64 0) := p1.cell 0 rfl
      have d11 : w1.cell? ⟨B1 + 1, 1, none⟩ = some (Value.int .i64 0) := p1.cell 1 rfl
      have d12 : w1.cell? ⟨B1 + 1, 2, none⟩ = some (Value.int .i64 0) := p1.cell 2 rfl
      have d13 : w1.cell? ⟨B1 + 1, 3, none⟩ = some (Value.bool false) := p1.cell 3 rfl
      have d14 : w1.cell? ⟨B1 + 1, 4, none⟩ = some (Value.bool false) := p1.cell 4 rfl
      have d15 : w1.cell? ⟨B1 + 1, 5, none⟩ = some (Value.int .i64 0) := p1.cell 5 rfl
      have d16 : w1.cell? ⟨B1 + 1, 6, none⟩ = some (Value.int .i64 0) := p1.cell 6 rfl
      have d17 : w1.cell? ⟨B1 + 1, 7, none⟩ = some (Value.int .i64 0) := p1.cell 7 rfl
      have d18 : w1.cell? ⟨B1 + 1, 8, none⟩ = some (Value.int .i64 0) := p1.cell 8 rfl
      have g10 : w1.frozen? ⟨B1 + 1, 0, none⟩ = false := p1.frozen 0
      have g11 : w1.frozen? ⟨B1 + 1, 1, none⟩ = false := p1.frozen 1
      have g12 : w1.frozen? ⟨B1 + 1, 2, none⟩ = false := p1.frozen 2
      have g13 : w1.frozen? ⟨B1 + 1, 3, none⟩ = false := p1.frozen 3
      have g14 : w1.frozen? ⟨B1 + 1, 4, none⟩ = false := p1.frozen 4
      have g15 : w1.frozen? ⟨B1 + 1, 5, none⟩ = false := p1.frozen 5
      have g16 : w1.frozen? ⟨B1 + 1, 6, none⟩ = false := p1.frozen 6
      have g17 : w1.frozen? ⟨B1 + 1, 7, none⟩ = false := p1.frozen 7
      have g18 : w1.frozen? ⟨B1 + 1, 8, none⟩ = false := p1.frozen 8
      refine hK.out _ _ ⟨c10, c11, c12, c13, c14, c15, c16, c17, c18⟩ (fun hS => ?_)
      clear hK K
      try simp only [Act.put, List.setIfInBounds_toArray, List.set_cons_zero, List.set_cons_succ]
      refine wpAnyH_take (i := 6) (oi := { dst := some 265, op := Op.move (Operand.tmp 264), type := 4, pos := "ref.go:104", after := #[{ on := 5, ground := Ground.data }, { on := 2, ground := Ground.chain }], guard := none }) (v := ?v6_220) rfl (by kernel_rfl) (by kernel_rfl) (by kernel_rfl) (fun _ _ _ h => h) (Or.inl ⟨by rfl, ?hy6_220⟩) hS ?rest6_220
      case hy6_220 =>
        intro w hSw
        (try dsimp only at hSw)
        go_simp
        try with_reducible rfl
      try simp only [Act.put, List.setIfInBounds_toArray, List.set_cons_zero, List.set_cons_succ]
      refine wpAnyH_take (i := 7) (oi := { dst := some 266, op := Op.move (Operand.tmp 11), type := 4, pos := "ref.go:104", after := #[{ on := 6, ground := Ground.guard }, { on := 9, ground := Ground.gcOnly Departure.lateStores }], guard := some (6, true) }) (v := undef) rfl (by kernel_rfl) (by kernel_rfl) (by kernel_rfl) (fun _ _ _ h => h) (Or.inr ⟨by rfl, rfl⟩) hS ?_
      try simp only [Act.put, List.setIfInBounds_toArray, List.set_cons_zero, List.set_cons_succ]
      refine wpAnyH_take (i := 8) (oi := { dst := some 267, op := Op.pick (Operand.tmp 265) (Operand.tmp 266) (Operand.const (Value.bool false)), type := 4, pos := "ref.go:104", after := #[{ on := 6, ground := Ground.data }, { on := 7, ground := Ground.data }, { on := 9, ground := Ground.gcOnly Departure.lateStores }], guard := none }) (v := ?v8_221) rfl (by kernel_rfl) (by kernel_rfl) (by kernel_rfl) (fun _ _ _ h => h) (Or.inl ⟨by rfl, ?hy8_221⟩) hS ?rest8_221
      case hy8_221 =>
        intro w hSw
        (try dsimp only at hSw)
        go_simp
        try with_reducible rfl
      try simp only [Act.put, List.setIfInBounds_toArray, List.set_cons_zero, List.set_cons_succ]
      refine wpAnyH_ready (rs := [9]) (by kernel_rfl) (by simp) ?_
      refine AllReadyH.cons (o := { dst := none, op := Op.store 23 (Operand.tmp 8) (Operand.tmp 261), type := 0, pos := "ref.go:104", after := #[{ on := 2, ground := Ground.data }, { on := 6, ground := Ground.chain }, { on := 0, ground := Ground.phase }, { on := 1, ground := Ground.phase }, { on := 2, ground := Ground.phase }, { on := 3, ground := Ground.textOnly Departure.lateStores }, { on := 4, ground := Ground.textOnly Departure.lateStores }, { on := 5, ground := Ground.textOnly Departure.lateStores }, { on := 6, ground := Ground.textOnly Departure.lateStores }, { on := 7, ground := Ground.textOnly Departure.lateStores }, { on := 8, ground := Ground.textOnly Departure.lateStores }], guard := none }) rfl (fun K hK => ?_) AllReadyH.nil
      go_simp
      refine hK.out _ _ (by (try dsimp only); go_keep) (fun hS => ?_)
      clear hK K
      try simp only [Act.put, List.setIfInBounds_toArray, List.set_cons_zero, List.set_cons_succ]
      refine wpAnyH_take (i := 10) (oi := { dst := some 9, op := Op.assign (Operand.tmp 267), type := 4, pos := "ref.go:104", after := #[{ on := 8, ground := Ground.data }, { on := 9, ground := Ground.chain }, { on := 0, ground := Ground.phase }, { on := 1, ground := Ground.phase }, { on := 2, ground := Ground.phase }, { on := 3, ground := Ground.phase }, { on := 4, ground := Ground.phase }, { on := 5, ground := Ground.phase }, { on := 6, ground := Ground.phase }, { on := 7, ground := Ground.phase }, { on := 8, ground := Ground.phase }, { on := 9, ground := Ground.phase }], guard := none }) (v := ?v10_222) rfl (by kernel_rfl) (by kernel_rfl) (by kernel_rfl) (fun _ _ _ h => h) (Or.inl ⟨by rfl, ?hy10_222⟩) hS ?rest10_222
      case hy10_222 =>
        intro w hSw
        (try dsimp only at hSw)
        go_simp
        try with_reducible rfl
      try simp only [Act.put, List.setIfInBounds_toArray, List.set_cons_zero, List.set_cons_succ]
      refine wpAnyH_done (by kernel_rfl) ?_ _
      have rz := row9 p1 (Value.int .i64 (s.plain 1 a).st) (Value.int .i64 (s.plain 1 a).ow) (Value.int .i64 (s.plain 1 a).sr) (Value.bool (s.plain 1 a).br) (Value.bool (s.plain 1 a).ma) (Value.int .i64 (s.plain 1 a).us) (Value.int .i64 (s.plain 1 a).ge) (Value.int .i64 (s.plain 1 a).ep) (Value.int .i64 (s.plain 1 a).ve)
      have hz := below9 (n := w.heap.size) (A := w) (b := B1 + 1) hB1 (by omega) (Value.int .i64 (s.plain 1 a).st) (Value.int .i64 (s.plain 1 a).ow) (Value.int .i64 (s.plain 1 a).sr) (Value.bool (s.plain 1 a).br) (Value.bool (s.plain 1 a).ma) (Value.int .i64 (s.plain 1 a).us) (Value.int .i64 (s.plain 1 a).ge) (Value.int .i64 (s.plain 1 a).ep) (Value.int .i64 (s.plain 1 a).ve)
      go_wp2
      refine bodyPost_ret (res_pair (p := 8) (u := 9) rfl _ _ _ _ rfl rz rfl) rfl ⟨rfl, hz⟩
end Go.Proofs.YtdiipmejkanhfaaDoor
