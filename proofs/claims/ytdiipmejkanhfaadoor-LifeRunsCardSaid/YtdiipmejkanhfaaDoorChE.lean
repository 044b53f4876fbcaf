/- What is done with a slot, each thing by itself; nothing that was there changes. -/
import Derived.Test.YtdiipmejkanhfaaDoorChD
namespace Go.Proofs.YtdiipmejkanhfaaDoor
open Go.RowKit
attribute [local go_sem ↓] Go.wp_at_zero Go.wp_at_succ

theorem open_fin {st ow sr us ge ep ve a mo L M : Int} {ma : Bool} (h1 : minB ⟨st, ow, sr, false, ma, us, ge, ep, ve⟩ a 3 = true) (EL : ∀ P : Int → Prop, P (lowI sr) → P L) (EM : ∀ P : Int → Prop, P (min8 mo) → P M) : decide (L < M) = chB 14 ⟨st, ow, sr, false, ma, us, ge, ep, ve⟩ a mo := by
  have e1 : L = lowI sr := EL (fun z => z = lowI sr) rfl
  have e2 : M = min8 mo := EM (fun z => z = min8 mo) rfl
  rw [e1, e2]
  show _ = (minB _ a 3 && !false && decide (lowI sr < min8 mo))
  rw [h1]
  rfl
theorem hBB (w : World) (o p : Obj) : Below w.heap.size w ((w.alloc o).alloc p) := ((Below.refl _ _).alloc (Nat.le_refl _) _).alloc (by simp) _
theorem not_bdF : ∀ n : Fin 256, 0 < bits .xor .u64 IntKind.u64.max (IntKind.u64.wrap (n.val : Int)) ∧ bits .xor .u64 IntKind.u64.max (IntKind.u64.wrap (n.val : Int)) ≤ 18446744073709551615 := by decide +kernel
theorem not_bd {sr : Int} (h : 0 ≤ sr ∧ sr ≤ 255) : 0 < bits .xor .u64 IntKind.u64.max (IntKind.u64.wrap sr) ∧ bits .xor .u64 IntKind.u64.max (IntKind.u64.wrap sr) ≤ 18446744073709551615 := by
  have e := not_bdF ⟨sr.toNat, by omega⟩
  have e2 : ((sr.toNat : Nat) : Int) = sr := by omega
  simp only [e2] at e
  exact e
set_option maxRecDepth 100000 in
set_option maxHeartbeats 4000000 in
theorem m14_any (s : Sl) (a mo : Int) (w : World) (hr : Rt s) (hT : TzAt w) :
    Calls Tryd.prog 34 #[Value.agg #[Value.int .i64 s.st, Value.int .i64 s.ow, Value.int .i64 s.sr, Value.bool s.br, Value.bool s.ma, Value.int .i64 s.us, Value.int .i64 s.ge, Value.int .i64 s.ep, Value.int .i64 s.ve, Value.int .i64 a, Value.int .i64 mo]] w fun e w' => e = .returned (.tuple #[.agg #[Value.int .i64 (chS 14 s a mo).st, Value.int .i64 (chS 14 s a mo).ow, Value.int .i64 (chS 14 s a mo).sr, Value.bool (chS 14 s a mo).br, Value.bool (chS 14 s a mo).ma, Value.int .i64 (chS 14 s a mo).us, Value.int .i64 (chS 14 s a mo).ge, Value.int .i64 (chS 14 s a mo).ep, Value.int .i64 (chS 14 s a mo).ve], .bool (chB 14 s a mo)]) ∧ Below w.heap.size w w' := by
  have hx := not_bd hr.sr
  have hT1 := hT.below (hBB w (.cells #[Value.int .i64 s.st, Value.int .i64 s.ow, Value.int .i64 s.sr, Value.bool s.br, Value.bool s.ma, Value.int .i64 s.us, Value.int .i64 s.ge, Value.int .i64 s.ep, Value.int .i64 s.ve, Value.int .i64 a, Value.int .i64 mo] 39) (.cells #[Value.int .i64 0, Value.int .i64 0, Value.int .i64 0, Value.bool false, Value.bool false, Value.int .i64 0, Value.int .i64 0, Value.int .i64 0, Value.int .i64 0] 23)) hT.lt
  obtain ⟨st, ow, sr, br, ma, us, ge, ep, ve⟩ := s
  have hL : 0 ≤ lowI sr ∧ lowI sr ≤ 63 := tzI_bd _
  obtain ⟨L, eL⟩ : ∃ L, L = lowI sr := ⟨_, rfl⟩
  obtain ⟨M, eM⟩ : ∃ M, M = min8 mo := ⟨_, rfl⟩
  have EM : ∀ P : Int → Prop, P (min8 mo) → P M := fun P h => eM ▸ h
  have hm : (if 8 < mo then 8 else mo) = M := eM.symm
  clear eM
  have EL : ∀ P : Int → Prop, P (lowI sr) → P L := fun P h => eL ▸ h
  rw [← eL] at hL
  clear eL
  cases br with
  | true =>
    cases h1 : (minB ⟨st, ow, sr, true, ma, us, ge, ep, ve⟩ a 3) with
    | true =>
      go_enter Tryd.func34, Tryd.ntmps34
      go_wp2_with fail
      refine (tz_any _ _ hT1 hx.1 hx.2).mono ?_
      rintro e w1 ⟨rfl, rfl⟩
      rw [show tzI (bits .xor .u64 IntKind.u64.max (IntKind.u64.wrap sr)) = L from EL (fun z => lowI sr = z) rfl]
      clear hx hT1 hT hr
      go_wp2_with fail
      have hB0 : Below w.heap.size w ((w.alloc (.cells #[Value.int .i64 st, Value.int .i64 ow, Value.int .i64 sr, Value.bool true, Value.bool ma, Value.int .i64 us, Value.int .i64 ge, Value.int .i64 ep, Value.int .i64 ve, Value.int .i64 a, Value.int .i64 mo] 39)).alloc (.cells #[Value.int .i64 0, Value.int .i64 0, Value.int .i64 0, Value.bool false, Value.bool false, Value.int .i64 0, Value.int .i64 0, Value.int .i64 0, Value.int .i64 0] 23)) := ((Below.refl _ _).alloc (Nat.le_refl _) _).alloc (by simp) _
      have r0 := (RowAt.new w 39 #[Value.int .i64 st, Value.int .i64 ow, Value.int .i64 sr, Value.bool true, Value.bool ma, Value.int .i64 us, Value.int .i64 ge, Value.int .i64 ep, Value.int .i64 ve, Value.int .i64 a, Value.int .i64 mo]).alloc (.cells #[Value.int .i64 0, Value.int .i64 0, Value.int .i64 0, Value.bool false, Value.bool false, Value.int .i64 0, Value.int .i64 0, Value.int .i64 0, Value.int .i64 0] 23)
      have r1 := new2 w (.cells #[Value.int .i64 st, Value.int .i64 ow, Value.int .i64 sr, Value.bool true, Value.bool ma, Value.int .i64 us, Value.int .i64 ge, Value.int .i64 ep, Value.int .i64 ve, Value.int .i64 a, Value.int .i64 mo] 39) 23 #[Value.int .i64 0, Value.int .i64 0, Value.int .i64 0, Value.bool false, Value.bool false, Value.int .i64 0, Value.int .i64 0, Value.int .i64 0, Value.int .i64 0]
      obtain ⟨W, hW⟩ : ∃ W, W = (w.alloc (.cells #[Value.int .i64 st, Value.int .i64 ow, Value.int .i64 sr, Value.bool true, Value.bool ma, Value.int .i64 us, Value.int .i64 ge, Value.int .i64 ep, Value.int .i64 ve, Value.int .i64 a, Value.int .i64 mo] 39)).alloc (.cells #[Value.int .i64 0, Value.int .i64 0, Value.int .i64 0, Value.bool false, Value.bool false, Value.int .i64 0, Value.int .i64 0, Value.int .i64 0, Value.int .i64 0] 23) := ⟨_, rfl⟩
      rw [← hW] at hB0 r0 r1 ⊢
      clear hW
      obtain ⟨B1, e1⟩ : ∃ B1, B1 = w.heap.size := ⟨_, rfl⟩
      have hle : w.heap.size ≤ B1 := by omega
      rw [← e1] at r0 r1 ⊢
      clear e1
      have hne : B1 ≠ B1 + 1 := by omega
      have c2 : W.cell? ⟨B1, 2, none⟩ = some (.int .i64 sr) := r0.cell 2 rfl
      have f2 : W.frozen? ⟨B1, 2, none⟩ = false := r0.frozen 2
      go_region
      clear c2 f2
      have eO : bits .or .i64 sr (wrap64 (2 ^ L.toNat)) = opnI sr := EL (fun z => bits .or .i64 sr (wrap64 (2 ^ z.toNat)) = opnI sr) rfl
      rw [eO]
      replace r0 : RowAt _ B1 39 #[Value.int .i64 st, Value.int .i64 ow, Value.int .i64 (opnI sr), Value.bool true, Value.bool ma, Value.int .i64 us, Value.int .i64 ge, Value.int .i64 ep, Value.int .i64 ve, Value.int .i64 a, Value.int .i64 mo] := (r0.put 2 (.int .i64 (opnI sr))).drew
      replace r1 := (r1.putOther ⟨B1, 2, none⟩ (Ne.symm hne) (.int .i64 (opnI sr))).drew
      replace hB0 := (hB0.setCell hle (p := ⟨B1, 2, none⟩) (.int .i64 (opnI sr))).drew
      clear eO
      obtain ⟨V, hV⟩ : ∃ V, V = (W.setCell ⟨B1, 2, none⟩ (.int .i64 (opnI sr))).drew := ⟨_, rfl⟩
      rw [← hV] at r0 r1 hB0 ⊢
      clear hV
      go_wp2_with fail
      have q0 := r0.drew
      have p0 := r1.drew
      have hBd := hB0.drew
      clear hB0 r0 r1
      have c00 : V.drew.cell? ⟨B1, 0, none⟩ = some (Value.int .i64 st) := q0.cell 0 rfl
      have c01 : V.drew.cell? ⟨B1, 1, none⟩ = some (Value.int .i64 ow) := q0.cell 1 rfl
      have c02 : V.drew.cell? ⟨B1, 2, none⟩ = some (Value.int .i64 (opnI sr)) := q0.cell 2 rfl
      have c03 : V.drew.cell? ⟨B1, 3, none⟩ = some (Value.bool true) := q0.cell 3 rfl
      have c04 : V.drew.cell? ⟨B1, 4, none⟩ = some (Value.bool ma) := q0.cell 4 rfl
      have c05 : V.drew.cell? ⟨B1, 5, none⟩ = some (Value.int .i64 us) := q0.cell 5 rfl
      have c06 : V.drew.cell? ⟨B1, 6, none⟩ = some (Value.int .i64 ge) := q0.cell 6 rfl
      have c07 : V.drew.cell? ⟨B1, 7, none⟩ = some (Value.int .i64 ep) := q0.cell 7 rfl
      have c08 : V.drew.cell? ⟨B1, 8, none⟩ = some (Value.int .i64 ve) := q0.cell 8 rfl
      have c09 : V.drew.cell? ⟨B1, 9, none⟩ = some (Value.int .i64 a) := q0.cell 9 rfl
      have c010 : V.drew.cell? ⟨B1, 10, none⟩ = some (Value.int .i64 mo) := q0.cell 10 rfl
      have d00 : V.drew.cell? ⟨B1 + 1, 0, none⟩ = some (Value.int .i64 0) := p0.cell 0 rfl
      have g00 : V.drew.frozen? ⟨B1 + 1, 0, none⟩ = false := p0.frozen 0
      have d01 : V.drew.cell? ⟨B1 + 1, 1, none⟩ = some (Value.int .i64 0) := p0.cell 1 rfl
      have g01 : V.drew.frozen? ⟨B1 + 1, 1, none⟩ = false := p0.frozen 1
      have d02 : V.drew.cell? ⟨B1 + 1, 2, none⟩ = some (Value.int .i64 0) := p0.cell 2 rfl
      have g02 : V.drew.frozen? ⟨B1 + 1, 2, none⟩ = false := p0.frozen 2
      have d03 : V.drew.cell? ⟨B1 + 1, 3, none⟩ = some (Value.bool false) := p0.cell 3 rfl
      have g03 : V.drew.frozen? ⟨B1 + 1, 3, none⟩ = false := p0.frozen 3
      have d04 : V.drew.cell? ⟨B1 + 1, 4, none⟩ = some (Value.bool false) := p0.cell 4 rfl
      have g04 : V.drew.frozen? ⟨B1 + 1, 4, none⟩ = false := p0.frozen 4
      have d05 : V.drew.cell? ⟨B1 + 1, 5, none⟩ = some (Value.int .i64 0) := p0.cell 5 rfl
      have g05 : V.drew.frozen? ⟨B1 + 1, 5, none⟩ = false := p0.frozen 5
      have d06 : V.drew.cell? ⟨B1 + 1, 6, none⟩ = some (Value.int .i64 0) := p0.cell 6 rfl
      have g06 : V.drew.frozen? ⟨B1 + 1, 6, none⟩ = false := p0.frozen 6
      have d07 : V.drew.cell? ⟨B1 + 1, 7, none⟩ = some (Value.int .i64 0) := p0.cell 7 rfl
      have g07 : V.drew.frozen? ⟨B1 + 1, 7, none⟩ = false := p0.frozen 7
      have d08 : V.drew.cell? ⟨B1 + 1, 8, none⟩ = some (Value.int .i64 0) := p0.cell 8 rfl
      have g08 : V.drew.frozen? ⟨B1 + 1, 8, none⟩ = false := p0.frozen 8
      refine wp_region_held_drew (S := (fun w' => w'.cell? ⟨B1, 0, none⟩ = some (Value.int .i64 st) ∧ w'.cell? ⟨B1, 1, none⟩ = some (Value.int .i64 ow) ∧ w'.cell? ⟨B1, 2, none⟩ = some (Value.int .i64 (opnI sr)) ∧ w'.cell? ⟨B1, 3, none⟩ = some (Value.bool true) ∧ w'.cell? ⟨B1, 4, none⟩ = some (Value.bool ma) ∧ w'.cell? ⟨B1, 5, none⟩ = some (Value.int .i64 us) ∧ w'.cell? ⟨B1, 6, none⟩ = some (Value.int .i64 ge) ∧ w'.cell? ⟨B1, 7, none⟩ = some (Value.int .i64 ep) ∧ w'.cell? ⟨B1, 8, none⟩ = some (Value.int .i64 ve) ∧ w'.cell? ⟨B1, 9, none⟩ = some (Value.int .i64 a) ∧ w'.cell? ⟨B1, 10, none⟩ = some (Value.int .i64 mo))) (by kernel_rfl) ⟨c00, c01, c02, c03, c04, c05, c06, c07, c08, c09, c010⟩ (fun hS => ?_)
      generalize V.drew = WD at *
      refine wpAnyH_take (i := 0) (oi := { dst := some 19, op := Op.fieldAddr 39 (Operand.tmp 1) 0, type := 0, pos := "life.go:167", after := #[], guard := none }) (v := ?v0_103) rfl (by kernel_rfl) (by kernel_rfl) (by kernel_rfl) (fun _ _ _ h => h) (Or.inl ⟨by rfl, ?hy0_103⟩) hS ?rest0_103
      case hy0_103 =>
        intro w hSw
        (try dsimp only at hSw)
        go_simp
        try with_reducible rfl
      try simp only [Act.put, List.setIfInBounds_toArray, List.set_cons_zero, List.set_cons_succ]
      refine wpAnyH_take (i := 1) (oi := { dst := some 20, op := Op.load 23 (Operand.tmp 19), type := 23, pos := "life.go:167", after := #[{ on := 0, ground := Ground.data }], guard := none }) (v := ?v1_104) rfl (by kernel_rfl) (by kernel_rfl) (by kernel_rfl) (fun _ _ _ h => h) (Or.inl ⟨by rfl, ?hy1_104⟩) hS ?rest1_104
      case hy1_104 =>
        intro w hSw
        (try dsimp only at hSw)
        go_simp
        try with_reducible rfl
      try simp only [Act.put, List.setIfInBounds_toArray, List.set_cons_zero, List.set_cons_succ]
      refine wpAnyH_take (i := 2) (oi := { dst := some 21, op := Op.load 39 (Operand.tmp 1), type := 39, pos := "life.go:167", after := #[], guard := none }) (v := ?v2_105) rfl (by kernel_rfl) (by kernel_rfl) (by kernel_rfl) (fun _ _ _ h => h) (Or.inl ⟨by rfl, ?hy2_105⟩) hS ?rest2_105
      case hy2_105 =>
        intro w hSw
        (try dsimp only at hSw)
        go_simp
        try with_reducible rfl
      try simp only [Act.put, List.setIfInBounds_toArray, List.set_cons_zero, List.set_cons_succ]
      refine wpAnyH_ready (rs := [3]) (by kernel_rfl) (by simp) ?_
      refine AllReadyH.cons (o := { dst := some 22, op := Op.call { callee := Callee.value (Operand.func 48), args := #[Operand.tmp 21, Operand.const (Value.int IntKind.i64 3)], argTypes := #[39, 3] }, type := 4, pos := "life.go:167", after := #[{ on := 2, ground := Ground.data }], guard := none }) rfl (fun K hK => ?_) AllReadyH.nil
      go_simp
      refine (mine_is ⟨st, ow, opnI sr, true, ma, us, ge, ep, ve⟩ a mo 3 _ _ h1).mono ?_
      rintro e w1 ⟨rfl, hb1⟩
      have q1 := q0.below hb1 (by simpa using q0.lt)
      have p1 := p0.below hb1 (by simpa using p0.lt)
      have hB1 := hBd.trans (hb1.mono (by simpa using hBd.size))
      have c10 : w1.cell? ⟨B1, 0, none⟩ = some (Value.int .i64 st) := q1.cell 0 rfl
      have c11 : w1.cell? ⟨B1, 1, none⟩ = some (Value.int .i64 ow) := q1.cell 1 rfl
      have c12 : w1.cell? ⟨B1, 2, none⟩ = some (Value.int .i64 (opnI sr)) := q1.cell 2 rfl
      have c13 : w1.cell? ⟨B1, 3, none⟩ = some (Value.bool true) := q1.cell 3 rfl
      have c14 : w1.cell? ⟨B1, 4, none⟩ = some (Value.bool ma) := q1.cell 4 rfl
      have c15 : w1.cell? ⟨B1, 5, none⟩ = some (Value.int .i64 us) := q1.cell 5 rfl
      have c16 : w1.cell? ⟨B1, 6, none⟩ = some (Value.int .i64 ge) := q1.cell 6 rfl
      have c17 : w1.cell? ⟨B1, 7, none⟩ = some (Value.int .i64 ep) := q1.cell 7 rfl
      have c18 : w1.cell? ⟨B1, 8, none⟩ = some (Value.int .i64 ve) := q1.cell 8 rfl
      have c19 : w1.cell? ⟨B1, 9, none⟩ = some (Value.int .i64 a) := q1.cell 9 rfl
      have c110 : w1.cell? ⟨B1, 10, none⟩ = some (Value.int .i64 mo) := q1.cell 10 rfl
      have d10 : w1.cell? ⟨B1 + 1, 0, none⟩ = some (Value.int .i64 0) := p1.cell 0 rfl
      have g10 : w1.frozen? ⟨B1 + 1, 0, none⟩ = false := p1.frozen 0
      have d11 : w1.cell? ⟨B1 + 1, 1, none⟩ = some (Value.int .i64 0) := p1.cell 1 rfl
      have g11 : w1.frozen? ⟨B1 + 1, 1, none⟩ = false := p1.frozen 1
      have d12 : w1.cell? ⟨B1 + 1, 2, none⟩ = some (Value.int .i64 0) := p1.cell 2 rfl
      have g12 : w1.frozen? ⟨B1 + 1, 2, none⟩ = false := p1.frozen 2
      have d13 : w1.cell? ⟨B1 + 1, 3, none⟩ = some (Value.bool false) := p1.cell 3 rfl
      have g13 : w1.frozen? ⟨B1 + 1, 3, none⟩ = false := p1.frozen 3
      have d14 : w1.cell? ⟨B1 + 1, 4, none⟩ = some (Value.bool false) := p1.cell 4 rfl
      have g14 : w1.frozen? ⟨B1 + 1, 4, none⟩ = false := p1.frozen 4
      have d15 : w1.cell? ⟨B1 + 1, 5, none⟩ = some (Value.int .i64 0) := p1.cell 5 rfl
      have g15 : w1.frozen? ⟨B1 + 1, 5, none⟩ = false := p1.frozen 5
      have d16 : w1.cell? ⟨B1 + 1, 6, none⟩ = some (Value.int .i64 0) := p1.cell 6 rfl
      have g16 : w1.frozen? ⟨B1 + 1, 6, none⟩ = false := p1.frozen 6
      have d17 : w1.cell? ⟨B1 + 1, 7, none⟩ = some (Value.int .i64 0) := p1.cell 7 rfl
      have g17 : w1.frozen? ⟨B1 + 1, 7, none⟩ = false := p1.frozen 7
      have d18 : w1.cell? ⟨B1 + 1, 8, none⟩ = some (Value.int .i64 0) := p1.cell 8 rfl
      have g18 : w1.frozen? ⟨B1 + 1, 8, none⟩ = false := p1.frozen 8
      refine hK.out _ _ ⟨c10, c11, c12, c13, c14, c15, c16, c17, c18, c19, c110⟩ (fun hS => ?_)
      clear hK K
      try simp only [Act.put, List.setIfInBounds_toArray, List.set_cons_zero, List.set_cons_succ]
      refine wpAnyH_take (i := 4) (oi := { dst := some 23, op := Op.move (Operand.tmp 22), type := 4, pos := "life.go:167", after := #[{ on := 3, ground := Ground.data }, { on := 3, ground := Ground.chain }], guard := none }) (v := ?v4_106) rfl (by kernel_rfl) (by kernel_rfl) (by kernel_rfl) (fun _ _ _ h => h) (Or.inl ⟨by rfl, ?hy4_106⟩) hS ?rest4_106
      case hy4_106 =>
        intro w hSw
        (try dsimp only at hSw)
        go_simp
        try with_reducible rfl
      try simp only [Act.put, List.setIfInBounds_toArray, List.set_cons_zero, List.set_cons_succ]
      refine wpAnyH_take (i := 5) (oi := { dst := some 24, op := Op.fieldAddr 39 (Operand.tmp 1) 0, type := 0, pos := "life.go:167", after := #[{ on := 4, ground := Ground.guard }], guard := some (4, true) }) (v := ?v5_107) rfl (by kernel_rfl) (by kernel_rfl) (by kernel_rfl) (fun _ _ _ h => h) (Or.inl ⟨by rfl, ?hy5_107⟩) hS ?rest5_107
      case hy5_107 =>
        intro w hSw
        (try dsimp only at hSw)
        go_simp
        try with_reducible rfl
      try simp only [Act.put, List.setIfInBounds_toArray, List.set_cons_zero, List.set_cons_succ]
      refine wpAnyH_take (i := 6) (oi := { dst := some 25, op := Op.fieldAddr 23 (Operand.tmp 24) 3, type := 0, pos := "life.go:167", after := #[{ on := 5, ground := Ground.data }, { on := 4, ground := Ground.guard }], guard := some (4, true) }) (v := ?v6_108) rfl (by kernel_rfl) (by kernel_rfl) (by kernel_rfl) (fun _ _ _ h => h) (Or.inl ⟨by rfl, ?hy6_108⟩) hS ?rest6_108
      case hy6_108 =>
        intro w hSw
        (try dsimp only at hSw)
        go_simp
        try with_reducible rfl
      try simp only [Act.put, List.setIfInBounds_toArray, List.set_cons_zero, List.set_cons_succ]
      refine wpAnyH_take (i := 7) (oi := { dst := some 26, op := Op.load 4 (Operand.tmp 25), type := 4, pos := "life.go:167", after := #[{ on := 6, ground := Ground.data }, { on := 4, ground := Ground.guard }], guard := some (4, true) }) (v := ?v7_109) rfl (by kernel_rfl) (by kernel_rfl) (by kernel_rfl) (fun _ _ _ h => h) (Or.inl ⟨by rfl, ?hy7_109⟩) hS ?rest7_109
      case hy7_109 =>
        intro w hSw
        (try dsimp only at hSw)
        go_simp
        try with_reducible rfl
      try simp only [Act.put, List.setIfInBounds_toArray, List.set_cons_zero, List.set_cons_succ]
      refine wpAnyH_take (i := 8) (oi := { dst := some 27, op := Op.unOp UnOp.not 4 (Operand.tmp 26), type := 4, pos := "life.go:167", after := #[{ on := 7, ground := Ground.data }, { on := 4, ground := Ground.guard }], guard := some (4, true) }) (v := ?v8_110) rfl (by kernel_rfl) (by kernel_rfl) (by kernel_rfl) (fun _ _ _ h => h) (Or.inl ⟨by rfl, ?hy8_110⟩) hS ?rest8_110
      case hy8_110 =>
        intro w hSw
        (try dsimp only at hSw)
        go_simp
        try with_reducible rfl
      try simp only [Act.put, List.setIfInBounds_toArray, List.set_cons_zero, List.set_cons_succ]
      refine wpAnyH_take (i := 9) (oi := { dst := some 28, op := Op.pick (Operand.tmp 23) (Operand.tmp 27) (Operand.const (Value.bool false)), type := 4, pos := "life.go:167", after := #[{ on := 4, ground := Ground.data }, { on := 8, ground := Ground.data }], guard := none }) (v := ?v9_111) rfl (by kernel_rfl) (by kernel_rfl) (by kernel_rfl) (fun _ _ _ h => h) (Or.inl ⟨by rfl, ?hy9_111⟩) hS ?rest9_111
      case hy9_111 =>
        intro w hSw
        (try dsimp only at hSw)
        go_simp
        try with_reducible rfl
      try simp only [Act.put, List.setIfInBounds_toArray, List.set_cons_zero, List.set_cons_succ]
      refine wpAnyH_take (i := 10) (oi := { dst := some 29, op := Op.move (Operand.tmp 28), type := 4, pos := "life.go:167", after := #[{ on := 9, ground := Ground.data }, { on := 4, ground := Ground.chain }], guard := none }) (v := ?v10_112) rfl (by kernel_rfl) (by kernel_rfl) (by kernel_rfl) (fun _ _ _ h => h) (Or.inl ⟨by rfl, ?hy10_112⟩) hS ?rest10_112
      case hy10_112 =>
        intro w hSw
        (try dsimp only at hSw)
        go_simp
        try with_reducible rfl
      try simp only [Act.put, List.setIfInBounds_toArray, List.set_cons_zero, List.set_cons_succ]
      refine wpAnyH_take (i := 11) (oi := { dst := some 30, op := Op.move (Operand.tmp 4), type := 3, pos := "life.go:167", after := #[{ on := 10, ground := Ground.guard }, { on := 17, ground := Ground.gcOnly Departure.lateStores }], guard := some (10, true) }) (v := undef) rfl (by kernel_rfl) (by kernel_rfl) (by kernel_rfl) (fun _ _ _ h => h) (Or.inr ⟨by rfl, rfl⟩) hS ?_
      try simp only [Act.put, List.setIfInBounds_toArray, List.set_cons_zero, List.set_cons_succ]
      refine wpAnyH_take (i := 12) (oi := { dst := some 31, op := Op.fieldAddr 39 (Operand.tmp 1) 2, type := 0, pos := "life.go:167", after := #[{ on := 10, ground := Ground.guard }], guard := some (10, true) }) (v := undef) rfl (by kernel_rfl) (by kernel_rfl) (by kernel_rfl) (fun _ _ _ h => h) (Or.inr ⟨by rfl, rfl⟩) hS ?_
      try simp only [Act.put, List.setIfInBounds_toArray, List.set_cons_zero, List.set_cons_succ]
      refine wpAnyH_take (i := 13) (oi := { dst := some 32, op := Op.load 3 (Operand.tmp 31), type := 3, pos := "life.go:167", after := #[{ on := 12, ground := Ground.data }, { on := 10, ground := Ground.guard }], guard := some (10, true) }) (v := undef) rfl (by kernel_rfl) (by kernel_rfl) (by kernel_rfl) (fun _ _ _ h => h) (Or.inr ⟨by rfl, rfl⟩) hS ?_
      try simp only [Act.put, List.setIfInBounds_toArray, List.set_cons_zero, List.set_cons_succ]
      refine wpAnyH_take (i := 14) (oi := { dst := some 33, op := Op.call { callee := Callee.builtin Builtin.min, args := #[Operand.tmp 32, Operand.const (Value.int IntKind.i64 8)], argTypes := #[3, 3] }, type := 3, pos := "life.go:167", after := #[{ on := 13, ground := Ground.data }, { on := 10, ground := Ground.guard }], guard := some (10, true) }) (v := undef) rfl (by kernel_rfl) (by kernel_rfl) (by kernel_rfl) (fun _ _ _ h => h) (Or.inr ⟨by rfl, rfl⟩) hS ?_
      try simp only [Act.put, List.setIfInBounds_toArray, List.set_cons_zero, List.set_cons_succ]
      refine wpAnyH_take (i := 15) (oi := { dst := some 34, op := Op.binOp BinOp.lss 3 (Operand.tmp 30) (Operand.tmp 33) 3, type := 4, pos := "life.go:167", after := #[{ on := 11, ground := Ground.data }, { on := 14, ground := Ground.data }, { on := 10, ground := Ground.guard }, { on := 17, ground := Ground.gcOnly Departure.lateStores }], guard := some (10, true) }) (v := undef) rfl (by kernel_rfl) (by kernel_rfl) (by kernel_rfl) (fun _ _ _ h => h) (Or.inr ⟨by rfl, rfl⟩) hS ?_
      try simp only [Act.put, List.setIfInBounds_toArray, List.set_cons_zero, List.set_cons_succ]
      refine wpAnyH_take (i := 16) (oi := { dst := some 35, op := Op.pick (Operand.tmp 29) (Operand.tmp 34) (Operand.const (Value.bool false)), type := 4, pos := "life.go:167", after := #[{ on := 10, ground := Ground.data }, { on := 15, ground := Ground.data }, { on := 17, ground := Ground.gcOnly Departure.lateStores }], guard := none }) (v := ?v16_113) rfl (by kernel_rfl) (by kernel_rfl) (by kernel_rfl) (fun _ _ _ h => h) (Or.inl ⟨by rfl, ?hy16_113⟩) hS ?rest16_113
      case hy16_113 =>
        intro w hSw
        (try dsimp only at hSw)
        go_simp
        try with_reducible rfl
      try simp only [Act.put, List.setIfInBounds_toArray, List.set_cons_zero, List.set_cons_succ]
      refine wpAnyH_ready (rs := [17]) (by kernel_rfl) (by simp) ?_
      refine AllReadyH.cons (o := { dst := none, op := Op.store 23 (Operand.tmp 2) (Operand.tmp 20), type := 0, pos := "life.go:167", after := #[{ on := 1, ground := Ground.data }, { on := 10, ground := Ground.chain }, { on := 0, ground := Ground.phase }, { on := 1, ground := Ground.phase }, { on := 2, ground := Ground.textOnly Departure.lateStores }, { on := 3, ground := Ground.textOnly Departure.lateStoresUnsure }, { on := 4, ground := Ground.textOnly Departure.lateStores }, { on := 5, ground := Ground.textOnly Departure.lateStores }, { on := 6, ground := Ground.textOnly Departure.lateStores }, { on := 7, ground := Ground.textOnly Departure.lateStores }, { on := 8, ground := Ground.textOnly Departure.lateStores }, { on := 9, ground := Ground.textOnly Departure.lateStores }, { on := 10, ground := Ground.textOnly Departure.lateStores }, { on := 11, ground := Ground.textOnly Departure.lateStores }, { on := 12, ground := Ground.textOnly Departure.lateStores }, { on := 13, ground := Ground.textOnly Departure.lateStores }, { on := 14, ground := Ground.textOnly Departure.lateStoresUnsure }, { on := 15, ground := Ground.textOnly Departure.lateStores }, { on := 16, ground := Ground.textOnly Departure.lateStores }], guard := none }) rfl (fun K hK => ?_) AllReadyH.nil
      go_simp
      refine hK.out _ _ (by (try dsimp only); go_keep) (fun hS => ?_)
      clear hK K
      try simp only [Act.put, List.setIfInBounds_toArray, List.set_cons_zero, List.set_cons_succ]
      refine wpAnyH_take (i := 18) (oi := { dst := some 3, op := Op.assign (Operand.tmp 35), type := 4, pos := "life.go:167", after := #[{ on := 16, ground := Ground.data }, { on := 17, ground := Ground.chain }, { on := 0, ground := Ground.phase }, { on := 1, ground := Ground.phase }, { on := 2, ground := Ground.phase }, { on := 3, ground := Ground.phase }, { on := 4, ground := Ground.phase }, { on := 5, ground := Ground.phase }, { on := 6, ground := Ground.phase }, { on := 7, ground := Ground.phase }, { on := 8, ground := Ground.phase }, { on := 9, ground := Ground.phase }, { on := 10, ground := Ground.phase }, { on := 11, ground := Ground.phase }, { on := 12, ground := Ground.phase }, { on := 13, ground := Ground.phase }, { on := 14, ground := Ground.phase }, { on := 15, ground := Ground.phase }, { on := 16, ground := Ground.phase }, { on := 17, ground := Ground.phase }], guard := none }) (v := ?v18_114) rfl (by kernel_rfl) (by kernel_rfl) (by kernel_rfl) (fun _ _ _ h => h) (Or.inl ⟨by rfl, ?hy18_114⟩) hS ?rest18_114
      case hy18_114 =>
        intro w hSw
        (try dsimp only at hSw)
        go_simp
        try with_reducible rfl
      try simp only [Act.put, List.setIfInBounds_toArray, List.set_cons_zero, List.set_cons_succ]
      refine wpAnyH_done (by kernel_rfl) ?_ _
      have rz := row9 p1 (Value.int .i64 st) (Value.int .i64 ow) (Value.int .i64 (opnI sr)) (Value.bool true) (Value.bool ma) (Value.int .i64 us) (Value.int .i64 ge) (Value.int .i64 ep) (Value.int .i64 ve)
      have hz := below9 (n := w.heap.size) (A := w) (b := B1 + 1) hB1 (by omega) (Value.int .i64 st) (Value.int .i64 ow) (Value.int .i64 (opnI sr)) (Value.bool true) (Value.bool ma) (Value.int .i64 us) (Value.int .i64 ge) (Value.int .i64 ep) (Value.int .i64 ve)
      go_wp2
      refine bodyPost_ret (res_pair (p := 2) (u := 3) rfl _ _ _ _ rfl rz rfl) rfl ⟨ret_pair (by first | (simp [chB, h1]; done) | exact open_fin h1 EL EM), hz⟩
    | false =>
      go_enter Tryd.func34, Tryd.ntmps34
      go_wp2_with fail
      refine (tz_any _ _ hT1 hx.1 hx.2).mono ?_
      rintro e w1 ⟨rfl, rfl⟩
      rw [show tzI (bits .xor .u64 IntKind.u64.max (IntKind.u64.wrap sr)) = L from EL (fun z => lowI sr = z) rfl]
      clear hx hT1 hT hr
      go_wp2_with fail
      have hB0 : Below w.heap.size w ((w.alloc (.cells #[Value.int .i64 st, Value.int .i64 ow, Value.int .i64 sr, Value.bool true, Value.bool ma, Value.int .i64 us, Value.int .i64 ge, Value.int .i64 ep, Value.int .i64 ve, Value.int .i64 a, Value.int .i64 mo] 39)).alloc (.cells #[Value.int .i64 0, Value.int .i64 0, Value.int .i64 0, Value.bool false, Value.bool false, Value.int .i64 0, Value.int .i64 0, Value.int .i64 0, Value.int .i64 0] 23)) := ((Below.refl _ _).alloc (Nat.le_refl _) _).alloc (by simp) _
      have r0 := (RowAt.new w 39 #[Value.int .i64 st, Value.int .i64 ow, Value.int .i64 sr, Value.bool true, Value.bool ma, Value.int .i64 us, Value.int .i64 ge, Value.int .i64 ep, Value.int .i64 ve, Value.int .i64 a, Value.int .i64 mo]).alloc (.cells #[Value.int .i64 0, Value.int .i64 0, Value.int .i64 0, Value.bool false, Value.bool false, Value.int .i64 0, Value.int .i64 0, Value.int .i64 0, Value.int .i64 0] 23)
      have r1 := new2 w (.cells #[Value.int .i64 st, Value.int .i64 ow, Value.int .i64 sr, Value.bool true, Value.bool ma, Value.int .i64 us, Value.int .i64 ge, Value.int .i64 ep, Value.int .i64 ve, Value.int .i64 a, Value.int .i64 mo] 39) 23 #[Value.int .i64 0, Value.int .i64 0, Value.int .i64 0, Value.bool false, Value.bool false, Value.int .i64 0, Value.int .i64 0, Value.int .i64 0, Value.int .i64 0]
      obtain ⟨W, hW⟩ : ∃ W, W = (w.alloc (.cells #[Value.int .i64 st, Value.int .i64 ow, Value.int .i64 sr, Value.bool true, Value.bool ma, Value.int .i64 us, Value.int .i64 ge, Value.int .i64 ep, Value.int .i64 ve, Value.int .i64 a, Value.int .i64 mo] 39)).alloc (.cells #[Value.int .i64 0, Value.int .i64 0, Value.int .i64 0, Value.bool false, Value.bool false, Value.int .i64 0, Value.int .i64 0, Value.int .i64 0, Value.int .i64 0] 23) := ⟨_, rfl⟩
      rw [← hW] at hB0 r0 r1 ⊢
      clear hW
      obtain ⟨B1, e1⟩ : ∃ B1, B1 = w.heap.size := ⟨_, rfl⟩
      have hle : w.heap.size ≤ B1 := by omega
      rw [← e1] at r0 r1 ⊢
      clear e1
      have hne : B1 ≠ B1 + 1 := by omega
      have c2 : W.cell? ⟨B1, 2, none⟩ = some (.int .i64 sr) := r0.cell 2 rfl
      have f2 : W.frozen? ⟨B1, 2, none⟩ = false := r0.frozen 2
      go_region
      clear c2 f2
      have eO : bits .or .i64 sr (wrap64 (2 ^ L.toNat)) = opnI sr := EL (fun z => bits .or .i64 sr (wrap64 (2 ^ z.toNat)) = opnI sr) rfl
      rw [eO]
      replace r0 : RowAt _ B1 39 #[Value.int .i64 st, Value.int .i64 ow, Value.int .i64 (opnI sr), Value.bool true, Value.bool ma, Value.int .i64 us, Value.int .i64 ge, Value.int .i64 ep, Value.int .i64 ve, Value.int .i64 a, Value.int .i64 mo] := (r0.put 2 (.int .i64 (opnI sr))).drew
      replace r1 := (r1.putOther ⟨B1, 2, none⟩ (Ne.symm hne) (.int .i64 (opnI sr))).drew
      replace hB0 := (hB0.setCell hle (p := ⟨B1, 2, none⟩) (.int .i64 (opnI sr))).drew
      clear eO
      obtain ⟨V, hV⟩ : ∃ V, V = (W.setCell ⟨B1, 2, none⟩ (.int .i64 (opnI sr))).drew := ⟨_, rfl⟩
      rw [← hV] at r0 r1 hB0 ⊢
      clear hV
      go_wp2_with fail
      have q0 := r0.drew
      have p0 := r1.drew
      have hBd := hB0.drew
      clear hB0 r0 r1
      have c00 : V.drew.cell? ⟨B1, 0, none⟩ = some (Value.int .i64 st) := q0.cell 0 rfl
      have c01 : V.drew.cell? ⟨B1, 1, none⟩ = some (Value.int .i64 ow) := q0.cell 1 rfl
      have c02 : V.drew.cell? ⟨B1, 2, none⟩ = some (Value.int .i64 (opnI sr)) := q0.cell 2 rfl
      have c03 : V.drew.cell? ⟨B1, 3, none⟩ = some (Value.bool true) := q0.cell 3 rfl
      have c04 : V.drew.cell? ⟨B1, 4, none⟩ = some (Value.bool ma) := q0.cell 4 rfl
      have c05 : V.drew.cell? ⟨B1, 5, none⟩ = some (Value.int .i64 us) := q0.cell 5 rfl
      have c06 : V.drew.cell? ⟨B1, 6, none⟩ = some (Value.int .i64 ge) := q0.cell 6 rfl
      have c07 : V.drew.cell? ⟨B1, 7, none⟩ = some (Value.int .i64 ep) := q0.cell 7 rfl
      have c08 : V.drew.cell? ⟨B1, 8, none⟩ = some (Value.int .i64 ve) := q0.cell 8 rfl
      have c09 : V.drew.cell? ⟨B1, 9, none⟩ = some (Value.int .i64 a) := q0.cell 9 rfl
      have c010 : V.drew.cell? ⟨B1, 10, none⟩ = some (Value.int .i64 mo) := q0.cell 10 rfl
      have d00 : V.drew.cell? ⟨B1 + 1, 0, none⟩ = some (Value.int .i64 0) := p0.cell 0 rfl
      have g00 : V.drew.frozen? ⟨B1 + 1, 0, none⟩ = false := p0.frozen 0
      have d01 : V.drew.cell? ⟨B1 + 1, 1, none⟩ = some (Value.int .i64 0) := p0.cell 1 rfl
      have g01 : V.drew.frozen? ⟨B1 + 1, 1, none⟩ = false := p0.frozen 1
      have d02 : V.drew.cell? ⟨B1 + 1, 2, none⟩ = some (Value.int .i64 0) := p0.cell 2 rfl
      have g02 : V.drew.frozen? ⟨B1 + 1, 2, none⟩ = false := p0.frozen 2
      have d03 : V.drew.cell? ⟨B1 + 1, 3, none⟩ = some (Value.bool false) := p0.cell 3 rfl
      have g03 : V.drew.frozen? ⟨B1 + 1, 3, none⟩ = false := p0.frozen 3
      have d04 : V.drew.cell? ⟨B1 + 1, 4, none⟩ = some (Value.bool false) := p0.cell 4 rfl
      have g04 : V.drew.frozen? ⟨B1 + 1, 4, none⟩ = false := p0.frozen 4
      have d05 : V.drew.cell? ⟨B1 + 1, 5, none⟩ = some (Value.int .i64 0) := p0.cell 5 rfl
      have g05 : V.drew.frozen? ⟨B1 + 1, 5, none⟩ = false := p0.frozen 5
      have d06 : V.drew.cell? ⟨B1 + 1, 6, none⟩ = some (Value.int .i64 0) := p0.cell 6 rfl
      have g06 : V.drew.frozen? ⟨B1 + 1, 6, none⟩ = false := p0.frozen 6
      have d07 : V.drew.cell? ⟨B1 + 1, 7, none⟩ = some (Value.int .i64 0) := p0.cell 7 rfl
      have g07 : V.drew.frozen? ⟨B1 + 1, 7, none⟩ = false := p0.frozen 7
      have d08 : V.drew.cell? ⟨B1 + 1, 8, none⟩ = some (Value.int .i64 0) := p0.cell 8 rfl
      have g08 : V.drew.frozen? ⟨B1 + 1, 8, none⟩ = false := p0.frozen 8
      refine wp_region_held_drew (S := (fun w' => w'.cell? ⟨B1, 0, none⟩ = some (Value.int .i64 st) ∧ w'.cell? ⟨B1, 1, none⟩ = some (Value.int .i64 ow) ∧ w'.cell? ⟨B1, 2, none⟩ = some (Value.int .i64 (opnI sr)) ∧ w'.cell? ⟨B1, 3, none⟩ = some (Value.bool true) ∧ w'.cell? ⟨B1, 4, none⟩ = some (Value.bool ma) ∧ w'.cell? ⟨B1, 5, none⟩ = some (Value.int .i64 us) ∧ w'.cell? ⟨B1, 6, none⟩ = some (Value.int .i64 ge) ∧ w'.cell? ⟨B1, 7, none⟩ = some (Value.int .i64 ep) ∧ w'.cell? ⟨B1, 8, none⟩ = some (Value.int .i64 ve) ∧ w'.cell? ⟨B1, 9, none⟩ = some (Value.int .i64 a) ∧ w'.cell? ⟨B1, 10, none⟩ = some (Value.int .i64 mo))) (by kernel_rfl) ⟨c00, c01, c02, c03, c04, c05, c06, c07, c08, c09, c010⟩ (fun hS => ?_)
      generalize V.drew = WD at *
      refine wpAnyH_take (i := 0) (oi := { dst := some 19, op := Op.fieldAddr 39 (Operand.tmp 1) 0, type := 0, pos := "life.go:167", after := #[], guard := none }) (v := ?v0_115) rfl (by kernel_rfl) (by kernel_rfl) (by kernel_rfl) (fun _ _ _ h => h) (Or.inl ⟨by rfl, ?hy0_115⟩) hS ?rest0_115
      case hy0_115 =>
        intro w hSw
        (try dsimp only at hSw)
        go_simp
        try with_reducible rfl
      try simp only [Act.put, List.setIfInBounds_toArray, List.set_cons_zero, List.set_cons_succ]
      refine wpAnyH_take (i := 1) (oi := { dst := some 20, op := Op.load 23 (Operand.tmp 19), type := 23, pos := "life.go:167", after := #[{ on := 0, ground := Ground.data }], guard := none }) (v := ?v1_116) rfl (by kernel_rfl) (by kernel_rfl) (by kernel_rfl) (fun _ _ _ h => h) (Or.inl ⟨by rfl, ?hy1_116⟩) hS ?rest1_116
      case hy1_116 =>
        intro w hSw
        (try dsimp only at hSw)
        go_simp
        try with_reducible rfl
      try simp only [Act.put, List.setIfInBounds_toArray, List.set_cons_zero, List.set_cons_succ]
      refine wpAnyH_take (i := 2) (oi := { dst := some 21, op := Op.load 39 (Operand.tmp 1), type := 39, pos := "life.go:167", after := #[], guard := none }) (v := ?v2_117) rfl (by kernel_rfl) (by kernel_rfl) (by kernel_rfl) (fun _ _ _ h => h) (Or.inl ⟨by rfl, ?hy2_117⟩) hS ?rest2_117
      case hy2_117 =>
        intro w hSw
        (try dsimp only at hSw)
        go_simp
        try with_reducible rfl
      try simp only [Act.put, List.setIfInBounds_toArray, List.set_cons_zero, List.set_cons_succ]
      refine wpAnyH_ready (rs := [3]) (by kernel_rfl) (by simp) ?_
      refine AllReadyH.cons (o := { dst := some 22, op := Op.call { callee := Callee.value (Operand.func 48), args := #[Operand.tmp 21, Operand.const (Value.int IntKind.i64 3)], argTypes := #[39, 3] }, type := 4, pos := "life.go:167", after := #[{ on := 2, ground := Ground.data }], guard := none }) rfl (fun K hK => ?_) AllReadyH.nil
      go_simp
      refine (mine_is ⟨st, ow, opnI sr, true, ma, us, ge, ep, ve⟩ a mo 3 _ _ h1).mono ?_
      rintro e w1 ⟨rfl, hb1⟩
      have q1 := q0.below hb1 (by simpa using q0.lt)
      have p1 := p0.below hb1 (by simpa using p0.lt)
      have hB1 := hBd.trans (hb1.mono (by simpa using hBd.size))
      have c10 : w1.cell? ⟨B1, 0, none⟩ = some (Value.int .i64 st) := q1.cell 0 rfl
      have c11 : w1.cell? ⟨B1, 1, none⟩ = some (Value.int .i64 ow) := q1.cell 1 rfl
      have c12 : w1.cell? ⟨B1, 2, none⟩ = some (Value.int .i64 (opnI sr)) := q1.cell 2 rfl
      have c13 : w1.cell? ⟨B1, 3, none⟩ = some (Value.bool true) := q1.cell 3 rfl
      have c14 : w1.cell? ⟨B1, 4, none⟩ = some (Value.bool ma) := q1.cell 4 rfl
      have c15 : w1.cell? ⟨B1, 5, none⟩ = some (Value.int .i64 us) := q1.cell 5 rfl
      have c16 : w1.cell? ⟨B1, 6, none⟩ = some (Value.int .i64 ge) := q1.cell 6 rfl
      have c17 : w1.cell? ⟨B1, 7, none⟩ = some (Value.int .i64 ep) := q1.cell 7 rfl
      have c18 : w1.cell? ⟨B1, 8, none⟩ = some (Value.int .i64 ve) := q1.cell 8 rfl
      have c19 : w1.cell? ⟨B1, 9, none⟩ = some (Value.int .i64 a) := q1.cell 9 rfl
      have c110 : w1.cell? ⟨B1, 10, none⟩ = some (Value.int .i64 mo) := q1.cell 10 rfl
      have d10 : w1.cell? ⟨B1 + 1, 0, none⟩ = some (Value.int .i64 0) := p1.cell 0 rfl
      have g10 : w1.frozen? ⟨B1 + 1, 0, none⟩ = false := p1.frozen 0
      have d11 : w1.cell? ⟨B1 + 1, 1, none⟩ = some (Value.int .i64 0) := p1.cell 1 rfl
      have g11 : w1.frozen? ⟨B1 + 1, 1, none⟩ = false := p1.frozen 1
      have d12 : w1.cell? ⟨B1 + 1, 2, none⟩ = some (Value.int .i64 0) := p1.cell 2 rfl
      have g12 : w1.frozen? ⟨B1 + 1, 2, none⟩ = false := p1.frozen 2
      have d13 : w1.cell? ⟨B1 + 1, 3, none⟩ = some (Value.bool false) := p1.cell 3 rfl
      have g13 : w1.frozen? ⟨B1 + 1, 3, none⟩ = false := p1.frozen 3
      have d14 : w1.cell? ⟨B1 + 1, 4, none⟩ = some (Value.bool false) := p1.cell 4 rfl
      have g14 : w1.frozen? ⟨B1 + 1, 4, none⟩ = false := p1.frozen 4
      have d15 : w1.cell? ⟨B1 + 1, 5, none⟩ = some (Value.int .i64 0) := p1.cell 5 rfl
      have g15 : w1.frozen? ⟨B1 + 1, 5, none⟩ = false := p1.frozen 5
      have d16 : w1.cell? ⟨B1 + 1, 6, none⟩ = some (Value.int .i64 0) := p1.cell 6 rfl
      have g16 : w1.frozen? ⟨B1 + 1, 6, none⟩ = false := p1.frozen 6
      have d17 : w1.cell? ⟨B1 + 1, 7, none⟩ = some (Value.int .i64 0) := p1.cell 7 rfl
      have g17 : w1.frozen? ⟨B1 + 1, 7, none⟩ = false := p1.frozen 7
      have d18 : w1.cell? ⟨B1 + 1, 8, none⟩ = some (Value.int .i64 0) := p1.cell 8 rfl
      have g18 : w1.frozen? ⟨B1 + 1, 8, none⟩ = false := p1.frozen 8
      refine hK.out _ _ ⟨c10, c11, c12, c13, c14, c15, c16, c17, c18, c19, c110⟩ (fun hS => ?_)
      clear hK K
      try simp only [Act.put, List.setIfInBounds_toArray, List.set_cons_zero, List.set_cons_succ]
      refine wpAnyH_take (i := 4) (oi := { dst := some 23, op := Op.move (Operand.tmp 22), type := 4, pos := "life.go:167", after := #[{ on := 3, ground := Ground.data }, { on := 3, ground := Ground.chain }], guard := none }) (v := ?v4_118) rfl (by kernel_rfl) (by kernel_rfl) (by kernel_rfl) (fun _ _ _ h => h) (Or.inl ⟨by rfl, ?hy4_118⟩) hS ?rest4_118
      case hy4_118 =>
        intro w hSw
        (try dsimp only at hSw)
        go_simp
        try with_reducible rfl
      try simp only [Act.put, List.setIfInBounds_toArray, List.set_cons_zero, List.set_cons_succ]
      refine wpAnyH_take (i := 5) (oi := { dst := some 24, op := Op.fieldAddr 39 (Operand.tmp 1) 0, type := 0, pos := "life.go:167", after := #[{ on := 4, ground := Ground.guard }], guard := some (4, true) }) (v := undef) rfl (by kernel_rfl) (by kernel_rfl) (by kernel_rfl) (fun _ _ _ h => h) (Or.inr ⟨by rfl, rfl⟩) hS ?_
      try simp only [Act.put, List.setIfInBounds_toArray, List.set_cons_zero, List.set_cons_succ]
      refine wpAnyH_take (i := 6) (oi := { dst := some 25, op := Op.fieldAddr 23 (Operand.tmp 24) 3, type := 0, pos := "life.go:167", after := #[{ on := 5, ground := Ground.data }, { on := 4, ground := Ground.guard }], guard := some (4, true) }) (v := undef) rfl (by kernel_rfl) (by kernel_rfl) (by kernel_rfl) (fun _ _ _ h => h) (Or.inr ⟨by rfl, rfl⟩) hS ?_
      try simp only [Act.put, List.setIfInBounds_toArray, List.set_cons_zero, List.set_cons_succ]
      refine wpAnyH_take (i := 7) (oi := { dst := some 26, op := Op.load 4 (Operand.tmp 25), type := 4, pos := "life.go:167", after := #[{ on := 6, ground := Ground.data }, { on := 4, ground := Ground.guard }], guard := some (4, true) }) (v := undef) rfl (by kernel_rfl) (by kernel_rfl) (by kernel_rfl) (fun _ _ _ h => h) (Or.inr ⟨by rfl, rfl⟩) hS ?_
      try simp only [Act.put, List.setIfInBounds_toArray, List.set_cons_zero, List.set_cons_succ]
      refine wpAnyH_take (i := 8) (oi := { dst := some 27, op := Op.unOp UnOp.not 4 (Operand.tmp 26), type := 4, pos := "life.go:167", after := #[{ on := 7, ground := Ground.data }, { on := 4, ground := Ground.guard }], guard := some (4, true) }) (v := undef) rfl (by kernel_rfl) (by kernel_rfl) (by kernel_rfl) (fun _ _ _ h => h) (Or.inr ⟨by rfl, rfl⟩) hS ?_
      try simp only [Act.put, List.setIfInBounds_toArray, List.set_cons_zero, List.set_cons_succ]
      refine wpAnyH_take (i := 9) (oi := { dst := some 28, op := Op.pick (Operand.tmp 23) (Operand.tmp 27) (Operand.const (Value.bool false)), type := 4, pos := "life.go:167", after := #[{ on := 4, ground := Ground.data }, { on := 8, ground := Ground.data }], guard := none }) (v := ?v9_119) rfl (by kernel_rfl) (by kernel_rfl) (by kernel_rfl) (fun _ _ _ h => h) (Or.inl ⟨by rfl, ?hy9_119⟩) hS ?rest9_119
      case hy9_119 =>
        intro w hSw
        (try dsimp only at hSw)
        go_simp
        try with_reducible rfl
      try simp only [Act.put, List.setIfInBounds_toArray, List.set_cons_zero, List.set_cons_succ]
      refine wpAnyH_take (i := 10) (oi := { dst := some 29, op := Op.move (Operand.tmp 28), type := 4, pos := "life.go:167", after := #[{ on := 9, ground := Ground.data }, { on := 4, ground := Ground.chain }], guard := none }) (v := ?v10_120) rfl (by kernel_rfl) (by kernel_rfl) (by kernel_rfl) (fun _ _ _ h => h) (Or.inl ⟨by rfl, ?hy10_120⟩) hS ?rest10_120
      case hy10_120 =>
        intro w hSw
        (try dsimp only at hSw)
        go_simp
        try with_reducible rfl
      try simp only [Act.put, List.setIfInBounds_toArray, List.set_cons_zero, List.set_cons_succ]
      refine wpAnyH_take (i := 11) (oi := { dst := some 30, op := Op.move (Operand.tmp 4), type := 3, pos := "life.go:167", after := #[{ on := 10, ground := Ground.guard }, { on := 17, ground := Ground.gcOnly Departure.lateStores }], guard := some (10, true) }) (v := undef) rfl (by kernel_rfl) (by kernel_rfl) (by kernel_rfl) (fun _ _ _ h => h) (Or.inr ⟨by rfl, rfl⟩) hS ?_
      try simp only [Act.put, List.setIfInBounds_toArray, List.set_cons_zero, List.set_cons_succ]
      refine wpAnyH_take (i := 12) (oi := { dst := some 31, op := Op.fieldAddr 39 (Operand.tmp 1) 2, type := 0, pos := "life.go:167", after := #[{ on := 10, ground := Ground.guard }], guard := some (10, true) }) (v := undef) rfl (by kernel_rfl) (by kernel_rfl) (by kernel_rfl) (fun _ _ _ h => h) (Or.inr ⟨by rfl, rfl⟩) hS ?_
      try simp only [Act.put, List.setIfInBounds_toArray, List.set_cons_zero, List.set_cons_succ]
      refine wpAnyH_take (i := 13) (oi := { dst := some 32, op := Op.load 3 (Operand.tmp 31), type := 3, pos := "life.go:167", after := #[{ on := 12, ground := Ground.data }, { on := 10, ground := Ground.guard }], guard := some (10, true) }) (v := undef) rfl (by kernel_rfl) (by kernel_rfl) (by kernel_rfl) (fun _ _ _ h => h) (Or.inr ⟨by rfl, rfl⟩) hS ?_
      try simp only [Act.put, List.setIfInBounds_toArray, List.set_cons_zero, List.set_cons_succ]
      refine wpAnyH_take (i := 14) (oi := { dst := some 33, op := Op.call { callee := Callee.builtin Builtin.min, args := #[Operand.tmp 32, Operand.const (Value.int IntKind.i64 8)], argTypes := #[3, 3] }, type := 3, pos := "life.go:167", after := #[{ on := 13, ground := Ground.data }, { on := 10, ground := Ground.guard }], guard := some (10, true) }) (v := undef) rfl (by kernel_rfl) (by kernel_rfl) (by kernel_rfl) (fun _ _ _ h => h) (Or.inr ⟨by rfl, rfl⟩) hS ?_
      try simp only [Act.put, List.setIfInBounds_toArray, List.set_cons_zero, List.set_cons_succ]
      refine wpAnyH_take (i := 15) (oi := { dst := some 34, op := Op.binOp BinOp.lss 3 (Operand.tmp 30) (Operand.tmp 33) 3, type := 4, pos := "life.go:167", after := #[{ on := 11, ground := Ground.data }, { on := 14, ground := Ground.data }, { on := 10, ground := Ground.guard }, { on := 17, ground := Ground.gcOnly Departure.lateStores }], guard := some (10, true) }) (v := undef) rfl (by kernel_rfl) (by kernel_rfl) (by kernel_rfl) (fun _ _ _ h => h) (Or.inr ⟨by rfl, rfl⟩) hS ?_
      try simp only [Act.put, List.setIfInBounds_toArray, List.set_cons_zero, List.set_cons_succ]
      refine wpAnyH_take (i := 16) (oi := { dst := some 35, op := Op.pick (Operand.tmp 29) (Operand.tmp 34) (Operand.const (Value.bool false)), type := 4, pos := "life.go:167", after := #[{ on := 10, ground := Ground.data }, { on := 15, ground := Ground.data }, { on := 17, ground := Ground.gcOnly Departure.lateStores }], guard := none }) (v := ?v16_121) rfl (by kernel_rfl) (by kernel_rfl) (by kernel_rfl) (fun _ _ _ h => h) (Or.inl ⟨by rfl, ?hy16_121⟩) hS ?rest16_121
      case hy16_121 =>
        intro w hSw
        (try dsimp only at hSw)
        go_simp
        try with_reducible rfl
      try simp only [Act.put, List.setIfInBounds_toArray, List.set_cons_zero, List.set_cons_succ]
      refine wpAnyH_ready (rs := [17]) (by kernel_rfl) (by simp) ?_
      refine AllReadyH.cons (o := { dst := none, op := Op.store 23 (Operand.tmp 2) (Operand.tmp 20), type := 0, pos := "life.go:167", after := #[{ on := 1, ground := Ground.data }, { on := 10, ground := Ground.chain }, { on := 0, ground := Ground.phase }, { on := 1, ground := Ground.phase }, { on := 2, ground := Ground.textOnly Departure.lateStores }, { on := 3, ground := Ground.textOnly Departure.lateStoresUnsure }, { on := 4, ground := Ground.textOnly Departure.lateStores }, { on := 5, ground := Ground.textOnly Departure.lateStores }, { on := 6, ground := Ground.textOnly Departure.lateStores }, { on := 7, ground := Ground.textOnly Departure.lateStores }, { on := 8, ground := Ground.textOnly Departure.lateStores }, { on := 9, ground := Ground.textOnly Departure.lateStores }, { on := 10, ground := Ground.textOnly Departure.lateStores }, { on := 11, ground := Ground.textOnly Departure.lateStores }, { on := 12, ground := Ground.textOnly Departure.lateStores }, { on := 13, ground := Ground.textOnly Departure.lateStores }, { on := 14, ground := Ground.textOnly Departure.lateStoresUnsure }, { on := 15, ground := Ground.textOnly Departure.lateStores }, { on := 16, ground := Ground.textOnly Departure.lateStores }], guard := none }) rfl (fun K hK => ?_) AllReadyH.nil
      go_simp
      refine hK.out _ _ (by (try dsimp only); go_keep) (fun hS => ?_)
      clear hK K
      try simp only [Act.put, List.setIfInBounds_toArray, List.set_cons_zero, List.set_cons_succ]
      refine wpAnyH_take (i := 18) (oi := { dst := some 3, op := Op.assign (Operand.tmp 35), type := 4, pos := "life.go:167", after := #[{ on := 16, ground := Ground.data }, { on := 17, ground := Ground.chain }, { on := 0, ground := Ground.phase }, { on := 1, ground := Ground.phase }, { on := 2, ground := Ground.phase }, { on := 3, ground := Ground.phase }, { on := 4, ground := Ground.phase }, { on := 5, ground := Ground.phase }, { on := 6, ground := Ground.phase }, { on := 7, ground := Ground.phase }, { on := 8, ground := Ground.phase }, { on := 9, ground := Ground.phase }, { on := 10, ground := Ground.phase }, { on := 11, ground := Ground.phase }, { on := 12, ground := Ground.phase }, { on := 13, ground := Ground.phase }, { on := 14, ground := Ground.phase }, { on := 15, ground := Ground.phase }, { on := 16, ground := Ground.phase }, { on := 17, ground := Ground.phase }], guard := none }) (v := ?v18_122) rfl (by kernel_rfl) (by kernel_rfl) (by kernel_rfl) (fun _ _ _ h => h) (Or.inl ⟨by rfl, ?hy18_122⟩) hS ?rest18_122
      case hy18_122 =>
        intro w hSw
        (try dsimp only at hSw)
        go_simp
        try with_reducible rfl
      try simp only [Act.put, List.setIfInBounds_toArray, List.set_cons_zero, List.set_cons_succ]
      refine wpAnyH_done (by kernel_rfl) ?_ _
      have rz := row9 p1 (Value.int .i64 st) (Value.int .i64 ow) (Value.int .i64 (opnI sr)) (Value.bool true) (Value.bool ma) (Value.int .i64 us) (Value.int .i64 ge) (Value.int .i64 ep) (Value.int .i64 ve)
      have hz := below9 (n := w.heap.size) (A := w) (b := B1 + 1) hB1 (by omega) (Value.int .i64 st) (Value.int .i64 ow) (Value.int .i64 (opnI sr)) (Value.bool true) (Value.bool ma) (Value.int .i64 us) (Value.int .i64 ge) (Value.int .i64 ep) (Value.int .i64 ve)
      go_wp2
      refine bodyPost_ret (res_pair (p := 2) (u := 3) rfl _ _ _ _ rfl rz rfl) rfl ⟨ret_pair (by first | (simp [chB, h1]; done) | exact open_fin h1 EL EM), hz⟩
  | false =>
    cases h1 : (minB ⟨st, ow, sr, false, ma, us, ge, ep, ve⟩ a 3) with
    | true =>
      go_enter Tryd.func34, Tryd.ntmps34
      go_wp2_with fail
      refine (tz_any _ _ hT1 hx.1 hx.2).mono ?_
      rintro e w1 ⟨rfl, rfl⟩
      rw [show tzI (bits .xor .u64 IntKind.u64.max (IntKind.u64.wrap sr)) = L from EL (fun z => lowI sr = z) rfl]
      clear hx hT1 hT hr
      go_wp2_with fail
      have hB0 : Below w.heap.size w ((w.alloc (.cells #[Value.int .i64 st, Value.int .i64 ow, Value.int .i64 sr, Value.bool false, Value.bool ma, Value.int .i64 us, Value.int .i64 ge, Value.int .i64 ep, Value.int .i64 ve, Value.int .i64 a, Value.int .i64 mo] 39)).alloc (.cells #[Value.int .i64 0, Value.int .i64 0, Value.int .i64 0, Value.bool false, Value.bool false, Value.int .i64 0, Value.int .i64 0, Value.int .i64 0, Value.int .i64 0] 23)) := ((Below.refl _ _).alloc (Nat.le_refl _) _).alloc (by simp) _
      have r0 := (RowAt.new w 39 #[Value.int .i64 st, Value.int .i64 ow, Value.int .i64 sr, Value.bool false, Value.bool ma, Value.int .i64 us, Value.int .i64 ge, Value.int .i64 ep, Value.int .i64 ve, Value.int .i64 a, Value.int .i64 mo]).alloc (.cells #[Value.int .i64 0, Value.int .i64 0, Value.int .i64 0, Value.bool false, Value.bool false, Value.int .i64 0, Value.int .i64 0, Value.int .i64 0, Value.int .i64 0] 23)
      have r1 := new2 w (.cells #[Value.int .i64 st, Value.int .i64 ow, Value.int .i64 sr, Value.bool false, Value.bool ma, Value.int .i64 us, Value.int .i64 ge, Value.int .i64 ep, Value.int .i64 ve, Value.int .i64 a, Value.int .i64 mo] 39) 23 #[Value.int .i64 0, Value.int .i64 0, Value.int .i64 0, Value.bool false, Value.bool false, Value.int .i64 0, Value.int .i64 0, Value.int .i64 0, Value.int .i64 0]
      obtain ⟨W, hW⟩ : ∃ W, W = (w.alloc (.cells #[Value.int .i64 st, Value.int .i64 ow, Value.int .i64 sr, Value.bool false, Value.bool ma, Value.int .i64 us, Value.int .i64 ge, Value.int .i64 ep, Value.int .i64 ve, Value.int .i64 a, Value.int .i64 mo] 39)).alloc (.cells #[Value.int .i64 0, Value.int .i64 0, Value.int .i64 0, Value.bool false, Value.bool false, Value.int .i64 0, Value.int .i64 0, Value.int .i64 0, Value.int .i64 0] 23) := ⟨_, rfl⟩
      rw [← hW] at hB0 r0 r1 ⊢
      clear hW
      obtain ⟨B1, e1⟩ : ∃ B1, B1 = w.heap.size := ⟨_, rfl⟩
      have hle : w.heap.size ≤ B1 := by omega
      rw [← e1] at r0 r1 ⊢
      clear e1
      have hne : B1 ≠ B1 + 1 := by omega
      have c2 : W.cell? ⟨B1, 2, none⟩ = some (.int .i64 sr) := r0.cell 2 rfl
      have f2 : W.frozen? ⟨B1, 2, none⟩ = false := r0.frozen 2
      go_region
      clear c2 f2
      have eO : bits .or .i64 sr (wrap64 (2 ^ L.toNat)) = opnI sr := EL (fun z => bits .or .i64 sr (wrap64 (2 ^ z.toNat)) = opnI sr) rfl
      rw [eO]
      replace r0 : RowAt _ B1 39 #[Value.int .i64 st, Value.int .i64 ow, Value.int .i64 (opnI sr), Value.bool false, Value.bool ma, Value.int .i64 us, Value.int .i64 ge, Value.int .i64 ep, Value.int .i64 ve, Value.int .i64 a, Value.int .i64 mo] := (r0.put 2 (.int .i64 (opnI sr))).drew
      replace r1 := (r1.putOther ⟨B1, 2, none⟩ (Ne.symm hne) (.int .i64 (opnI sr))).drew
      replace hB0 := (hB0.setCell hle (p := ⟨B1, 2, none⟩) (.int .i64 (opnI sr))).drew
      clear eO
      obtain ⟨V, hV⟩ : ∃ V, V = (W.setCell ⟨B1, 2, none⟩ (.int .i64 (opnI sr))).drew := ⟨_, rfl⟩
      rw [← hV] at r0 r1 hB0 ⊢
      clear hV
      go_wp2_with fail
      have q0 := r0.drew
      have p0 := r1.drew
      have hBd := hB0.drew
      clear hB0 r0 r1
      have c00 : V.drew.cell? ⟨B1, 0, none⟩ = some (Value.int .i64 st) := q0.cell 0 rfl
      have c01 : V.drew.cell? ⟨B1, 1, none⟩ = some (Value.int .i64 ow) := q0.cell 1 rfl
      have c02 : V.drew.cell? ⟨B1, 2, none⟩ = some (Value.int .i64 (opnI sr)) := q0.cell 2 rfl
      have c03 : V.drew.cell? ⟨B1, 3, none⟩ = some (Value.bool false) := q0.cell 3 rfl
      have c04 : V.drew.cell? ⟨B1, 4, none⟩ = some (Value.bool ma) := q0.cell 4 rfl
      have c05 : V.drew.cell? ⟨B1, 5, none⟩ = some (Value.int .i64 us) := q0.cell 5 rfl
      have c06 : V.drew.cell? ⟨B1, 6, none⟩ = some (Value.int .i64 ge) := q0.cell 6 rfl
      have c07 : V.drew.cell? ⟨B1, 7, none⟩ = some (Value.int .i64 ep) := q0.cell 7 rfl
      have c08 : V.drew.cell? ⟨B1, 8, none⟩ = some (Value.int .i64 ve) := q0.cell 8 rfl
      have c09 : V.drew.cell? ⟨B1, 9, none⟩ = some (Value.int .i64 a) := q0.cell 9 rfl
      have c010 : V.drew.cell? ⟨B1, 10, none⟩ = some (Value.int .i64 mo) := q0.cell 10 rfl
      have d00 : V.drew.cell? ⟨B1 + 1, 0, none⟩ = some (Value.int .i64 0) := p0.cell 0 rfl
      have g00 : V.drew.frozen? ⟨B1 + 1, 0, none⟩ = false := p0.frozen 0
      have d01 : V.drew.cell? ⟨B1 + 1, 1, none⟩ = some (Value.int .i64 0) := p0.cell 1 rfl
      have g01 : V.drew.frozen? ⟨B1 + 1, 1, none⟩ = false := p0.frozen 1
      have d02 : V.drew.cell? ⟨B1 + 1, 2, none⟩ = some (Value.int .i64 0) := p0.cell 2 rfl
      have g02 : V.drew.frozen? ⟨B1 + 1, 2, none⟩ = false := p0.frozen 2
      have d03 : V.drew.cell? ⟨B1 + 1, 3, none⟩ = some (Value.bool false) := p0.cell 3 rfl
      have g03 : V.drew.frozen? ⟨B1 + 1, 3, none⟩ = false := p0.frozen 3
      have d04 : V.drew.cell? ⟨B1 + 1, 4, none⟩ = some (Value.bool false) := p0.cell 4 rfl
      have g04 : V.drew.frozen? ⟨B1 + 1, 4, none⟩ = false := p0.frozen 4
      have d05 : V.drew.cell? ⟨B1 + 1, 5, none⟩ = some (Value.int .i64 0) := p0.cell 5 rfl
      have g05 : V.drew.frozen? ⟨B1 + 1, 5, none⟩ = false := p0.frozen 5
      have d06 : V.drew.cell? ⟨B1 + 1, 6, none⟩ = some (Value.int .i64 0) := p0.cell 6 rfl
      have g06 : V.drew.frozen? ⟨B1 + 1, 6, none⟩ = false := p0.frozen 6
      have d07 : V.drew.cell? ⟨B1 + 1, 7, none⟩ = some (Value.int .i64 0) := p0.cell 7 rfl
      have g07 : V.drew.frozen? ⟨B1 + 1, 7, none⟩ = false := p0.frozen 7
      have d08 : V.drew.cell? ⟨B1 + 1, 8, none⟩ = some (Value.int .i64 0) := p0.cell 8 rfl
      have g08 : V.drew.frozen? ⟨B1 + 1, 8, none⟩ = false := p0.frozen 8
      refine wp_region_held_drew (S := (fun w' => w'.cell? ⟨B1, 0, none⟩ = some (Value.int .i64 st) ∧ w'.cell? ⟨B1, 1, none⟩ = some (Value.int .i64 ow) ∧ w'.cell? ⟨B1, 2, none⟩ = some (Value.int .i64 (opnI sr)) ∧ w'.cell? ⟨B1, 3, none⟩ = some (Value.bool false) ∧ w'.cell? ⟨B1, 4, none⟩ = some (Value.bool ma) ∧ w'.cell? ⟨B1, 5, none⟩ = some (Value.int .i64 us) ∧ w'.cell? ⟨B1, 6, none⟩ = some (Value.int .i64 ge) ∧ w'.cell? ⟨B1, 7, none⟩ = some (Value.int .i64 ep) ∧ w'.cell? ⟨B1, 8, none⟩ = some (Value.int .i64 ve) ∧ w'.cell? ⟨B1, 9, none⟩ = some (Value.int .i64 a) ∧ w'.cell? ⟨B1, 10, none⟩ = some (Value.int .i64 mo))) (by kernel_rfl) ⟨c00, c01, c02, c03, c04, c05, c06, c07, c08, c09, c010⟩ (fun hS => ?_)
      generalize V.drew = WD at *
      refine wpAnyH_take (i := 0) (oi := { dst := some 19, op := Op.fieldAddr 39 (Operand.tmp 1) 0, type := 0, pos := "life.go:167", after := #[], guard := none }) (v := ?v0_123) rfl (by kernel_rfl) (by kernel_rfl) (by kernel_rfl) (fun _ _ _ h => h) (Or.inl ⟨by rfl, ?hy0_123⟩) hS ?rest0_123
      case hy0_123 =>
        intro w hSw
        (try dsimp only at hSw)
        go_simp
        try with_reducible rfl
      try simp only [Act.put, List.setIfInBounds_toArray, List.set_cons_zero, List.set_cons_succ]
      refine wpAnyH_take (i := 1) (oi := { dst := some 20, op := Op.load 23 (Operand.tmp 19), type := 23, pos := "life.go:167", after := #[{ on := 0, ground := Ground.data }], guard := none }) (v := ?v1_124) rfl (by kernel_rfl) (by kernel_rfl) (by kernel_rfl) (fun _ _ _ h => h) (Or.inl ⟨by rfl, ?hy1_124⟩) hS ?rest1_124
      case hy1_124 =>
        intro w hSw
        (try dsimp only at hSw)
        go_simp
        try with_reducible rfl
      try simp only [Act.put, List.setIfInBounds_toArray, List.set_cons_zero, List.set_cons_succ]
      refine wpAnyH_take (i := 2) (oi := { dst := some 21, op := Op.load 39 (Operand.tmp 1), type := 39, pos := "life.go:167", after := #[], guard := none }) (v := ?v2_125) rfl (by kernel_rfl) (by kernel_rfl) (by kernel_rfl) (fun _ _ _ h => h) (Or.inl ⟨by rfl, ?hy2_125⟩) hS ?rest2_125
      case hy2_125 =>
        intro w hSw
        (try dsimp only at hSw)
        go_simp
        try with_reducible rfl
      try simp only [Act.put, List.setIfInBounds_toArray, List.set_cons_zero, List.set_cons_succ]
      refine wpAnyH_ready (rs := [3]) (by kernel_rfl) (by simp) ?_
      refine AllReadyH.cons (o := { dst := some 22, op := Op.call { callee := Callee.value (Operand.func 48), args := #[Operand.tmp 21, Operand.const (Value.int IntKind.i64 3)], argTypes := #[39, 3] }, type := 4, pos := "life.go:167", after := #[{ on := 2, ground := Ground.data }], guard := none }) rfl (fun K hK => ?_) AllReadyH.nil
      go_simp
      refine (mine_is ⟨st, ow, opnI sr, false, ma, us, ge, ep, ve⟩ a mo 3 _ _ h1).mono ?_
      rintro e w1 ⟨rfl, hb1⟩
      have q1 := q0.below hb1 (by simpa using q0.lt)
      have p1 := p0.below hb1 (by simpa using p0.lt)
      have hB1 := hBd.trans (hb1.mono (by simpa using hBd.size))
      have c10 : w1.cell? ⟨B1, 0, none⟩ = some (Value.int .i64 st) := q1.cell 0 rfl
      have c11 : w1.cell? ⟨B1, 1, none⟩ = some (Value.int .i64 ow) := q1.cell 1 rfl
      have c12 : w1.cell? ⟨B1, 2, none⟩ = some (Value.int .i64 (opnI sr)) := q1.cell 2 rfl
      have c13 : w1.cell? ⟨B1, 3, none⟩ = some (Value.bool false) := q1.cell 3 rfl
      have c14 : w1.cell? ⟨B1, 4, none⟩ = some (Value.bool ma) := q1.cell 4 rfl
      have c15 : w1.cell? ⟨B1, 5, none⟩ = some (Value.int .i64 us) := q1.cell 5 rfl
      have c16 : w1.cell? ⟨B1, 6, none⟩ = some (Value.int .i64 ge) := q1.cell 6 rfl
      have c17 : w1.cell? ⟨B1, 7, none⟩ = some (Value.int .i64 ep) := q1.cell 7 rfl
      have c18 : w1.cell? ⟨B1, 8, none⟩ = some (Value.int .i64 ve) := q1.cell 8 rfl
      have c19 : w1.cell? ⟨B1, 9, none⟩ = some (Value.int .i64 a) := q1.cell 9 rfl
      have c110 : w1.cell? ⟨B1, 10, none⟩ = some (Value.int .i64 mo) := q1.cell 10 rfl
      have d10 : w1.cell? ⟨B1 + 1, 0, none⟩ = some (Value.int .i64 0) := p1.cell 0 rfl
      have g10 : w1.frozen? ⟨B1 + 1, 0, none⟩ = false := p1.frozen 0
      have d11 : w1.cell? ⟨B1 + 1, 1, none⟩ = some (Value.int .i64 0) := p1.cell 1 rfl
      have g11 : w1.frozen? ⟨B1 + 1, 1, none⟩ = false := p1.frozen 1
      have d12 : w1.cell? ⟨B1 + 1, 2, none⟩ = some (Value.int .i64 0) := p1.cell 2 rfl
      have g12 : w1.frozen? ⟨B1 + 1, 2, none⟩ = false := p1.frozen 2
      have d13 : w1.cell? ⟨B1 + 1, 3, none⟩ = some (Value.bool false) := p1.cell 3 rfl
      have g13 : w1.frozen? ⟨B1 + 1, 3, none⟩ = false := p1.frozen 3
      have d14 : w1.cell? ⟨B1 + 1, 4, none⟩ = some (Value.bool false) := p1.cell 4 rfl
      have g14 : w1.frozen? ⟨B1 + 1, 4, none⟩ = false := p1.frozen 4
      have d15 : w1.cell? ⟨B1 + 1, 5, none⟩ = some (Value.int .i64 0) := p1.cell 5 rfl
      have g15 : w1.frozen? ⟨B1 + 1, 5, none⟩ = false := p1.frozen 5
      have d16 : w1.cell? ⟨B1 + 1, 6, none⟩ = some (Value.int .i64 0) := p1.cell 6 rfl
      have g16 : w1.frozen? ⟨B1 + 1, 6, none⟩ = false := p1.frozen 6
      have d17 : w1.cell? ⟨B1 + 1, 7, none⟩ = some (Value.int .i64 0) := p1.cell 7 rfl
      have g17 : w1.frozen? ⟨B1 + 1, 7, none⟩ = false := p1.frozen 7
      have d18 : w1.cell? ⟨B1 + 1, 8, none⟩ = some (Value.int .i64 0) := p1.cell 8 rfl
      have g18 : w1.frozen? ⟨B1 + 1, 8, none⟩ = false := p1.frozen 8
      refine hK.out _ _ ⟨c10, c11, c12, c13, c14, c15, c16, c17, c18, c19, c110⟩ (fun hS => ?_)
      clear hK K
      try simp only [Act.put, List.setIfInBounds_toArray, List.set_cons_zero, List.set_cons_succ]
      refine wpAnyH_take (i := 4) (oi := { dst := some 23, op := Op.move (Operand.tmp 22), type := 4, pos := "life.go:167", after := #[{ on := 3, ground := Ground.data }, { on := 3, ground := Ground.chain }], guard := none }) (v := ?v4_126) rfl (by kernel_rfl) (by kernel_rfl) (by kernel_rfl) (fun _ _ _ h => h) (Or.inl ⟨by rfl, ?hy4_126⟩) hS ?rest4_126
      case hy4_126 =>
        intro w hSw
        (try dsimp only at hSw)
        go_simp
        try with_reducible rfl
      try simp only [Act.put, List.setIfInBounds_toArray, List.set_cons_zero, List.set_cons_succ]
      refine wpAnyH_take (i := 5) (oi := { dst := some 24, op := Op.fieldAddr 39 (Operand.tmp 1) 0, type := 0, pos := "life.go:167", after := #[{ on := 4, ground := Ground.guard }], guard := some (4, true) }) (v := ?v5_127) rfl (by kernel_rfl) (by kernel_rfl) (by kernel_rfl) (fun _ _ _ h => h) (Or.inl ⟨by rfl, ?hy5_127⟩) hS ?rest5_127
      case hy5_127 =>
        intro w hSw
        (try dsimp only at hSw)
        go_simp
        try with_reducible rfl
      try simp only [Act.put, List.setIfInBounds_toArray, List.set_cons_zero, List.set_cons_succ]
      refine wpAnyH_take (i := 6) (oi := { dst := some 25, op := Op.fieldAddr 23 (Operand.tmp 24) 3, type := 0, pos := "life.go:167", after := #[{ on := 5, ground := Ground.data }, { on := 4, ground := Ground.guard }], guard := some (4, true) }) (v := ?v6_128) rfl (by kernel_rfl) (by kernel_rfl) (by kernel_rfl) (fun _ _ _ h => h) (Or.inl ⟨by rfl, ?hy6_128⟩) hS ?rest6_128
      case hy6_128 =>
        intro w hSw
        (try dsimp only at hSw)
        go_simp
        try with_reducible rfl
      try simp only [Act.put, List.setIfInBounds_toArray, List.set_cons_zero, List.set_cons_succ]
      refine wpAnyH_take (i := 7) (oi := { dst := some 26, op := Op.load 4 (Operand.tmp 25), type := 4, pos := "life.go:167", after := #[{ on := 6, ground := Ground.data }, { on := 4, ground := Ground.guard }], guard := some (4, true) }) (v := ?v7_129) rfl (by kernel_rfl) (by kernel_rfl) (by kernel_rfl) (fun _ _ _ h => h) (Or.inl ⟨by rfl, ?hy7_129⟩) hS ?rest7_129
      case hy7_129 =>
        intro w hSw
        (try dsimp only at hSw)
        go_simp
        try with_reducible rfl
      try simp only [Act.put, List.setIfInBounds_toArray, List.set_cons_zero, List.set_cons_succ]
      refine wpAnyH_take (i := 8) (oi := { dst := some 27, op := Op.unOp UnOp.not 4 (Operand.tmp 26), type := 4, pos := "life.go:167", after := #[{ on := 7, ground := Ground.data }, { on := 4, ground := Ground.guard }], guard := some (4, true) }) (v := ?v8_130) rfl (by kernel_rfl) (by kernel_rfl) (by kernel_rfl) (fun _ _ _ h => h) (Or.inl ⟨by rfl, ?hy8_130⟩) hS ?rest8_130
      case hy8_130 =>
        intro w hSw
        (try dsimp only at hSw)
        go_simp
        try with_reducible rfl
      try simp only [Act.put, List.setIfInBounds_toArray, List.set_cons_zero, List.set_cons_succ]
      refine wpAnyH_take (i := 9) (oi := { dst := some 28, op := Op.pick (Operand.tmp 23) (Operand.tmp 27) (Operand.const (Value.bool false)), type := 4, pos := "life.go:167", after := #[{ on := 4, ground := Ground.data }, { on := 8, ground := Ground.data }], guard := none }) (v := ?v9_131) rfl (by kernel_rfl) (by kernel_rfl) (by kernel_rfl) (fun _ _ _ h => h) (Or.inl ⟨by rfl, ?hy9_131⟩) hS ?rest9_131
      case hy9_131 =>
        intro w hSw
        (try dsimp only at hSw)
        go_simp
        try with_reducible rfl
      try simp only [Act.put, List.setIfInBounds_toArray, List.set_cons_zero, List.set_cons_succ]
      refine wpAnyH_take (i := 10) (oi := { dst := some 29, op := Op.move (Operand.tmp 28), type := 4, pos := "life.go:167", after := #[{ on := 9, ground := Ground.data }, { on := 4, ground := Ground.chain }], guard := none }) (v := ?v10_132) rfl (by kernel_rfl) (by kernel_rfl) (by kernel_rfl) (fun _ _ _ h => h) (Or.inl ⟨by rfl, ?hy10_132⟩) hS ?rest10_132
      case hy10_132 =>
        intro w hSw
        (try dsimp only at hSw)
        go_simp
        try with_reducible rfl
      try simp only [Act.put, List.setIfInBounds_toArray, List.set_cons_zero, List.set_cons_succ]
      refine wpAnyH_take (i := 11) (oi := { dst := some 30, op := Op.move (Operand.tmp 4), type := 3, pos := "life.go:167", after := #[{ on := 10, ground := Ground.guard }, { on := 17, ground := Ground.gcOnly Departure.lateStores }], guard := some (10, true) }) (v := ?v11_133) rfl (by kernel_rfl) (by kernel_rfl) (by kernel_rfl) (fun _ _ _ h => h) (Or.inl ⟨by rfl, ?hy11_133⟩) hS ?rest11_133
      case hy11_133 =>
        intro w hSw
        (try dsimp only at hSw)
        go_simp
        try with_reducible rfl
      try simp only [Act.put, List.setIfInBounds_toArray, List.set_cons_zero, List.set_cons_succ]
      refine wpAnyH_take (i := 12) (oi := { dst := some 31, op := Op.fieldAddr 39 (Operand.tmp 1) 2, type := 0, pos := "life.go:167", after := #[{ on := 10, ground := Ground.guard }], guard := some (10, true) }) (v := ?v12_134) rfl (by kernel_rfl) (by kernel_rfl) (by kernel_rfl) (fun _ _ _ h => h) (Or.inl ⟨by rfl, ?hy12_134⟩) hS ?rest12_134
      case hy12_134 =>
        intro w hSw
        (try dsimp only at hSw)
        go_simp
        try with_reducible rfl
      try simp only [Act.put, List.setIfInBounds_toArray, List.set_cons_zero, List.set_cons_succ]
      refine wpAnyH_take (i := 13) (oi := { dst := some 32, op := Op.load 3 (Operand.tmp 31), type := 3, pos := "life.go:167", after := #[{ on := 12, ground := Ground.data }, { on := 10, ground := Ground.guard }], guard := some (10, true) }) (v := ?v13_135) rfl (by kernel_rfl) (by kernel_rfl) (by kernel_rfl) (fun _ _ _ h => h) (Or.inl ⟨by rfl, ?hy13_135⟩) hS ?rest13_135
      case hy13_135 =>
        intro w hSw
        (try dsimp only at hSw)
        go_simp
        try with_reducible rfl
      try simp only [Act.put, List.setIfInBounds_toArray, List.set_cons_zero, List.set_cons_succ]
      refine wpAnyH_take (i := 14) (oi := { dst := some 33, op := Op.call { callee := Callee.builtin Builtin.min, args := #[Operand.tmp 32, Operand.const (Value.int IntKind.i64 8)], argTypes := #[3, 3] }, type := 3, pos := "life.go:167", after := #[{ on := 13, ground := Ground.data }, { on := 10, ground := Ground.guard }], guard := some (10, true) }) (v := ?v14_136) rfl (by kernel_rfl) (by kernel_rfl) (by kernel_rfl) (fun _ _ _ h => h) (Or.inl ⟨by rfl, ?hy14_136⟩) hS ?rest14_136
      case hy14_136 =>
        intro w hSw
        (try dsimp only at hSw)
        go_simp
        try with_reducible rfl
      try simp only [Act.put, List.setIfInBounds_toArray, List.set_cons_zero, List.set_cons_succ]
      refine wpAnyH_take (i := 15) (oi := { dst := some 34, op := Op.binOp BinOp.lss 3 (Operand.tmp 30) (Operand.tmp 33) 3, type := 4, pos := "life.go:167", after := #[{ on := 11, ground := Ground.data }, { on := 14, ground := Ground.data }, { on := 10, ground := Ground.guard }, { on := 17, ground := Ground.gcOnly Departure.lateStores }], guard := some (10, true) }) (v := ?v15_137) rfl (by kernel_rfl) (by kernel_rfl) (by kernel_rfl) (fun _ _ _ h => h) (Or.inl ⟨by rfl, ?hy15_137⟩) hS ?rest15_137
      case hy15_137 =>
        intro w hSw
        (try dsimp only at hSw)
        go_simp
        try with_reducible rfl
      try simp only [Act.put, List.setIfInBounds_toArray, List.set_cons_zero, List.set_cons_succ]
      refine wpAnyH_take (i := 16) (oi := { dst := some 35, op := Op.pick (Operand.tmp 29) (Operand.tmp 34) (Operand.const (Value.bool false)), type := 4, pos := "life.go:167", after := #[{ on := 10, ground := Ground.data }, { on := 15, ground := Ground.data }, { on := 17, ground := Ground.gcOnly Departure.lateStores }], guard := none }) (v := ?v16_138) rfl (by kernel_rfl) (by kernel_rfl) (by kernel_rfl) (fun _ _ _ h => h) (Or.inl ⟨by rfl, ?hy16_138⟩) hS ?rest16_138
      case hy16_138 =>
        intro w hSw
        (try dsimp only at hSw)
        go_simp
        try with_reducible rfl
      try simp only [Act.put, List.setIfInBounds_toArray, List.set_cons_zero, List.set_cons_succ]
      refine wpAnyH_ready (rs := [17]) (by kernel_rfl) (by simp) ?_
      refine AllReadyH.cons (o := { dst := none, op := Op.store 23 (Operand.tmp 2) (Operand.tmp 20), type := 0, pos := "life.go:167", after := #[{ on := 1, ground := Ground.data }, { on := 10, ground := Ground.chain }, { on := 0, ground := Ground.phase }, { on := 1, ground := Ground.phase }, { on := 2, ground := Ground.textOnly Departure.lateStores }, { on := 3, ground := Ground.textOnly Departure.lateStoresUnsure }, { on := 4, ground := Ground.textOnly Departure.lateStores }, { on := 5, ground := Ground.textOnly Departure.lateStores }, { on := 6, ground := Ground.textOnly Departure.lateStores }, { on := 7, ground := Ground.textOnly Departure.lateStores }, { on := 8, ground := Ground.textOnly Departure.lateStores }, { on := 9, ground := Ground.textOnly Departure.lateStores }, { on := 10, ground := Ground.textOnly Departure.lateStores }, { on := 11, ground := Ground.textOnly Departure.lateStores }, { on := 12, ground := Ground.textOnly Departure.lateStores }, { on := 13, ground := Ground.textOnly Departure.lateStores }, { on := 14, ground := Ground.textOnly Departure.lateStoresUnsure }, { on := 15, ground := Ground.textOnly Departure.lateStores }, { on := 16, ground := Ground.textOnly Departure.lateStores }], guard := none }) rfl (fun K hK => ?_) AllReadyH.nil
      go_simp
      refine hK.out _ _ (by (try dsimp only); go_keep) (fun hS => ?_)
      clear hK K
      try simp only [Act.put, List.setIfInBounds_toArray, List.set_cons_zero, List.set_cons_succ]
      refine wpAnyH_take (i := 18) (oi := { dst := some 3, op := Op.assign (Operand.tmp 35), type := 4, pos := "life.go:167", after := #[{ on := 16, ground := Ground.data }, { on := 17, ground := Ground.chain }, { on := 0, ground := Ground.phase }, { on := 1, ground := Ground.phase }, { on := 2, ground := Ground.phase }, { on := 3, ground := Ground.phase }, { on := 4, ground := Ground.phase }, { on := 5, ground := Ground.phase }, { on := 6, ground := Ground.phase }, { on := 7, ground := Ground.phase }, { on := 8, ground := Ground.phase }, { on := 9, ground := Ground.phase }, { on := 10, ground := Ground.phase }, { on := 11, ground := Ground.phase }, { on := 12, ground := Ground.phase }, { on := 13, ground := Ground.phase }, { on := 14, ground := Ground.phase }, { on := 15, ground := Ground.phase }, { on := 16, ground := Ground.phase }, { on := 17, ground := Ground.phase }], guard := none }) (v := ?v18_139) rfl (by kernel_rfl) (by kernel_rfl) (by kernel_rfl) (fun _ _ _ h => h) (Or.inl ⟨by rfl, ?hy18_139⟩) hS ?rest18_139
      case hy18_139 =>
        intro w hSw
        (try dsimp only at hSw)
        go_simp
        try with_reducible rfl
      try simp only [Act.put, List.setIfInBounds_toArray, List.set_cons_zero, List.set_cons_succ]
      refine wpAnyH_done (by kernel_rfl) ?_ _
      have rz := row9 p1 (Value.int .i64 st) (Value.int .i64 ow) (Value.int .i64 (opnI sr)) (Value.bool false) (Value.bool ma) (Value.int .i64 us) (Value.int .i64 ge) (Value.int .i64 ep) (Value.int .i64 ve)
      have hz := below9 (n := w.heap.size) (A := w) (b := B1 + 1) hB1 (by omega) (Value.int .i64 st) (Value.int .i64 ow) (Value.int .i64 (opnI sr)) (Value.bool false) (Value.bool ma) (Value.int .i64 us) (Value.int .i64 ge) (Value.int .i64 ep) (Value.int .i64 ve)
      go_wp2
      refine bodyPost_ret (res_pair (p := 2) (u := 3) rfl _ _ _ _ rfl rz rfl) rfl ⟨ret_pair (by first | (simp [chB, h1]; done) | exact open_fin h1 EL EM), hz⟩
    | false =>
      go_enter Tryd.func34, Tryd.ntmps34
      go_wp2_with fail
      refine (tz_any _ _ hT1 hx.1 hx.2).mono ?_
      rintro e w1 ⟨rfl, rfl⟩
      rw [show tzI (bits .xor .u64 IntKind.u64.max (IntKind.u64.wrap sr)) = L from EL (fun z => lowI sr = z) rfl]
      clear hx hT1 hT hr
      go_wp2_with fail
      have hB0 : Below w.heap.size w ((w.alloc (.cells #[Value.int .i64 st, Value.int .i64 ow, Value.int .i64 sr, Value.bool false, Value.bool ma, Value.int .i64 us, Value.int .i64 ge, Value.int .i64 ep, Value.int .i64 ve, Value.int .i64 a, Value.int .i64 mo] 39)).alloc (.cells #[Value.int .i64 0, Value.int .i64 0, Value.int .i64 0, Value.bool false, Value.bool false, Value.int .i64 0, Value.int .i64 0, Value.int .i64 0, Value.int .i64 0] 23)) := ((Below.refl _ _).alloc (Nat.le_refl _) _).alloc (by simp) _
      have r0 := (RowAt.new w 39 #[Value.int .i64 st, Value.int .i64 ow, Value.int .i64 sr, Value.bool false, Value.bool ma, Value.int .i64 us, Value.int .i64 ge, Value.int .i64 ep, Value.int .i64 ve, Value.int .i64 a, Value.int .i64 mo]).alloc (.cells #[Value.int .i64 0, Value.int .i64 0, Value.int .i64 0, Value.bool false, Value.bool false, Value.int .i64 0, Value.int .i64 0, Value.int .i64 0, Value.int .i64 0] 23)
      have r1 := new2 w (.cells #[Value.int .i64 st, Value.int .i64 ow, Value.int .i64 sr, Value.bool false, Value.bool ma, Value.int .i64 us, Value.int .i64 ge, Value.int .i64 ep, Value.int .i64 ve, Value.int .i64 a, Value.int .i64 mo] 39) 23 #[Value.int .i64 0, Value.int .i64 0, Value.int .i64 0, Value.bool false, Value.bool false, Value.int .i64 0, Value.int .i64 0, Value.int .i64 0, Value.int .i64 0]
      obtain ⟨W, hW⟩ : ∃ W, W = (w.alloc (.cells #[Value.int .i64 st, Value.int .i64 ow, Value.int .i64 sr, Value.bool false, Value.bool ma, Value.int .i64 us, Value.int .i64 ge, Value.int .i64 ep, Value.int .i64 ve, Value.int .i64 a, Value.int .i64 mo] 39)).alloc (.cells #[Value.int .i64 0, Value.int .i64 0, Value.int .i64 0, Value.bool false, Value.bool false, Value.int .i64 0, Value.int .i64 0, Value.int .i64 0, Value.int .i64 0] 23) := ⟨_, rfl⟩
      rw [← hW] at hB0 r0 r1 ⊢
      clear hW
      obtain ⟨B1, e1⟩ : ∃ B1, B1 = w.heap.size := ⟨_, rfl⟩
      have hle : w.heap.size ≤ B1 := by omega
      rw [← e1] at r0 r1 ⊢
      clear e1
      have hne : B1 ≠ B1 + 1 := by omega
      have c2 : W.cell? ⟨B1, 2, none⟩ = some (.int .i64 sr) := r0.cell 2 rfl
      have f2 : W.frozen? ⟨B1, 2, none⟩ = false := r0.frozen 2
      go_region
      clear c2 f2
      have eO : bits .or .i64 sr (wrap64 (2 ^ L.toNat)) = opnI sr := EL (fun z => bits .or .i64 sr (wrap64 (2 ^ z.toNat)) = opnI sr) rfl
      rw [eO]
      replace r0 : RowAt _ B1 39 #[Value.int .i64 st, Value.int .i64 ow, Value.int .i64 (opnI sr), Value.bool false, Value.bool ma, Value.int .i64 us, Value.int .i64 ge, Value.int .i64 ep, Value.int .i64 ve, Value.int .i64 a, Value.int .i64 mo] := (r0.put 2 (.int .i64 (opnI sr))).drew
      replace r1 := (r1.putOther ⟨B1, 2, none⟩ (Ne.symm hne) (.int .i64 (opnI sr))).drew
      replace hB0 := (hB0.setCell hle (p := ⟨B1, 2, none⟩) (.int .i64 (opnI sr))).drew
      clear eO
      obtain ⟨V, hV⟩ : ∃ V, V = (W.setCell ⟨B1, 2, none⟩ (.int .i64 (opnI sr))).drew := ⟨_, rfl⟩
      rw [← hV] at r0 r1 hB0 ⊢
      clear hV
      go_wp2_with fail
      have q0 := r0.drew
      have p0 := r1.drew
      have hBd := hB0.drew
      clear hB0 r0 r1
      have c00 : V.drew.cell? ⟨B1, 0, none⟩ = some (Value.int .i64 st) := q0.cell 0 rfl
      have c01 : V.drew.cell? ⟨B1, 1, none⟩ = some (Value.int .i64 ow) := q0.cell 1 rfl
      have c02 : V.drew.cell? ⟨B1, 2, none⟩ = some (Value.int .i64 (opnI sr)) := q0.cell 2 rfl
      have c03 : V.drew.cell? ⟨B1, 3, none⟩ = some (Value.bool false) := q0.cell 3 rfl
      have c04 : V.drew.cell? ⟨B1, 4, none⟩ = some (Value.bool ma) := q0.cell 4 rfl
      have c05 : V.drew.cell? ⟨B1, 5, none⟩ = some (Value.int .i64 us) := q0.cell 5 rfl
      have c06 : V.drew.cell? ⟨B1, 6, none⟩ = some (Value.int .i64 ge) := q0.cell 6 rfl
      have c07 : V.drew.cell? ⟨B1, 7, none⟩ = some (Value.int .i64 ep) := q0.cell 7 rfl
      have c08 : V.drew.cell? ⟨B1, 8, none⟩ = some (Value.int .i64 ve) := q0.cell 8 rfl
      have c09 : V.drew.cell? ⟨B1, 9, none⟩ = some (Value.int .i64 a) := q0.cell 9 rfl
      have c010 : V.drew.cell? ⟨B1, 10, none⟩ = some (Value.int .i64 mo) := q0.cell 10 rfl
      have d00 : V.drew.cell? ⟨B1 + 1, 0, none⟩ = some (Value.int .i64 0) := p0.cell 0 rfl
      have g00 : V.drew.frozen? ⟨B1 + 1, 0, none⟩ = false := p0.frozen 0
      have d01 : V.drew.cell? ⟨B1 + 1, 1, none⟩ = some (Value.int .i64 0) := p0.cell 1 rfl
      have g01 : V.drew.frozen? ⟨B1 + 1, 1, none⟩ = false := p0.frozen 1
      have d02 : V.drew.cell? ⟨B1 + 1, 2, none⟩ = some (Value.int .i64 0) := p0.cell 2 rfl
      have g02 : V.drew.frozen? ⟨B1 + 1, 2, none⟩ = false := p0.frozen 2
      have d03 : V.drew.cell? ⟨B1 + 1, 3, none⟩ = some (Value.bool false) := p0.cell 3 rfl
      have g03 : V.drew.frozen? ⟨B1 + 1, 3, none⟩ = false := p0.frozen 3
      have d04 : V.drew.cell? ⟨B1 + 1, 4, none⟩ = some (Value.bool false) := p0.cell 4 rfl
      have g04 : V.drew.frozen? ⟨B1 + 1, 4, none⟩ = false := p0.frozen 4
      have d05 : V.drew.cell? ⟨B1 + 1, 5, none⟩ = some (Value.int .i64 0) := p0.cell 5 rfl
      have g05 : V.drew.frozen? ⟨B1 + 1, 5, none⟩ = false := p0.frozen 5
      have d06 : V.drew.cell? ⟨B1 + 1, 6, none⟩ = some (Value.int .i64 0) := p0.cell 6 rfl
      have g06 : V.drew.frozen? ⟨B1 + 1, 6, none⟩ = false := p0.frozen 6
      have d07 : V.drew.cell? ⟨B1 + 1, 7, none⟩ = some (Value.int .i64 0) := p0.cell 7 rfl
      have g07 : V.drew.frozen? ⟨B1 + 1, 7, none⟩ = false := p0.frozen 7
      have d08 : V.drew.cell? ⟨B1 + 1, 8, none⟩ = some (Value.int .i64 0) := p0.cell 8 rfl
      have g08 : V.drew.frozen? ⟨B1 + 1, 8, none⟩ = false := p0.frozen 8
      refine wp_region_held_drew (S := (fun w' => w'.cell? ⟨B1, 0, none⟩ = some (Value.int .i64 st) ∧ w'.cell? ⟨B1, 1, none⟩ = some (Value.int .i64 ow) ∧ w'.cell? ⟨B1, 2, none⟩ = some (Value.int .i64 (opnI sr)) ∧ w'.cell? ⟨B1, 3, none⟩ = some (Value.bool false) ∧ w'.cell? ⟨B1, 4, none⟩ = some (Value.bool ma) ∧ w'.cell? ⟨B1, 5, none⟩ = some (Value.int .i64 us) ∧ w'.cell? ⟨B1, 6, none⟩ = some (Value.int .i64 ge) ∧ w'.cell? ⟨B1, 7, none⟩ = some (Value.int .i64 ep) ∧ w'.cell? ⟨B1, 8, none⟩ = some (Value.int .i64 ve) ∧ w'.cell? ⟨B1, 9, none⟩ = some (Value.int .i64 a) ∧ w'.cell? ⟨B1, 10, none⟩ = some (Value.int .i64 mo))) (by kernel_rfl) ⟨c00, c01, c02, c03, c04, c05, c06, c07, c08, c09, c010⟩ (fun hS => ?_)
      generalize V.drew = WD at *
      refine wpAnyH_take (i := 0) (oi := { dst := some 19, op := Op.fieldAddr 39 (Operand.tmp 1) 0, type := 0, pos := "life.go:167", after := #[], guard := none }) (v := ?v0_140) rfl (by kernel_rfl) (by kernel_rfl) (by kernel_rfl) (fun _ _ _ h => h) (Or.inl ⟨by rfl, ?hy0_140⟩) hS ?rest0_140
      case hy0_140 =>
        intro w hSw
        (try dsimp only at hSw)
        go_simp
        try with_reducible rfl
      try simp only [Act.put, List.setIfInBounds_toArray, List.set_cons_zero, List.set_cons_succ]
      refine wpAnyH_take (i := 1) (oi := { dst := some 20, op := Op.load 23 (Operand.tmp 19), type := 23, pos := "life.go:167", after := #[{ on := 0, ground := Ground.data }], guard := none }) (v := ?v1_141) rfl (by kernel_rfl) (by kernel_rfl) (by kernel_rfl) (fun _ _ _ h => h) (Or.inl ⟨by rfl, ?hy1_141⟩) hS ?rest1_141
      case hy1_141 =>
        intro w hSw
        (try dsimp only at hSw)
        go_simp
        try with_reducible rfl
      try simp only [Act.put, List.setIfInBounds_toArray, List.set_cons_zero, List.set_cons_succ]
      refine wpAnyH_take (i := 2) (oi := { dst := some 21, op := Op.load 39 (Operand.tmp 1), type := 39, pos := "life.go:167", after := #[], guard := none }) (v := ?v2_142) rfl (by kernel_rfl) (by kernel_rfl) (by kernel_rfl) (fun _ _ _ h => h) (Or.inl ⟨by rfl, ?hy2_142⟩) hS ?rest2_142
      case hy2_142 =>
        intro w hSw
        (try dsimp only at hSw)
        go_simp
        try with_reducible rfl
      try simp only [Act.put, List.setIfInBounds_toArray, List.set_cons_zero, List.set_cons_succ]
      refine wpAnyH_ready (rs := [3]) (by kernel_rfl) (by simp) ?_
      refine AllReadyH.cons (o := { dst := some 22, op := Op.call { callee := Callee.value (Operand.func 48), args := #[Operand.tmp 21, Operand.const (Value.int IntKind.i64 3)], argTypes := #[39, 3] }, type := 4, pos := "life.go:167", after := #[{ on := 2, ground := Ground.data }], guard := none }) rfl (fun K hK => ?_) AllReadyH.nil
      go_simp
      refine (mine_is ⟨st, ow, opnI sr, false, ma, us, ge, ep, ve⟩ a mo 3 _ _ h1).mono ?_
      rintro e w1 ⟨rfl, hb1⟩
      have q1 := q0.below hb1 (by simpa using q0.lt)
      have p1 := p0.below hb1 (by simpa using p0.lt)
      have hB1 := hBd.trans (hb1.mono (by simpa using hBd.size))
      have c10 : w1.cell? ⟨B1, 0, none⟩ = some (Value.int .i64 st) := q1.cell 0 rfl
      have c11 : w1.cell? ⟨B1, 1, none⟩ = some (Value.int .i64 ow) := q1.cell 1 rfl
      have c12 : w1.cell? ⟨B1, 2, none⟩ = some (Value.int .i64 (opnI sr)) := q1.cell 2 rfl
      have c13 : w1.cell? ⟨B1, 3, none⟩ = some (Value.bool false) := q1.cell 3 rfl
      have c14 : w1.cell? ⟨B1, 4, none⟩ = some (Value.bool ma) := q1.cell 4 rfl
      have c15 : w1.cell? ⟨B1, 5, none⟩ = some (Value.int .i64 us) := q1.cell 5 rfl
      have c16 : w1.cell? ⟨B1, 6, none⟩ = some (Value.int .i64 ge) := q1.cell 6 rfl
      have c17 : w1.cell? ⟨B1, 7, none⟩ = some (Value.int .i64 ep) := q1.cell 7 rfl
      have c18 : w1.cell? ⟨B1, 8, none⟩ = some (Value.int .i64 ve) := q1.cell 8 rfl
      have c19 : w1.cell? ⟨B1, 9, none⟩ = some (Value.int .i64 a) := q1.cell 9 rfl
      have c110 : w1.cell? ⟨B1, 10, none⟩ = some (Value.int .i64 mo) := q1.cell 10 rfl
      have d10 : w1.cell? ⟨B1 + 1, 0, none⟩ = some (Value.int .i64 0) := p1.cell 0 rfl
      have g10 : w1.frozen? ⟨B1 + 1, 0, none⟩ = false := p1.frozen 0
      have d11 : w1.cell? ⟨B1 + 1, 1, none⟩ = some (Value.int .i64 0) := p1.cell 1 rfl
      have g11 : w1.frozen? ⟨B1 + 1, 1, none⟩ = false := p1.frozen 1
      have d12 : w1.cell? ⟨B1 + 1, 2, none⟩ = some (Value.int .i64 0) := p1.cell 2 rfl
      have g12 : w1.frozen? ⟨B1 + 1, 2, none⟩ = false := p1.frozen 2
      have d13 : w1.cell? ⟨B1 + 1, 3, none⟩ = some (Value.bool false) := p1.cell 3 rfl
      have g13 : w1.frozen? ⟨B1 + 1, 3, none⟩ = false := p1.frozen 3
      have d14 : w1.cell? ⟨B1 + 1, 4, none⟩ = some (Value.bool false) := p1.cell 4 rfl
      have g14 : w1.frozen? ⟨B1 + 1, 4, none⟩ = false := p1.frozen 4
      have d15 : w1.cell? ⟨B1 + 1, 5, none⟩ = some (Value.int .i64 0) := p1.cell 5 rfl
      have g15 : w1.frozen? ⟨B1 + 1, 5, none⟩ = false := p1.frozen 5
      have d16 : w1.cell? ⟨B1 + 1, 6, none⟩ = some (Value.int .i64 0) := p1.cell 6 rfl
      have g16 : w1.frozen? ⟨B1 + 1, 6, none⟩ = false := p1.frozen 6
      have d17 : w1.cell? ⟨B1 + 1, 7, none⟩ = some (Value.int .i64 0) := p1.cell 7 rfl
      have g17 : w1.frozen? ⟨B1 + 1, 7, none⟩ = false := p1.frozen 7
      have d18 : w1.cell? ⟨B1 + 1, 8, none⟩ = some (Value.int .i64 0) := p1.cell 8 rfl
      have g18 : w1.frozen? ⟨B1 + 1, 8, none⟩ = false := p1.frozen 8
      refine hK.out _ _ ⟨c10, c11, c12, c13, c14, c15, c16, c17, c18, c19, c110⟩ (fun hS => ?_)
      clear hK K
      try simp only [Act.put, List.setIfInBounds_toArray, List.set_cons_zero, List.set_cons_succ]
      refine wpAnyH_take (i := 4) (oi := { dst := some 23, op := Op.move (Operand.tmp 22), type := 4, pos := "life.go:167", after := #[{ on := 3, ground := Ground.data }, { on := 3, ground := Ground.chain }], guard := none }) (v := ?v4_143) rfl (by kernel_rfl) (by kernel_rfl) (by kernel_rfl) (fun _ _ _ h => h) (Or.inl ⟨by rfl, ?hy4_143⟩) hS ?rest4_143
      case hy4_143 =>
        intro w hSw
        (try dsimp only at hSw)
        go_simp
        try with_reducible rfl
      try simp only [Act.put, List.setIfInBounds_toArray, List.set_cons_zero, List.set_cons_succ]
      refine wpAnyH_take (i := 5) (oi := { dst := some 24, op := Op.fieldAddr 39 (Operand.tmp 1) 0, type := 0, pos := "life.go:167", after := #[{ on := 4, ground := Ground.guard }], guard := some (4, true) }) (v := undef) rfl (by kernel_rfl) (by kernel_rfl) (by kernel_rfl) (fun _ _ _ h => h) (Or.inr ⟨by rfl, rfl⟩) hS ?_
      try simp only [Act.put, List.setIfInBounds_toArray, List.set_cons_zero, List.set_cons_succ]
      refine wpAnyH_take (i := 6) (oi := { dst := some 25, op := Op.fieldAddr 23 (Operand.tmp 24) 3, type := 0, pos := "life.go:167", after := #[{ on := 5, ground := Ground.data }, { on := 4, ground := Ground.guard }], guard := some (4, true) }) (v := undef) rfl (by kernel_rfl) (by kernel_rfl) (by kernel_rfl) (fun _ _ _ h => h) (Or.inr ⟨by rfl, rfl⟩) hS ?_
      try simp only [Act.put, List.setIfInBounds_toArray, List.set_cons_zero, List.set_cons_succ]
      refine wpAnyH_take (i := 7) (oi := { dst := some 26, op := Op.load 4 (Operand.tmp 25), type := 4, pos := "life.go:167", after := #[{ on := 6, ground := Ground.data }, { on := 4, ground := Ground.guard }], guard := some (4, true) }) (v := undef) rfl (by kernel_rfl) (by kernel_rfl) (by kernel_rfl) (fun _ _ _ h => h) (Or.inr ⟨by rfl, rfl⟩) hS ?_
      try simp only [Act.put, List.setIfInBounds_toArray, List.set_cons_zero, List.set_cons_succ]
      refine wpAnyH_take (i := 8) (oi := { dst := some 27, op := Op.unOp UnOp.not 4 (Operand.tmp 26), type := 4, pos := "life.go:167", after := #[{ on := 7, ground := Ground.data }, { on := 4, ground := Ground.guard }], guard := some (4, true) }) (v := undef) rfl (by kernel_rfl) (by kernel_rfl) (by kernel_rfl) (fun _ _ _ h => h) (Or.inr ⟨by rfl, rfl⟩) hS ?_
      try simp only [Act.put, List.setIfInBounds_toArray, List.set_cons_zero, List.set_cons_succ]
      refine wpAnyH_take (i := 9) (oi := { dst := some 28, op := Op.pick (Operand.tmp 23) (Operand.tmp 27) (Operand.const (Value.bool false)), type := 4, pos := "life.go:167", after := #[{ on := 4, ground := Ground.data }, { on := 8, ground := Ground.data }], guard := none }) (v := ?v9_144) rfl (by kernel_rfl) (by kernel_rfl) (by kernel_rfl) (fun _ _ _ h => h) (Or.inl ⟨by rfl, ?hy9_144⟩) hS ?rest9_144
      case hy9_144 =>
        intro w hSw
        (try dsimp only at hSw)
        go_simp
        try with_reducible rfl
      try simp only [Act.put, List.setIfInBounds_toArray, List.set_cons_zero, List.set_cons_succ]
      refine wpAnyH_take (i := 10) (oi := { dst := some 29, op := Op.move (Operand.tmp 28), type := 4, pos := "life.go:167", after := #[{ on := 9, ground := Ground.data }, { on := 4, ground := Ground.chain }], guard := none }) (v := ?v10_145) rfl (by kernel_rfl) (by kernel_rfl) (by kernel_rfl) (fun _ _ _ h => h) (Or.inl ⟨by rfl, ?hy10_145⟩) hS ?rest10_145
      case hy10_145 =>
        intro w hSw
        (try dsimp only at hSw)
        go_simp
        try with_reducible rfl
      try simp only [Act.put, List.setIfInBounds_toArray, List.set_cons_zero, List.set_cons_succ]
      refine wpAnyH_take (i := 11) (oi := { dst := some 30, op := Op.move (Operand.tmp 4), type := 3, pos := "life.go:167", after := #[{ on := 10, ground := Ground.guard }, { on := 17, ground := Ground.gcOnly Departure.lateStores }], guard := some (10, true) }) (v := undef) rfl (by kernel_rfl) (by kernel_rfl) (by kernel_rfl) (fun _ _ _ h => h) (Or.inr ⟨by rfl, rfl⟩) hS ?_
      try simp only [Act.put, List.setIfInBounds_toArray, List.set_cons_zero, List.set_cons_succ]
      refine wpAnyH_take (i := 12) (oi := { dst := some 31, op := Op.fieldAddr 39 (Operand.tmp 1) 2, type := 0, pos := "life.go:167", after := #[{ on := 10, ground := Ground.guard }], guard := some (10, true) }) (v := undef) rfl (by kernel_rfl) (by kernel_rfl) (by kernel_rfl) (fun _ _ _ h => h) (Or.inr ⟨by rfl, rfl⟩) hS ?_
      try simp only [Act.put, List.setIfInBounds_toArray, List.set_cons_zero, List.set_cons_succ]
      refine wpAnyH_take (i := 13) (oi := { dst := some 32, op := Op.load 3 (Operand.tmp 31), type := 3, pos := "life.go:167", after := #[{ on := 12, ground := Ground.data }, { on := 10, ground := Ground.guard }], guard := some (10, true) }) (v := undef) rfl (by kernel_rfl) (by kernel_rfl) (by kernel_rfl) (fun _ _ _ h => h) (Or.inr ⟨by rfl, rfl⟩) hS ?_
      try simp only [Act.put, List.setIfInBounds_toArray, List.set_cons_zero, List.set_cons_succ]
      refine wpAnyH_take (i := 14) (oi := { dst := some 33, op := Op.call { callee := Callee.builtin Builtin.min, args := #[Operand.tmp 32, Operand.const (Value.int IntKind.i64 8)], argTypes := #[3, 3] }, type := 3, pos := "life.go:167", after := #[{ on := 13, ground := Ground.data }, { on := 10, ground := Ground.guard }], guard := some (10, true) }) (v := undef) rfl (by kernel_rfl) (by kernel_rfl) (by kernel_rfl) (fun _ _ _ h => h) (Or.inr ⟨by rfl, rfl⟩) hS ?_
      try simp only [Act.put, List.setIfInBounds_toArray, List.set_cons_zero, List.set_cons_succ]
      refine wpAnyH_take (i := 15) (oi := { dst := some 34, op := Op.binOp BinOp.lss 3 (Operand.tmp 30) (Operand.tmp 33) 3, type := 4, pos := "life.go:167", after := #[{ on := 11, ground := Ground.data }, { on := 14, ground := Ground.data }, { on := 10, ground := Ground.guard }, { on := 17, ground := Ground.gcOnly Departure.lateStores }], guard := some (10, true) }) (v := undef) rfl (by kernel_rfl) (by kernel_rfl) (by kernel_rfl) (fun _ _ _ h => h) (Or.inr ⟨by rfl, rfl⟩) hS ?_
      try simp only [Act.put, List.setIfInBounds_toArray, List.set_cons_zero, List.set_cons_succ]
      refine wpAnyH_take (i := 16) (oi := { dst := some 35, op := Op.pick (Operand.tmp 29) (Operand.tmp 34) (Operand.const (Value.bool false)), type := 4, pos := "life.go:167", after := #[{ on := 10, ground := Ground.data }, { on := 15, ground := Ground.data }, { on := 17, ground := Ground.gcOnly Departure.lateStores }], guard := none }) (v := ?v16_146) rfl (by kernel_rfl) (by kernel_rfl) (by kernel_rfl) (fun _ _ _ h => h) (Or.inl ⟨by rfl, ?hy16_146⟩) hS ?rest16_146
      case hy16_146 =>
        intro w hSw
        (try dsimp only at hSw)
        go_simp
        try with_reducible rfl
      try simp only [Act.put, List.setIfInBounds_toArray, List.set_cons_zero, List.set_cons_succ]
      refine wpAnyH_ready (rs := [17]) (by kernel_rfl) (by simp) ?_
      refine AllReadyH.cons (o := { dst := none, op := Op.store 23 (Operand.tmp 2) (Operand.tmp 20), type := 0, pos := "life.go:167", after := #[{ on := 1, ground := Ground.data }, { on := 10, ground := Ground.chain }, { on := 0, ground := Ground.phase }, { on := 1, ground := Ground.phase }, { on := 2, ground := Ground.textOnly Departure.lateStores }, { on := 3, ground := Ground.textOnly Departure.lateStoresUnsure }, { on := 4, ground := Ground.textOnly Departure.lateStores }, { on := 5, ground := Ground.textOnly Departure.lateStores }, { on := 6, ground := Ground.textOnly Departure.lateStores }, { on := 7, ground := Ground.textOnly Departure.lateStores }, { on := 8, ground := Ground.textOnly Departure.lateStores }, { on := 9, ground := Ground.textOnly Departure.lateStores }, { on := 10, ground := Ground.textOnly Departure.lateStores }, { on := 11, ground := Ground.textOnly Departure.lateStores }, { on := 12, ground := Ground.textOnly Departure.lateStores }, { on := 13, ground := Ground.textOnly Departure.lateStores }, { on := 14, ground := Ground.textOnly Departure.lateStoresUnsure }, { on := 15, ground := Ground.textOnly Departure.lateStores }, { on := 16, ground := Ground.textOnly Departure.lateStores }], guard := none }) rfl (fun K hK => ?_) AllReadyH.nil
      go_simp
      refine hK.out _ _ (by (try dsimp only); go_keep) (fun hS => ?_)
      clear hK K
      try simp only [Act.put, List.setIfInBounds_toArray, List.set_cons_zero, List.set_cons_succ]
      refine wpAnyH_take (i := 18) (oi := { dst := some 3, op := Op.assign (Operand.tmp 35), type := 4, pos := "life.go:167", after := #[{ on := 16, ground := Ground.data }, { on := 17, ground := Ground.chain }, { on := 0, ground := Ground.phase }, { on := 1, ground := Ground.phase }, { on := 2, ground := Ground.phase }, { on := 3, ground := Ground.phase }, { on := 4, ground := Ground.phase }, { on := 5, ground := Ground.phase }, { on := 6, ground := Ground.phase }, { on := 7, ground := Ground.phase }, { on := 8, ground := Ground.phase }, { on := 9, ground := Ground.phase }, { on := 10, ground := Ground.phase }, { on := 11, ground := Ground.phase }, { on := 12, ground := Ground.phase }, { on := 13, ground := Ground.phase }, { on := 14, ground := Ground.phase }, { on := 15, ground := Ground.phase }, { on := 16, ground := Ground.phase }, { on := 17, ground := Ground.phase }], guard := none }) (v := ?v18_147) rfl (by kernel_rfl) (by kernel_rfl) (by kernel_rfl) (fun _ _ _ h => h) (Or.inl ⟨by rfl, ?hy18_147⟩) hS ?rest18_147
      case hy18_147 =>
        intro w hSw
        (try dsimp only at hSw)
        go_simp
        try with_reducible rfl
      try simp only [Act.put, List.setIfInBounds_toArray, List.set_cons_zero, List.set_cons_succ]
      refine wpAnyH_done (by kernel_rfl) ?_ _
      have rz := row9 p1 (Value.int .i64 st) (Value.int .i64 ow) (Value.int .i64 (opnI sr)) (Value.bool false) (Value.bool ma) (Value.int .i64 us) (Value.int .i64 ge) (Value.int .i64 ep) (Value.int .i64 ve)
      have hz := below9 (n := w.heap.size) (A := w) (b := B1 + 1) hB1 (by omega) (Value.int .i64 st) (Value.int .i64 ow) (Value.int .i64 (opnI sr)) (Value.bool false) (Value.bool ma) (Value.int .i64 us) (Value.int .i64 ge) (Value.int .i64 ep) (Value.int .i64 ve)
      go_wp2
      refine bodyPost_ret (res_pair (p := 2) (u := 3) rfl _ _ _ _ rfl rz rfl) rfl ⟨ret_pair (by first | (simp [chB, h1]; done) | exact open_fin h1 EL EM), hz⟩
end Go.Proofs.YtdiipmejkanhfaaDoor
