/- The law ConfApart, walked. -/
import Derived.Test.YtfnpleicbpbiaaaDoorAwake
import Derived.Test.YtfnpleicbpbiaaaDoorApart
namespace Go.Proofs.YtfnpleicbpbiaaaDoor
open Go.RowKit
attribute [local go_sem ↓] Go.wp_at_zero Go.wp_at_succ

theorem wp_append_run {P : Program} {o : Oper} {a : Act} {w : World} {K : Act → World → Prop} {Q : Exit → Act → World → Prop} (s x : Operand) (t : TypeId) (ho : o.op = .call { callee := .builtin .append, args := #[s, x], argTypes := #[t, t] }) (v y : Value) (hs : a.eval s = v) (hx : a.eval x = y) (v' : Value) (w' : World)
    (hr : (Builtin.append_ #[t, t] o.type #[v, y]).run P w = .ok v' w') (hK : K (a.put o.dst v') w') : o.wp P a w K Q := by
  unfold Oper.wp execOp
  simp only [ho, resolve, invoke, builtin, Sem.run_bind, Sem.run_pure, Result.andThen_ok, List.map_toArray, List.map_cons, List.map_nil, hs, hx, hr]
  exact hK
theorem Mine.drew {w0 w : World} {v : Value} {xs : List Int} (h : Mine w0 w v xs) : Mine w0 w.drew v xs := ⟨h.own, h.below.drew⟩
theorem Far.drew {R : Nat → Prop} {w : World} {v : Value} (h : Far R w v) : Far R w.drew v := ⟨h.lt, h.ne⟩
theorem pin_at {c : Cf} {p k : Nat} (hp : c.wo = p) (h : k < p) : pinI c k = ((3 + k : Nat) : Int) := by
  unfold pinI cellI wiB
  rw [if_pos (by simp; omega)]
  omega
theorem grant_at {c : Cf} {p k : Nat} (hp : c.wo = p) (h : k < p) : grantI c k = ((3 + p + k : Nat) : Int) := by
  unfold grantI cellI wiB
  rw [if_pos (by simp; omega)]
  omega
theorem slot_at {c : Cf} {p q k : Nat} (hp : c.wo = p) (hq : c.sl = q) (h : k < q) : slotI c k = ((3 + p + p + k : Nat) : Int) := by
  unfold slotI cellI wiB
  rw [if_pos (by simp; omega)]
  omega
theorem cell_off {f m i : Int} (h : i < 0 ∨ m ≤ i) : cellI f m i = -1 := by
  unfold cellI wiB
  rw [if_neg (by simp; omega)]
theorem Cnt.count {w : World} {g n k x v : Nat} {L : List Nat} (h : Cnt w g n (fun j => (L.take k).count j)) (hx : L[k]? = some x) (hxn : x < n) (hv : v = (L.take k).count x) : Cnt (w.setCell ⟨g, x, none⟩ (.int .i64 ((v : Int) + 1))).drew g n (fun j => (L.take (k + 1)).count j) := by
  have e : ((v : Int) + 1) = ((v + 1 : Nat) : Int) := by omega
  rw [e]
  refine (h.set hxn ?_ fun j _ hj => ?_).drew
  · rw [count_take hx, if_pos rfl, hv]
  · rw [count_take hx, if_neg (fun e => hj e.symm), Nat.add_zero]
/-- the boxes that stand beside the list: the conf's and the counts' -/
def Two (a b : Nat) (x : Nat) : Prop := x = a ∨ x = b
set_option maxRecDepth 100000 in
set_option maxHeartbeats 2000000 in
theorem lapart_any (c : Cf) (w : World) (hT : Tab w) :
    Calls Tryd.prog 5 #[Value.agg #[Value.int .i64 c.wo, Value.int .i64 c.sl, Value.int .i64 c.st, Value.int .i64 c.wa, Value.int .i64 c.us]] w fun e w' => e = .returned (.bool true) ∧ Below w.heap.size w w' := by
  have hB : Below w.heap.size w (w.alloc (.cells #[Value.int .i64 c.wo, Value.int .i64 c.sl, Value.int .i64 c.st, Value.int .i64 c.wa, Value.int .i64 c.us] 23)) := (Below.refl _ _).alloc (Nat.le_refl _) _
  have r0 := RowAt.new w 23 #[Value.int .i64 c.wo, Value.int .i64 c.sl, Value.int .i64 c.st, Value.int .i64 c.wa, Value.int .i64 c.us]
  have HT := Lib.hid (hT.below hB hT.lt)
  clear hT
  go_enter Tryd.func5, Tryd.ntmps5
  go_wp2_with fail
  refine (awake_any _ HT.out).mono ?_
  rintro e w1 ⟨rfl, hb⟩
  replace r0 := r0.below hb r0.lt
  replace hB := hB.trans (hb.mono hB.size)
  clear hb HT
  go_wp2_with (refine wpList_load_row rfl 23 _ rfl _ rfl 23 _ (0, 0) _ r0 Tryd.underlying23 rfl (by kernel_rfl) ?_)
  refine (cright_any c _).mono ?_
  rintro e w2 ⟨rfl, hb⟩
  replace r0 := r0.below hb r0.lt
  replace hB := hB.trans (hb.mono hB.size)
  clear hb
  cases hr : rcB c with
  | false =>
    go_wp2_with fail
    go_ret
    exact ⟨rfl, hB⟩
  | true =>
    have Hc := Lib.hid (rcB_iff.1 hr)
    clear hr
    obtain ⟨n, en⟩ : ∃ n, n = cellsN c := ⟨_, rfl⟩
    obtain ⟨k1, k2, k3⟩ := cellsN_eq Hc.out
    have KM := Lib.hid (fun w : World => k1.symm ▸ cells_any c w Hc.out)
    obtain ⟨p, hp⟩ : ∃ p : Nat, c.wo = p := ⟨c.wo.toNat, by have := Hc.out.wo; omega⟩
    obtain ⟨q, hq⟩ : ∃ q : Nat, c.sl = q := ⟨c.sl.toNat, by have := Hc.out.sl; omega⟩
    have hp9 : 1 ≤ p ∧ p ≤ 8 := by have := Hc.out.wo; omega
    have hq9 : 1 ≤ q ∧ q ≤ 16 := by have := Hc.out.sl; omega
    have Hn := Lib.hid (show 3 + 2 * p + q = n by unfold cellsI at k1; omega)
    have Hp := Lib.hid hp
    have Hq := Lib.hid hq
    rw [← en] at KM k2 k3
    clear en k1 hp hq
    have hn1 : ¬ (n : Int) < 0 := by omega
    have hn2 : ¬ (100 : Int) < (n : Int) := by omega
    have hmk := make_run n (by omega)
    go_wp2_with (refine wpList_load_row rfl 23 _ rfl _ rfl 23 _ (0, 0) _ r0 Tryd.underlying23 rfl (by kernel_rfl) ?_)
    refine (KM.out _).mono ?_
    rintro e w3 ⟨rfl, hb⟩
    replace r0 := r0.below hb r0.lt
    replace hB := hB.trans (hb.mono hB.size)
    clear hb
    have hB1 := r0.lt
    have HC0 := Lib.hid (cnt_new w3 n)
    replace hB := hB.alloc hB.size (.cells (madeCells #[.int .i64 0] n) 3)
    replace r0 := r0.alloc (.cells (madeCells #[.int .i64 0] n) 3)
    have HM0 := Lib.hid (three_own w _ hB)
    go_wp2
    have r1 := r0.alloc (.cells #[.int .i64 0, .int .i64 1, .int .i64 2] 3)
    have HC1 := Lib.hid (HC0.out.below ((Below.refl _ _).alloc (Nat.le_refl _) (.cells #[.int .i64 0, .int .i64 1, .int .i64 2] 3)))
    clear r0 HC0 hmk
    simp only [World.size_alloc] at HM0
    obtain ⟨W, hW⟩ : ∃ W, W = (w3.alloc (.cells (madeCells #[.int .i64 0] n) 3)).alloc (.cells #[.int .i64 0, .int .i64 1, .int .i64 2] 3) := ⟨_, rfl⟩
    have hWs : W.heap.size = w3.heap.size + 1 + 1 := by rw [hW]; simp
    rw [← hW] at HM0 r1 HC1 ⊢
    obtain ⟨ga, ea⟩ : ∃ ga, ga = w3.heap.size + 1 := ⟨_, rfl⟩
    obtain ⟨gs, eg⟩ : ∃ gs, gs = w3.heap.size := ⟨_, rfl⟩
    obtain ⟨B1, e1⟩ : ∃ B1, B1 = w.heap.size := ⟨_, rfl⟩
    rw [← ea] at HM0 ⊢
    rw [← eg] at HC1 ⊢
    rw [← e1] at r1 ⊢
    have HF0 : Hid (Far (Two B1 gs) W (.slice (some ⟨ga, 0, none⟩) 3 3)) := Lib.hid ⟨fun x hx => by rcases hx with rfl | rfl <;> omega, fun x hx e => by
      simp [Value.ownBlock] at e
      rcases hx with rfl | rfl <;> omega⟩
    have hne : B1 ≠ gs := by omega
    have hgs9 : w.heap.size ≤ gs := by omega
    clear hB hW hWs ea eg e1 hB1
    go_loopw [7, 8] (fun o i wr => ∃ (k m : Nat) (Av : Option Addr) (cv : Nat), k ≤ p ∧ i = .int .i64 k ∧ o = .slice Av m cv ∧ Hid (m = 3 + 2 * k) ∧ Hid (Mine w wr (.slice Av m cv) (zI (aN p k))) ∧ Hid (Far (Two B1 gs) wr (.slice Av m cv)) ∧ RowAt wr B1 23 #[Value.int .i64 c.wo, Value.int .i64 c.sl, Value.int .i64 c.st, Value.int .i64 c.wa, Value.int .i64 c.us] ∧ Hid (Cnt wr gs n (fun _ => 0))) (fun _ i _ => p - (intOf i).toNat)
    case atStart => exact ⟨0, 3, some ⟨ga, 0, none⟩, 3, Nat.zero_le _, rfl, rfl, Lib.hid rfl, HM0, HF0, r1, HC1⟩
    case round =>
      obtain ⟨k, m, Av, cv, hk, rfl, rfl, Hm, HM, HF, hr, HC⟩ := hrel
      have k00 : (wr).cell? ⟨B1, 0, none⟩ = some (Value.int .i64 c.wo) := hr.cell 0 rfl
      have k01 : (wr).cell? ⟨B1, 1, none⟩ = some (Value.int .i64 c.sl) := hr.cell 1 rfl
      have k02 : (wr).cell? ⟨B1, 2, none⟩ = some (Value.int .i64 c.st) := hr.cell 2 rfl
      have k03 : (wr).cell? ⟨B1, 3, none⟩ = some (Value.int .i64 c.wa) := hr.cell 3 rfl
      have k04 : (wr).cell? ⟨B1, 4, none⟩ = some (Value.int .i64 c.us) := hr.cell 4 rfl
      by_cases hlt : k < p
      · have hd : (k : Int) < c.wo := by rw [Hp.out]; omega
        have KP := Lib.hid (fun w : World => pin_at Hp.out hlt ▸ pin_any c k w Hc.out)
        have KG := Lib.hid (fun w : World => grant_at Hp.out hlt ▸ grant_any c k w Hc.out)
        have HM9 := Lib.hid HM.out.drew
        have HF9 := Lib.hid HF.out.drew
        have HC9 := Lib.hid HC.out.drew
        have Hlen : Hid ((zI (aN p k)).length = m) := Lib.hid (by rw [zI_len, aN_len, Hm.out])
        have hm9 : m ≤ 1000 := by rw [Hm.out]; omega
        go_wp2_with fail
        have t0 := hr.drew
        clear hr k00 k01 k02 k03 k04
        have c00 : (wr.drew).cell? ⟨B1, 0, none⟩ = some (Value.int .i64 c.wo) := t0.cell 0 rfl
        have c01 : (wr.drew).cell? ⟨B1, 1, none⟩ = some (Value.int .i64 c.sl) := t0.cell 1 rfl
        have c02 : (wr.drew).cell? ⟨B1, 2, none⟩ = some (Value.int .i64 c.st) := t0.cell 2 rfl
        have c03 : (wr.drew).cell? ⟨B1, 3, none⟩ = some (Value.int .i64 c.wa) := t0.cell 3 rfl
        have c04 : (wr.drew).cell? ⟨B1, 4, none⟩ = some (Value.int .i64 c.us) := t0.cell 4 rfl
        refine wp_region_held_drew (S := (fun w' => w'.cell? ⟨B1, 0, none⟩ = some (Value.int .i64 c.wo) ∧ w'.cell? ⟨B1, 1, none⟩ = some (Value.int .i64 c.sl) ∧ w'.cell? ⟨B1, 2, none⟩ = some (Value.int .i64 c.st) ∧ w'.cell? ⟨B1, 3, none⟩ = some (Value.int .i64 c.wa) ∧ w'.cell? ⟨B1, 4, none⟩ = some (Value.int .i64 c.us))) (by kernel_rfl) ⟨c00, c01, c02, c03, c04⟩ (fun hS => ?_)
        generalize wr.drew = WD at *
        refine wpAnyH_take (i := 0) (oi := { dst := some 35, op := Op.move (Operand.tmp 7), type := 33, pos := "law.go:62", after := #[], guard := none }) (v := ?v0_45) rfl (by kernel_rfl) (by kernel_rfl) (by kernel_rfl) (fun _ _ _ h => h) (Or.inl ⟨by rfl, ?hy0_45⟩) hS ?rest0_45
        case hy0_45 =>
          intro w hSw
          (try dsimp only at hSw)
          go_simp
          try with_reducible rfl
        try simp only [Act.put, List.setIfInBounds_toArray, List.set_cons_zero, List.set_cons_succ]
        refine wpAnyH_take (i := 1) (oi := { dst := some 36, op := Op.load 23 (Operand.tmp 1), type := 23, pos := "law.go:62", after := #[], guard := none }) (v := ?v1_46) rfl (by kernel_rfl) (by kernel_rfl) (by kernel_rfl) (fun _ _ _ h => h) (Or.inl ⟨by rfl, ?hy1_46⟩) hS ?rest1_46
        case hy1_46 =>
          intro w hSw
          (try dsimp only at hSw)
          go_simp
          try with_reducible rfl
        try simp only [Act.put, List.setIfInBounds_toArray, List.set_cons_zero, List.set_cons_succ]
        refine wpAnyH_take (i := 2) (oi := { dst := some 37, op := Op.move (Operand.tmp 8), type := 3, pos := "law.go:62", after := #[], guard := none }) (v := ?v2_47) rfl (by kernel_rfl) (by kernel_rfl) (by kernel_rfl) (fun _ _ _ h => h) (Or.inl ⟨by rfl, ?hy2_47⟩) hS ?rest2_47
        case hy2_47 =>
          intro w hSw
          (try dsimp only at hSw)
          go_simp
          try with_reducible rfl
        try simp only [Act.put, List.setIfInBounds_toArray, List.set_cons_zero, List.set_cons_succ]
        refine wpAnyH_take (i := 4) (oi := { dst := some 39, op := Op.load 23 (Operand.tmp 1), type := 23, pos := "law.go:62", after := #[], guard := none }) (v := ?v4_48) rfl (by kernel_rfl) (by kernel_rfl) (by kernel_rfl) (fun _ _ _ h => h) (Or.inl ⟨by rfl, ?hy4_48⟩) hS ?rest4_48
        case hy4_48 =>
          intro w hSw
          (try dsimp only at hSw)
          go_simp
          try with_reducible rfl
        try simp only [Act.put, List.setIfInBounds_toArray, List.set_cons_zero, List.set_cons_succ]
        refine wpAnyH_take (i := 5) (oi := { dst := some 40, op := Op.move (Operand.tmp 8), type := 3, pos := "law.go:62", after := #[], guard := none }) (v := ?v5_49) rfl (by kernel_rfl) (by kernel_rfl) (by kernel_rfl) (fun _ _ _ h => h) (Or.inl ⟨by rfl, ?hy5_49⟩) hS ?rest5_49
        case hy5_49 =>
          intro w hSw
          (try dsimp only at hSw)
          go_simp
          try with_reducible rfl
        try simp only [Act.put, List.setIfInBounds_toArray, List.set_cons_zero, List.set_cons_succ]
        refine wpAnyH_ready (rs := [3]) (by kernel_rfl) (by simp) ?_
        refine AllReadyH.cons (o := { dst := some 38, op := Op.call { callee := Callee.value (Operand.func 13), args := #[Operand.tmp 36, Operand.tmp 37], argTypes := #[23, 3] }, type := 3, pos := "law.go:62", after := #[{ on := 1, ground := Ground.data }, { on := 2, ground := Ground.data }], guard := none }) rfl (fun K hK => ?_) AllReadyH.nil
        go_simp
        refine (KP.out _).mono ?_
        rintro e u1 ⟨rfl, hb⟩
        have t1 := t0.below hb t0.lt
        have HN1 := Lib.hid (HM9.out.on hb)
        have HG1 := Lib.hid (HF9.out.on hb.size)
        have HD1 := Lib.hid (HC9.out.below hb)
        clear hb
        have c10 : (u1).cell? ⟨B1, 0, none⟩ = some (Value.int .i64 c.wo) := t1.cell 0 rfl
        have c11 : (u1).cell? ⟨B1, 1, none⟩ = some (Value.int .i64 c.sl) := t1.cell 1 rfl
        have c12 : (u1).cell? ⟨B1, 2, none⟩ = some (Value.int .i64 c.st) := t1.cell 2 rfl
        have c13 : (u1).cell? ⟨B1, 3, none⟩ = some (Value.int .i64 c.wa) := t1.cell 3 rfl
        have c14 : (u1).cell? ⟨B1, 4, none⟩ = some (Value.int .i64 c.us) := t1.cell 4 rfl
        refine hK.out _ _ ⟨c10, c11, c12, c13, c14⟩ (fun hS => ?_)
        clear hK K
        try simp only [Act.put, List.setIfInBounds_toArray, List.set_cons_zero, List.set_cons_succ]
        refine wpAnyH_ready (rs := [6]) (by kernel_rfl) (by simp) ?_
        refine AllReadyH.cons (o := { dst := some 41, op := Op.call { callee := Callee.value (Operand.func 15), args := #[Operand.tmp 39, Operand.tmp 40], argTypes := #[23, 3] }, type := 3, pos := "law.go:62", after := #[{ on := 4, ground := Ground.data }, { on := 5, ground := Ground.data }, { on := 3, ground := Ground.chain }], guard := none }) rfl (fun K hK => ?_) AllReadyH.nil
        go_simp
        refine (KG.out _).mono ?_
        rintro e u2 ⟨rfl, hb⟩
        have t2 := t1.below hb t1.lt
        have HN2 := Lib.hid (HN1.out.on hb)
        have HG2 := Lib.hid (HG1.out.on hb.size)
        have HD2 := Lib.hid (HD1.out.below hb)
        clear hb
        have c20 : (u2).cell? ⟨B1, 0, none⟩ = some (Value.int .i64 c.wo) := t2.cell 0 rfl
        have c21 : (u2).cell? ⟨B1, 1, none⟩ = some (Value.int .i64 c.sl) := t2.cell 1 rfl
        have c22 : (u2).cell? ⟨B1, 2, none⟩ = some (Value.int .i64 c.st) := t2.cell 2 rfl
        have c23 : (u2).cell? ⟨B1, 3, none⟩ = some (Value.int .i64 c.wa) := t2.cell 3 rfl
        have c24 : (u2).cell? ⟨B1, 4, none⟩ = some (Value.int .i64 c.us) := t2.cell 4 rfl
        refine hK.out _ _ ⟨c20, c21, c22, c23, c24⟩ (fun hS => ?_)
        clear hK K
        try simp only [Act.put, List.setIfInBounds_toArray, List.set_cons_zero, List.set_cons_succ]
        refine wpAnyH_ready (rs := [7]) (by kernel_rfl) (by simp) ?_
        refine AllReadyH.cons (o := { dst := some 42, op := Op.buildSlice 33 2 #[(0, Operand.tmp 38), (1, Operand.tmp 41)], type := 33, pos := "law.go:62", after := #[{ on := 3, ground := Ground.data }, { on := 6, ground := Ground.data }], guard := none }) rfl (fun K hK => ?_) AllReadyH.nil
        go_simp
        have t3 := t2.alloc (Obj.cells #[Value.int .i64 ((3 + k : Nat) : Int), Value.int .i64 ((3 + p + k : Nat) : Int)] 3)
        have c30 : (u2.alloc (Obj.cells #[Value.int .i64 ((3 + k : Nat) : Int), Value.int .i64 ((3 + p + k : Nat) : Int)] 3)).cell? ⟨B1, 0, none⟩ = some (Value.int .i64 c.wo) := t3.cell 0 rfl
        have c31 : (u2.alloc (Obj.cells #[Value.int .i64 ((3 + k : Nat) : Int), Value.int .i64 ((3 + p + k : Nat) : Int)] 3)).cell? ⟨B1, 1, none⟩ = some (Value.int .i64 c.sl) := t3.cell 1 rfl
        have c32 : (u2.alloc (Obj.cells #[Value.int .i64 ((3 + k : Nat) : Int), Value.int .i64 ((3 + p + k : Nat) : Int)] 3)).cell? ⟨B1, 2, none⟩ = some (Value.int .i64 c.st) := t3.cell 2 rfl
        have c33 : (u2.alloc (Obj.cells #[Value.int .i64 ((3 + k : Nat) : Int), Value.int .i64 ((3 + p + k : Nat) : Int)] 3)).cell? ⟨B1, 3, none⟩ = some (Value.int .i64 c.wa) := t3.cell 3 rfl
        have c34 : (u2.alloc (Obj.cells #[Value.int .i64 ((3 + k : Nat) : Int), Value.int .i64 ((3 + p + k : Nat) : Int)] 3)).cell? ⟨B1, 4, none⟩ = some (Value.int .i64 c.us) := t3.cell 4 rfl
        refine hK.out _ _ ⟨c30, c31, c32, c33, c34⟩ (fun hS => ?_)
        clear hK K
        try simp only [Act.put, List.setIfInBounds_toArray, List.set_cons_zero, List.set_cons_succ]
        obtain ⟨A3, v3, w9, hrun, hM3, hF3, hR3⟩ := HN2.out.run2 HG2.out (n := m) Hlen.out (by omega) ((3 + k : Nat) : Int) ((3 + p + k : Nat) : Int) u2.heap.size rfl
        refine wpAnyH_ready (rs := [8]) (by kernel_rfl) (by simp) ?_
        refine AllReadyH.cons (o := { dst := some 43, op := Op.call { callee := Callee.builtin Builtin.append, args := #[Operand.tmp 35, Operand.tmp 42], argTypes := #[33, 33] }, type := 33, pos := "law.go:62", after := #[{ on := 0, ground := Ground.data }, { on := 7, ground := Ground.data }, { on := 6, ground := Ground.chain }], guard := none }) rfl (fun K hK => ?_) AllReadyH.nil
        rw [if_pos (by kernel_rfl)]
        refine wp_append_run (.tmp 35) (.tmp 42) 33 rfl _ _ rfl rfl _ _ hrun ?_
        have t4 : RowAt w9 B1 23 #[Value.int .i64 c.wo, Value.int .i64 c.sl, Value.int .i64 c.st, Value.int .i64 c.wa, Value.int .i64 c.us] := t2.same (hR3 _ (Or.inl rfl))
        have c40 : (w9).cell? ⟨B1, 0, none⟩ = some (Value.int .i64 c.wo) := t4.cell 0 rfl
        have c41 : (w9).cell? ⟨B1, 1, none⟩ = some (Value.int .i64 c.sl) := t4.cell 1 rfl
        have c42 : (w9).cell? ⟨B1, 2, none⟩ = some (Value.int .i64 c.st) := t4.cell 2 rfl
        have c43 : (w9).cell? ⟨B1, 3, none⟩ = some (Value.int .i64 c.wa) := t4.cell 3 rfl
        have c44 : (w9).cell? ⟨B1, 4, none⟩ = some (Value.int .i64 c.us) := t4.cell 4 rfl
        refine hK.out _ _ ⟨c40, c41, c42, c43, c44⟩ (fun hS => ?_)
        clear hK K
        try simp only [Act.put, List.setIfInBounds_toArray, List.set_cons_zero, List.set_cons_succ]
        refine wpAnyH_take (i := 9) (oi := { dst := some 7, op := Op.assign (Operand.tmp 43), type := 33, pos := "law.go:62", after := #[{ on := 8, ground := Ground.data }, { on := 8, ground := Ground.chain }, { on := 0, ground := Ground.phase }, { on := 1, ground := Ground.phase }, { on := 2, ground := Ground.phase }, { on := 3, ground := Ground.phase }, { on := 4, ground := Ground.phase }, { on := 5, ground := Ground.phase }, { on := 6, ground := Ground.phase }, { on := 7, ground := Ground.phase }, { on := 8, ground := Ground.phase }], guard := none }) (v := ?v9_50) rfl (by kernel_rfl) (by kernel_rfl) (by kernel_rfl) (fun _ _ _ h => h) (Or.inl ⟨by rfl, ?hy9_50⟩) hS ?rest9_50
        case hy9_50 =>
          intro w hSw
          (try dsimp only at hSw)
          go_simp
          try with_reducible rfl
        try simp only [Act.put, List.setIfInBounds_toArray, List.set_cons_zero, List.set_cons_succ]
        refine wpAnyH_done (by kernel_rfl) ?_ _
        go_wp2
        go_roundw
        case rel => exact ⟨k + 1, m + 2, A3, v3, by omega, by go_num, rfl, Lib.hid (by rw [Hm.out]; omega), Lib.hid (by rw [aN_step]; exact hM3), Lib.hid hF3, t4, Lib.hid (HD2.out.same (hR3 _ (Or.inr rfl)))⟩
        case measure => simp [intOf]; omega
      · obtain rfl : p = k := by omega
        have hd : ¬ (p : Int) < c.wo := by rw [Hp.out]; omega
        go_wp2
        clear hd hlt k00 k01 k02 k03 k04 HM0 HF0 r1 HC1
        go_loopw [7, 9] (fun o i wr => ∃ (k m : Nat) (Av : Option Addr) (cv : Nat), k ≤ q ∧ i = .int .i64 k ∧ o = .slice Av m cv ∧ Hid (m = 3 + 2 * p + k) ∧ Hid (Mine w wr (.slice Av m cv) (zI (bN p k))) ∧ Hid (Far (Two B1 gs) wr (.slice Av m cv)) ∧ RowAt wr B1 23 #[Value.int .i64 c.wo, Value.int .i64 c.sl, Value.int .i64 c.st, Value.int .i64 c.wa, Value.int .i64 c.us] ∧ Hid (Cnt wr gs n (fun _ => 0))) (fun _ i _ => q - (intOf i).toNat)
        case atStart => exact ⟨0, m, Av, cv, Nat.zero_le _, rfl, rfl, Lib.hid (by rw [Hm.out, Nat.add_zero]), Lib.hid (by simpa [bN] using HM.out), HF, hr, HC⟩
        case round =>
          clear HM HF hr HC Hm
          clear hk
          obtain ⟨k, m, Av, cv, hk, rfl, rfl, Hm, HM, HF, hr, HC⟩ := hrel
          have k00 : (wr).cell? ⟨B1, 0, none⟩ = some (Value.int .i64 c.wo) := hr.cell 0 rfl
          have k01 : (wr).cell? ⟨B1, 1, none⟩ = some (Value.int .i64 c.sl) := hr.cell 1 rfl
          have k02 : (wr).cell? ⟨B1, 2, none⟩ = some (Value.int .i64 c.st) := hr.cell 2 rfl
          have k03 : (wr).cell? ⟨B1, 3, none⟩ = some (Value.int .i64 c.wa) := hr.cell 3 rfl
          have k04 : (wr).cell? ⟨B1, 4, none⟩ = some (Value.int .i64 c.us) := hr.cell 4 rfl
          by_cases hlt : k < q
          · have hd : (k : Int) < c.sl := by rw [Hq.out]; omega
            have Hlen : Hid ((zI (bN p k)).length = m) := Lib.hid (by rw [zI_len, bN_len, Hm.out])
            have hm9 : m ≤ 1000 := by rw [Hm.out]; omega
            go_wp2_with fail
            refine (slot_at Hp.out Hq.out hlt ▸ slot_any c k _ Hc.out).mono ?_
            rintro e u1 ⟨rfl, hb⟩
            have HM2 := Lib.hid (HM.out.on hb)
            have HF2 := Lib.hid (HF.out.on hb.size)
            have HC2 := Lib.hid (HC.out.below hb)
            have t1 := hr.below hb hr.lt
            clear hb HM HF HC hr k00 k01 k02 k03 k04
            go_wp2_with (refine HM2.out.appF HF2.out (n := m) Hlen.out (by omega) rfl _ _ rfl rfl _ _ rfl ?_; intro A3 v3 w9 hM3 hF3 hR3)
            go_roundw
            case rel => exact ⟨k + 1, m + 1, A3, v3, by omega, by go_num, rfl, Lib.hid (by rw [Hm.out]; omega), Lib.hid (by rw [bN_step]; exact hM3), Lib.hid hF3, t1.same (hR3 _ (Or.inl rfl)), Lib.hid (HC2.out.same (hR3 _ (Or.inr rfl)))⟩
            case measure => simp [intOf]; omega
          · obtain rfl : q = k := by omega
            have hd : ¬ (q : Int) < c.sl := by rw [Hq.out]; omega
            go_wp2
            clear hd hlt k00 k01 k02 k03 k04
            obtain rfl : n = m := by have := Hm.out; have := Hn.out; omega
            obtain ⟨ga, rfl, hlen, hga, hcell⟩ := HM.out.block (by omega)
            have hgn : ga ≠ gs := fun e => HF.out.ne gs (Or.inr rfl) (by rw [e]; rfl)
            have hBm := HM.out.below
            have H1 := Lib.hid (fun j (hj : j < n) => each_once ⟨p, by omega⟩ ⟨q, by omega⟩ ⟨j, by omega⟩ (by have := Hn.out; simp only; omega))
            have H2 := Lib.hid (fun (x : Nat) (hx : x ∈ bN p q) => show x < n by have := all_in ⟨p, by omega⟩ ⟨q, by omega⟩ x hx; have := Hn.out; simp only at *; omega)
            simp only at H1 H2
            obtain ⟨L, eL⟩ : ∃ L, L = bN p q := ⟨_, rfl⟩
            rw [← eL] at hlen hcell H1 H2
            have Hlen := Lib.hid hlen
            have Hcell := Lib.hid hcell
            clear eL HM hlen hcell Hm HF
            go_loopw [10] (fun i wr => ∃ k : Nat, k ≤ n ∧ i = .int .i64 k ∧ Hid (Cnt wr gs n (fun j => (L.take k).count j)) ∧ Hid (∀ (k : Nat) x, L[k]? = some x → wr.cell? ⟨ga, k, none⟩ = some (.int .i64 x)) ∧ Below w.heap.size w wr ∧ RowAt wr B1 23 #[Value.int .i64 c.wo, Value.int .i64 c.sl, Value.int .i64 c.st, Value.int .i64 c.wa, Value.int .i64 c.us]) (fun i _ => n - (intOf i).toNat)
            case atStart => exact ⟨0, Nat.zero_le _, rfl, Lib.hid (HC.out.congr (fun j _ => by simp)), Hcell, hBm, hr⟩
            case round =>
              clear HC Hcell hBm hr hk
              obtain ⟨k, hk, rfl, HC, Hcell, hBm, hr⟩ := hrel
              by_cases hlt : k < n
              · obtain ⟨x, hx⟩ : ∃ x, L[k]? = some x := ⟨L[k]'(by rw [Hlen.out]; exact hlt), List.getElem?_eq_getElem _⟩
                have hxn : x < n := H2.out x (List.mem_of_getElem? hx)
                have hc := Hcell.out k x hx
                have hs := HC.out.cell x hxn
                have hf := HC.out.free x
                obtain ⟨v, ev⟩ : ∃ v, v = (L.take k).count x := ⟨_, rfl⟩
                rw [← ev] at hs
                have hv : v ≤ 1000 := by
                  rw [ev]
                  have h1 := List.count_le_length (a := x) (l := L.take k)
                  have h2 := List.length_take_le k L
                  omega
                have Hv := Lib.hid ev
                have Hx := Lib.hid hx
                clear ev hx
                have hx1 : ¬ (x : Int) < 0 := by omega
                have hx2 : ¬ (n : Int) ≤ (x : Int) := by omega
                have hk1 : (k : Int) < (n : Int) := by omega
                go_wp2
                go_region_with (fail)
                all_goals go_wp2
                all_goals go_roundw
                all_goals first
                  | exact ⟨k + 1, by omega, by go_num, Lib.hid (HC.out.count Hx.out hxn Hv.out), Lib.hid (fun m y hm => (World.cell?_setCell_other _ _ _ _ (by intro e; injection e with e; exact hgn e.symm)).trans (Hcell.out m y hm)), (hBm.setCell (p := ⟨gs, x, none⟩) hgs9 _).drew, (hr.putOther ⟨gs, x, none⟩ hne _).drew⟩
                  | (simp [intOf]; omega)
              · obtain rfl : n = k := by omega
                have HC2 : Hid (Cnt wr gs n (fun _ => 1)) := Lib.hid (HC.out.congr (fun j hj => by rw [← Hlen.out, List.take_length]; exact (H1.out j hj).symm))
                clear HC Hcell hlt
                go_wp2
                go_loopw [11] (fun i wr => ∃ k : Nat, k ≤ n ∧ i = .int .i64 k ∧ Hid (Cnt wr gs n (fun _ => 1)) ∧ Below w.heap.size w wr ∧ RowAt wr B1 23 #[Value.int .i64 c.wo, Value.int .i64 c.sl, Value.int .i64 c.st, Value.int .i64 c.wa, Value.int .i64 c.us]) (fun i _ => n - (intOf i).toNat)
                case atStart => exact ⟨0, Nat.zero_le _, rfl, HC2, hBm, hr⟩
                case round =>
                  clear HC2 hBm hr hk
                  obtain ⟨k, hk, rfl, HC, hBm, hr⟩ := hrel
                  by_cases hlt : k < n
                  · have hs : wr.cell? ⟨gs, k, none⟩ = some (.int .i64 1) := HC.out.cell k hlt
                    have hk1 : (k : Int) < (n : Int) := by omega
                    go_wp2
                    go_roundw
                    case rel => exact ⟨k + 1, by omega, by go_num, HC, hBm, hr⟩
                    case measure => simp [intOf]; omega
                  · obtain rfl : n = k := by omega
                    have KA := Lib.hid (fun w : World => (show pinI c c.wo = -1 from cell_off (.inr (Int.le_refl _))) ▸ pin_any c c.wo w Hc.out)
                    have KB := Lib.hid (fun w : World => (show grantI c (-1) = -1 from cell_off (.inl (by omega))) ▸ grant_any c (-1) w Hc.out)
                    have KC := Lib.hid (fun w : World => (show slotI c c.sl = -1 from cell_off (.inr (Int.le_refl _))) ▸ slot_any c c.sl w Hc.out)
                    have k00 : (wr).cell? ⟨B1, 0, none⟩ = some (Value.int .i64 c.wo) := hr.cell 0 rfl
                    have k01 : (wr).cell? ⟨B1, 1, none⟩ = some (Value.int .i64 c.sl) := hr.cell 1 rfl
                    have k02 : (wr).cell? ⟨B1, 2, none⟩ = some (Value.int .i64 c.st) := hr.cell 2 rfl
                    have k03 : (wr).cell? ⟨B1, 3, none⟩ = some (Value.int .i64 c.wa) := hr.cell 3 rfl
                    have k04 : (wr).cell? ⟨B1, 4, none⟩ = some (Value.int .i64 c.us) := hr.cell 4 rfl
                    go_wp2_with fail
                    refine (KA.out _).mono ?_
                    rintro e x1 ⟨rfl, hb⟩
                    replace hr := hr.below hb hr.lt
                    replace hBm := hBm.trans (hb.mono hBm.size)
                    clear hb k00 k01 k02 k03 k04
                    have k10 : (x1).cell? ⟨B1, 0, none⟩ = some (Value.int .i64 c.wo) := hr.cell 0 rfl
                    have k11 : (x1).cell? ⟨B1, 1, none⟩ = some (Value.int .i64 c.sl) := hr.cell 1 rfl
                    have k12 : (x1).cell? ⟨B1, 2, none⟩ = some (Value.int .i64 c.st) := hr.cell 2 rfl
                    have k13 : (x1).cell? ⟨B1, 3, none⟩ = some (Value.int .i64 c.wa) := hr.cell 3 rfl
                    have k14 : (x1).cell? ⟨B1, 4, none⟩ = some (Value.int .i64 c.us) := hr.cell 4 rfl
                    go_wp2_with fail
                    refine (KB.out _).mono ?_
                    rintro e x2 ⟨rfl, hb⟩
                    replace hr := hr.below hb hr.lt
                    replace hBm := hBm.trans (hb.mono hBm.size)
                    clear hb k10 k11 k12 k13 k14
                    have k20 : (x2).cell? ⟨B1, 0, none⟩ = some (Value.int .i64 c.wo) := hr.cell 0 rfl
                    have k21 : (x2).cell? ⟨B1, 1, none⟩ = some (Value.int .i64 c.sl) := hr.cell 1 rfl
                    have k22 : (x2).cell? ⟨B1, 2, none⟩ = some (Value.int .i64 c.st) := hr.cell 2 rfl
                    have k23 : (x2).cell? ⟨B1, 3, none⟩ = some (Value.int .i64 c.wa) := hr.cell 3 rfl
                    have k24 : (x2).cell? ⟨B1, 4, none⟩ = some (Value.int .i64 c.us) := hr.cell 4 rfl
                    go_wp2_with fail
                    refine (KC.out _).mono ?_
                    rintro e x3 ⟨rfl, hb⟩
                    replace hBm := hBm.trans (hb.mono hBm.size)
                    clear hb
                    go_wp2_with fail
                    go_ret
                    exact ⟨rfl, hBm⟩
end Go.Proofs.YtfnpleicbpbiaaaDoor
