/- The law ConfTells, walked. -/
import Derived.Test.YtfnpleicbpbiaaaDoorAwake
import Derived.Test.YtfnpleicbpbiaaaDoorAccR
import Derived.Test.YtfnpleicbpbiaaaDoorInts
namespace Go.Proofs.YtfnpleicbpbiaaaDoor
open Go.RowKit
attribute [local go_sem ↓] Go.wp_at_zero Go.wp_at_succ

theorem ints_rep (A A2 : Option Addr) (n c c2 : Nat) (w : World) (h : IS w w.heap.size A (List.replicate n 0)) (h2 : IS w w.heap.size A2 (List.replicate n 0)) (hl : n ≤ 1000000) :
    Calls Tryd.prog 19 #[.slice A n c, .slice A2 n c2] w (fun e w' => e = .returned (.bool true) ∧ Below w.heap.size w w') := by
  have h3 := ints_any A A2 c c2 (List.replicate n 0) (List.replicate n 0) w h h2 (by simpa using hl)
  rwa [decide_eq_true rfl, List.length_replicate] at h3
theorem IS.drew {w : World} {N : Nat} {A : Option Addr} {xs : List Int} (h : IS w N A xs) : IS w.drew N A xs := h
set_option maxRecDepth 100000 in
set_option maxHeartbeats 2000000 in
theorem ltells_any (c : Cf) (x y : Int) (w : World) (hT : Tab w) :
    Calls Tryd.prog 3 #[Value.agg #[Value.int .i64 c.wo, Value.int .i64 c.sl, Value.int .i64 c.st, Value.int .i64 c.wa, Value.int .i64 c.us], .int .i64 x, .int .i64 y] w fun e w' => e = .returned (.bool true) ∧ Below w.heap.size w w' := by
  have hB : Below w.heap.size w (w.alloc (.cells #[Value.int .i64 c.wo, Value.int .i64 c.sl, Value.int .i64 c.st, Value.int .i64 c.wa, Value.int .i64 c.us] 23)) := (Below.refl _ _).alloc (Nat.le_refl _) _
  have r0 := RowAt.new w 23 #[Value.int .i64 c.wo, Value.int .i64 c.sl, Value.int .i64 c.st, Value.int .i64 c.wa, Value.int .i64 c.us]
  have HT := Lib.hid (hT.below hB hT.lt)
  clear hT
  go_enter Tryd.func3, Tryd.ntmps3
  go_wp2_with fail
  refine (awake_any _ HT.out).mono ?_
  rintro e w1 ⟨rfl, hb⟩
  replace r0 := r0.below hb r0.lt
  replace hB := hB.trans (hb.mono hB.size)
  clear hb HT
  go_wp2_with (refine wpList_load_row rfl 23 _ rfl _ rfl 23 _ (0, 0) _ r0 Tryd.underlying23 rfl (by kernel_rfl) ?_)
  refine (refCRight_any c _).mono ?_
  rintro e w2 ⟨rfl, hb⟩
  replace r0 := r0.below hb r0.lt
  replace hB := hB.trans (hb.mono hB.size)
  clear hb
  cases hr : rcB c with
  | false =>
    have Hr := Lib.hid hr
    clear hr
    go_wp2_with (refine wpList_load_row rfl 23 _ rfl _ rfl 23 _ (0, 0) _ r0 Tryd.underlying23 rfl (by kernel_rfl) ?_)
    refine (mem_no c _ Hr.out).mono ?_
    rintro e w3 ⟨rfl, hb⟩
    replace r0 := r0.below hb r0.lt
    replace hB := hB.trans (hb.mono hB.size)
    clear hb
    go_wp2_with (refine wpList_load_row rfl 23 _ rfl _ rfl 23 _ (0, 0) _ r0 Tryd.underlying23 rfl (by kernel_rfl) ?_)
    refine (cright_any c _).mono ?_
    rintro e w4 ⟨rfl, hb⟩
    replace hB := hB.trans (hb.mono hB.size)
    rw [Hr.out]
    clear hb r0
    go_wp2_with fail
    go_ret
    exact ⟨rfl, hB⟩
  | true =>
    have Hr := Lib.hid hr
    have Hc := Lib.hid (rcB_iff.1 hr)
    clear hr
    go_wp2_with (refine wpList_load_row rfl 23 _ rfl _ rfl 23 _ (0, 0) _ r0 Tryd.underlying23 rfl (by kernel_rfl) ?_)
    refine (mem_yes c _ Hc.out).mono ?_
    rintro e w3 ⟨g, gw, rfl, hm, hb⟩
    replace r0 := r0.below hb r0.lt
    replace hB := hB.trans (hb.mono hB.size)
    have HM0 := Lib.hid hm
    clear hb hm
    go_wp2_with (refine wpList_load_row rfl 23 _ rfl _ rfl 23 _ (0, 0) _ r0 Tryd.underlying23 rfl (by kernel_rfl) ?_)
    refine (cright_any c _).mono ?_
    rintro e w4 ⟨rfl, hb⟩
    replace r0 := (r0.below hb r0.lt).drew
    replace hB := (hB.trans (hb.mono hB.size)).drew
    have HM := Lib.hid (HM0.out.on hb).drew
    rw [Hr.out]
    clear hb HM0
    go_wp2_with fail
    obtain ⟨n, en⟩ : ∃ n, n = cellsN c := ⟨_, rfl⟩
    rw [← en] at HM
    obtain ⟨k1, k2, k3⟩ := cellsN_eq Hc.out
    have KM := Lib.hid (fun w : World => k1.symm ▸ cells_any c w Hc.out)
    have KN := Lib.hid (fun w : World => k1.symm ▸ refCells_any c w Hc.out)
    rw [← en] at KM KN k2 k3
    obtain ⟨P, eP⟩ : ∃ P, P = pinI c x := ⟨_, rfl⟩
    obtain ⟨G, eG⟩ : ∃ G, G = grantI c x := ⟨_, rfl⟩
    obtain ⟨Z, eZ⟩ : ∃ Z, Z = slotI c y := ⟨_, rfl⟩
    have KP := Lib.hid (fun w : World => eP.symm ▸ pin_any c x w Hc.out)
    have KQ := Lib.hid (fun w : World => eP.symm ▸ refPin_any c x w Hc.out)
    have KG := Lib.hid (fun w : World => eG.symm ▸ grant_any c x w Hc.out)
    have KH := Lib.hid (fun w : World => eG.symm ▸ refGrant_any c x w Hc.out)
    have KS := Lib.hid (fun w : World => eZ.symm ▸ slot_any c y w Hc.out)
    have KR := Lib.hid (fun w : World => eZ.symm ▸ refSlot_any c y w Hc.out)
    clear en k1 eP eG eZ
    have hmk := make_run n (by omega)
    obtain ⟨B1, e1⟩ : ∃ B1, B1 = w.heap.size := ⟨_, rfl⟩
    rw [← e1] at r0 ⊢
    clear e1
    have c0_0 : (w4.drew).cell? ⟨B1, 0, none⟩ = some (Value.int .i64 c.wo) := r0.cell 0 rfl
    have c0_1 : (w4.drew).cell? ⟨B1, 1, none⟩ = some (Value.int .i64 c.sl) := r0.cell 1 rfl
    have c0_2 : (w4.drew).cell? ⟨B1, 2, none⟩ = some (Value.int .i64 c.st) := r0.cell 2 rfl
    have c0_3 : (w4.drew).cell? ⟨B1, 3, none⟩ = some (Value.int .i64 c.wa) := r0.cell 3 rfl
    have c0_4 : (w4.drew).cell? ⟨B1, 4, none⟩ = some (Value.int .i64 c.us) := r0.cell 4 rfl
    refine wp_region_held_drew (S := (fun w' => w'.cell? ⟨B1, 0, none⟩ = some (Value.int .i64 c.wo) ∧ w'.cell? ⟨B1, 1, none⟩ = some (Value.int .i64 c.sl) ∧ w'.cell? ⟨B1, 2, none⟩ = some (Value.int .i64 c.st) ∧ w'.cell? ⟨B1, 3, none⟩ = some (Value.int .i64 c.wa) ∧ w'.cell? ⟨B1, 4, none⟩ = some (Value.int .i64 c.us))) (by kernel_rfl) ⟨c0_0, c0_1, c0_2, c0_3, c0_4⟩ (fun hS => ?_)
    generalize w4.drew = WD at *
    refine wpAnyH_take (i := 0) (oi := { dst := some 40, op := Op.move (Operand.tmp 7), type := 4, pos := "law.go:35", after := #[], guard := none }) (v := ?v0_45) rfl (by kernel_rfl) (by kernel_rfl) (by kernel_rfl) (fun _ _ _ h => h) (Or.inl ⟨by rfl, ?hy0_45⟩) hS ?rest0_45
    case hy0_45 =>
      intro w hSw
      (try dsimp only at hSw)
      go_simp
      try with_reducible rfl
    try simp only [Act.put, List.setIfInBounds_toArray, List.set_cons_zero, List.set_cons_succ]
    refine wpAnyH_take (i := 1) (oi := { dst := some 41, op := Op.move (Operand.tmp 40), type := 4, pos := "law.go:35", after := #[{ on := 0, ground := Ground.data }], guard := none }) (v := ?v1_46) rfl (by kernel_rfl) (by kernel_rfl) (by kernel_rfl) (fun _ _ _ h => h) (Or.inl ⟨by rfl, ?hy1_46⟩) hS ?rest1_46
    case hy1_46 =>
      intro w hSw
      (try dsimp only at hSw)
      go_simp
      try with_reducible rfl
    try simp only [Act.put, List.setIfInBounds_toArray, List.set_cons_zero, List.set_cons_succ]
    refine wpAnyH_take (i := 2) (oi := { dst := some 42, op := Op.load 23 (Operand.tmp 3), type := 23, pos := "law.go:35", after := #[{ on := 1, ground := Ground.guard }], guard := some (1, true) }) (v := ?v2_47) rfl (by kernel_rfl) (by kernel_rfl) (by kernel_rfl) (fun _ _ _ h => h) (Or.inl ⟨by rfl, ?hy2_47⟩) hS ?rest2_47
    case hy2_47 =>
      intro w hSw
      (try dsimp only at hSw)
      go_simp
      try with_reducible rfl
    try simp only [Act.put, List.setIfInBounds_toArray, List.set_cons_zero, List.set_cons_succ]
    refine wpAnyH_take (i := 4) (oi := { dst := some 44, op := Op.load 23 (Operand.tmp 3), type := 23, pos := "law.go:35", after := #[{ on := 1, ground := Ground.guard }], guard := some (1, true) }) (v := ?v4_48) rfl (by kernel_rfl) (by kernel_rfl) (by kernel_rfl) (fun _ _ _ h => h) (Or.inl ⟨by rfl, ?hy4_48⟩) hS ?rest4_48
    case hy4_48 =>
      intro w hSw
      (try dsimp only at hSw)
      go_simp
      try with_reducible rfl
    try simp only [Act.put, List.setIfInBounds_toArray, List.set_cons_zero, List.set_cons_succ]
    refine wpAnyH_ready (rs := [3]) (by kernel_rfl) (by simp) ?_
    refine AllReadyH.cons (o := { dst := some 43, op := Op.call { callee := Callee.value (Operand.func 11), args := #[Operand.tmp 42], argTypes := #[23] }, type := 3, pos := "law.go:35", after := #[{ on := 2, ground := Ground.data }, { on := 1, ground := Ground.chain }, { on := 1, ground := Ground.guard }], guard := some (1, true) }) rfl (fun K hK => ?_) AllReadyH.nil
    go_simp
    refine (KM.out _).mono ?_
    rintro e u1 ⟨rfl, hb⟩
    have r1 := r0.below hb r0.lt
    have hB1 := hB.trans (hb.mono hB.size)
    have HM1 := Lib.hid (HM.out.on hb)
    clear hb
    have c1_0 : (u1).cell? ⟨B1, 0, none⟩ = some (Value.int .i64 c.wo) := r1.cell 0 rfl
    have c1_1 : (u1).cell? ⟨B1, 1, none⟩ = some (Value.int .i64 c.sl) := r1.cell 1 rfl
    have c1_2 : (u1).cell? ⟨B1, 2, none⟩ = some (Value.int .i64 c.st) := r1.cell 2 rfl
    have c1_3 : (u1).cell? ⟨B1, 3, none⟩ = some (Value.int .i64 c.wa) := r1.cell 3 rfl
    have c1_4 : (u1).cell? ⟨B1, 4, none⟩ = some (Value.int .i64 c.us) := r1.cell 4 rfl
    skip
    refine hK.out _ _ ⟨c1_0, c1_1, c1_2, c1_3, c1_4⟩ (fun hS => ?_)
    clear hK K
    try simp only [Act.put, List.setIfInBounds_toArray, List.set_cons_zero, List.set_cons_succ]
    refine wpAnyH_ready (rs := [5]) (by kernel_rfl) (by simp) ?_
    refine AllReadyH.cons (o := { dst := some 45, op := Op.call { callee := Callee.value (Operand.func 12), args := #[Operand.tmp 44], argTypes := #[23] }, type := 3, pos := "law.go:35", after := #[{ on := 4, ground := Ground.data }, { on := 3, ground := Ground.chain }, { on := 1, ground := Ground.guard }], guard := some (1, true) }) rfl (fun K hK => ?_) AllReadyH.nil
    go_simp
    refine (KN.out _).mono ?_
    rintro e u2 ⟨rfl, hb⟩
    have r2 := r1.below hb r1.lt
    have hB2 := hB1.trans (hb.mono hB1.size)
    have HM2 := Lib.hid (HM1.out.on hb)
    clear hb
    have c2_0 : (u2).cell? ⟨B1, 0, none⟩ = some (Value.int .i64 c.wo) := r2.cell 0 rfl
    have c2_1 : (u2).cell? ⟨B1, 1, none⟩ = some (Value.int .i64 c.sl) := r2.cell 1 rfl
    have c2_2 : (u2).cell? ⟨B1, 2, none⟩ = some (Value.int .i64 c.st) := r2.cell 2 rfl
    have c2_3 : (u2).cell? ⟨B1, 3, none⟩ = some (Value.int .i64 c.wa) := r2.cell 3 rfl
    have c2_4 : (u2).cell? ⟨B1, 4, none⟩ = some (Value.int .i64 c.us) := r2.cell 4 rfl
    clear r1 hB1 HM1 c1_0 c1_1 c1_2 c1_3 c1_4
    refine hK.out _ _ ⟨c2_0, c2_1, c2_2, c2_3, c2_4⟩ (fun hS => ?_)
    clear hK K
    try simp only [Act.put, List.setIfInBounds_toArray, List.set_cons_zero, List.set_cons_succ]
    refine wpAnyH_take (i := 6) (oi := { dst := some 46, op := Op.binOp BinOp.eql 3 (Operand.tmp 43) (Operand.tmp 45) 3, type := 4, pos := "law.go:35", after := #[{ on := 3, ground := Ground.data }, { on := 5, ground := Ground.data }, { on := 1, ground := Ground.guard }], guard := some (1, true) }) (v := ?v6_49) rfl (by kernel_rfl) (by kernel_rfl) (by kernel_rfl) (fun _ _ _ h => h) (Or.inl ⟨by rfl, ?hy6_49⟩) hS ?rest6_49
    case hy6_49 =>
      intro w hSw
      (try dsimp only at hSw)
      go_simp
      try with_reducible rfl
    try simp only [Act.put, List.setIfInBounds_toArray, List.set_cons_zero, List.set_cons_succ]
    refine wpAnyH_take (i := 7) (oi := { dst := some 47, op := Op.pick (Operand.tmp 41) (Operand.tmp 46) (Operand.const (Value.bool false)), type := 4, pos := "law.go:35", after := #[{ on := 1, ground := Ground.data }, { on := 6, ground := Ground.data }], guard := none }) (v := ?v7_50) rfl (by kernel_rfl) (by kernel_rfl) (by kernel_rfl) (fun _ _ _ h => h) (Or.inl ⟨by rfl, ?hy7_50⟩) hS ?rest7_50
    case hy7_50 =>
      intro w hSw
      (try dsimp only at hSw)
      go_simp
      try with_reducible rfl
    try simp only [Act.put, List.setIfInBounds_toArray, List.set_cons_zero, List.set_cons_succ]
    refine wpAnyH_take (i := 8) (oi := { dst := some 48, op := Op.move (Operand.tmp 47), type := 4, pos := "law.go:35", after := #[{ on := 7, ground := Ground.data }, { on := 5, ground := Ground.chain }], guard := none }) (v := ?v8_51) rfl (by kernel_rfl) (by kernel_rfl) (by kernel_rfl) (fun _ _ _ h => h) (Or.inl ⟨by rfl, ?hy8_51⟩) hS ?rest8_51
    case hy8_51 =>
      intro w hSw
      (try dsimp only at hSw)
      go_simp
      try with_reducible rfl
    try simp only [Act.put, List.setIfInBounds_toArray, List.set_cons_zero, List.set_cons_succ]
    refine wpAnyH_take (i := 9) (oi := { dst := some 49, op := Op.load 23 (Operand.tmp 3), type := 23, pos := "law.go:35", after := #[{ on := 8, ground := Ground.guard }], guard := some (8, true) }) (v := ?v9_52) rfl (by kernel_rfl) (by kernel_rfl) (by kernel_rfl) (fun _ _ _ h => h) (Or.inl ⟨by rfl, ?hy9_52⟩) hS ?rest9_52
    case hy9_52 =>
      intro w hSw
      (try dsimp only at hSw)
      go_simp
      try with_reducible rfl
    try simp only [Act.put, List.setIfInBounds_toArray, List.set_cons_zero, List.set_cons_succ]
    refine wpAnyH_take (i := 10) (oi := { dst := some 50, op := Op.move (Operand.tmp 1), type := 3, pos := "law.go:35", after := #[{ on := 8, ground := Ground.guard }], guard := some (8, true) }) (v := ?v10_53) rfl (by kernel_rfl) (by kernel_rfl) (by kernel_rfl) (fun _ _ _ h => h) (Or.inl ⟨by rfl, ?hy10_53⟩) hS ?rest10_53
    case hy10_53 =>
      intro w hSw
      (try dsimp only at hSw)
      go_simp
      try with_reducible rfl
    try simp only [Act.put, List.setIfInBounds_toArray, List.set_cons_zero, List.set_cons_succ]
    refine wpAnyH_take (i := 12) (oi := { dst := some 52, op := Op.load 23 (Operand.tmp 3), type := 23, pos := "law.go:35", after := #[{ on := 8, ground := Ground.guard }], guard := some (8, true) }) (v := ?v12_54) rfl (by kernel_rfl) (by kernel_rfl) (by kernel_rfl) (fun _ _ _ h => h) (Or.inl ⟨by rfl, ?hy12_54⟩) hS ?rest12_54
    case hy12_54 =>
      intro w hSw
      (try dsimp only at hSw)
      go_simp
      try with_reducible rfl
    try simp only [Act.put, List.setIfInBounds_toArray, List.set_cons_zero, List.set_cons_succ]
    refine wpAnyH_take (i := 13) (oi := { dst := some 53, op := Op.move (Operand.tmp 1), type := 3, pos := "law.go:35", after := #[{ on := 8, ground := Ground.guard }], guard := some (8, true) }) (v := ?v13_55) rfl (by kernel_rfl) (by kernel_rfl) (by kernel_rfl) (fun _ _ _ h => h) (Or.inl ⟨by rfl, ?hy13_55⟩) hS ?rest13_55
    case hy13_55 =>
      intro w hSw
      (try dsimp only at hSw)
      go_simp
      try with_reducible rfl
    try simp only [Act.put, List.setIfInBounds_toArray, List.set_cons_zero, List.set_cons_succ]
    refine wpAnyH_ready (rs := [11]) (by kernel_rfl) (by simp) ?_
    refine AllReadyH.cons (o := { dst := some 51, op := Op.call { callee := Callee.value (Operand.func 13), args := #[Operand.tmp 49, Operand.tmp 50], argTypes := #[23, 3] }, type := 3, pos := "law.go:35", after := #[{ on := 9, ground := Ground.data }, { on := 10, ground := Ground.data }, { on := 8, ground := Ground.chain }, { on := 8, ground := Ground.guard }], guard := some (8, true) }) rfl (fun K hK => ?_) AllReadyH.nil
    go_simp
    refine (KP.out _).mono ?_
    rintro e u3 ⟨rfl, hb⟩
    have r3 := r2.below hb r2.lt
    have hB3 := hB2.trans (hb.mono hB2.size)
    have HM3 := Lib.hid (HM2.out.on hb)
    clear hb
    have c3_0 : (u3).cell? ⟨B1, 0, none⟩ = some (Value.int .i64 c.wo) := r3.cell 0 rfl
    have c3_1 : (u3).cell? ⟨B1, 1, none⟩ = some (Value.int .i64 c.sl) := r3.cell 1 rfl
    have c3_2 : (u3).cell? ⟨B1, 2, none⟩ = some (Value.int .i64 c.st) := r3.cell 2 rfl
    have c3_3 : (u3).cell? ⟨B1, 3, none⟩ = some (Value.int .i64 c.wa) := r3.cell 3 rfl
    have c3_4 : (u3).cell? ⟨B1, 4, none⟩ = some (Value.int .i64 c.us) := r3.cell 4 rfl
    clear r2 hB2 HM2 c2_0 c2_1 c2_2 c2_3 c2_4
    refine hK.out _ _ ⟨c3_0, c3_1, c3_2, c3_3, c3_4⟩ (fun hS => ?_)
    clear hK K
    try simp only [Act.put, List.setIfInBounds_toArray, List.set_cons_zero, List.set_cons_succ]
    refine wpAnyH_ready (rs := [14]) (by kernel_rfl) (by simp) ?_
    refine AllReadyH.cons (o := { dst := some 54, op := Op.call { callee := Callee.value (Operand.func 14), args := #[Operand.tmp 52, Operand.tmp 53], argTypes := #[23, 3] }, type := 3, pos := "law.go:35", after := #[{ on := 12, ground := Ground.data }, { on := 13, ground := Ground.data }, { on := 11, ground := Ground.chain }, { on := 8, ground := Ground.guard }], guard := some (8, true) }) rfl (fun K hK => ?_) AllReadyH.nil
    go_simp
    refine (KQ.out _).mono ?_
    rintro e u4 ⟨rfl, hb⟩
    have r4 := r3.below hb r3.lt
    have hB4 := hB3.trans (hb.mono hB3.size)
    have HM4 := Lib.hid (HM3.out.on hb)
    clear hb
    have c4_0 : (u4).cell? ⟨B1, 0, none⟩ = some (Value.int .i64 c.wo) := r4.cell 0 rfl
    have c4_1 : (u4).cell? ⟨B1, 1, none⟩ = some (Value.int .i64 c.sl) := r4.cell 1 rfl
    have c4_2 : (u4).cell? ⟨B1, 2, none⟩ = some (Value.int .i64 c.st) := r4.cell 2 rfl
    have c4_3 : (u4).cell? ⟨B1, 3, none⟩ = some (Value.int .i64 c.wa) := r4.cell 3 rfl
    have c4_4 : (u4).cell? ⟨B1, 4, none⟩ = some (Value.int .i64 c.us) := r4.cell 4 rfl
    clear r3 hB3 HM3 c3_0 c3_1 c3_2 c3_3 c3_4
    refine hK.out _ _ ⟨c4_0, c4_1, c4_2, c4_3, c4_4⟩ (fun hS => ?_)
    clear hK K
    try simp only [Act.put, List.setIfInBounds_toArray, List.set_cons_zero, List.set_cons_succ]
    refine wpAnyH_take (i := 15) (oi := { dst := some 55, op := Op.binOp BinOp.eql 3 (Operand.tmp 51) (Operand.tmp 54) 3, type := 4, pos := "law.go:35", after := #[{ on := 11, ground := Ground.data }, { on := 14, ground := Ground.data }, { on := 8, ground := Ground.guard }], guard := some (8, true) }) (v := ?v15_56) rfl (by kernel_rfl) (by kernel_rfl) (by kernel_rfl) (fun _ _ _ h => h) (Or.inl ⟨by rfl, ?hy15_56⟩) hS ?rest15_56
    case hy15_56 =>
      intro w hSw
      (try dsimp only at hSw)
      go_simp
      try with_reducible rfl
    try simp only [Act.put, List.setIfInBounds_toArray, List.set_cons_zero, List.set_cons_succ]
    refine wpAnyH_take (i := 16) (oi := { dst := some 56, op := Op.pick (Operand.tmp 48) (Operand.tmp 55) (Operand.const (Value.bool false)), type := 4, pos := "law.go:35", after := #[{ on := 8, ground := Ground.data }, { on := 15, ground := Ground.data }], guard := none }) (v := ?v16_57) rfl (by kernel_rfl) (by kernel_rfl) (by kernel_rfl) (fun _ _ _ h => h) (Or.inl ⟨by rfl, ?hy16_57⟩) hS ?rest16_57
    case hy16_57 =>
      intro w hSw
      (try dsimp only at hSw)
      go_simp
      try with_reducible rfl
    try simp only [Act.put, List.setIfInBounds_toArray, List.set_cons_zero, List.set_cons_succ]
    refine wpAnyH_take (i := 17) (oi := { dst := some 57, op := Op.move (Operand.tmp 56), type := 4, pos := "law.go:35", after := #[{ on := 16, ground := Ground.data }, { on := 14, ground := Ground.chain }], guard := none }) (v := ?v17_58) rfl (by kernel_rfl) (by kernel_rfl) (by kernel_rfl) (fun _ _ _ h => h) (Or.inl ⟨by rfl, ?hy17_58⟩) hS ?rest17_58
    case hy17_58 =>
      intro w hSw
      (try dsimp only at hSw)
      go_simp
      try with_reducible rfl
    try simp only [Act.put, List.setIfInBounds_toArray, List.set_cons_zero, List.set_cons_succ]
    refine wpAnyH_take (i := 18) (oi := { dst := some 58, op := Op.load 23 (Operand.tmp 3), type := 23, pos := "law.go:35", after := #[{ on := 17, ground := Ground.guard }], guard := some (17, true) }) (v := ?v18_59) rfl (by kernel_rfl) (by kernel_rfl) (by kernel_rfl) (fun _ _ _ h => h) (Or.inl ⟨by rfl, ?hy18_59⟩) hS ?rest18_59
    case hy18_59 =>
      intro w hSw
      (try dsimp only at hSw)
      go_simp
      try with_reducible rfl
    try simp only [Act.put, List.setIfInBounds_toArray, List.set_cons_zero, List.set_cons_succ]
    refine wpAnyH_take (i := 19) (oi := { dst := some 59, op := Op.move (Operand.tmp 1), type := 3, pos := "law.go:35", after := #[{ on := 17, ground := Ground.guard }], guard := some (17, true) }) (v := ?v19_60) rfl (by kernel_rfl) (by kernel_rfl) (by kernel_rfl) (fun _ _ _ h => h) (Or.inl ⟨by rfl, ?hy19_60⟩) hS ?rest19_60
    case hy19_60 =>
      intro w hSw
      (try dsimp only at hSw)
      go_simp
      try with_reducible rfl
    try simp only [Act.put, List.setIfInBounds_toArray, List.set_cons_zero, List.set_cons_succ]
    refine wpAnyH_take (i := 21) (oi := { dst := some 61, op := Op.load 23 (Operand.tmp 3), type := 23, pos := "law.go:35", after := #[{ on := 17, ground := Ground.guard }], guard := some (17, true) }) (v := ?v21_61) rfl (by kernel_rfl) (by kernel_rfl) (by kernel_rfl) (fun _ _ _ h => h) (Or.inl ⟨by rfl, ?hy21_61⟩) hS ?rest21_61
    case hy21_61 =>
      intro w hSw
      (try dsimp only at hSw)
      go_simp
      try with_reducible rfl
    try simp only [Act.put, List.setIfInBounds_toArray, List.set_cons_zero, List.set_cons_succ]
    refine wpAnyH_take (i := 22) (oi := { dst := some 62, op := Op.move (Operand.tmp 1), type := 3, pos := "law.go:35", after := #[{ on := 17, ground := Ground.guard }], guard := some (17, true) }) (v := ?v22_62) rfl (by kernel_rfl) (by kernel_rfl) (by kernel_rfl) (fun _ _ _ h => h) (Or.inl ⟨by rfl, ?hy22_62⟩) hS ?rest22_62
    case hy22_62 =>
      intro w hSw
      (try dsimp only at hSw)
      go_simp
      try with_reducible rfl
    try simp only [Act.put, List.setIfInBounds_toArray, List.set_cons_zero, List.set_cons_succ]
    refine wpAnyH_ready (rs := [20]) (by kernel_rfl) (by simp) ?_
    refine AllReadyH.cons (o := { dst := some 60, op := Op.call { callee := Callee.value (Operand.func 15), args := #[Operand.tmp 58, Operand.tmp 59], argTypes := #[23, 3] }, type := 3, pos := "law.go:35", after := #[{ on := 18, ground := Ground.data }, { on := 19, ground := Ground.data }, { on := 17, ground := Ground.chain }, { on := 17, ground := Ground.guard }], guard := some (17, true) }) rfl (fun K hK => ?_) AllReadyH.nil
    go_simp
    refine (KG.out _).mono ?_
    rintro e u5 ⟨rfl, hb⟩
    have r5 := r4.below hb r4.lt
    have hB5 := hB4.trans (hb.mono hB4.size)
    have HM5 := Lib.hid (HM4.out.on hb)
    clear hb
    have c5_0 : (u5).cell? ⟨B1, 0, none⟩ = some (Value.int .i64 c.wo) := r5.cell 0 rfl
    have c5_1 : (u5).cell? ⟨B1, 1, none⟩ = some (Value.int .i64 c.sl) := r5.cell 1 rfl
    have c5_2 : (u5).cell? ⟨B1, 2, none⟩ = some (Value.int .i64 c.st) := r5.cell 2 rfl
    have c5_3 : (u5).cell? ⟨B1, 3, none⟩ = some (Value.int .i64 c.wa) := r5.cell 3 rfl
    have c5_4 : (u5).cell? ⟨B1, 4, none⟩ = some (Value.int .i64 c.us) := r5.cell 4 rfl
    clear r4 hB4 HM4 c4_0 c4_1 c4_2 c4_3 c4_4
    refine hK.out _ _ ⟨c5_0, c5_1, c5_2, c5_3, c5_4⟩ (fun hS => ?_)
    clear hK K
    try simp only [Act.put, List.setIfInBounds_toArray, List.set_cons_zero, List.set_cons_succ]
    refine wpAnyH_ready (rs := [23]) (by kernel_rfl) (by simp) ?_
    refine AllReadyH.cons (o := { dst := some 63, op := Op.call { callee := Callee.value (Operand.func 16), args := #[Operand.tmp 61, Operand.tmp 62], argTypes := #[23, 3] }, type := 3, pos := "law.go:35", after := #[{ on := 21, ground := Ground.data }, { on := 22, ground := Ground.data }, { on := 20, ground := Ground.chain }, { on := 17, ground := Ground.guard }], guard := some (17, true) }) rfl (fun K hK => ?_) AllReadyH.nil
    go_simp
    refine (KH.out _).mono ?_
    rintro e u6 ⟨rfl, hb⟩
    have r6 := r5.below hb r5.lt
    have hB6 := hB5.trans (hb.mono hB5.size)
    have HM6 := Lib.hid (HM5.out.on hb)
    clear hb
    have c6_0 : (u6).cell? ⟨B1, 0, none⟩ = some (Value.int .i64 c.wo) := r6.cell 0 rfl
    have c6_1 : (u6).cell? ⟨B1, 1, none⟩ = some (Value.int .i64 c.sl) := r6.cell 1 rfl
    have c6_2 : (u6).cell? ⟨B1, 2, none⟩ = some (Value.int .i64 c.st) := r6.cell 2 rfl
    have c6_3 : (u6).cell? ⟨B1, 3, none⟩ = some (Value.int .i64 c.wa) := r6.cell 3 rfl
    have c6_4 : (u6).cell? ⟨B1, 4, none⟩ = some (Value.int .i64 c.us) := r6.cell 4 rfl
    clear r5 hB5 HM5 c5_0 c5_1 c5_2 c5_3 c5_4
    refine hK.out _ _ ⟨c6_0, c6_1, c6_2, c6_3, c6_4⟩ (fun hS => ?_)
    clear hK K
    try simp only [Act.put, List.setIfInBounds_toArray, List.set_cons_zero, List.set_cons_succ]
    refine wpAnyH_take (i := 24) (oi := { dst := some 64, op := Op.binOp BinOp.eql 3 (Operand.tmp 60) (Operand.tmp 63) 3, type := 4, pos := "law.go:35", after := #[{ on := 20, ground := Ground.data }, { on := 23, ground := Ground.data }, { on := 17, ground := Ground.guard }], guard := some (17, true) }) (v := ?v24_63) rfl (by kernel_rfl) (by kernel_rfl) (by kernel_rfl) (fun _ _ _ h => h) (Or.inl ⟨by rfl, ?hy24_63⟩) hS ?rest24_63
    case hy24_63 =>
      intro w hSw
      (try dsimp only at hSw)
      go_simp
      try with_reducible rfl
    try simp only [Act.put, List.setIfInBounds_toArray, List.set_cons_zero, List.set_cons_succ]
    refine wpAnyH_take (i := 25) (oi := { dst := some 65, op := Op.pick (Operand.tmp 57) (Operand.tmp 64) (Operand.const (Value.bool false)), type := 4, pos := "law.go:35", after := #[{ on := 17, ground := Ground.data }, { on := 24, ground := Ground.data }], guard := none }) (v := ?v25_64) rfl (by kernel_rfl) (by kernel_rfl) (by kernel_rfl) (fun _ _ _ h => h) (Or.inl ⟨by rfl, ?hy25_64⟩) hS ?rest25_64
    case hy25_64 =>
      intro w hSw
      (try dsimp only at hSw)
      go_simp
      try with_reducible rfl
    try simp only [Act.put, List.setIfInBounds_toArray, List.set_cons_zero, List.set_cons_succ]
    refine wpAnyH_take (i := 26) (oi := { dst := some 66, op := Op.move (Operand.tmp 65), type := 4, pos := "law.go:35", after := #[{ on := 25, ground := Ground.data }, { on := 23, ground := Ground.chain }], guard := none }) (v := ?v26_65) rfl (by kernel_rfl) (by kernel_rfl) (by kernel_rfl) (fun _ _ _ h => h) (Or.inl ⟨by rfl, ?hy26_65⟩) hS ?rest26_65
    case hy26_65 =>
      intro w hSw
      (try dsimp only at hSw)
      go_simp
      try with_reducible rfl
    try simp only [Act.put, List.setIfInBounds_toArray, List.set_cons_zero, List.set_cons_succ]
    refine wpAnyH_take (i := 27) (oi := { dst := some 67, op := Op.load 23 (Operand.tmp 3), type := 23, pos := "law.go:35", after := #[{ on := 26, ground := Ground.guard }], guard := some (26, true) }) (v := ?v27_66) rfl (by kernel_rfl) (by kernel_rfl) (by kernel_rfl) (fun _ _ _ h => h) (Or.inl ⟨by rfl, ?hy27_66⟩) hS ?rest27_66
    case hy27_66 =>
      intro w hSw
      (try dsimp only at hSw)
      go_simp
      try with_reducible rfl
    try simp only [Act.put, List.setIfInBounds_toArray, List.set_cons_zero, List.set_cons_succ]
    refine wpAnyH_take (i := 28) (oi := { dst := some 68, op := Op.move (Operand.tmp 2), type := 3, pos := "law.go:35", after := #[{ on := 26, ground := Ground.guard }], guard := some (26, true) }) (v := ?v28_67) rfl (by kernel_rfl) (by kernel_rfl) (by kernel_rfl) (fun _ _ _ h => h) (Or.inl ⟨by rfl, ?hy28_67⟩) hS ?rest28_67
    case hy28_67 =>
      intro w hSw
      (try dsimp only at hSw)
      go_simp
      try with_reducible rfl
    try simp only [Act.put, List.setIfInBounds_toArray, List.set_cons_zero, List.set_cons_succ]
    refine wpAnyH_take (i := 30) (oi := { dst := some 70, op := Op.load 23 (Operand.tmp 3), type := 23, pos := "law.go:35", after := #[{ on := 26, ground := Ground.guard }], guard := some (26, true) }) (v := ?v30_68) rfl (by kernel_rfl) (by kernel_rfl) (by kernel_rfl) (fun _ _ _ h => h) (Or.inl ⟨by rfl, ?hy30_68⟩) hS ?rest30_68
    case hy30_68 =>
      intro w hSw
      (try dsimp only at hSw)
      go_simp
      try with_reducible rfl
    try simp only [Act.put, List.setIfInBounds_toArray, List.set_cons_zero, List.set_cons_succ]
    refine wpAnyH_take (i := 31) (oi := { dst := some 71, op := Op.move (Operand.tmp 2), type := 3, pos := "law.go:35", after := #[{ on := 26, ground := Ground.guard }], guard := some (26, true) }) (v := ?v31_69) rfl (by kernel_rfl) (by kernel_rfl) (by kernel_rfl) (fun _ _ _ h => h) (Or.inl ⟨by rfl, ?hy31_69⟩) hS ?rest31_69
    case hy31_69 =>
      intro w hSw
      (try dsimp only at hSw)
      go_simp
      try with_reducible rfl
    try simp only [Act.put, List.setIfInBounds_toArray, List.set_cons_zero, List.set_cons_succ]
    refine wpAnyH_ready (rs := [29]) (by kernel_rfl) (by simp) ?_
    refine AllReadyH.cons (o := { dst := some 69, op := Op.call { callee := Callee.value (Operand.func 17), args := #[Operand.tmp 67, Operand.tmp 68], argTypes := #[23, 3] }, type := 3, pos := "law.go:35", after := #[{ on := 27, ground := Ground.data }, { on := 28, ground := Ground.data }, { on := 26, ground := Ground.chain }, { on := 26, ground := Ground.guard }], guard := some (26, true) }) rfl (fun K hK => ?_) AllReadyH.nil
    go_simp
    refine (KS.out _).mono ?_
    rintro e u7 ⟨rfl, hb⟩
    have r7 := r6.below hb r6.lt
    have hB7 := hB6.trans (hb.mono hB6.size)
    have HM7 := Lib.hid (HM6.out.on hb)
    clear hb
    have c7_0 : (u7).cell? ⟨B1, 0, none⟩ = some (Value.int .i64 c.wo) := r7.cell 0 rfl
    have c7_1 : (u7).cell? ⟨B1, 1, none⟩ = some (Value.int .i64 c.sl) := r7.cell 1 rfl
    have c7_2 : (u7).cell? ⟨B1, 2, none⟩ = some (Value.int .i64 c.st) := r7.cell 2 rfl
    have c7_3 : (u7).cell? ⟨B1, 3, none⟩ = some (Value.int .i64 c.wa) := r7.cell 3 rfl
    have c7_4 : (u7).cell? ⟨B1, 4, none⟩ = some (Value.int .i64 c.us) := r7.cell 4 rfl
    clear r6 hB6 HM6 c6_0 c6_1 c6_2 c6_3 c6_4
    refine hK.out _ _ ⟨c7_0, c7_1, c7_2, c7_3, c7_4⟩ (fun hS => ?_)
    clear hK K
    try simp only [Act.put, List.setIfInBounds_toArray, List.set_cons_zero, List.set_cons_succ]
    refine wpAnyH_ready (rs := [32]) (by kernel_rfl) (by simp) ?_
    refine AllReadyH.cons (o := { dst := some 72, op := Op.call { callee := Callee.value (Operand.func 18), args := #[Operand.tmp 70, Operand.tmp 71], argTypes := #[23, 3] }, type := 3, pos := "law.go:35", after := #[{ on := 30, ground := Ground.data }, { on := 31, ground := Ground.data }, { on := 29, ground := Ground.chain }, { on := 26, ground := Ground.guard }], guard := some (26, true) }) rfl (fun K hK => ?_) AllReadyH.nil
    go_simp
    refine (KR.out _).mono ?_
    rintro e u8 ⟨rfl, hb⟩
    have r8 := r7.below hb r7.lt
    have hB8 := hB7.trans (hb.mono hB7.size)
    have HM8 := Lib.hid (HM7.out.on hb)
    clear hb
    have c8_0 : (u8).cell? ⟨B1, 0, none⟩ = some (Value.int .i64 c.wo) := r8.cell 0 rfl
    have c8_1 : (u8).cell? ⟨B1, 1, none⟩ = some (Value.int .i64 c.sl) := r8.cell 1 rfl
    have c8_2 : (u8).cell? ⟨B1, 2, none⟩ = some (Value.int .i64 c.st) := r8.cell 2 rfl
    have c8_3 : (u8).cell? ⟨B1, 3, none⟩ = some (Value.int .i64 c.wa) := r8.cell 3 rfl
    have c8_4 : (u8).cell? ⟨B1, 4, none⟩ = some (Value.int .i64 c.us) := r8.cell 4 rfl
    clear r7 hB7 HM7 c7_0 c7_1 c7_2 c7_3 c7_4
    refine hK.out _ _ ⟨c8_0, c8_1, c8_2, c8_3, c8_4⟩ (fun hS => ?_)
    clear hK K
    try simp only [Act.put, List.setIfInBounds_toArray, List.set_cons_zero, List.set_cons_succ]
    refine wpAnyH_take (i := 33) (oi := { dst := some 73, op := Op.binOp BinOp.eql 3 (Operand.tmp 69) (Operand.tmp 72) 3, type := 4, pos := "law.go:35", after := #[{ on := 29, ground := Ground.data }, { on := 32, ground := Ground.data }, { on := 26, ground := Ground.guard }], guard := some (26, true) }) (v := ?v33_70) rfl (by kernel_rfl) (by kernel_rfl) (by kernel_rfl) (fun _ _ _ h => h) (Or.inl ⟨by rfl, ?hy33_70⟩) hS ?rest33_70
    case hy33_70 =>
      intro w hSw
      (try dsimp only at hSw)
      go_simp
      try with_reducible rfl
    try simp only [Act.put, List.setIfInBounds_toArray, List.set_cons_zero, List.set_cons_succ]
    refine wpAnyH_take (i := 34) (oi := { dst := some 74, op := Op.pick (Operand.tmp 66) (Operand.tmp 73) (Operand.const (Value.bool false)), type := 4, pos := "law.go:35", after := #[{ on := 26, ground := Ground.data }, { on := 33, ground := Ground.data }], guard := none }) (v := ?v34_71) rfl (by kernel_rfl) (by kernel_rfl) (by kernel_rfl) (fun _ _ _ h => h) (Or.inl ⟨by rfl, ?hy34_71⟩) hS ?rest34_71
    case hy34_71 =>
      intro w hSw
      (try dsimp only at hSw)
      go_simp
      try with_reducible rfl
    try simp only [Act.put, List.setIfInBounds_toArray, List.set_cons_zero, List.set_cons_succ]
    refine wpAnyH_take (i := 35) (oi := { dst := some 75, op := Op.move (Operand.tmp 74), type := 4, pos := "law.go:35", after := #[{ on := 34, ground := Ground.data }, { on := 32, ground := Ground.chain }], guard := none }) (v := ?v35_72) rfl (by kernel_rfl) (by kernel_rfl) (by kernel_rfl) (fun _ _ _ h => h) (Or.inl ⟨by rfl, ?hy35_72⟩) hS ?rest35_72
    case hy35_72 =>
      intro w hSw
      (try dsimp only at hSw)
      go_simp
      try with_reducible rfl
    try simp only [Act.put, List.setIfInBounds_toArray, List.set_cons_zero, List.set_cons_succ]
    refine wpAnyH_take (i := 36) (oi := { dst := some 76, op := Op.move (Operand.tmp 9), type := 26, pos := "law.go:35", after := #[{ on := 35, ground := Ground.guard }], guard := some (35, true) }) (v := ?v36_73) rfl (by kernel_rfl) (by kernel_rfl) (by kernel_rfl) (fun _ _ _ h => h) (Or.inl ⟨by rfl, ?hy36_73⟩) hS ?rest36_73
    case hy36_73 =>
      intro w hSw
      (try dsimp only at hSw)
      go_simp
      try with_reducible rfl
    try simp only [Act.put, List.setIfInBounds_toArray, List.set_cons_zero, List.set_cons_succ]
    refine wpAnyH_take (i := 38) (oi := { dst := some 78, op := Op.load 23 (Operand.tmp 3), type := 23, pos := "law.go:35", after := #[{ on := 35, ground := Ground.guard }], guard := some (35, true) }) (v := ?v38_74) rfl (by kernel_rfl) (by kernel_rfl) (by kernel_rfl) (fun _ _ _ h => h) (Or.inl ⟨by rfl, ?hy38_74⟩) hS ?rest38_74
    case hy38_74 =>
      intro w hSw
      (try dsimp only at hSw)
      go_simp
      try with_reducible rfl
    try simp only [Act.put, List.setIfInBounds_toArray, List.set_cons_zero, List.set_cons_succ]
    refine wpAnyH_ready (rs := [37]) (by kernel_rfl) (by simp) ?_
    refine AllReadyH.cons (o := { dst := some 77, op := Op.call { callee := Callee.value (Operand.func 20), args := #[Operand.tmp 76], argTypes := #[26] }, type := 33, pos := "law.go:35", after := #[{ on := 36, ground := Ground.data }, { on := 35, ground := Ground.chain }, { on := 35, ground := Ground.guard }], guard := some (35, true) }) rfl (fun K hK => ?_) AllReadyH.nil
    go_simp
    refine (words_any g gw n _ HM8.out (by omega) (by omega)).mono ?_
    rintro e u9 ⟨bw, cw, rfl, hcw, hL1, hb⟩
    have r9 := r8.below hb r8.lt
    have hB9 := hB8.trans (hb.mono hB8.size)
    have HM9 := Lib.hid (HM8.out.on hb)
    have L1 := Lib.hid hL1
    clear hL1
    clear hb
    have c9_0 : (u9).cell? ⟨B1, 0, none⟩ = some (Value.int .i64 c.wo) := r9.cell 0 rfl
    have c9_1 : (u9).cell? ⟨B1, 1, none⟩ = some (Value.int .i64 c.sl) := r9.cell 1 rfl
    have c9_2 : (u9).cell? ⟨B1, 2, none⟩ = some (Value.int .i64 c.st) := r9.cell 2 rfl
    have c9_3 : (u9).cell? ⟨B1, 3, none⟩ = some (Value.int .i64 c.wa) := r9.cell 3 rfl
    have c9_4 : (u9).cell? ⟨B1, 4, none⟩ = some (Value.int .i64 c.us) := r9.cell 4 rfl
    clear r8 hB8 HM8 c8_0 c8_1 c8_2 c8_3 c8_4
    refine hK.out _ _ ⟨c9_0, c9_1, c9_2, c9_3, c9_4⟩ (fun hS => ?_)
    clear hK K
    try simp only [Act.put, List.setIfInBounds_toArray, List.set_cons_zero, List.set_cons_succ]
    refine wpAnyH_ready (rs := [39]) (by kernel_rfl) (by simp) ?_
    refine AllReadyH.cons (o := { dst := some 79, op := Op.call { callee := Callee.value (Operand.func 11), args := #[Operand.tmp 78], argTypes := #[23] }, type := 3, pos := "law.go:35", after := #[{ on := 38, ground := Ground.data }, { on := 37, ground := Ground.chain }, { on := 35, ground := Ground.guard }], guard := some (35, true) }) rfl (fun K hK => ?_) AllReadyH.nil
    go_simp
    refine (KM.out _).mono ?_
    rintro e u10 ⟨rfl, hb⟩
    have r10 := r9.below hb r9.lt
    have hB10 := hB9.trans (hb.mono hB9.size)
    have HM10 := Lib.hid (HM9.out.on hb)
    replace L1 := Lib.hid (L1.out.on hb)
    clear hb
    have c10_0 : (u10).cell? ⟨B1, 0, none⟩ = some (Value.int .i64 c.wo) := r10.cell 0 rfl
    have c10_1 : (u10).cell? ⟨B1, 1, none⟩ = some (Value.int .i64 c.sl) := r10.cell 1 rfl
    have c10_2 : (u10).cell? ⟨B1, 2, none⟩ = some (Value.int .i64 c.st) := r10.cell 2 rfl
    have c10_3 : (u10).cell? ⟨B1, 3, none⟩ = some (Value.int .i64 c.wa) := r10.cell 3 rfl
    have c10_4 : (u10).cell? ⟨B1, 4, none⟩ = some (Value.int .i64 c.us) := r10.cell 4 rfl
    clear r9 hB9 HM9 c9_0 c9_1 c9_2 c9_3 c9_4
    refine hK.out _ _ ⟨c10_0, c10_1, c10_2, c10_3, c10_4⟩ (fun hS => ?_)
    clear hK K
    try simp only [Act.put, List.setIfInBounds_toArray, List.set_cons_zero, List.set_cons_succ]
    refine wpAnyH_ready (rs := [40]) (by kernel_rfl) (by simp) ?_
    refine AllReadyH.cons (o := { dst := some 80, op := Op.makeSlice 33 (Operand.tmp 79) (Operand.tmp 79), type := 33, pos := "law.go:35", after := #[{ on := 39, ground := Ground.data }, { on := 39, ground := Ground.data }, { on := 35, ground := Ground.guard }], guard := some (35, true) }) rfl (fun K hK => ?_) AllReadyH.nil
    go_simp
    have r11 := r10.alloc (Obj.cells (madeCells #[Value.int .i64 0] n) 3)
    have hB11 := hB10.alloc hB10.size (Obj.cells (madeCells #[Value.int .i64 0] n) 3)
    have L2 := Lib.hid (zeros_is u10 n)
    replace L1 := Lib.hid (L1.out.on ((Below.refl u10.heap.size u10).alloc (Nat.le_refl _) (Obj.cells (madeCells #[Value.int .i64 0] n) 3)))
    have c11_0 : (u10.alloc (Obj.cells (madeCells #[Value.int .i64 0] n) 3)).cell? ⟨B1, 0, none⟩ = some (Value.int .i64 c.wo) := r11.cell 0 rfl
    have c11_1 : (u10.alloc (Obj.cells (madeCells #[Value.int .i64 0] n) 3)).cell? ⟨B1, 1, none⟩ = some (Value.int .i64 c.sl) := r11.cell 1 rfl
    have c11_2 : (u10.alloc (Obj.cells (madeCells #[Value.int .i64 0] n) 3)).cell? ⟨B1, 2, none⟩ = some (Value.int .i64 c.st) := r11.cell 2 rfl
    have c11_3 : (u10.alloc (Obj.cells (madeCells #[Value.int .i64 0] n) 3)).cell? ⟨B1, 3, none⟩ = some (Value.int .i64 c.wa) := r11.cell 3 rfl
    have c11_4 : (u10.alloc (Obj.cells (madeCells #[Value.int .i64 0] n) 3)).cell? ⟨B1, 4, none⟩ = some (Value.int .i64 c.us) := r11.cell 4 rfl
    refine hK.out _ _ ⟨c11_0, c11_1, c11_2, c11_3, c11_4⟩ (fun hS => ?_)
    clear hK K
    try simp only [Act.put, List.setIfInBounds_toArray, List.set_cons_zero, List.set_cons_succ]
    refine wpAnyH_ready (rs := [41]) (by kernel_rfl) (by simp) ?_
    refine AllReadyH.cons (o := { dst := some 81, op := Op.call { callee := Callee.value (Operand.func 19), args := #[Operand.tmp 77, Operand.tmp 80], argTypes := #[33, 33] }, type := 4, pos := "law.go:35", after := #[{ on := 37, ground := Ground.data }, { on := 40, ground := Ground.data }, { on := 39, ground := Ground.chain }, { on := 35, ground := Ground.guard }], guard := some (35, true) }) rfl (fun K hK => ?_) AllReadyH.nil
    go_simp
    refine (ints_rep (some ⟨bw, 0, none⟩) _ n cw n _ L1.out (L2.out.more (by simp)) (by omega)).mono ?_
    rintro e u12 ⟨rfl, hb⟩
    have r12 := r11.below hb r11.lt
    have hB12 := hB11.trans (hb.mono hB11.size)
    clear hb
    have c12_0 : (u12).cell? ⟨B1, 0, none⟩ = some (Value.int .i64 c.wo) := r12.cell 0 rfl
    have c12_1 : (u12).cell? ⟨B1, 1, none⟩ = some (Value.int .i64 c.sl) := r12.cell 1 rfl
    have c12_2 : (u12).cell? ⟨B1, 2, none⟩ = some (Value.int .i64 c.st) := r12.cell 2 rfl
    have c12_3 : (u12).cell? ⟨B1, 3, none⟩ = some (Value.int .i64 c.wa) := r12.cell 3 rfl
    have c12_4 : (u12).cell? ⟨B1, 4, none⟩ = some (Value.int .i64 c.us) := r12.cell 4 rfl
    refine hK.out _ _ ⟨c12_0, c12_1, c12_2, c12_3, c12_4⟩ (fun hS => ?_)
    clear hK K
    try simp only [Act.put, List.setIfInBounds_toArray, List.set_cons_zero, List.set_cons_succ]
    refine wpAnyH_take (i := 42) (oi := { dst := some 82, op := Op.pick (Operand.tmp 75) (Operand.tmp 81) (Operand.const (Value.bool false)), type := 4, pos := "law.go:35", after := #[{ on := 35, ground := Ground.data }, { on := 41, ground := Ground.data }], guard := none }) (v := ?v42_75) rfl (by kernel_rfl) (by kernel_rfl) (by kernel_rfl) (fun _ _ _ h => h) (Or.inl ⟨by rfl, ?hy42_75⟩) hS ?rest42_75
    case hy42_75 =>
      intro w hSw
      (try dsimp only at hSw)
      go_simp
      try with_reducible rfl
    try simp only [Act.put, List.setIfInBounds_toArray, List.set_cons_zero, List.set_cons_succ]
    refine wpAnyH_take (i := 43) (oi := { dst := some 6, op := Op.assign (Operand.tmp 82), type := 4, pos := "law.go:35", after := #[{ on := 42, ground := Ground.data }, { on := 41, ground := Ground.chain }, { on := 0, ground := Ground.phase }, { on := 1, ground := Ground.phase }, { on := 2, ground := Ground.phase }, { on := 3, ground := Ground.phase }, { on := 4, ground := Ground.phase }, { on := 5, ground := Ground.phase }, { on := 6, ground := Ground.phase }, { on := 7, ground := Ground.phase }, { on := 8, ground := Ground.phase }, { on := 9, ground := Ground.phase }, { on := 10, ground := Ground.phase }, { on := 11, ground := Ground.phase }, { on := 12, ground := Ground.phase }, { on := 13, ground := Ground.phase }, { on := 14, ground := Ground.phase }, { on := 15, ground := Ground.phase }, { on := 16, ground := Ground.phase }, { on := 17, ground := Ground.phase }, { on := 18, ground := Ground.phase }, { on := 19, ground := Ground.phase }, { on := 20, ground := Ground.phase }, { on := 21, ground := Ground.phase }, { on := 22, ground := Ground.phase }, { on := 23, ground := Ground.phase }, { on := 24, ground := Ground.phase }, { on := 25, ground := Ground.phase }, { on := 26, ground := Ground.phase }, { on := 27, ground := Ground.phase }, { on := 28, ground := Ground.phase }, { on := 29, ground := Ground.phase }, { on := 30, ground := Ground.phase }, { on := 31, ground := Ground.phase }, { on := 32, ground := Ground.phase }, { on := 33, ground := Ground.phase }, { on := 34, ground := Ground.phase }, { on := 35, ground := Ground.phase }, { on := 36, ground := Ground.phase }, { on := 37, ground := Ground.phase }, { on := 38, ground := Ground.phase }, { on := 39, ground := Ground.phase }, { on := 40, ground := Ground.phase }, { on := 41, ground := Ground.phase }, { on := 42, ground := Ground.phase }], guard := none }) (v := ?v43_76) rfl (by kernel_rfl) (by kernel_rfl) (by kernel_rfl) (fun _ _ _ h => h) (Or.inl ⟨by rfl, ?hy43_76⟩) hS ?rest43_76
    case hy43_76 =>
      intro w hSw
      (try dsimp only at hSw)
      go_simp
      try with_reducible rfl
    try simp only [Act.put, List.setIfInBounds_toArray, List.set_cons_zero, List.set_cons_succ]
    refine wpAnyH_done (by kernel_rfl) ?_ _
    go_wp2_with fail
    go_ret
    exact ⟨rfl, hB12⟩
end Go.Proofs.YtfnpleicbpbiaaaDoor
