/- The law ConfSlots, walked. -/
import Derived.Test.YtfnpleicbpbiaaaDoorAwake
import Derived.Test.YtfnpleicbpbiaaaDoorSame
import Derived.Test.YtfnpleicbpbiaaaDoorInts
import Derived.Test.YtfnpleicbpbiaaaDoorRSlots
import Derived.Test.YtfnpleicbpbiaaaDoorRPins
namespace Go.Proofs.YtfnpleicbpbiaaaDoor
open Go.RowKit
attribute [local go_sem ↓] Go.wp_at_zero Go.wp_at_succ

theorem slotsL_len (c : Cf) (xs : List Int) : (slotsL c xs).length ≤ xs.length := by
  unfold slotsL
  split
  · rw [List.length_map, List.length_take, List.length_drop]; omega
  · simp
theorem pinsL_len (c : Cf) (xs : List Int) : (pinsL c xs).length ≤ xs.length := by
  unfold pinsL
  split
  · rw [List.length_take, List.length_drop]; omega
  · simp
theorem same_self (A A2 : Option Addr) (c c2 : Nat) (xs : List Sl) (w : World) (h : LS w w.heap.size A xs) (h2 : LS w w.heap.size A2 xs) (hl : xs.length ≤ 1000000) :
    Calls Tryd.prog 21 #[.slice A xs.length c, .slice A2 xs.length c2] w (fun e w' => e = .returned (.bool true) ∧ Below w.heap.size w w') := by
  have h3 := same_any A A2 c c2 xs xs w h h2 hl
  rwa [decide_eq_true rfl] at h3
theorem ints_self (A A2 : Option Addr) (c c2 : Nat) (xs : List Int) (w : World) (h : IS w w.heap.size A xs) (h2 : IS w w.heap.size A2 xs) (hl : xs.length ≤ 1000000) :
    Calls Tryd.prog 19 #[.slice A xs.length c, .slice A2 xs.length c2] w (fun e w' => e = .returned (.bool true) ∧ Below w.heap.size w w') := by
  have h3 := ints_any A A2 c c2 xs xs w h h2 hl
  rwa [decide_eq_true rfl] at h3
set_option maxRecDepth 100000 in
set_option maxHeartbeats 2000000 in
theorem lslots_any (c : Cf) (A : Option Addr) (n c0 : Nat) (xs : List Int) (w : World) (hT : Tab w) (hn : xs.length = n) (hcap : n ≤ c0) (hI : IS w w.heap.size A xs) (hx : ∀ (k : Nat) x, xs[k]? = some x → -9223372036854775808 ≤ x ∧ x ≤ 9223372036854775807) :
    Calls Tryd.prog 4 #[Value.agg #[Value.int .i64 c.wo, Value.int .i64 c.sl, Value.int .i64 c.st, Value.int .i64 c.wa, Value.int .i64 c.us], .slice A n c0] w fun e w' => e = .returned (.bool true) ∧ Below w.heap.size w w' := by
  have hB : Below w.heap.size w (w.alloc (.cells #[Value.int .i64 c.wo, Value.int .i64 c.sl, Value.int .i64 c.st, Value.int .i64 c.wa, Value.int .i64 c.us] 23)) := (Below.refl _ _).alloc (Nat.le_refl _) _
  have r0 := RowAt.new w 23 #[Value.int .i64 c.wo, Value.int .i64 c.sl, Value.int .i64 c.st, Value.int .i64 c.wa, Value.int .i64 c.us]
  have HT := Lib.hid (hT.below hB hT.lt)
  have HI := Lib.hid (hI.on hB)
  have Hx := Lib.hid hx
  have Hl := Lib.hid hn
  clear hT hI hx hn
  go_enter Tryd.func4, Tryd.ntmps4
  go_wp2_with fail
  refine (awake_any _ HT.out).mono ?_
  rintro e w1 ⟨rfl, hb⟩
  replace r0 := r0.below hb r0.lt
  replace hB := hB.trans (hb.mono hB.size)
  have HT1 := Lib.hid (HT.out.below hb HT.out.lt)
  have HI1 := Lib.hid (HI.out.on hb)
  clear hb HT HI
  go_wp2_with (refine wpList_load_row rfl 23 _ rfl _ rfl 23 _ (0, 0) _ r0 Tryd.underlying23 rfl (by kernel_rfl) ?_)
  refine (refCRight_any c _).mono ?_
  rintro e w2 ⟨rfl, hb⟩
  replace r0 := (r0.below hb r0.lt).drew
  replace hB := (hB.trans (hb.mono hB.size))
  have HT2 := Lib.hid (HT1.out.below hb HT1.out.lt).drew
  have HI2 : Hid (IS w2.drew w2.drew.heap.size A xs) := Lib.hid (HI1.out.on hb.drew)
  clear hb HT1 HI1
  cases hr : rcB c with
  | false =>
    go_wp2_with fail
    go_ret
    exact ⟨rfl, hB⟩
  | true =>
    have Hc := Lib.hid (rcB_iff.1 hr)
    clear hr
    by_cases h50 : 50 < n
    · have h51 : (50 : Int) < (n : Int) := by omega
      go_wp2_with fail
      go_ret
      exact ⟨rfl, hB⟩
    · have h51 : ¬ (50 : Int) < (n : Int) := by omega
      have hL9 : (slotsL c xs).length ≤ 1000000 := by have := slotsL_len c xs; have := Hl.out; omega
      have hP9 : (pinsL c xs).length ≤ 1000000 := by have := pinsL_len c xs; have := Hl.out; omega
      replace hB := hB.drew
      go_wp2_with fail
      obtain ⟨B1, e1⟩ : ∃ B1, B1 = w.heap.size := ⟨_, rfl⟩
      rw [← e1] at r0 ⊢
      clear e1
      have c00 : w2.drew.cell? ⟨B1, 0, none⟩ = some (Value.int .i64 c.wo) := r0.cell 0 rfl
      have c01 : w2.drew.cell? ⟨B1, 1, none⟩ = some (Value.int .i64 c.sl) := r0.cell 1 rfl
      have c02 : w2.drew.cell? ⟨B1, 2, none⟩ = some (Value.int .i64 c.st) := r0.cell 2 rfl
      have c03 : w2.drew.cell? ⟨B1, 3, none⟩ = some (Value.int .i64 c.wa) := r0.cell 3 rfl
      have c04 : w2.drew.cell? ⟨B1, 4, none⟩ = some (Value.int .i64 c.us) := r0.cell 4 rfl
      refine wp_region_held_drew (S := (fun w' => w'.cell? ⟨B1, 0, none⟩ = some (Value.int .i64 c.wo) ∧ w'.cell? ⟨B1, 1, none⟩ = some (Value.int .i64 c.sl) ∧ w'.cell? ⟨B1, 2, none⟩ = some (Value.int .i64 c.st) ∧ w'.cell? ⟨B1, 3, none⟩ = some (Value.int .i64 c.wa) ∧ w'.cell? ⟨B1, 4, none⟩ = some (Value.int .i64 c.us))) (by kernel_rfl) ⟨c00, c01, c02, c03, c04⟩ (fun hS => ?_)
      generalize w2.drew = WD at *
      refine wpAnyH_take (i := 0) (oi := { dst := some 18, op := Op.move (Operand.tmp 5), type := 4, pos := "law.go:45", after := #[], guard := none }) (v := ?v0_31) rfl (by kernel_rfl) (by kernel_rfl) (by kernel_rfl) (fun _ _ _ h => h) (Or.inl ⟨by rfl, ?hy0_31⟩) hS ?rest0_31
      case hy0_31 =>
        intro w hSw
        (try dsimp only at hSw)
        go_simp
        try with_reducible rfl
      try simp only [Act.put, List.setIfInBounds_toArray, List.set_cons_zero, List.set_cons_succ]
      refine wpAnyH_take (i := 1) (oi := { dst := some 19, op := Op.move (Operand.tmp 18), type := 4, pos := "law.go:45", after := #[{ on := 0, ground := Ground.data }], guard := none }) (v := ?v1_32) rfl (by kernel_rfl) (by kernel_rfl) (by kernel_rfl) (fun _ _ _ h => h) (Or.inl ⟨by rfl, ?hy1_32⟩) hS ?rest1_32
      case hy1_32 =>
        intro w hSw
        (try dsimp only at hSw)
        go_simp
        try with_reducible rfl
      try simp only [Act.put, List.setIfInBounds_toArray, List.set_cons_zero, List.set_cons_succ]
      refine wpAnyH_take (i := 2) (oi := { dst := some 20, op := Op.load 23 (Operand.tmp 2), type := 23, pos := "law.go:45", after := #[{ on := 1, ground := Ground.guard }], guard := some (1, true) }) (v := ?v2_33) rfl (by kernel_rfl) (by kernel_rfl) (by kernel_rfl) (fun _ _ _ h => h) (Or.inl ⟨by rfl, ?hy2_33⟩) hS ?rest2_33
      case hy2_33 =>
        intro w hSw
        (try dsimp only at hSw)
        go_simp
        try with_reducible rfl
      try simp only [Act.put, List.setIfInBounds_toArray, List.set_cons_zero, List.set_cons_succ]
      refine wpAnyH_take (i := 3) (oi := { dst := some 21, op := Op.move (Operand.tmp 1), type := 33, pos := "law.go:45", after := #[{ on := 1, ground := Ground.guard }], guard := some (1, true) }) (v := ?v3_34) rfl (by kernel_rfl) (by kernel_rfl) (by kernel_rfl) (fun _ _ _ h => h) (Or.inl ⟨by rfl, ?hy3_34⟩) hS ?rest3_34
      case hy3_34 =>
        intro w hSw
        (try dsimp only at hSw)
        go_simp
        try with_reducible rfl
      try simp only [Act.put, List.setIfInBounds_toArray, List.set_cons_zero, List.set_cons_succ]
      refine wpAnyH_take (i := 5) (oi := { dst := some 23, op := Op.load 23 (Operand.tmp 2), type := 23, pos := "law.go:45", after := #[{ on := 1, ground := Ground.guard }], guard := some (1, true) }) (v := ?v5_35) rfl (by kernel_rfl) (by kernel_rfl) (by kernel_rfl) (fun _ _ _ h => h) (Or.inl ⟨by rfl, ?hy5_35⟩) hS ?rest5_35
      case hy5_35 =>
        intro w hSw
        (try dsimp only at hSw)
        go_simp
        try with_reducible rfl
      try simp only [Act.put, List.setIfInBounds_toArray, List.set_cons_zero, List.set_cons_succ]
      refine wpAnyH_take (i := 6) (oi := { dst := some 24, op := Op.move (Operand.tmp 1), type := 33, pos := "law.go:45", after := #[{ on := 1, ground := Ground.guard }], guard := some (1, true) }) (v := ?v6_36) rfl (by kernel_rfl) (by kernel_rfl) (by kernel_rfl) (fun _ _ _ h => h) (Or.inl ⟨by rfl, ?hy6_36⟩) hS ?rest6_36
      case hy6_36 =>
        intro w hSw
        (try dsimp only at hSw)
        go_simp
        try with_reducible rfl
      try simp only [Act.put, List.setIfInBounds_toArray, List.set_cons_zero, List.set_cons_succ]
      refine wpAnyH_ready (rs := [4]) (by kernel_rfl) (by simp) ?_
      refine AllReadyH.cons (o := { dst := some 22, op := Op.call { callee := Callee.value (Operand.func 22), args := #[Operand.tmp 20, Operand.tmp 21], argTypes := #[23, 33] }, type := 37, pos := "law.go:45", after := #[{ on := 2, ground := Ground.data }, { on := 3, ground := Ground.data }, { on := 1, ground := Ground.chain }, { on := 1, ground := Ground.guard }], guard := some (1, true) }) rfl (fun K hK => ?_) AllReadyH.nil
      go_simp
      refine (slots_any A n c0 xs c _ HT2.out Hc.out Hl.out hcap HI2.out Hx.out).mono ?_
      rintro e u1 ⟨A1, c1, rfl, _, hL1, hb⟩
      have r1 := r0.below hb r0.lt
      have hB1 := hB.trans (hb.mono hB.size)
      have HT_1 := Lib.hid (HT2.out.below hb HT2.out.lt)
      have HI_1 := Lib.hid (HI2.out.on hb)
      have L1 := Lib.hid hL1
      clear hL1
      clear hb
      have c10 : u1.cell? ⟨B1, 0, none⟩ = some (Value.int .i64 c.wo) := r1.cell 0 rfl
      have c11 : u1.cell? ⟨B1, 1, none⟩ = some (Value.int .i64 c.sl) := r1.cell 1 rfl
      have c12 : u1.cell? ⟨B1, 2, none⟩ = some (Value.int .i64 c.st) := r1.cell 2 rfl
      have c13 : u1.cell? ⟨B1, 3, none⟩ = some (Value.int .i64 c.wa) := r1.cell 3 rfl
      have c14 : u1.cell? ⟨B1, 4, none⟩ = some (Value.int .i64 c.us) := r1.cell 4 rfl
      refine hK.out _ _ ⟨c10, c11, c12, c13, c14⟩ (fun hS => ?_)
      clear hK K
      try simp only [Act.put, List.setIfInBounds_toArray, List.set_cons_zero, List.set_cons_succ]
      refine wpAnyH_ready (rs := [7]) (by kernel_rfl) (by simp) ?_
      refine AllReadyH.cons (o := { dst := some 25, op := Op.call { callee := Callee.value (Operand.func 23), args := #[Operand.tmp 23, Operand.tmp 24], argTypes := #[23, 33] }, type := 37, pos := "law.go:45", after := #[{ on := 5, ground := Ground.data }, { on := 6, ground := Ground.data }, { on := 4, ground := Ground.chain }, { on := 1, ground := Ground.guard }], guard := some (1, true) }) rfl (fun K hK => ?_) AllReadyH.nil
      go_simp
      refine (refSlots_any A n c0 xs c _ Hc.out Hl.out HI_1.out Hx.out).mono ?_
      rintro e u2 ⟨A2, c2, rfl, _, hL2, hb⟩
      have r2 := r1.below hb r1.lt
      have hB2 := hB1.trans (hb.mono hB1.size)
      have HT_2 := Lib.hid (HT_1.out.below hb HT_1.out.lt)
      have HI_2 := Lib.hid (HI_1.out.on hb)
      replace L1 := Lib.hid (L1.out.on hb)
      have L2 := Lib.hid hL2
      clear hL2
      clear hb
      have c20 : u2.cell? ⟨B1, 0, none⟩ = some (Value.int .i64 c.wo) := r2.cell 0 rfl
      have c21 : u2.cell? ⟨B1, 1, none⟩ = some (Value.int .i64 c.sl) := r2.cell 1 rfl
      have c22 : u2.cell? ⟨B1, 2, none⟩ = some (Value.int .i64 c.st) := r2.cell 2 rfl
      have c23 : u2.cell? ⟨B1, 3, none⟩ = some (Value.int .i64 c.wa) := r2.cell 3 rfl
      have c24 : u2.cell? ⟨B1, 4, none⟩ = some (Value.int .i64 c.us) := r2.cell 4 rfl
      refine hK.out _ _ ⟨c20, c21, c22, c23, c24⟩ (fun hS => ?_)
      clear hK K
      try simp only [Act.put, List.setIfInBounds_toArray, List.set_cons_zero, List.set_cons_succ]
      refine wpAnyH_ready (rs := [8]) (by kernel_rfl) (by simp) ?_
      refine AllReadyH.cons (o := { dst := some 26, op := Op.call { callee := Callee.value (Operand.func 21), args := #[Operand.tmp 22, Operand.tmp 25], argTypes := #[37, 37] }, type := 4, pos := "law.go:45", after := #[{ on := 4, ground := Ground.data }, { on := 7, ground := Ground.data }, { on := 7, ground := Ground.chain }, { on := 1, ground := Ground.guard }], guard := some (1, true) }) rfl (fun K hK => ?_) AllReadyH.nil
      go_simp
      refine (same_self A1 A2 c1 c2 _ _ L1.out L2.out hL9).mono ?_
      rintro e u3 ⟨rfl, hb⟩
      have r3 := r2.below hb r2.lt
      have hB3 := hB2.trans (hb.mono hB2.size)
      have HT_3 := Lib.hid (HT_2.out.below hb HT_2.out.lt)
      have HI_3 := Lib.hid (HI_2.out.on hb)
      clear hb
      have c30 : u3.cell? ⟨B1, 0, none⟩ = some (Value.int .i64 c.wo) := r3.cell 0 rfl
      have c31 : u3.cell? ⟨B1, 1, none⟩ = some (Value.int .i64 c.sl) := r3.cell 1 rfl
      have c32 : u3.cell? ⟨B1, 2, none⟩ = some (Value.int .i64 c.st) := r3.cell 2 rfl
      have c33 : u3.cell? ⟨B1, 3, none⟩ = some (Value.int .i64 c.wa) := r3.cell 3 rfl
      have c34 : u3.cell? ⟨B1, 4, none⟩ = some (Value.int .i64 c.us) := r3.cell 4 rfl
      refine hK.out _ _ ⟨c30, c31, c32, c33, c34⟩ (fun hS => ?_)
      clear hK K
      try simp only [Act.put, List.setIfInBounds_toArray, List.set_cons_zero, List.set_cons_succ]
      refine wpAnyH_take (i := 9) (oi := { dst := some 27, op := Op.pick (Operand.tmp 19) (Operand.tmp 26) (Operand.const (Value.bool false)), type := 4, pos := "law.go:45", after := #[{ on := 1, ground := Ground.data }, { on := 8, ground := Ground.data }], guard := none }) (v := ?v9_37) rfl (by kernel_rfl) (by kernel_rfl) (by kernel_rfl) (fun _ _ _ h => h) (Or.inl ⟨by rfl, ?hy9_37⟩) hS ?rest9_37
      case hy9_37 =>
        intro w hSw
        (try dsimp only at hSw)
        go_simp
        try with_reducible rfl
      try simp only [Act.put, List.setIfInBounds_toArray, List.set_cons_zero, List.set_cons_succ]
      refine wpAnyH_take (i := 10) (oi := { dst := some 28, op := Op.move (Operand.tmp 27), type := 4, pos := "law.go:45", after := #[{ on := 9, ground := Ground.data }, { on := 8, ground := Ground.chain }], guard := none }) (v := ?v10_38) rfl (by kernel_rfl) (by kernel_rfl) (by kernel_rfl) (fun _ _ _ h => h) (Or.inl ⟨by rfl, ?hy10_38⟩) hS ?rest10_38
      case hy10_38 =>
        intro w hSw
        (try dsimp only at hSw)
        go_simp
        try with_reducible rfl
      try simp only [Act.put, List.setIfInBounds_toArray, List.set_cons_zero, List.set_cons_succ]
      refine wpAnyH_take (i := 11) (oi := { dst := some 29, op := Op.load 23 (Operand.tmp 2), type := 23, pos := "law.go:45", after := #[{ on := 10, ground := Ground.guard }], guard := some (10, true) }) (v := ?v11_39) rfl (by kernel_rfl) (by kernel_rfl) (by kernel_rfl) (fun _ _ _ h => h) (Or.inl ⟨by rfl, ?hy11_39⟩) hS ?rest11_39
      case hy11_39 =>
        intro w hSw
        (try dsimp only at hSw)
        go_simp
        try with_reducible rfl
      try simp only [Act.put, List.setIfInBounds_toArray, List.set_cons_zero, List.set_cons_succ]
      refine wpAnyH_take (i := 12) (oi := { dst := some 30, op := Op.move (Operand.tmp 1), type := 33, pos := "law.go:45", after := #[{ on := 10, ground := Ground.guard }], guard := some (10, true) }) (v := ?v12_40) rfl (by kernel_rfl) (by kernel_rfl) (by kernel_rfl) (fun _ _ _ h => h) (Or.inl ⟨by rfl, ?hy12_40⟩) hS ?rest12_40
      case hy12_40 =>
        intro w hSw
        (try dsimp only at hSw)
        go_simp
        try with_reducible rfl
      try simp only [Act.put, List.setIfInBounds_toArray, List.set_cons_zero, List.set_cons_succ]
      refine wpAnyH_take (i := 14) (oi := { dst := some 32, op := Op.load 23 (Operand.tmp 2), type := 23, pos := "law.go:45", after := #[{ on := 10, ground := Ground.guard }], guard := some (10, true) }) (v := ?v14_41) rfl (by kernel_rfl) (by kernel_rfl) (by kernel_rfl) (fun _ _ _ h => h) (Or.inl ⟨by rfl, ?hy14_41⟩) hS ?rest14_41
      case hy14_41 =>
        intro w hSw
        (try dsimp only at hSw)
        go_simp
        try with_reducible rfl
      try simp only [Act.put, List.setIfInBounds_toArray, List.set_cons_zero, List.set_cons_succ]
      refine wpAnyH_take (i := 15) (oi := { dst := some 33, op := Op.move (Operand.tmp 1), type := 33, pos := "law.go:45", after := #[{ on := 10, ground := Ground.guard }], guard := some (10, true) }) (v := ?v15_42) rfl (by kernel_rfl) (by kernel_rfl) (by kernel_rfl) (fun _ _ _ h => h) (Or.inl ⟨by rfl, ?hy15_42⟩) hS ?rest15_42
      case hy15_42 =>
        intro w hSw
        (try dsimp only at hSw)
        go_simp
        try with_reducible rfl
      try simp only [Act.put, List.setIfInBounds_toArray, List.set_cons_zero, List.set_cons_succ]
      refine wpAnyH_ready (rs := [13]) (by kernel_rfl) (by simp) ?_
      refine AllReadyH.cons (o := { dst := some 31, op := Op.call { callee := Callee.value (Operand.func 24), args := #[Operand.tmp 29, Operand.tmp 30], argTypes := #[23, 33] }, type := 33, pos := "law.go:45", after := #[{ on := 11, ground := Ground.data }, { on := 12, ground := Ground.data }, { on := 10, ground := Ground.chain }, { on := 10, ground := Ground.guard }], guard := some (10, true) }) rfl (fun K hK => ?_) AllReadyH.nil
      go_simp
      refine (pins_any A n c0 xs c _ Hc.out Hl.out hcap HI_3.out).mono ?_
      rintro e u4 ⟨A3, c3, rfl, _, hL3, hb⟩
      have r4 := r3.below hb r3.lt
      have hB4 := hB3.trans (hb.mono hB3.size)
      have HT_4 := Lib.hid (HT_3.out.below hb HT_3.out.lt)
      have HI_4 := Lib.hid (HI_3.out.on hb)
      have L3 := Lib.hid hL3
      clear hL3
      clear hb
      have c40 : u4.cell? ⟨B1, 0, none⟩ = some (Value.int .i64 c.wo) := r4.cell 0 rfl
      have c41 : u4.cell? ⟨B1, 1, none⟩ = some (Value.int .i64 c.sl) := r4.cell 1 rfl
      have c42 : u4.cell? ⟨B1, 2, none⟩ = some (Value.int .i64 c.st) := r4.cell 2 rfl
      have c43 : u4.cell? ⟨B1, 3, none⟩ = some (Value.int .i64 c.wa) := r4.cell 3 rfl
      have c44 : u4.cell? ⟨B1, 4, none⟩ = some (Value.int .i64 c.us) := r4.cell 4 rfl
      refine hK.out _ _ ⟨c40, c41, c42, c43, c44⟩ (fun hS => ?_)
      clear hK K
      try simp only [Act.put, List.setIfInBounds_toArray, List.set_cons_zero, List.set_cons_succ]
      refine wpAnyH_ready (rs := [16]) (by kernel_rfl) (by simp) ?_
      refine AllReadyH.cons (o := { dst := some 34, op := Op.call { callee := Callee.value (Operand.func 25), args := #[Operand.tmp 32, Operand.tmp 33], argTypes := #[23, 33] }, type := 33, pos := "law.go:45", after := #[{ on := 14, ground := Ground.data }, { on := 15, ground := Ground.data }, { on := 13, ground := Ground.chain }, { on := 10, ground := Ground.guard }], guard := some (10, true) }) rfl (fun K hK => ?_) AllReadyH.nil
      go_simp
      refine (refPins_any A n c0 xs c _ Hc.out Hl.out HI_4.out).mono ?_
      rintro e u5 ⟨A4, c4, rfl, _, hL4, hb⟩
      have r5 := r4.below hb r4.lt
      have hB5 := hB4.trans (hb.mono hB4.size)
      have HT_5 := Lib.hid (HT_4.out.below hb HT_4.out.lt)
      have HI_5 := Lib.hid (HI_4.out.on hb)
      replace L3 := Lib.hid (L3.out.on hb)
      have L4 := Lib.hid hL4
      clear hL4
      clear hb
      have c50 : u5.cell? ⟨B1, 0, none⟩ = some (Value.int .i64 c.wo) := r5.cell 0 rfl
      have c51 : u5.cell? ⟨B1, 1, none⟩ = some (Value.int .i64 c.sl) := r5.cell 1 rfl
      have c52 : u5.cell? ⟨B1, 2, none⟩ = some (Value.int .i64 c.st) := r5.cell 2 rfl
      have c53 : u5.cell? ⟨B1, 3, none⟩ = some (Value.int .i64 c.wa) := r5.cell 3 rfl
      have c54 : u5.cell? ⟨B1, 4, none⟩ = some (Value.int .i64 c.us) := r5.cell 4 rfl
      refine hK.out _ _ ⟨c50, c51, c52, c53, c54⟩ (fun hS => ?_)
      clear hK K
      try simp only [Act.put, List.setIfInBounds_toArray, List.set_cons_zero, List.set_cons_succ]
      refine wpAnyH_ready (rs := [17]) (by kernel_rfl) (by simp) ?_
      refine AllReadyH.cons (o := { dst := some 35, op := Op.call { callee := Callee.value (Operand.func 19), args := #[Operand.tmp 31, Operand.tmp 34], argTypes := #[33, 33] }, type := 4, pos := "law.go:45", after := #[{ on := 13, ground := Ground.data }, { on := 16, ground := Ground.data }, { on := 16, ground := Ground.chain }, { on := 10, ground := Ground.guard }], guard := some (10, true) }) rfl (fun K hK => ?_) AllReadyH.nil
      go_simp
      refine (ints_self A3 A4 c3 c4 _ _ L3.out L4.out hP9).mono ?_
      rintro e u6 ⟨rfl, hb⟩
      have r6 := r5.below hb r5.lt
      have hB6 := hB5.trans (hb.mono hB5.size)
      have HT_6 := Lib.hid (HT_5.out.below hb HT_5.out.lt)
      have HI_6 := Lib.hid (HI_5.out.on hb)
      clear hb
      have c60 : u6.cell? ⟨B1, 0, none⟩ = some (Value.int .i64 c.wo) := r6.cell 0 rfl
      have c61 : u6.cell? ⟨B1, 1, none⟩ = some (Value.int .i64 c.sl) := r6.cell 1 rfl
      have c62 : u6.cell? ⟨B1, 2, none⟩ = some (Value.int .i64 c.st) := r6.cell 2 rfl
      have c63 : u6.cell? ⟨B1, 3, none⟩ = some (Value.int .i64 c.wa) := r6.cell 3 rfl
      have c64 : u6.cell? ⟨B1, 4, none⟩ = some (Value.int .i64 c.us) := r6.cell 4 rfl
      refine hK.out _ _ ⟨c60, c61, c62, c63, c64⟩ (fun hS => ?_)
      clear hK K
      try simp only [Act.put, List.setIfInBounds_toArray, List.set_cons_zero, List.set_cons_succ]
      refine wpAnyH_take (i := 18) (oi := { dst := some 36, op := Op.pick (Operand.tmp 28) (Operand.tmp 35) (Operand.const (Value.bool false)), type := 4, pos := "law.go:45", after := #[{ on := 10, ground := Ground.data }, { on := 17, ground := Ground.data }], guard := none }) (v := ?v18_43) rfl (by kernel_rfl) (by kernel_rfl) (by kernel_rfl) (fun _ _ _ h => h) (Or.inl ⟨by rfl, ?hy18_43⟩) hS ?rest18_43
      case hy18_43 =>
        intro w hSw
        (try dsimp only at hSw)
        go_simp
        try with_reducible rfl
      try simp only [Act.put, List.setIfInBounds_toArray, List.set_cons_zero, List.set_cons_succ]
      refine wpAnyH_take (i := 19) (oi := { dst := some 4, op := Op.assign (Operand.tmp 36), type := 4, pos := "law.go:45", after := #[{ on := 18, ground := Ground.data }, { on := 17, ground := Ground.chain }, { on := 0, ground := Ground.phase }, { on := 1, ground := Ground.phase }, { on := 2, ground := Ground.phase }, { on := 3, ground := Ground.phase }, { on := 4, ground := Ground.phase }, { on := 5, ground := Ground.phase }, { on := 6, ground := Ground.phase }, { on := 7, ground := Ground.phase }, { on := 8, ground := Ground.phase }, { on := 9, ground := Ground.phase }, { on := 10, ground := Ground.phase }, { on := 11, ground := Ground.phase }, { on := 12, ground := Ground.phase }, { on := 13, ground := Ground.phase }, { on := 14, ground := Ground.phase }, { on := 15, ground := Ground.phase }, { on := 16, ground := Ground.phase }, { on := 17, ground := Ground.phase }, { on := 18, ground := Ground.phase }], guard := none }) (v := ?v19_44) rfl (by kernel_rfl) (by kernel_rfl) (by kernel_rfl) (fun _ _ _ h => h) (Or.inl ⟨by rfl, ?hy19_44⟩) hS ?rest19_44
      case hy19_44 =>
        intro w hSw
        (try dsimp only at hSw)
        go_simp
        try with_reducible rfl
      try simp only [Act.put, List.setIfInBounds_toArray, List.set_cons_zero, List.set_cons_succ]
      refine wpAnyH_done (by kernel_rfl) ?_ _
      go_wp2_with fail
      go_ret
      exact ⟨rfl, hB6⟩
end Go.Proofs.YtfnpleicbpbiaaaDoor
