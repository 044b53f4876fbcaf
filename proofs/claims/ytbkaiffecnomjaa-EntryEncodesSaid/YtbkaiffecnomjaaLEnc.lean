/- The law EntryEncodes, walked. -/
import Derived.Test.YtbkaiffecnomjaaAwake
namespace Go.Proofs.Ytbkaiffecnomjaa
open Go.RowKit
attribute [local go_sem ↓] Go.wp_at_zero Go.wp_at_succ

set_option maxRecDepth 100000 in
set_option maxHeartbeats 2000000 in
theorem lenc_any (A : Option Addr) (n c : Nat) (xs : List En) (w : World) (hn : xs.length = n) (hI : LS w w.heap.size A xs) :
    Calls Try.prog 3 #[.slice A n c] w fun e w' => e = .returned (.bool true) ∧ Below w.heap.size w w' := by
  have Hn := Lib.hid hn
  have HI := Lib.hid hI
  clear hn hI
  go_enter Try.func3, Try.ntmps3
  go_wp2_with fail
  refine (awake_any _).mono ?_
  rintro e w1 ⟨rfl, hB⟩
  by_cases h30 : 30 < n
  · have h31 : (30 : Int) < (n : Int) := by omega
    go_wp2_with fail
    go_ret
    exact ⟨rfl, hB⟩
  · have h31 : ¬ (30 : Int) < (n : Int) := by omega
    obtain ⟨z, hz⟩ : ∃ z, z = encE xs := ⟨_, rfl⟩
    obtain ⟨ys, hys⟩ : ∃ ys, ys = encL xs := ⟨_, rfl⟩
    obtain ⟨m, hm⟩ : ∃ m, m = ys.length := ⟨_, rfl⟩
    have HZ := Lib.hid (And.intro hz.symm (And.intro hys.symm hm.symm))
    clear hz hys hm
    go_wp2_with fail
    refine (enc_is A n c xs _ Hn.out (HI.out.on hB) (by omega) z ys m HZ.out.1 HZ.out.2.1 HZ.out.2.2).mono ?_
    rintro e w2 ⟨A1, c1, rfl, hc1, hS1, hb⟩
    replace hB := bstep hB hb
    have HS1 := Lib.hid hS1
    clear hb hS1
    go_wp2_with fail
    refine (RetEnc_is (refEnc_any A n c xs _ Hn.out (HI.out.on hB) (by omega)) z ys m HZ.out.1 HZ.out.2.1 HZ.out.2.2).mono ?_
    rintro e w3 ⟨A2, c2, rfl, hc2, hS2, hb⟩
    replace hB := bstep hB hb
    replace HS1 := Lib.hid (HS1.out.on hb)
    have HS2 := Lib.hid hS2
    have HB3 := Lib.hid hB
    clear hb hS2 hB
    go_wp2_with fail
    go_loopw [8] (fun i wr => ∃ k : Nat, k ≤ n ∧ i = .int .i64 k ∧ Below w3.heap.size w3 wr) (fun i _ => n - (intOf i).toNat)
    case atStart => exact ⟨0, Nat.zero_le _, rfl, Below.refl _ _⟩
    case round =>
      obtain ⟨k, hk, rfl, hB0⟩ := hrel
      by_cases hlt : k < n
      · have hlt2 : (k : Int) < (n : Int) := by omega
        obtain ⟨x, hx⟩ := some_lt (xs := xs) (k := k) (by rw [Hn.out]; exact hlt)
        obtain ⟨b, off, rfl, _, r0⟩ := (HI.out.below (HB3.out.trans (hB0.mono HB3.out.size))) k x hx
        clear hx
        replace r0 : wr.drew.rangeAt b (off + k * 11) (eL x) := r0
        replace hB0 := bdrew1 hB0
        obtain ⟨c0_0, c0_1, c0_2, c0_3, c0_4, c0_5, c0_6, c0_7, c0_8, c0_9, c0_10⟩ := range_cells r0
        go_wp2_with fail
        refine wp_region_held_drew (S := (fun w' => w'.cell? ⟨b, off + k * 11, none⟩ = some (vI x.k) ∧ w'.cell? ⟨b, off + k * 11 + 1, none⟩ = some (vI x.w) ∧ w'.cell? ⟨b, off + k * 11 + 2, none⟩ = some (vI x.op) ∧ w'.cell? ⟨b, off + k * 11 + 3, none⟩ = some (vI x.dl) ∧ w'.cell? ⟨b, off + k * 11 + 4, none⟩ = some (.bool x.wa) ∧ w'.cell? ⟨b, off + k * 11 + 5, none⟩ = some (.bool x.fo) ∧ w'.cell? ⟨b, off + k * 11 + 6, none⟩ = some (vI x.sl) ∧ w'.cell? ⟨b, off + k * 11 + 7, none⟩ = some (vI x.ge) ∧ w'.cell? ⟨b, off + k * 11 + 8, none⟩ = some (vI x.st) ∧ w'.cell? ⟨b, off + k * 11 + 9, none⟩ = some (vI x.n) ∧ w'.cell? ⟨b, off + k * 11 + 10, none⟩ = some (.bool x.gd))) (by kernel_rfl) ⟨c0_0, c0_1, c0_2, c0_3, c0_4, c0_5, c0_6, c0_7, c0_8, c0_9, c0_10⟩ (fun hS => ?_)
        generalize wr.drew = u0 at *
        refine wpAnyH_take (i := 0) (oi := { dst := some 30, op := Op.move (Operand.tmp 0), type := 22, pos := "law.go:29", after := #[], guard := none }) (v := ?v0_1) rfl (by kernel_rfl) (by kernel_rfl) (by kernel_rfl) (fun _ _ _ h => h) (Or.inl ⟨by rfl, ?hy0_1⟩) hS ?rest0_1
        case hy0_1 =>
          intro w hSw
          (try dsimp only at hSw)
          go_simp
          try with_reducible rfl
        try simp only [Act.put, List.setIfInBounds_toArray, List.set_cons_zero, List.set_cons_succ]
        refine wpAnyH_take (i := 1) (oi := { dst := some 31, op := Op.move (Operand.tmp 8), type := 3, pos := "law.go:29", after := #[], guard := none }) (v := ?v1_2) rfl (by kernel_rfl) (by kernel_rfl) (by kernel_rfl) (fun _ _ _ h => h) (Or.inl ⟨by rfl, ?hy1_2⟩) hS ?rest1_2
        case hy1_2 =>
          intro w hSw
          (try dsimp only at hSw)
          go_simp
          try with_reducible rfl
        try simp only [Act.put, List.setIfInBounds_toArray, List.set_cons_zero, List.set_cons_succ]
        refine wpAnyH_take (i := 2) (oi := { dst := some 32, op := Op.indexAddr 22 (Operand.tmp 30) (Operand.tmp 31), type := 0, pos := "law.go:29", after := #[{ on := 0, ground := Ground.data }, { on := 1, ground := Ground.data }], guard := none }) (v := ?v2_3) rfl (by kernel_rfl) (by kernel_rfl) (by kernel_rfl) (fun _ _ _ h => h) (Or.inl ⟨by rfl, ?hy2_3⟩) hS ?rest2_3
        case hy2_3 =>
          intro w hSw
          (try dsimp only at hSw)
          go_simp
          try with_reducible rfl
        try simp only [Act.put, List.setIfInBounds_toArray, List.set_cons_zero, List.set_cons_succ]
        refine wpAnyH_take (i := 3) (oi := { dst := some 33, op := Op.load 32 (Operand.tmp 32), type := 32, pos := "law.go:29", after := #[{ on := 2, ground := Ground.data }], guard := none }) (v := ?v3_4) rfl (by kernel_rfl) (by kernel_rfl) (by kernel_rfl) (fun _ _ _ h => h) (Or.inl ⟨by rfl, ?hy3_4⟩) hS ?rest3_4
        case hy3_4 =>
          intro w hSw
          (try dsimp only at hSw)
          go_simp
          try with_reducible rfl
        try simp only [Act.put, List.setIfInBounds_toArray, List.set_cons_zero, List.set_cons_succ]
        refine wpAnyH_take (i := 5) (oi := { dst := some 35, op := Op.move (Operand.tmp 0), type := 22, pos := "law.go:29", after := #[], guard := none }) (v := ?v5_5) rfl (by kernel_rfl) (by kernel_rfl) (by kernel_rfl) (fun _ _ _ h => h) (Or.inl ⟨by rfl, ?hy5_5⟩) hS ?rest5_5
        case hy5_5 =>
          intro w hSw
          (try dsimp only at hSw)
          go_simp
          try with_reducible rfl
        try simp only [Act.put, List.setIfInBounds_toArray, List.set_cons_zero, List.set_cons_succ]
        refine wpAnyH_take (i := 6) (oi := { dst := some 36, op := Op.move (Operand.tmp 8), type := 3, pos := "law.go:29", after := #[], guard := none }) (v := ?v6_6) rfl (by kernel_rfl) (by kernel_rfl) (by kernel_rfl) (fun _ _ _ h => h) (Or.inl ⟨by rfl, ?hy6_6⟩) hS ?rest6_6
        case hy6_6 =>
          intro w hSw
          (try dsimp only at hSw)
          go_simp
          try with_reducible rfl
        try simp only [Act.put, List.setIfInBounds_toArray, List.set_cons_zero, List.set_cons_succ]
        refine wpAnyH_take (i := 7) (oi := { dst := some 37, op := Op.indexAddr 22 (Operand.tmp 35) (Operand.tmp 36), type := 0, pos := "law.go:29", after := #[{ on := 5, ground := Ground.data }, { on := 6, ground := Ground.data }], guard := none }) (v := ?v7_7) rfl (by kernel_rfl) (by kernel_rfl) (by kernel_rfl) (fun _ _ _ h => h) (Or.inl ⟨by rfl, ?hy7_7⟩) hS ?rest7_7
        case hy7_7 =>
          intro w hSw
          (try dsimp only at hSw)
          go_simp
          try with_reducible rfl
        try simp only [Act.put, List.setIfInBounds_toArray, List.set_cons_zero, List.set_cons_succ]
        refine wpAnyH_take (i := 8) (oi := { dst := some 38, op := Op.load 32 (Operand.tmp 37), type := 32, pos := "law.go:29", after := #[{ on := 7, ground := Ground.data }], guard := none }) (v := ?v8_8) rfl (by kernel_rfl) (by kernel_rfl) (by kernel_rfl) (fun _ _ _ h => h) (Or.inl ⟨by rfl, ?hy8_8⟩) hS ?rest8_8
        case hy8_8 =>
          intro w hSw
          (try dsimp only at hSw)
          go_simp
          try with_reducible rfl
        try simp only [Act.put, List.setIfInBounds_toArray, List.set_cons_zero, List.set_cons_succ]
        refine wpAnyH_ready (rs := [4]) (by kernel_rfl) (by simp) ?_
        refine AllReadyH.cons (o := { dst := some 34, op := Op.call { callee := Callee.value (Operand.func 12), args := #[Operand.tmp 33], argTypes := #[32] }, type := 4, pos := "law.go:29", after := #[{ on := 3, ground := Ground.data }], guard := none }) rfl (fun K hK => ?_) AllReadyH.nil
        go_simp
        refine (right_any x _).mono ?_
        rintro e u1 ⟨rfl, hb⟩
        have r1 := range_below r0 hb (World.block_lt_of_cell? u0 _ (r0 0 _ rfl))
        have hB1 := hB0.trans (hb.mono hB0.size)
        clear hb
        obtain ⟨c1_0, c1_1, c1_2, c1_3, c1_4, c1_5, c1_6, c1_7, c1_8, c1_9, c1_10⟩ := range_cells r1
        refine hK.out _ _ ⟨c1_0, c1_1, c1_2, c1_3, c1_4, c1_5, c1_6, c1_7, c1_8, c1_9, c1_10⟩ (fun hS => ?_)
        clear hK K
        try simp only [Act.put, List.setIfInBounds_toArray, List.set_cons_zero, List.set_cons_succ]
        refine wpAnyH_ready (rs := [9]) (by kernel_rfl) (by simp) ?_
        refine AllReadyH.cons (o := { dst := some 39, op := Op.call { callee := Callee.value (Operand.func 13), args := #[Operand.tmp 38], argTypes := #[32] }, type := 4, pos := "law.go:29", after := #[{ on := 8, ground := Ground.data }, { on := 4, ground := Ground.chain }], guard := none }) rfl (fun K hK => ?_) AllReadyH.nil
        go_simp
        refine (refRight_any x _).mono ?_
        rintro e u2 ⟨rfl, hb⟩
        have r2 := range_below r1 hb (World.block_lt_of_cell? u1 _ (r1 0 _ rfl))
        have hB2 := hB1.trans (hb.mono hB1.size)
        clear hb
        obtain ⟨c2_0, c2_1, c2_2, c2_3, c2_4, c2_5, c2_6, c2_7, c2_8, c2_9, c2_10⟩ := range_cells r2
        refine hK.out _ _ ⟨c2_0, c2_1, c2_2, c2_3, c2_4, c2_5, c2_6, c2_7, c2_8, c2_9, c2_10⟩ (fun hS => ?_)
        clear hK K
        try simp only [Act.put, List.setIfInBounds_toArray, List.set_cons_zero, List.set_cons_succ]
        refine wpAnyH_take (i := 10) (oi := { dst := some 40, op := Op.binOp BinOp.neq 4 (Operand.tmp 34) (Operand.tmp 39) 4, type := 4, pos := "law.go:29", after := #[{ on := 4, ground := Ground.data }, { on := 9, ground := Ground.data }], guard := none }) (v := ?v10_9) rfl (by kernel_rfl) (by kernel_rfl) (by kernel_rfl) (fun _ _ _ h => h) (Or.inl ⟨by rfl, ?hy10_9⟩) hS ?rest10_9
        case hy10_9 =>
          intro w hSw
          (try dsimp only at hSw)
          go_simp
          try with_reducible rfl
        try simp only [Act.put, List.setIfInBounds_toArray, List.set_cons_zero, List.set_cons_succ]
        refine wpAnyH_done (by kernel_rfl) ?_ _
        go_wp2_with fail
        go_roundw
        case rel => exact ⟨k + 1, by omega, by go_num, hB2⟩
        case measure => simp [intOf]; omega
      · obtain rfl : k = n := by omega
        have hlt2 : ¬ (k : Int) < (k : Int) := by omega
        have q1 := conv_any (c := c1) (HS1.out.on hB0) HZ.out.2.2
        have q2 := conv_any (c := c2) (HS2.out.on hB0) HZ.out.2.2
        go_wp2_with fail
        go_ret
        exact ⟨rfl, HB3.out.trans (hB0.mono HB3.out.size)⟩
end Go.Proofs.Ytbkaiffecnomjaa
