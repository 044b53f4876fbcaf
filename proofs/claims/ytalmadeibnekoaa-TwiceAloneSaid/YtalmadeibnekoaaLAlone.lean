/- Where nobody else touches the memory; no condition. -/
import Derived.Test.YtalmadeibnekoaaPrel
import Derived.Test.YtalmadeibnekoaaRTw
namespace Go.Proofs.Ytalmadeibnekoaa
open Go.RowKit
attribute [local go_sem ↓] Go.wp_at_zero Go.wp_at_succ

set_option maxRecDepth 100000 in
set_option maxHeartbeats 2000000 in
theorem lalone_any (a1 a2 a3 a4 a5 : Int) (S P1 P2 : Option Addr) (sn sc pn1 pc1 pn2 pc2 : Nat) (sl : List Sl) (p1 p2 : List Int) (w : World) (h1 : 0 ≤ a1 ∧ a1 ≤ 255) (h2 : 0 ≤ a2 ∧ a2 ≤ 255) (h3 : 0 ≤ a3 ∧ a3 ≤ 255) (h4 : 0 ≤ a4 ∧ a4 ≤ 255) (h5 : 0 ≤ a5 ∧ a5 ≤ 255) (hG : GivenAt w S P1 P2 sn pn1 pn2 sl p1 p2) :
    Calls Try.prog 5 #[Value.agg #[Value.int .u8 a1, Value.int .u8 a2, Value.int .u8 a3, Value.int .u8 a4, Value.int .u8 a5, .slice S sn sc, .slice P1 pn1 pc1, .slice P2 pn2 pc2]] w fun e w' => e = .returned (.bool true) ∧ Below w.heap.size w w' := by
  have hB := bnew w (.cells #[Value.int .u8 a1, Value.int .u8 a2, Value.int .u8 a3, Value.int .u8 a4, Value.int .u8 a5, .slice S sn sc, .slice P1 pn1 pc1, .slice P2 pn2 pc2] 27)
  have r0 := RowAt.new w 27 #[Value.int .u8 a1, Value.int .u8 a2, Value.int .u8 a3, Value.int .u8 a4, Value.int .u8 a5, .slice S sn sc, .slice P1 pn1 pc1, .slice P2 pn2 pc2]
  have HG := Lib.hid (hG.on hB)
  clear hG
  go_enter Try.func5, Try.ntmps5
  go_wp2_with fail
  refine (awake_any _).mono ?_
  rintro e w1 ⟨rfl, hb⟩
  replace r0 := r0.below hb r0.lt
  replace hB := hB.trans (hb.mono hB.size)
  have HG1 := Lib.hid (HG.out.on hb)
  clear hb HG
  go_wp2_with (refine wpList_load_row rfl 27 _ rfl _ rfl 27 _ (0, 0) _ r0 Try.underlying27 rfl (by kernel_rfl) ?_)
  refine (made_any a1 a2 a3 a4 a5 S P1 P2 sn sc pn1 pc1 pn2 pc2 sl p1 p2 _ h1 h2 h3 h4 h5 HG1.out).mono ?_
  rintro e w2 ⟨c, gW, cW, xs, hf, rfl, hcW, hL, hgd, hib, hgW, hb⟩
  have hB2 := hB.trans (hb.mono hB.size)
  have HW2 := Lib.hid (hib.on (bnew w2 (.cells #[Value.int .i64 c.wo, Value.int .i64 c.sl, Value.int .i64 c.st, Value.int .i64 c.wa, Value.int .i64 c.us] 31)))
  have hW0 : w.heap.size ≤ gW := by have := hB.size; omega
  have hW1 := hib.1
  have rc2 := RowAt.new w2 31 #[Value.int .i64 c.wo, Value.int .i64 c.sl, Value.int .i64 c.st, Value.int .i64 c.wa, Value.int .i64 c.us]
  have hB3 := hB2.trans ((bnew w2 (.cells #[Value.int .i64 c.wo, Value.int .i64 c.sl, Value.int .i64 c.st, Value.int .i64 c.wa, Value.int .i64 c.us] 31)).mono hB2.size)
  have hBs := hB2.size
  have Hc := Lib.hid hf.rc
  have q1 := hf.wo
  have q2 := hf.sl
  have HGd := Lib.hid hgd
  have n9 := (cellsN_eq hf.rc).2
  obtain ⟨N, hN⟩ : ∃ N, N = cellsN c := ⟨_, rfl⟩
  rw [← hN] at hL n9 hcW ⊢
  have HN := Lib.hid hN
  have HL := Lib.hid hL
  clear hb hib hgd r0 hB hB2 HG1 hf hN hL
  go_wp2_with (refine wpList_load_row rfl 31 _ rfl _ rfl 31 _ (0, 0) _ rc2 Try.underlying31 rfl (by kernel_rfl) ?_)
  obtain ⟨Bc, eB⟩ : ∃ Bc, Bc = w2.heap.size := ⟨_, rfl⟩
  rw [← eB] at rc2 hW1 hBs ⊢
  obtain ⟨W2, eW⟩ : ∃ W2, W2 = w2.alloc (.cells #[Value.int .i64 c.wo, Value.int .i64 c.sl, Value.int .i64 c.st, Value.int .i64 c.wa, Value.int .i64 c.us] 31) := ⟨_, rfl⟩
  rw [← eW] at rc2 HW2 hB3 ⊢
  clear eB eW
  refine (laid_any c (some ⟨gW, 0, none⟩) N cW W2.heap.size xs _ Hc.out HL.out HN.out HW2.out.is (Nat.le_refl _)).mono ?_
  rintro e w3 ⟨g, gw, rfl, hg, hgw, hM, hb⟩
  have l1 := rc2.lt
  have rc3 := rc2.below hb rc2.lt
  have HW3 := Lib.hid (HW2.out.on hb)
  have hB4 := hB3.trans (hb.mono hB3.size)
  have l2 := hM.lg
  have l3 := hM.lw
  have HM3 := Lib.hid hM
  clear hb HW2 hB3 rc2 hM
  go_wp2_with (refine wpList_load_row rfl 31 _ rfl _ rfl 31 _ (0, 0) _ rc3 Try.underlying31 rfl (by kernel_rfl) ?_)
  refine (tw_new c _).mono ?_
  rintro e w4 ⟨f, rfl, hT, hf, hb⟩
  have rc4 := rc3.below hb rc3.lt
  have HW4 := Lib.hid (HW3.out.on hb)
  have HM4 := Lib.hid (HM3.out.on hb)
  have HT4 := Lib.hid hT
  have hB5 := hB4.trans (hb.mono hB4.size)
  have o1 : w.heap.size ≤ gW ∧ gW < Bc := ⟨hW0, hW1⟩
  have o2 : Bc < g ∧ Bc < gw ∧ g < f ∧ gw < f := by omega
  have o3 : g ≠ gw := HM4.out.ne
  clear hb HW3 HM3 hT hB4 rc3 hW0 hW1 hg hgw l1 l2 l3 hf hgW hBs
  obtain ⟨F, hF⟩ : ∃ F : Nat, (3 + c.wo + c.wo).toNat = F := ⟨_, rfl⟩
  have HF := Lib.hid hF
  obtain ⟨P, hP⟩ : ∃ P : Nat, c.sl = P := ⟨c.sl.toNat, by omega⟩
  have HP := Lib.hid hP
  have hFP : F + P = N := by have := (cellsN_eq Hc.out).1; rw [← HN.out] at this; unfold cellsI at this; omega
  have hp9 : 1 ≤ P ∧ P ≤ 5 := by omega
  clear hF hP
  go_wp2_with fail
  refine (touched_any g gw N _ _ HM4.out).mono ?_
  rintro e w5' ⟨rfl, rfl⟩
  obtain ⟨W, hW⟩ : ∃ W, W = xs.drop F := ⟨_, rfl⟩
  have hWl : W.length = P := by rw [hW, List.length_drop, HL.out]; omega
  have HW := Lib.hid hW.symm
  have HWl := Lib.hid hWl
  have hWl1 : 1 ≤ W.length := by omega
  have hWl2 : W.length ≤ 4096 := by omega
  have HxF := Lib.hid (show xs.length = F + P by rw [HL.out, hFP])
  have HTa : Hid (TwAt w4 f f f c (aloneT P W 0)) := Lib.hid (by rw [alone_zero (by omega)]; exact HT4.out)
  have HS0 : Hid (slotI c 0 = (F : Int)) := Lib.hid (by have := slotI_nat (k := 0) Hc.out HF.out (by have := HP.out; omega); rwa [Nat.add_zero] at this)
  have hcF := cut_l gW N cW F P hFP.symm hcW (by omega)
  have HCUT : Hid (∀ v : World, IB v gW xs → IS v v.heap.size (some ⟨gW, F, none⟩) W) := Lib.hid fun v h => by
    have := h.is.cut F P
    rw [Nat.zero_add, HW.out, List.take_of_length_le (by omega)] at this
    exact this
  have hm2 : IntKind.i64.wrap (2 * c.sl) = 2 * c.sl := IntWalk.i64_in _ (by omega)
  have hm3 : IntKind.i64.wrap (2 * c.sl - 1) = 2 * c.sl - 1 := IntWalk.i64_in _ (by omega)
  clear hW hWl HT4
  have b1 := rc4.cell 1 rfl
  go_wp2_with fail
  go_loopw [9] (fun j wr => ∃ (i sb ab : Nat), i ≤ 2 * P ∧ j = .int .i64 i ∧ Hid (MemAt wr g gw N ⟨xs, N + i⟩) ∧ Hid (TwAt wr f sb ab c (aloneT P W i)) ∧ f ≤ sb ∧ f ≤ ab ∧ Hid (IB wr gW xs) ∧ RowAt wr Bc 31 #[Value.int .i64 c.wo, Value.int .i64 c.sl, Value.int .i64 c.st, Value.int .i64 c.wa, Value.int .i64 c.us] ∧ Hid (Below w.heap.size w wr)) (fun j _ => 2 * P - (intOf j).toNat)
  case atStart => exact ⟨0, f, f, by omega, rfl, HM4, HTa, Nat.le_refl _, Nat.le_refl _, HW4, rc4, Lib.hid hB5⟩
  case round =>
    obtain ⟨i, sb, ab, hi, rfl, HM, HT, hsb, hab, HX, hrc, hbb⟩ := hrel
    clear HM4 HTa HW4 rc4 hB5 b1
    have hpc := HP.out
    have b1 := hrc.cell 1 rfl
    by_cases hlt : i < 2 * P
    · have hli : (i : Int) < 2 * c.sl := by omega
      have hnd : ¬ 2 * P ≤ i := by omega
      have HD0 : Hid ((aloneT P W i).dn = false) := Lib.hid (by rw [alone_dn (by omega)]; exact decide_eq_false hnd)
      obtain ⟨db, hdb⟩ : ∃ db, decide (2 * P ≤ i + 1) = db := ⟨_, rfl⟩
      have hq : ((i : Int) == 2 * c.sl - 1) = db := by
        rw [← hdb]
        by_cases h9 : 2 * P ≤ i + 1
        · rw [decide_eq_true h9]; simp; omega
        · rw [decide_eq_false h9]; simp; omega
      have hne : (db != db) = false := by simp
      have HDB := Lib.hid hdb
      have hsz : w.heap.size ≤ wr.heap.size := hbb.out.size
      have hfl := HT.out.lt.1
      have hfl2 : f < wr.drew.heap.size := hfl
      clear hdb hpc
      go_wp2_with fail
      have rb0 : RowAt wr.drew Bc 31 #[Value.int .i64 c.wo, Value.int .i64 c.sl, Value.int .i64 c.st, Value.int .i64 c.wa, Value.int .i64 c.us] := hrc
      have HT0 := Lib.hid HT.out.drew
      have HM0 := Lib.hid HM.out.drew
      have HX0 : Hid (IB wr.drew gW xs) := Lib.hid HX.out
      have hB0 := hbb.out.drew
      clear HM HT HX hrc hbb b1
      have cb0_0 : wr.drew.cell? ⟨Bc, 0, none⟩ = some (Value.int .i64 c.wo) := rb0.cell 0 rfl
      have cb0_1 : wr.drew.cell? ⟨Bc, 1, none⟩ = some (Value.int .i64 c.sl) := rb0.cell 1 rfl
      have cb0_2 : wr.drew.cell? ⟨Bc, 2, none⟩ = some (Value.int .i64 c.st) := rb0.cell 2 rfl
      have cb0_3 : wr.drew.cell? ⟨Bc, 3, none⟩ = some (Value.int .i64 c.wa) := rb0.cell 3 rfl
      have cb0_4 : wr.drew.cell? ⟨Bc, 4, none⟩ = some (Value.int .i64 c.us) := rb0.cell 4 rfl
      refine wp_region_held_drew (S := (fun w' => w'.cell? ⟨Bc, 0, none⟩ = some (Value.int .i64 c.wo) ∧ w'.cell? ⟨Bc, 1, none⟩ = some (Value.int .i64 c.sl) ∧ w'.cell? ⟨Bc, 2, none⟩ = some (Value.int .i64 c.st) ∧ w'.cell? ⟨Bc, 3, none⟩ = some (Value.int .i64 c.wa) ∧ w'.cell? ⟨Bc, 4, none⟩ = some (Value.int .i64 c.us))) (by kernel_rfl) ⟨cb0_0, cb0_1, cb0_2, cb0_3, cb0_4⟩ (fun hS => ?_)
      generalize wr.drew = u0 at *
      refine wpAnyH_take (i := 0) (oi := { dst := some 39, op := Op.move (Operand.tmp 7), type := 37, pos := "law.go:136", after := #[], guard := none }) (v := ?v0_1) rfl (by kernel_rfl) (by kernel_rfl) (by kernel_rfl) (fun _ _ _ h => h) (Or.inl ⟨by rfl, ?hy0_1⟩) hS ?rest0_1
      case hy0_1 =>
        intro w hSw
        (try dsimp only at hSw)
        go_simp
        try with_reducible rfl
      try simp only [Act.put, List.setIfInBounds_toArray, List.set_cons_zero, List.set_cons_succ]
      refine wpAnyH_ready (rs := [1]) (by kernel_rfl) (by simp) ?_
      refine AllReadyH.cons (o := { dst := some 40, op := Op.call { callee := Callee.value (Operand.func 20), args := #[Operand.tmp 39], argTypes := #[37] }, type := 32, pos := "law.go:136", after := #[{ on := 0, ground := Ground.data }], guard := none }) rfl (fun K hK => ?_) AllReadyH.nil
      go_simp
      refine (words_no f sb ab c _ _ HT0.out HD0.out).mono ?_
      rintro e u1 ⟨rfl, rfl⟩
      refine hK.out _ _ ⟨cb0_0, cb0_1, cb0_2, cb0_3, cb0_4⟩ (fun hS => ?_)
      clear hK K
      try simp only [Act.put, List.setIfInBounds_toArray, List.set_cons_zero, List.set_cons_succ]
      refine wpAnyH_take (i := 2) (oi := { dst := some 41, op := Op.call { callee := Callee.builtin Builtin.len, args := #[Operand.tmp 40], argTypes := #[32] }, type := 3, pos := "law.go:136", after := #[{ on := 1, ground := Ground.data }], guard := none }) (v := ?v2_2) rfl (by kernel_rfl) (by kernel_rfl) (by kernel_rfl) (fun _ _ _ h => h) (Or.inl ⟨by rfl, ?hy2_2⟩) hS ?rest2_2
      case hy2_2 =>
        intro w hSw
        (try dsimp only at hSw)
        go_simp
        try with_reducible rfl
      try simp only [Act.put, List.setIfInBounds_toArray, List.set_cons_zero, List.set_cons_succ]
      refine wpAnyH_take (i := 3) (oi := { dst := some 42, op := Op.binOp BinOp.neq 3 (Operand.tmp 41) (Operand.const (Value.int IntKind.i64 0)) 3, type := 4, pos := "law.go:136", after := #[{ on := 2, ground := Ground.data }], guard := none }) (v := ?v3_3) rfl (by kernel_rfl) (by kernel_rfl) (by kernel_rfl) (fun _ _ _ h => h) (Or.inl ⟨by rfl, ?hy3_3⟩) hS ?rest3_3
      case hy3_3 =>
        intro w hSw
        (try dsimp only at hSw)
        go_simp
        try with_reducible rfl
      try simp only [Act.put, List.setIfInBounds_toArray, List.set_cons_zero, List.set_cons_succ]
      refine wpAnyH_take (i := 4) (oi := { dst := some 43, op := Op.move (Operand.tmp 42), type := 4, pos := "law.go:136", after := #[{ on := 3, ground := Ground.data }, { on := 1, ground := Ground.chain }], guard := none }) (v := ?v4_4) rfl (by kernel_rfl) (by kernel_rfl) (by kernel_rfl) (fun _ _ _ h => h) (Or.inl ⟨by rfl, ?hy4_4⟩) hS ?rest4_4
      case hy4_4 =>
        intro w hSw
        (try dsimp only at hSw)
        go_simp
        try with_reducible rfl
      try simp only [Act.put, List.setIfInBounds_toArray, List.set_cons_zero, List.set_cons_succ]
      refine wpAnyH_take (i := 5) (oi := { dst := some 44, op := Op.move (Operand.tmp 7), type := 37, pos := "law.go:136", after := #[{ on := 4, ground := Ground.guard }], guard := some (4, false) }) (v := ?v5_5) rfl (by kernel_rfl) (by kernel_rfl) (by kernel_rfl) (fun _ _ _ h => h) (Or.inl ⟨by rfl, ?hy5_5⟩) hS ?rest5_5
      case hy5_5 =>
        intro w hSw
        (try dsimp only at hSw)
        go_simp
        try with_reducible rfl
      try simp only [Act.put, List.setIfInBounds_toArray, List.set_cons_zero, List.set_cons_succ]
      refine wpAnyH_take (i := 6) (oi := { dst := some 45, op := Op.move (Operand.tmp 6), type := 35, pos := "law.go:136", after := #[{ on := 4, ground := Ground.guard }], guard := some (4, false) }) (v := ?v6_6) rfl (by kernel_rfl) (by kernel_rfl) (by kernel_rfl) (fun _ _ _ h => h) (Or.inl ⟨by rfl, ?hy6_6⟩) hS ?rest6_6
      case hy6_6 =>
        intro w hSw
        (try dsimp only at hSw)
        go_simp
        try with_reducible rfl
      try simp only [Act.put, List.setIfInBounds_toArray, List.set_cons_zero, List.set_cons_succ]
      refine wpAnyH_take (i := 8) (oi := { dst := some 47, op := Op.move (Operand.tmp 9), type := 3, pos := "law.go:136", after := #[{ on := 4, ground := Ground.guard }], guard := some (4, false) }) (v := ?v8_7) rfl (by kernel_rfl) (by kernel_rfl) (by kernel_rfl) (fun _ _ _ h => h) (Or.inl ⟨by rfl, ?hy8_7⟩) hS ?rest8_7
      case hy8_7 =>
        intro w hSw
        (try dsimp only at hSw)
        go_simp
        try with_reducible rfl
      try simp only [Act.put, List.setIfInBounds_toArray, List.set_cons_zero, List.set_cons_succ]
      refine wpAnyH_take (i := 9) (oi := { dst := some 48, op := Op.fieldAddr 31 (Operand.tmp 4) 1, type := 0, pos := "law.go:136", after := #[{ on := 4, ground := Ground.guard }], guard := some (4, false) }) (v := ?v9_8) rfl (by kernel_rfl) (by kernel_rfl) (by kernel_rfl) (fun _ _ _ h => h) (Or.inl ⟨by rfl, ?hy9_8⟩) hS ?rest9_8
      case hy9_8 =>
        intro w hSw
        (try dsimp only at hSw)
        go_simp
        try with_reducible rfl
      try simp only [Act.put, List.setIfInBounds_toArray, List.set_cons_zero, List.set_cons_succ]
      refine wpAnyH_take (i := 10) (oi := { dst := some 49, op := Op.load 3 (Operand.tmp 48), type := 3, pos := "law.go:136", after := #[{ on := 9, ground := Ground.data }, { on := 4, ground := Ground.guard }], guard := some (4, false) }) (v := ?v10_9) rfl (by kernel_rfl) (by kernel_rfl) (by kernel_rfl) (fun _ _ _ h => h) (Or.inl ⟨by rfl, ?hy10_9⟩) hS ?rest10_9
      case hy10_9 =>
        intro w hSw
        (try dsimp only at hSw)
        go_simp
        try with_reducible rfl
      try simp only [Act.put, List.setIfInBounds_toArray, List.set_cons_zero, List.set_cons_succ]
      refine wpAnyH_take (i := 11) (oi := { dst := some 50, op := Op.binOp BinOp.mul 3 (Operand.const (Value.int IntKind.i64 2)) (Operand.tmp 49) 3, type := 3, pos := "law.go:136", after := #[{ on := 10, ground := Ground.data }, { on := 4, ground := Ground.guard }], guard := some (4, false) }) (v := ?v11_10) rfl (by kernel_rfl) (by kernel_rfl) (by kernel_rfl) (fun _ _ _ h => h) (Or.inl ⟨by rfl, ?hy11_10⟩) hS ?rest11_10
      case hy11_10 =>
        intro w hSw
        (try dsimp only at hSw)
        go_simp
        try with_reducible rfl
      try simp only [Act.put, List.setIfInBounds_toArray, List.set_cons_zero, List.set_cons_succ]
      refine wpAnyH_take (i := 12) (oi := { dst := some 51, op := Op.binOp BinOp.sub 3 (Operand.tmp 50) (Operand.const (Value.int IntKind.i64 1)) 3, type := 3, pos := "law.go:136", after := #[{ on := 11, ground := Ground.data }, { on := 4, ground := Ground.guard }], guard := some (4, false) }) (v := ?v12_11) rfl (by kernel_rfl) (by kernel_rfl) (by kernel_rfl) (fun _ _ _ h => h) (Or.inl ⟨by rfl, ?hy12_11⟩) hS ?rest12_11
      case hy12_11 =>
        intro w hSw
        (try dsimp only at hSw)
        go_simp
        try with_reducible rfl
      try simp only [Act.put, List.setIfInBounds_toArray, List.set_cons_zero, List.set_cons_succ]
      refine wpAnyH_take (i := 13) (oi := { dst := some 52, op := Op.binOp BinOp.eql 3 (Operand.tmp 47) (Operand.tmp 51) 3, type := 4, pos := "law.go:136", after := #[{ on := 8, ground := Ground.data }, { on := 12, ground := Ground.data }, { on := 4, ground := Ground.guard }], guard := some (4, false) }) (v := ?v13_12) rfl (by kernel_rfl) (by kernel_rfl) (by kernel_rfl) (fun _ _ _ h => h) (Or.inl ⟨by rfl, ?hy13_12⟩) hS ?rest13_12
      case hy13_12 =>
        intro w hSw
        (try dsimp only at hSw)
        go_simp
        try with_reducible rfl
      try simp only [Act.put, List.setIfInBounds_toArray, List.set_cons_zero, List.set_cons_succ]
      refine wpAnyH_ready (rs := [7]) (by kernel_rfl) (by simp) ?_
      refine AllReadyH.cons (o := { dst := some 46, op := Op.call { callee := Callee.value (Operand.func 15), args := #[Operand.tmp 44, Operand.tmp 45], argTypes := #[37, 35] }, type := 4, pos := "law.go:136", after := #[{ on := 5, ground := Ground.data }, { on := 6, ground := Ground.data }, { on := 4, ground := Ground.chain }, { on := 4, ground := Ground.guard }], guard := some (4, false) }) rfl (fun K hK => ?_) AllReadyH.nil
      go_simp
      refine (astep_any f sb ab g gw N c P F W xs (N + i) i _ Hc.out HP.out HF.out HW.out HxF.out HT0.out HM0.out (by omega) (by omega) (by omega) (by omega) (by omega) (by omega) (by omega)).mono ?_
      rintro e u2 ⟨sb2, ab2, rfl, hT, hm, hs, hsb2, hab2⟩
      rw [HDB.out]
      rw [if_neg hnd] at hm
      have rb2 := rb0.spx hs (by simp <;> omega)
      have HX2 := Lib.hid (HX0.out.spx hs (by simp <;> omega))
      have hB2 := hs.below hB0 hB0.size (by simp <;> omega)
      have HT2 := Lib.hid hT
      have HM2 := Lib.hid hm
      clear hs hm hT
      have cb2_0 : u2.cell? ⟨Bc, 0, none⟩ = some (Value.int .i64 c.wo) := rb2.cell 0 rfl
      have cb2_1 : u2.cell? ⟨Bc, 1, none⟩ = some (Value.int .i64 c.sl) := rb2.cell 1 rfl
      have cb2_2 : u2.cell? ⟨Bc, 2, none⟩ = some (Value.int .i64 c.st) := rb2.cell 2 rfl
      have cb2_3 : u2.cell? ⟨Bc, 3, none⟩ = some (Value.int .i64 c.wa) := rb2.cell 3 rfl
      have cb2_4 : u2.cell? ⟨Bc, 4, none⟩ = some (Value.int .i64 c.us) := rb2.cell 4 rfl
      refine hK.out _ _ ⟨cb2_0, cb2_1, cb2_2, cb2_3, cb2_4⟩ (fun hS => ?_)
      clear hK K
      try simp only [Act.put, List.setIfInBounds_toArray, List.set_cons_zero, List.set_cons_succ]
      refine wpAnyH_take (i := 14) (oi := { dst := some 53, op := Op.binOp BinOp.neq 4 (Operand.tmp 46) (Operand.tmp 52) 4, type := 4, pos := "law.go:136", after := #[{ on := 7, ground := Ground.data }, { on := 13, ground := Ground.data }, { on := 4, ground := Ground.guard }], guard := some (4, false) }) (v := ?v14_13) rfl (by kernel_rfl) (by kernel_rfl) (by kernel_rfl) (fun _ _ _ h => h) (Or.inl ⟨by rfl, ?hy14_13⟩) hS ?rest14_13
      case hy14_13 =>
        intro w hSw
        (try dsimp only at hSw)
        go_simp
        try with_reducible rfl
      try simp only [Act.put, List.setIfInBounds_toArray, List.set_cons_zero, List.set_cons_succ]
      refine wpAnyH_take (i := 15) (oi := { dst := some 54, op := Op.pick (Operand.tmp 43) (Operand.const (Value.bool true)) (Operand.tmp 53), type := 4, pos := "law.go:136", after := #[{ on := 4, ground := Ground.data }, { on := 14, ground := Ground.data }], guard := none }) (v := ?v15_14) rfl (by kernel_rfl) (by kernel_rfl) (by kernel_rfl) (fun _ _ _ h => h) (Or.inl ⟨by rfl, ?hy15_14⟩) hS ?rest15_14
      case hy15_14 =>
        intro w hSw
        (try dsimp only at hSw)
        go_simp
        try with_reducible rfl
      try simp only [Act.put, List.setIfInBounds_toArray, List.set_cons_zero, List.set_cons_succ]
      refine wpAnyH_done (by kernel_rfl) ?_ _
      go_wp2
      go_roundw
      case rel => exact ⟨i + 1, sb2, ab2, by omega, by go_num, HM2, HT2, by omega, by omega, HX2, rb2, Lib.hid hB2⟩
      case measure => simp [intOf]; omega
    · obtain rfl : i = 2 * P := by omega
      have hli : ¬ ((2 * P : Nat) : Int) < 2 * c.sl := by omega
      have e3 := alone3 (n := P) (W := W) (k := 2 * P) (Nat.le_refl _) (by omega)
      rw [e3] at HT
      clear e3 hpc
      go_wp2_with fail
      refine (words_yes f sb ab c _ _ HT.out rfl hWl1 hWl2).mono ?_
      rintro e u1 ⟨b, rfl, hr, hbn, hb⟩
      rw [HWl.out]
      have o5 : f < b ∧ sb < b ∧ ab < b ∧ g < b ∧ gw < b ∧ gW < b ∧ Bc < b := by have := HT.out.lt; have := HM.out.lg; have := HM.out.lw; have := HX.out.1; have := hrc.lt; omega
      have HT1 := Lib.hid (HT.out.on hb)
      have HM1 := Lib.hid (HM.out.on hb)
      have HX1 := Lib.hid (HX.out.on hb)
      have rb1 := hrc.below hb hrc.lt
      have hB1 := hbb.out.trans (hb.mono hbb.out.size)
      have Hr1 := Lib.hid hr
      have hbw : w.heap.size ≤ b := by omega
      clear HM HT HX hrc hbb b1 hb hr hbn hi hlt
      go_wp2_with fail
      go_loopw [11] (fun j wr => ∃ (k : Nat) (ys : List Int), k ≤ P ∧ j = .int .i64 k ∧ ys.length = P ∧ Hid (RowAt wr b 3 (ys.map (Value.int .i64)).toArray) ∧ Hid (SpX [b] u1 wr)) (fun j _ => P - (intOf j).toNat)
      case atStart => exact ⟨0, W, Nat.zero_le _, rfl, HWl.out, Hr1, Lib.hid (.refl _ _)⟩
      case round =>
        obtain ⟨k, ys, hk, rfl, hyl, Hr, HSp⟩ := hrel
        clear Hr1
        by_cases hkl : k < P
        · have hk2 : (k : Int) < (P : Int) := by omega
          obtain ⟨y, hy⟩ := num_some (xs := ys) (k := k) (by omega)
          have cy : wr.cell? ⟨b, k, none⟩ = some (.int .i64 y) := Hr.out.cell k (by simp [hy])
          have gy : wr.frozen? ⟨b, k, none⟩ = false := Hr.out.frozen k
          have HR2 : Hid (RowAt (wr.setCell ⟨b, k, none⟩ (.int .i64 (-1))) b 3 ((ys.set k (-1)).map (Value.int .i64)).toArray) := Lib.hid (by
            have := Hr.out.put k (.int .i64 (-1))
            rw [List.map_set]
            rwa [List.setIfInBounds_toArray] at this)
          have HS2 := Lib.hid (HSp.out.trans (sp_set (f := b) (j := k) (v := .int .i64 (-1))))
          have hyl2 : (ys.set k (-1)).length = P := by rw [List.length_set]; exact hyl
          clear Hr HSp hy hyl
          go_wp2
          go_roundw
          case rel => exact ⟨k + 1, _, by omega, by go_num, hyl2, HR2, HS2⟩
          case measure => simp [intOf]; omega
        · obtain rfl : k = P := by omega
          have HT2 := Lib.hid (HT1.out.spx HSp.out (by simp <;> omega) (by simp <;> omega) (by simp <;> omega))
          have HM2 := Lib.hid (HM1.out.spx HSp.out (by simp <;> omega) (by simp <;> omega))
          have HX2 := Lib.hid (HX1.out.spx HSp.out (by simp <;> omega))
          have rb2 := rb1.spx HSp.out (by simp <;> omega)
          have hB2 := HSp.out.below hB1 hB1.size (by simp <;> omega)
          clear HT1 HM1 HX1 rb1 hB1 HSp Hr hyl
          have HT3 : Hid (TwAt wr f sb ab c (aloneT k W (2 * k))) := Lib.hid (by rw [alone3 (Nat.le_refl _) (by omega)]; exact HT2.out)
          clear HT2
          have hB3 : Hid (Below w.heap.size w wr) := Lib.hid hB2
          go_wp2_with fail
          refine (astep_any f sb ab g gw N c k F W xs (N + 2 * k) (2 * k) _ Hc.out HP.out HF.out HW.out HxF.out HT3.out HM2.out (by omega) (by omega) (by omega) (by omega) (by omega) (by omega) (by omega)).mono ?_
          rintro e u5 ⟨sb2, ab2, rfl, hT, hm, hs, hsb2, hab2⟩
          rw [decide_eq_true (show 2 * k ≤ 2 * k + 1 by omega)]
          rw [if_pos (Nat.le_refl _), Nat.add_zero] at hm
          rw [alone3 (by omega) (by omega)] at hT
          have rb5 := rb2.spx hs (by simp <;> omega)
          have HX5 := Lib.hid (HX2.out.spx hs (by simp <;> omega))
          have hB5 := hs.below hB2 hB2.size (by simp <;> omega)
          have HT5 := Lib.hid hT
          obtain ⟨T2, eT2⟩ : ∃ T2, T2 = N + 2 * k := ⟨_, rfl⟩
          rw [← eT2] at hm
          have HM5 := Lib.hid hm
          have hk2 := HP.out
          have hsum : ((T2 : Int) == (N : Int) + 2 * c.sl) = true := by simp; omega
          have hsw : IntKind.i64.wrap ((N : Int) + 2 * c.sl) = (N : Int) + 2 * c.sl := IntWalk.i64_in _ (by omega)
          clear hs hm hT rb2 HX2 hB2 HT3 HM2 hB3 hk2 eT2
          go_wp2_with fail
          have rb0 : RowAt u5.drew Bc 31 #[Value.int .i64 c.wo, Value.int .i64 c.sl, Value.int .i64 c.st, Value.int .i64 c.wa, Value.int .i64 c.us] := rb5
          have HT2 := Lib.hid HT5.out.drew
          have HM2 := Lib.hid HM5.out.drew
          have HX2 : Hid (IB u5.drew gW xs) := Lib.hid HX5.out
          have hB2 := hB5.drew
          clear HM5 HT5 HX5 rb5 hB5
          have cb0_0 : u5.drew.cell? ⟨Bc, 0, none⟩ = some (Value.int .i64 c.wo) := rb0.cell 0 rfl
          have cb0_1 : u5.drew.cell? ⟨Bc, 1, none⟩ = some (Value.int .i64 c.sl) := rb0.cell 1 rfl
          have cb0_2 : u5.drew.cell? ⟨Bc, 2, none⟩ = some (Value.int .i64 c.st) := rb0.cell 2 rfl
          have cb0_3 : u5.drew.cell? ⟨Bc, 3, none⟩ = some (Value.int .i64 c.wa) := rb0.cell 3 rfl
          have cb0_4 : u5.drew.cell? ⟨Bc, 4, none⟩ = some (Value.int .i64 c.us) := rb0.cell 4 rfl
          refine wp_region_held_drew (S := (fun w' => w'.cell? ⟨Bc, 0, none⟩ = some (Value.int .i64 c.wo) ∧ w'.cell? ⟨Bc, 1, none⟩ = some (Value.int .i64 c.sl) ∧ w'.cell? ⟨Bc, 2, none⟩ = some (Value.int .i64 c.st) ∧ w'.cell? ⟨Bc, 3, none⟩ = some (Value.int .i64 c.wa) ∧ w'.cell? ⟨Bc, 4, none⟩ = some (Value.int .i64 c.us))) (by kernel_rfl) ⟨cb0_0, cb0_1, cb0_2, cb0_3, cb0_4⟩ (fun hS => ?_)
          generalize u5.drew = u6 at *
          refine wpAnyH_take (i := 0) (oi := { dst := some 69, op := Op.move (Operand.tmp 3), type := 4, pos := "law.go:145", after := #[], guard := none }) (v := ?v0_15) rfl (by kernel_rfl) (by kernel_rfl) (by kernel_rfl) (fun _ _ _ h => h) (Or.inl ⟨by rfl, ?hy0_15⟩) hS ?rest0_15
          case hy0_15 =>
            intro w hSw
            (try dsimp only at hSw)
            go_simp
            try with_reducible rfl
          try simp only [Act.put, List.setIfInBounds_toArray, List.set_cons_zero, List.set_cons_succ]
          refine wpAnyH_take (i := 1) (oi := { dst := some 70, op := Op.move (Operand.tmp 69), type := 4, pos := "law.go:145", after := #[{ on := 0, ground := Ground.data }], guard := none }) (v := ?v1_16) rfl (by kernel_rfl) (by kernel_rfl) (by kernel_rfl) (fun _ _ _ h => h) (Or.inl ⟨by rfl, ?hy1_16⟩) hS ?rest1_16
          case hy1_16 =>
            intro w hSw
            (try dsimp only at hSw)
            go_simp
            try with_reducible rfl
          try simp only [Act.put, List.setIfInBounds_toArray, List.set_cons_zero, List.set_cons_succ]
          refine wpAnyH_take (i := 2) (oi := { dst := some 71, op := Op.move (Operand.tmp 12), type := 4, pos := "law.go:145", after := #[{ on := 1, ground := Ground.guard }], guard := some (1, true) }) (v := ?v2_17) rfl (by kernel_rfl) (by kernel_rfl) (by kernel_rfl) (fun _ _ _ h => h) (Or.inl ⟨by rfl, ?hy2_17⟩) hS ?rest2_17
          case hy2_17 =>
            intro w hSw
            (try dsimp only at hSw)
            go_simp
            try with_reducible rfl
          try simp only [Act.put, List.setIfInBounds_toArray, List.set_cons_zero, List.set_cons_succ]
          refine wpAnyH_take (i := 3) (oi := { dst := some 72, op := Op.pick (Operand.tmp 70) (Operand.tmp 71) (Operand.const (Value.bool false)), type := 4, pos := "law.go:145", after := #[{ on := 1, ground := Ground.data }, { on := 2, ground := Ground.data }], guard := none }) (v := ?v3_18) rfl (by kernel_rfl) (by kernel_rfl) (by kernel_rfl) (fun _ _ _ h => h) (Or.inl ⟨by rfl, ?hy3_18⟩) hS ?rest3_18
          case hy3_18 =>
            intro w hSw
            (try dsimp only at hSw)
            go_simp
            try with_reducible rfl
          try simp only [Act.put, List.setIfInBounds_toArray, List.set_cons_zero, List.set_cons_succ]
          refine wpAnyH_take (i := 4) (oi := { dst := some 73, op := Op.move (Operand.tmp 72), type := 4, pos := "law.go:145", after := #[{ on := 3, ground := Ground.data }, { on := 1, ground := Ground.chain }], guard := none }) (v := ?v4_19) rfl (by kernel_rfl) (by kernel_rfl) (by kernel_rfl) (fun _ _ _ h => h) (Or.inl ⟨by rfl, ?hy4_19⟩) hS ?rest4_19
          case hy4_19 =>
            intro w hSw
            (try dsimp only at hSw)
            go_simp
            try with_reducible rfl
          try simp only [Act.put, List.setIfInBounds_toArray, List.set_cons_zero, List.set_cons_succ]
          refine wpAnyH_take (i := 5) (oi := { dst := some 74, op := Op.move (Operand.tmp 7), type := 37, pos := "law.go:145", after := #[{ on := 4, ground := Ground.guard }], guard := some (4, true) }) (v := ?v5_20) rfl (by kernel_rfl) (by kernel_rfl) (by kernel_rfl) (fun _ _ _ h => h) (Or.inl ⟨by rfl, ?hy5_20⟩) hS ?rest5_20
          case hy5_20 =>
            intro w hSw
            (try dsimp only at hSw)
            go_simp
            try with_reducible rfl
          try simp only [Act.put, List.setIfInBounds_toArray, List.set_cons_zero, List.set_cons_succ]
          refine wpAnyH_ready (rs := [6]) (by kernel_rfl) (by simp) ?_
          refine AllReadyH.cons (o := { dst := some 75, op := Op.call { callee := Callee.value (Operand.func 17), args := #[Operand.tmp 74], argTypes := #[37] }, type := 3, pos := "law.go:145", after := #[{ on := 5, ground := Ground.data }, { on := 4, ground := Ground.chain }, { on := 4, ground := Ground.guard }], guard := some (4, true) }) rfl (fun K hK => ?_) AllReadyH.nil
          go_simp
          refine (rounds_any f sb2 ab2 c _ _ HT2.out).mono ?_
          rintro e v1 ⟨rfl, rfl⟩
          refine hK.out _ _ ⟨cb0_0, cb0_1, cb0_2, cb0_3, cb0_4⟩ (fun hS => ?_)
          clear hK K
          skip
          refine wpAnyH_take (i := 7) (oi := { dst := some 76, op := Op.binOp BinOp.eql 3 (Operand.tmp 75) (Operand.const (Value.int IntKind.i64 2)) 3, type := 4, pos := "law.go:145", after := #[{ on := 6, ground := Ground.data }, { on := 4, ground := Ground.guard }], guard := some (4, true) }) (v := ?v7_21) rfl (by kernel_rfl) (by kernel_rfl) (by kernel_rfl) (fun _ _ _ h => h) (Or.inl ⟨by rfl, ?hy7_21⟩) hS ?rest7_21
          case hy7_21 =>
            intro w hSw
            (try dsimp only at hSw)
            go_simp
            try with_reducible rfl
          try simp only [Act.put, List.setIfInBounds_toArray, List.set_cons_zero, List.set_cons_succ]
          refine wpAnyH_take (i := 8) (oi := { dst := some 77, op := Op.pick (Operand.tmp 73) (Operand.tmp 76) (Operand.const (Value.bool false)), type := 4, pos := "law.go:145", after := #[{ on := 4, ground := Ground.data }, { on := 7, ground := Ground.data }], guard := none }) (v := ?v8_22) rfl (by kernel_rfl) (by kernel_rfl) (by kernel_rfl) (fun _ _ _ h => h) (Or.inl ⟨by rfl, ?hy8_22⟩) hS ?rest8_22
          case hy8_22 =>
            intro w hSw
            (try dsimp only at hSw)
            go_simp
            try with_reducible rfl
          try simp only [Act.put, List.setIfInBounds_toArray, List.set_cons_zero, List.set_cons_succ]
          refine wpAnyH_take (i := 9) (oi := { dst := some 78, op := Op.move (Operand.tmp 77), type := 4, pos := "law.go:145", after := #[{ on := 8, ground := Ground.data }, { on := 6, ground := Ground.chain }], guard := none }) (v := ?v9_23) rfl (by kernel_rfl) (by kernel_rfl) (by kernel_rfl) (fun _ _ _ h => h) (Or.inl ⟨by rfl, ?hy9_23⟩) hS ?rest9_23
          case hy9_23 =>
            intro w hSw
            (try dsimp only at hSw)
            go_simp
            try with_reducible rfl
          try simp only [Act.put, List.setIfInBounds_toArray, List.set_cons_zero, List.set_cons_succ]
          refine wpAnyH_take (i := 10) (oi := { dst := some 79, op := Op.move (Operand.tmp 6), type := 35, pos := "law.go:145", after := #[{ on := 9, ground := Ground.guard }], guard := some (9, true) }) (v := ?v10_24) rfl (by kernel_rfl) (by kernel_rfl) (by kernel_rfl) (fun _ _ _ h => h) (Or.inl ⟨by rfl, ?hy10_24⟩) hS ?rest10_24
          case hy10_24 =>
            intro w hSw
            (try dsimp only at hSw)
            go_simp
            try with_reducible rfl
          try simp only [Act.put, List.setIfInBounds_toArray, List.set_cons_zero, List.set_cons_succ]
          refine wpAnyH_take (i := 12) (oi := { dst := some 81, op := Op.move (Operand.tmp 8), type := 3, pos := "law.go:145", after := #[{ on := 9, ground := Ground.guard }], guard := some (9, true) }) (v := ?v12_25) rfl (by kernel_rfl) (by kernel_rfl) (by kernel_rfl) (fun _ _ _ h => h) (Or.inl ⟨by rfl, ?hy12_25⟩) hS ?rest12_25
          case hy12_25 =>
            intro w hSw
            (try dsimp only at hSw)
            go_simp
            try with_reducible rfl
          try simp only [Act.put, List.setIfInBounds_toArray, List.set_cons_zero, List.set_cons_succ]
          refine wpAnyH_take (i := 13) (oi := { dst := some 82, op := Op.fieldAddr 31 (Operand.tmp 4) 1, type := 0, pos := "law.go:145", after := #[{ on := 9, ground := Ground.guard }], guard := some (9, true) }) (v := ?v13_26) rfl (by kernel_rfl) (by kernel_rfl) (by kernel_rfl) (fun _ _ _ h => h) (Or.inl ⟨by rfl, ?hy13_26⟩) hS ?rest13_26
          case hy13_26 =>
            intro w hSw
            (try dsimp only at hSw)
            go_simp
            try with_reducible rfl
          try simp only [Act.put, List.setIfInBounds_toArray, List.set_cons_zero, List.set_cons_succ]
          refine wpAnyH_take (i := 14) (oi := { dst := some 83, op := Op.load 3 (Operand.tmp 82), type := 3, pos := "law.go:145", after := #[{ on := 13, ground := Ground.data }, { on := 9, ground := Ground.guard }], guard := some (9, true) }) (v := ?v14_27) rfl (by kernel_rfl) (by kernel_rfl) (by kernel_rfl) (fun _ _ _ h => h) (Or.inl ⟨by rfl, ?hy14_27⟩) hS ?rest14_27
          case hy14_27 =>
            intro w hSw
            (try dsimp only at hSw)
            go_simp
            try with_reducible rfl
          try simp only [Act.put, List.setIfInBounds_toArray, List.set_cons_zero, List.set_cons_succ]
          refine wpAnyH_take (i := 15) (oi := { dst := some 84, op := Op.binOp BinOp.mul 3 (Operand.const (Value.int IntKind.i64 2)) (Operand.tmp 83) 3, type := 3, pos := "law.go:145", after := #[{ on := 14, ground := Ground.data }, { on := 9, ground := Ground.guard }], guard := some (9, true) }) (v := ?v15_28) rfl (by kernel_rfl) (by kernel_rfl) (by kernel_rfl) (fun _ _ _ h => h) (Or.inl ⟨by rfl, ?hy15_28⟩) hS ?rest15_28
          case hy15_28 =>
            intro w hSw
            (try dsimp only at hSw)
            go_simp
            try with_reducible rfl
          try simp only [Act.put, List.setIfInBounds_toArray, List.set_cons_zero, List.set_cons_succ]
          refine wpAnyH_take (i := 16) (oi := { dst := some 85, op := Op.binOp BinOp.add 3 (Operand.tmp 81) (Operand.tmp 84) 3, type := 3, pos := "law.go:145", after := #[{ on := 12, ground := Ground.data }, { on := 15, ground := Ground.data }, { on := 9, ground := Ground.guard }], guard := some (9, true) }) (v := ?v16_29) rfl (by kernel_rfl) (by kernel_rfl) (by kernel_rfl) (fun _ _ _ h => h) (Or.inl ⟨by rfl, ?hy16_29⟩) hS ?rest16_29
          case hy16_29 =>
            intro w hSw
            (try dsimp only at hSw)
            go_simp
            try with_reducible rfl
          try simp only [Act.put, List.setIfInBounds_toArray, List.set_cons_zero, List.set_cons_succ]
          refine wpAnyH_ready (rs := [11]) (by kernel_rfl) (by simp) ?_
          refine AllReadyH.cons (o := { dst := some 80, op := Op.call { callee := Callee.value (Operand.func 12), args := #[Operand.tmp 79], argTypes := #[35] }, type := 3, pos := "law.go:145", after := #[{ on := 10, ground := Ground.data }, { on := 9, ground := Ground.chain }, { on := 9, ground := Ground.guard }], guard := some (9, true) }) rfl (fun K hK => ?_) AllReadyH.nil
          go_simp
          refine (touched_any g gw N _ _ HM2.out).mono ?_
          rintro e v1 ⟨rfl, rfl⟩
          refine hK.out _ _ ⟨cb0_0, cb0_1, cb0_2, cb0_3, cb0_4⟩ (fun hS => ?_)
          clear hK K
          skip
          refine wpAnyH_take (i := 17) (oi := { dst := some 86, op := Op.binOp BinOp.eql 3 (Operand.tmp 80) (Operand.tmp 85) 3, type := 4, pos := "law.go:145", after := #[{ on := 11, ground := Ground.data }, { on := 16, ground := Ground.data }, { on := 9, ground := Ground.guard }], guard := some (9, true) }) (v := ?v17_30) rfl (by kernel_rfl) (by kernel_rfl) (by kernel_rfl) (fun _ _ _ h => h) (Or.inl ⟨by rfl, ?hy17_30⟩) hS ?rest17_30
          case hy17_30 =>
            intro w hSw
            (try dsimp only at hSw)
            go_simp
            try with_reducible rfl
          try simp only [Act.put, List.setIfInBounds_toArray, List.set_cons_zero, List.set_cons_succ]
          refine wpAnyH_take (i := 18) (oi := { dst := some 87, op := Op.pick (Operand.tmp 78) (Operand.tmp 86) (Operand.const (Value.bool false)), type := 4, pos := "law.go:145", after := #[{ on := 9, ground := Ground.data }, { on := 17, ground := Ground.data }], guard := none }) (v := ?v18_31) rfl (by kernel_rfl) (by kernel_rfl) (by kernel_rfl) (fun _ _ _ h => h) (Or.inl ⟨by rfl, ?hy18_31⟩) hS ?rest18_31
          case hy18_31 =>
            intro w hSw
            (try dsimp only at hSw)
            go_simp
            try with_reducible rfl
          try simp only [Act.put, List.setIfInBounds_toArray, List.set_cons_zero, List.set_cons_succ]
          refine wpAnyH_take (i := 19) (oi := { dst := some 88, op := Op.move (Operand.tmp 87), type := 4, pos := "law.go:145", after := #[{ on := 18, ground := Ground.data }, { on := 11, ground := Ground.chain }], guard := none }) (v := ?v19_32) rfl (by kernel_rfl) (by kernel_rfl) (by kernel_rfl) (fun _ _ _ h => h) (Or.inl ⟨by rfl, ?hy19_32⟩) hS ?rest19_32
          case hy19_32 =>
            intro w hSw
            (try dsimp only at hSw)
            go_simp
            try with_reducible rfl
          try simp only [Act.put, List.setIfInBounds_toArray, List.set_cons_zero, List.set_cons_succ]
          refine wpAnyH_take (i := 20) (oi := { dst := some 89, op := Op.move (Operand.tmp 7), type := 37, pos := "law.go:145", after := #[{ on := 19, ground := Ground.guard }], guard := some (19, true) }) (v := ?v20_33) rfl (by kernel_rfl) (by kernel_rfl) (by kernel_rfl) (fun _ _ _ h => h) (Or.inl ⟨by rfl, ?hy20_33⟩) hS ?rest20_33
          case hy20_33 =>
            intro w hSw
            (try dsimp only at hSw)
            go_simp
            try with_reducible rfl
          try simp only [Act.put, List.setIfInBounds_toArray, List.set_cons_zero, List.set_cons_succ]
          refine wpAnyH_take (i := 22) (oi := { dst := some 91, op := Op.move (Operand.tmp 5), type := 32, pos := "law.go:145", after := #[{ on := 19, ground := Ground.guard }], guard := some (19, true) }) (v := ?v22_34) rfl (by kernel_rfl) (by kernel_rfl) (by kernel_rfl) (fun _ _ _ h => h) (Or.inl ⟨by rfl, ?hy22_34⟩) hS ?rest22_34
          case hy22_34 =>
            intro w hSw
            (try dsimp only at hSw)
            go_simp
            try with_reducible rfl
          try simp only [Act.put, List.setIfInBounds_toArray, List.set_cons_zero, List.set_cons_succ]
          refine wpAnyH_take (i := 23) (oi := { dst := some 92, op := Op.load 31 (Operand.tmp 4), type := 31, pos := "law.go:145", after := #[{ on := 19, ground := Ground.guard }], guard := some (19, true) }) (v := ?v23_35) rfl (by kernel_rfl) (by kernel_rfl) (by kernel_rfl) (fun _ _ _ h => h) (Or.inl ⟨by rfl, ?hy23_35⟩) hS ?rest23_35
          case hy23_35 =>
            intro w hSw
            (try dsimp only at hSw)
            go_simp
            try with_reducible rfl
          try simp only [Act.put, List.setIfInBounds_toArray, List.set_cons_zero, List.set_cons_succ]
          refine wpAnyH_ready (rs := [21]) (by kernel_rfl) (by simp) ?_
          refine AllReadyH.cons (o := { dst := some 90, op := Op.call { callee := Callee.value (Operand.func 20), args := #[Operand.tmp 89], argTypes := #[37] }, type := 32, pos := "law.go:145", after := #[{ on := 20, ground := Ground.data }, { on := 19, ground := Ground.chain }, { on := 19, ground := Ground.guard }], guard := some (19, true) }) rfl (fun K hK => ?_) AllReadyH.nil
          go_simp
          have HT10 := HT2
          have HM10 := HM2
          have HX10 := HX2
          have hB10 := hB2
          refine (words_yes f sb2 ab2 c _ _ HT10.out rfl hWl1 hWl2).mono ?_
          rintro e v3 ⟨bq, rfl, hr, hbq, hb⟩
          rw [HWl.out]
          have rb3 := rb0.below hb rb0.lt
          have HT13 := Lib.hid (HT10.out.on hb)
          have HM13 := Lib.hid (HM10.out.on hb)
          have HX13 := Lib.hid (HX10.out.on hb)
          have hB13 := hB10.trans (hb.mono hB10.size)
          have cb3_0 : v3.cell? ⟨Bc, 0, none⟩ = some (Value.int .i64 c.wo) := rb3.cell 0 rfl
          have cb3_1 : v3.cell? ⟨Bc, 1, none⟩ = some (Value.int .i64 c.sl) := rb3.cell 1 rfl
          have cb3_2 : v3.cell? ⟨Bc, 2, none⟩ = some (Value.int .i64 c.st) := rb3.cell 2 rfl
          have cb3_3 : v3.cell? ⟨Bc, 3, none⟩ = some (Value.int .i64 c.wa) := rb3.cell 3 rfl
          have cb3_4 : v3.cell? ⟨Bc, 4, none⟩ = some (Value.int .i64 c.us) := rb3.cell 4 rfl
          clear hb
          have hq := Lib.hid hr
          refine hK.out _ _ ⟨cb3_0, cb3_1, cb3_2, cb3_3, cb3_4⟩ (fun hS => ?_)
          clear hK K
          try simp only [Act.put, List.setIfInBounds_toArray, List.set_cons_zero, List.set_cons_succ]
          refine wpAnyH_ready (rs := [24]) (by kernel_rfl) (by simp) ?_
          refine AllReadyH.cons (o := { dst := some 93, op := Op.call { callee := Callee.value (Operand.func 24), args := #[Operand.tmp 92, Operand.const (Value.int IntKind.i64 0)], argTypes := #[31, 3] }, type := 3, pos := "law.go:145", after := #[{ on := 23, ground := Ground.data }, { on := 21, ground := Ground.chain }, { on := 19, ground := Ground.guard }], guard := some (19, true) }) rfl (fun K hK => ?_) AllReadyH.nil
          go_simp
          refine (refSlot_any c 0 _ Hc.out).mono ?_
          rw [HS0.out]
          rintro e v4 ⟨rfl, hb⟩
          have rb4 := rb3.below hb rb3.lt
          have HT14 := Lib.hid (HT13.out.on hb)
          have HM14 := Lib.hid (HM13.out.on hb)
          have HX14 := Lib.hid (HX13.out.on hb)
          have hB14 := hB13.trans (hb.mono hB13.size)
          have cb4_0 : v4.cell? ⟨Bc, 0, none⟩ = some (Value.int .i64 c.wo) := rb4.cell 0 rfl
          have cb4_1 : v4.cell? ⟨Bc, 1, none⟩ = some (Value.int .i64 c.sl) := rb4.cell 1 rfl
          have cb4_2 : v4.cell? ⟨Bc, 2, none⟩ = some (Value.int .i64 c.st) := rb4.cell 2 rfl
          have cb4_3 : v4.cell? ⟨Bc, 3, none⟩ = some (Value.int .i64 c.wa) := rb4.cell 3 rfl
          have cb4_4 : v4.cell? ⟨Bc, 4, none⟩ = some (Value.int .i64 c.us) := rb4.cell 4 rfl
          have hq2 := Lib.hid (hq.out.below hb hq.out.lt)
          clear hb
          refine hK.out _ _ ⟨cb4_0, cb4_1, cb4_2, cb4_3, cb4_4⟩ (fun hS => ?_)
          clear hK K
          try simp only [Act.put, List.setIfInBounds_toArray, List.set_cons_zero, List.set_cons_succ]
          refine wpAnyH_take (i := 25) (oi := { dst := some 94, op := Op.slice 32 (Operand.tmp 91) (some (Operand.tmp 93)) none none, type := 32, pos := "law.go:145", after := #[{ on := 22, ground := Ground.data }, { on := 24, ground := Ground.data }, { on := 19, ground := Ground.guard }], guard := some (19, true) }) (v := ?v25_36) rfl (by kernel_rfl) (by kernel_rfl) (by kernel_rfl) (fun _ _ _ h => h) (Or.inl ⟨by rfl, ?hy25_36⟩) hS ?rest25_36
          case hy25_36 =>
            intro w hSw
            (try dsimp only at hSw)
            go_simp
            try with_reducible rfl
          try simp only [Act.put, List.setIfInBounds_toArray, List.set_cons_zero, List.set_cons_succ]
          refine wpAnyH_ready (rs := [26]) (by kernel_rfl) (by simp) ?_
          refine AllReadyH.cons (o := { dst := some 95, op := Op.call { callee := Callee.value (Operand.func 19), args := #[Operand.tmp 90, Operand.tmp 94], argTypes := #[32, 32] }, type := 4, pos := "law.go:145", after := #[{ on := 21, ground := Ground.data }, { on := 25, ground := Ground.data }, { on := 24, ground := Ground.chain }, { on := 19, ground := Ground.guard }], guard := some (19, true) }) rfl (fun K hK => ?_) AllReadyH.nil
          go_simp
          refine (ints_same _ _ _ _ k W _ HWl.out (copy_is hq2.out (by rw [HWl.out]; omega)) (HCUT.out _ HX14.out) (by omega)).mono ?_
          rintro e v5 ⟨rfl, hb⟩
          have rb5 := rb4.below hb rb4.lt
          have HT15 := Lib.hid (HT14.out.on hb)
          have HM15 := Lib.hid (HM14.out.on hb)
          have HX15 := Lib.hid (HX14.out.on hb)
          have hB15 := hB14.trans (hb.mono hB14.size)
          have cb5_0 : v5.cell? ⟨Bc, 0, none⟩ = some (Value.int .i64 c.wo) := rb5.cell 0 rfl
          have cb5_1 : v5.cell? ⟨Bc, 1, none⟩ = some (Value.int .i64 c.sl) := rb5.cell 1 rfl
          have cb5_2 : v5.cell? ⟨Bc, 2, none⟩ = some (Value.int .i64 c.st) := rb5.cell 2 rfl
          have cb5_3 : v5.cell? ⟨Bc, 3, none⟩ = some (Value.int .i64 c.wa) := rb5.cell 3 rfl
          have cb5_4 : v5.cell? ⟨Bc, 4, none⟩ = some (Value.int .i64 c.us) := rb5.cell 4 rfl
          clear hb
          refine hK.out _ _ ⟨cb5_0, cb5_1, cb5_2, cb5_3, cb5_4⟩ (fun hS => ?_)
          clear hK K
          try simp only [Act.put, List.setIfInBounds_toArray, List.set_cons_zero, List.set_cons_succ]
          refine wpAnyH_take (i := 27) (oi := { dst := some 96, op := Op.pick (Operand.tmp 88) (Operand.tmp 95) (Operand.const (Value.bool false)), type := 4, pos := "law.go:145", after := #[{ on := 19, ground := Ground.data }, { on := 26, ground := Ground.data }], guard := none }) (v := ?v27_37) rfl (by kernel_rfl) (by kernel_rfl) (by kernel_rfl) (fun _ _ _ h => h) (Or.inl ⟨by rfl, ?hy27_37⟩) hS ?rest27_37
          case hy27_37 =>
            intro w hSw
            (try dsimp only at hSw)
            go_simp
            try with_reducible rfl
          try simp only [Act.put, List.setIfInBounds_toArray, List.set_cons_zero, List.set_cons_succ]
          refine wpAnyH_take (i := 28) (oi := { dst := some 97, op := Op.move (Operand.tmp 96), type := 4, pos := "law.go:145", after := #[{ on := 27, ground := Ground.data }, { on := 26, ground := Ground.chain }], guard := none }) (v := ?v28_38) rfl (by kernel_rfl) (by kernel_rfl) (by kernel_rfl) (fun _ _ _ h => h) (Or.inl ⟨by rfl, ?hy28_38⟩) hS ?rest28_38
          case hy28_38 =>
            intro w hSw
            (try dsimp only at hSw)
            go_simp
            try with_reducible rfl
          try simp only [Act.put, List.setIfInBounds_toArray, List.set_cons_zero, List.set_cons_succ]
          refine wpAnyH_take (i := 29) (oi := { dst := some 98, op := Op.move (Operand.tmp 6), type := 35, pos := "law.go:145", after := #[{ on := 28, ground := Ground.guard }], guard := some (28, true) }) (v := ?v29_39) rfl (by kernel_rfl) (by kernel_rfl) (by kernel_rfl) (fun _ _ _ h => h) (Or.inl ⟨by rfl, ?hy29_39⟩) hS ?rest29_39
          case hy29_39 =>
            intro w hSw
            (try dsimp only at hSw)
            go_simp
            try with_reducible rfl
          try simp only [Act.put, List.setIfInBounds_toArray, List.set_cons_zero, List.set_cons_succ]
          refine wpAnyH_take (i := 31) (oi := { dst := some 100, op := Op.move (Operand.tmp 5), type := 32, pos := "law.go:145", after := #[{ on := 28, ground := Ground.guard }], guard := some (28, true) }) (v := ?v31_40) rfl (by kernel_rfl) (by kernel_rfl) (by kernel_rfl) (fun _ _ _ h => h) (Or.inl ⟨by rfl, ?hy31_40⟩) hS ?rest31_40
          case hy31_40 =>
            intro w hSw
            (try dsimp only at hSw)
            go_simp
            try with_reducible rfl
          try simp only [Act.put, List.setIfInBounds_toArray, List.set_cons_zero, List.set_cons_succ]
          refine wpAnyH_ready (rs := [30]) (by kernel_rfl) (by simp) ?_
          refine AllReadyH.cons (o := { dst := some 99, op := Op.call { callee := Callee.value (Operand.func 22), args := #[Operand.tmp 98], argTypes := #[35] }, type := 32, pos := "law.go:145", after := #[{ on := 29, ground := Ground.data }, { on := 28, ground := Ground.chain }, { on := 28, ground := Ground.guard }], guard := some (28, true) }) rfl (fun K hK => ?_) AllReadyH.nil
          go_simp
          refine (wordsS_any g gw N _ _ HM15.out (by rw [HL.out]; omega) (by rw [HL.out]; omega)).mono ?_
          rintro e v6 ⟨bz, cz, rfl, _, _, hib, hb⟩
          rw [HL.out]
          have rb6 := rb5.below hb rb5.lt
          have HT16 := Lib.hid (HT15.out.on hb)
          have HM16 := Lib.hid (HM15.out.on hb)
          have HX16 := Lib.hid (HX15.out.on hb)
          have hB16 := hB15.trans (hb.mono hB15.size)
          have cb6_0 : v6.cell? ⟨Bc, 0, none⟩ = some (Value.int .i64 c.wo) := rb6.cell 0 rfl
          have cb6_1 : v6.cell? ⟨Bc, 1, none⟩ = some (Value.int .i64 c.sl) := rb6.cell 1 rfl
          have cb6_2 : v6.cell? ⟨Bc, 2, none⟩ = some (Value.int .i64 c.st) := rb6.cell 2 rfl
          have cb6_3 : v6.cell? ⟨Bc, 3, none⟩ = some (Value.int .i64 c.wa) := rb6.cell 3 rfl
          have cb6_4 : v6.cell? ⟨Bc, 4, none⟩ = some (Value.int .i64 c.us) := rb6.cell 4 rfl
          clear hb
          have Hib := Lib.hid hib
          refine hK.out _ _ ⟨cb6_0, cb6_1, cb6_2, cb6_3, cb6_4⟩ (fun hS => ?_)
          clear hK K
          try simp only [Act.put, List.setIfInBounds_toArray, List.set_cons_zero, List.set_cons_succ]
          refine wpAnyH_ready (rs := [32]) (by kernel_rfl) (by simp) ?_
          refine AllReadyH.cons (o := { dst := some 101, op := Op.call { callee := Callee.value (Operand.func 19), args := #[Operand.tmp 99, Operand.tmp 100], argTypes := #[32, 32] }, type := 4, pos := "law.go:145", after := #[{ on := 30, ground := Ground.data }, { on := 31, ground := Ground.data }, { on := 30, ground := Ground.chain }, { on := 28, ground := Ground.guard }], guard := some (28, true) }) rfl (fun K hK => ?_) AllReadyH.nil
          go_simp
          refine (ints_same _ _ _ _ N xs _ HL.out Hib.out.is HX16.out.is (by omega)).mono ?_
          rintro e v7 ⟨rfl, hb⟩
          have rb7 := rb6.below hb rb6.lt
          have HT17 := Lib.hid (HT16.out.on hb)
          have HM17 := Lib.hid (HM16.out.on hb)
          have HX17 := Lib.hid (HX16.out.on hb)
          have hB17 := hB16.trans (hb.mono hB16.size)
          have cb7_0 : v7.cell? ⟨Bc, 0, none⟩ = some (Value.int .i64 c.wo) := rb7.cell 0 rfl
          have cb7_1 : v7.cell? ⟨Bc, 1, none⟩ = some (Value.int .i64 c.sl) := rb7.cell 1 rfl
          have cb7_2 : v7.cell? ⟨Bc, 2, none⟩ = some (Value.int .i64 c.st) := rb7.cell 2 rfl
          have cb7_3 : v7.cell? ⟨Bc, 3, none⟩ = some (Value.int .i64 c.wa) := rb7.cell 3 rfl
          have cb7_4 : v7.cell? ⟨Bc, 4, none⟩ = some (Value.int .i64 c.us) := rb7.cell 4 rfl
          clear hb
          refine hK.out _ _ ⟨cb7_0, cb7_1, cb7_2, cb7_3, cb7_4⟩ (fun hS => ?_)
          clear hK K
          try simp only [Act.put, List.setIfInBounds_toArray, List.set_cons_zero, List.set_cons_succ]
          refine wpAnyH_take (i := 33) (oi := { dst := some 102, op := Op.pick (Operand.tmp 97) (Operand.tmp 101) (Operand.const (Value.bool false)), type := 4, pos := "law.go:145", after := #[{ on := 28, ground := Ground.data }, { on := 32, ground := Ground.data }], guard := none }) (v := ?v33_41) rfl (by kernel_rfl) (by kernel_rfl) (by kernel_rfl) (fun _ _ _ h => h) (Or.inl ⟨by rfl, ?hy33_41⟩) hS ?rest33_41
          case hy33_41 =>
            intro w hSw
            (try dsimp only at hSw)
            go_simp
            try with_reducible rfl
          try simp only [Act.put, List.setIfInBounds_toArray, List.set_cons_zero, List.set_cons_succ]
          refine wpAnyH_take (i := 34) (oi := { dst := some 2, op := Op.assign (Operand.tmp 102), type := 4, pos := "law.go:145", after := #[{ on := 33, ground := Ground.data }, { on := 32, ground := Ground.chain }, { on := 0, ground := Ground.phase }, { on := 1, ground := Ground.phase }, { on := 2, ground := Ground.phase }, { on := 3, ground := Ground.phase }, { on := 4, ground := Ground.phase }, { on := 5, ground := Ground.phase }, { on := 6, ground := Ground.phase }, { on := 7, ground := Ground.phase }, { on := 8, ground := Ground.phase }, { on := 9, ground := Ground.phase }, { on := 10, ground := Ground.phase }, { on := 11, ground := Ground.phase }, { on := 12, ground := Ground.phase }, { on := 13, ground := Ground.phase }, { on := 14, ground := Ground.phase }, { on := 15, ground := Ground.phase }, { on := 16, ground := Ground.phase }, { on := 17, ground := Ground.phase }, { on := 18, ground := Ground.phase }, { on := 19, ground := Ground.phase }, { on := 20, ground := Ground.phase }, { on := 21, ground := Ground.phase }, { on := 22, ground := Ground.phase }, { on := 23, ground := Ground.phase }, { on := 24, ground := Ground.phase }, { on := 25, ground := Ground.phase }, { on := 26, ground := Ground.phase }, { on := 27, ground := Ground.phase }, { on := 28, ground := Ground.phase }, { on := 29, ground := Ground.phase }, { on := 30, ground := Ground.phase }, { on := 31, ground := Ground.phase }, { on := 32, ground := Ground.phase }, { on := 33, ground := Ground.phase }], guard := none }) (v := ?v34_42) rfl (by kernel_rfl) (by kernel_rfl) (by kernel_rfl) (fun _ _ _ h => h) (Or.inl ⟨by rfl, ?hy34_42⟩) hS ?rest34_42
          case hy34_42 =>
            intro w hSw
            (try dsimp only at hSw)
            go_simp
            try with_reducible rfl
          try simp only [Act.put, List.setIfInBounds_toArray, List.set_cons_zero, List.set_cons_succ]
          refine wpAnyH_done (by kernel_rfl) ?_ _
          go_wp2
          go_ret
          exact ⟨rfl, hB17⟩
end Go.Proofs.Ytalmadeibnekoaa
