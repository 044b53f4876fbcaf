/- The chapter's example comes out true. -/
import Derived.Test.YtbkcniknbpgphaaDoorStep
import Derived.Test.YtbkcniknbpgphaaDoorLaid2
namespace Go.Proofs.YtbkcniknbpgphaaDoor
open Go.RowKit
attribute [local go_sem ↓] Go.wp_at_zero Go.wp_at_succ

/-- the chapter's example -/
def ex : Cf := ⟨1, 3, 0, 0, 1⟩
theorem ex_rc : Rc ex := ⟨by decide, by decide, by decide, by decide, by decide⟩
theorem ex_n : cellsN ex = 8 := by decide
def exW : List Int := [0, 0, 0, 0, 0, 0, 10, 2]
theorem ex_w1 (w : World) : Calls Tryd.prog 32 #[Value.agg #[Value.int .i64 2, Value.int .i64 1, Value.int .i64 0, Value.bool false, Value.bool false, Value.int .i64 0, Value.int .i64 0, Value.int .i64 0, Value.int .i64 0]] w fun e w' => e = .returned (.int .i64 10) ∧ Below w.heap.size w w' := by
  have h := refWord_any ⟨2, 1, 0, false, false, 0, 0, 0, 0⟩ w ⟨by decide, by decide, by decide, by decide, by decide, by decide, by decide⟩
  rwa [show encN ⟨2, 1, 0, false, false, 0, 0, 0, 0⟩ = 10 by decide +kernel] at h
theorem ex_w2 (w : World) : Calls Tryd.prog 32 #[Value.agg #[Value.int .i64 2, Value.int .i64 0, Value.int .i64 0, Value.bool false, Value.bool false, Value.int .i64 0, Value.int .i64 0, Value.int .i64 0, Value.int .i64 0]] w fun e w' => e = .returned (.int .i64 2) ∧ Below w.heap.size w w' := by
  have h := refWord_any ⟨2, 0, 0, false, false, 0, 0, 0, 0⟩ w ⟨by decide, by decide, by decide, by decide, by decide, by decide, by decide⟩
  rwa [show encN ⟨2, 0, 0, false, false, 0, 0, 0, 0⟩ = 2 by decide +kernel] at h
theorem ex_laid (b : Nat) (c1 : Nat) (w : World) (h : RowAt w b 3 #[Value.int .i64 0, Value.int .i64 0, Value.int .i64 0, Value.int .i64 0, Value.int .i64 0, Value.int .i64 0, Value.int .i64 10, Value.int .i64 2]) : Calls Tryd.prog 14 #[Value.agg #[Value.int .i64 1, Value.int .i64 3, Value.int .i64 0, Value.int .i64 0, Value.int .i64 1], .slice (some ⟨b, 0, none⟩) 8 c1] w fun e w' => ∃ g gw, e = .returned (.pointer (some ⟨g, 0, none⟩)) ∧ TellsMem w ⟨exW, 8⟩ g gw 8 w' := by
  refine laid_any ex (some ⟨b, 0, none⟩) 8 c1 w.heap.size exW w ex_rc rfl ex_n.symm (fun k x hk => ⟨b, 0, rfl, h.lt, ?_⟩) (Nat.le_refl _)
  rw [Nat.zero_add]
  refine h.cell k ?_
  obtain ⟨hk1, hk2⟩ := List.getElem?_eq_some_iff.1 hk
  have h8 : k = 0 ∨ k = 1 ∨ k = 2 ∨ k = 3 ∨ k = 4 ∨ k = 5 ∨ k = 6 ∨ k = 7 := by simp [exW] at hk1; omega
  rcases h8 with rfl | rfl | rfl | rfl | rfl | rfl | rfl | rfl <;> (rw [← hk2]; rfl)
theorem ex_new (w : World) : Calls Tryd.prog 15 #[Value.agg #[Value.int .i64 1, Value.int .i64 3, Value.int .i64 0, Value.int .i64 0, Value.int .i64 1], .int .i64 0, .int .i64 0, .int .i64 0] w (RetFind ex 0 0 0 w) := find_new ex 0 0 0 w
theorem ex_s1 : stepF ex 0 0 ⟨0, 0, false⟩ exW = ⟨1, 0, false⟩ := by kernel_rfl
theorem ex_s2 : stepF ex 0 0 ⟨1, 0, false⟩ exW = ⟨2, 10, false⟩ := by kernel_rfl
theorem ex_s3 : stepF ex 0 0 ⟨2, 10, false⟩ exW = ⟨2, 2, true⟩ := by kernel_rfl
theorem ex_in : ∀ (k : Nat) x, exW[k]? = some x → -9223372036854775808 ≤ x ∧ x ≤ 9223372036854775807 := fun k x hk => by
  have := List.mem_of_getElem? hk
  simp [exW] at this
  omega
theorem ex_step (f q g gw c0 n t : Nat) (fr : Array Value) (x : Fs) (w : World) (h0 : 0 ≤ x.po) (hF : FindAt w f q ex n fr 0 0 x) (hM : MemAt w g gw c0 ⟨exW, t⟩) (hT : Tab w) (ht : t < 1000000) (h1 : gw < f) (h2 : g < f) (h3 : g < q) (h4 : gw < q) (h5 : 0 < g) (h6 : 0 < gw) :
    Calls Tryd.prog 20 #[.pointer (some ⟨f, 0, none⟩), .pointer (some ⟨g, 0, none⟩)] w (RetStep f q g gw c0 ex n fr 0 0 x ⟨exW, t⟩ w) :=
  step_any f q g gw c0 ex n fr 0 0 x ⟨exW, t⟩ w ex_rc h0 hF hM hT ex_n.symm ht ex_in (by omega) (by omega) (by omega) (by omega) (by omega) (by omega) (by omega)
set_option maxRecDepth 100000 in
set_option maxHeartbeats 2000000 in
theorem awake_any (w : World) (hT : Tab w) : Calls Tryd.prog 9 #[] w fun e w' => e = .returned (.bool true) ∧ Below w.heap.size w w' := by
  have hB := bnew w (.cells #[Value.int .i64 1, Value.int .i64 3, Value.int .i64 0, Value.int .i64 0, Value.int .i64 1] 35)
  have r0 := RowAt.new w 35 #[Value.int .i64 1, Value.int .i64 3, Value.int .i64 0, Value.int .i64 0, Value.int .i64 1]
  have hT0 := hT.below hB hT.lt
  have hl0 := hT.lt
  clear hT
  go_enter Tryd.func9, Tryd.ntmps9
  go_wp2_with fail
  obtain ⟨B1, e1⟩ : ∃ B1, B1 = w.heap.size := ⟨_, rfl⟩
  rw [← e1] at r0 ⊢
  obtain ⟨W, hW⟩ : ∃ W, W = w.alloc (.cells #[Value.int .i64 1, Value.int .i64 3, Value.int .i64 0, Value.int .i64 0, Value.int .i64 1] 35) := ⟨_, rfl⟩
  rw [← hW] at hB r0 hT0 ⊢
  clear hW e1
  have ra0 := r0.drew
  have hB0 := hB.drew
  have HT0 := Lib.hid hT0.drew
  clear r0 hB hT0
  have ca0_0 : W.drew.cell? ⟨B1, 0, none⟩ = some (Value.int .i64 1) := ra0.cell 0 rfl
  have ca0_1 : W.drew.cell? ⟨B1, 1, none⟩ = some (Value.int .i64 3) := ra0.cell 1 rfl
  have ca0_2 : W.drew.cell? ⟨B1, 2, none⟩ = some (Value.int .i64 0) := ra0.cell 2 rfl
  have ca0_3 : W.drew.cell? ⟨B1, 3, none⟩ = some (Value.int .i64 0) := ra0.cell 3 rfl
  have ca0_4 : W.drew.cell? ⟨B1, 4, none⟩ = some (Value.int .i64 1) := ra0.cell 4 rfl
  refine wp_region_held_drew (S := (fun w' => w'.cell? ⟨B1, 0, none⟩ = some (Value.int .i64 1) ∧ w'.cell? ⟨B1, 1, none⟩ = some (Value.int .i64 3) ∧ w'.cell? ⟨B1, 2, none⟩ = some (Value.int .i64 0) ∧ w'.cell? ⟨B1, 3, none⟩ = some (Value.int .i64 0) ∧ w'.cell? ⟨B1, 4, none⟩ = some (Value.int .i64 1))) (by kernel_rfl) ⟨ca0_0, ca0_1, ca0_2, ca0_3, ca0_4⟩ (fun hS => ?_)
  generalize W.drew = u0 at *
  refine wpAnyH_take (i := 0) (oi := { dst := some 12, op := Op.load 35 (Operand.tmp 1), type := 35, pos := "law.go:33", after := #[], guard := none }) (v := ?v0_1) rfl (by kernel_rfl) (by kernel_rfl) (by kernel_rfl) (fun _ _ _ h => h) (Or.inl ⟨by rfl, ?hy0_1⟩) hS ?rest0_1
  case hy0_1 =>
    intro w hSw
    (try dsimp only at hSw)
    go_simp
    try with_reducible rfl
  try simp only [Act.put, List.setIfInBounds_toArray, List.set_cons_zero, List.set_cons_succ]
  refine wpAnyH_take (i := 1) (oi := { dst := some 13, op := Op.build 23 #[(0, Operand.const (Value.int IntKind.i64 2)), (1, Operand.const (Value.int IntKind.i64 1))], type := 23, pos := "law.go:33", after := #[], guard := none }) (v := ?v1_2) rfl (by kernel_rfl) (by kernel_rfl) (by kernel_rfl) (fun _ _ _ h => h) (Or.inl ⟨by rfl, ?hy1_2⟩) hS ?rest1_2
  case hy1_2 =>
    intro w hSw
    (try dsimp only at hSw)
    go_simp
    try with_reducible rfl
  try simp only [Act.put, List.setIfInBounds_toArray, List.set_cons_zero, List.set_cons_succ]
  refine wpAnyH_take (i := 3) (oi := { dst := some 15, op := Op.build 23 #[(0, Operand.const (Value.int IntKind.i64 2))], type := 23, pos := "law.go:33", after := #[], guard := none }) (v := ?v3_3) rfl (by kernel_rfl) (by kernel_rfl) (by kernel_rfl) (fun _ _ _ h => h) (Or.inl ⟨by rfl, ?hy3_3⟩) hS ?rest3_3
  case hy3_3 =>
    intro w hSw
    (try dsimp only at hSw)
    go_simp
    try with_reducible rfl
  try simp only [Act.put, List.setIfInBounds_toArray, List.set_cons_zero, List.set_cons_succ]
  refine wpAnyH_ready (rs := [2]) (by kernel_rfl) (by simp) ?_
  refine AllReadyH.cons (o := { dst := some 14, op := Op.call { callee := Callee.value (Operand.func 32), args := #[Operand.tmp 13], argTypes := #[23] }, type := 3, pos := "law.go:33", after := #[{ on := 1, ground := Ground.data }], guard := none }) rfl (fun K hK => ?_) AllReadyH.nil
  go_simp
  refine (ex_w1 _).mono ?_
  rintro e u1 ⟨rfl, hb⟩
  have ra1 := ra0.below hb ra0.lt
  have hB1 := hB0.trans (hb.mono hB0.size)
  have HT1 := Lib.hid (HT0.out.below hb HT0.out.lt)
  clear hb
  have ca1_0 : u1.cell? ⟨B1, 0, none⟩ = some (Value.int .i64 1) := ra1.cell 0 rfl
  have ca1_1 : u1.cell? ⟨B1, 1, none⟩ = some (Value.int .i64 3) := ra1.cell 1 rfl
  have ca1_2 : u1.cell? ⟨B1, 2, none⟩ = some (Value.int .i64 0) := ra1.cell 2 rfl
  have ca1_3 : u1.cell? ⟨B1, 3, none⟩ = some (Value.int .i64 0) := ra1.cell 3 rfl
  have ca1_4 : u1.cell? ⟨B1, 4, none⟩ = some (Value.int .i64 1) := ra1.cell 4 rfl
  refine hK.out _ _ ⟨ca1_0, ca1_1, ca1_2, ca1_3, ca1_4⟩ (fun hS => ?_)
  clear hK K
  try simp only [Act.put, List.setIfInBounds_toArray, List.set_cons_zero, List.set_cons_succ]
  refine wpAnyH_ready (rs := [4]) (by kernel_rfl) (by simp) ?_
  refine AllReadyH.cons (o := { dst := some 16, op := Op.call { callee := Callee.value (Operand.func 32), args := #[Operand.tmp 15], argTypes := #[23] }, type := 3, pos := "law.go:33", after := #[{ on := 3, ground := Ground.data }, { on := 2, ground := Ground.chain }], guard := none }) rfl (fun K hK => ?_) AllReadyH.nil
  go_simp
  refine (ex_w2 _).mono ?_
  rintro e u2 ⟨rfl, hb⟩
  have ra2 := ra1.below hb ra1.lt
  have hB2 := hB1.trans (hb.mono hB1.size)
  have HT2 := Lib.hid (HT1.out.below hb HT1.out.lt)
  clear hb
  have ca2_0 : u2.cell? ⟨B1, 0, none⟩ = some (Value.int .i64 1) := ra2.cell 0 rfl
  have ca2_1 : u2.cell? ⟨B1, 1, none⟩ = some (Value.int .i64 3) := ra2.cell 1 rfl
  have ca2_2 : u2.cell? ⟨B1, 2, none⟩ = some (Value.int .i64 0) := ra2.cell 2 rfl
  have ca2_3 : u2.cell? ⟨B1, 3, none⟩ = some (Value.int .i64 0) := ra2.cell 3 rfl
  have ca2_4 : u2.cell? ⟨B1, 4, none⟩ = some (Value.int .i64 1) := ra2.cell 4 rfl
  refine hK.out _ _ ⟨ca2_0, ca2_1, ca2_2, ca2_3, ca2_4⟩ (fun hS => ?_)
  clear hK K
  try simp only [Act.put, List.setIfInBounds_toArray, List.set_cons_zero, List.set_cons_succ]
  refine wpAnyH_ready (rs := [5]) (by kernel_rfl) (by simp) ?_
  refine AllReadyH.cons (o := { dst := some 17, op := Op.buildSlice 36 8 #[(0, Operand.const (Value.int IntKind.i64 0)), (1, Operand.const (Value.int IntKind.i64 0)), (2, Operand.const (Value.int IntKind.i64 0)), (3, Operand.const (Value.int IntKind.i64 0)), (4, Operand.const (Value.int IntKind.i64 0)), (5, Operand.const (Value.int IntKind.i64 0)), (6, Operand.tmp 14), (7, Operand.tmp 16)], type := 36, pos := "law.go:33", after := #[{ on := 2, ground := Ground.data }, { on := 4, ground := Ground.data }], guard := none }) rfl (fun K hK => ?_) AllReadyH.nil
  go_simp
  have hb := bnew u2 (.cells #[Value.int .i64 0, Value.int .i64 0, Value.int .i64 0, Value.int .i64 0, Value.int .i64 0, Value.int .i64 0, Value.int .i64 10, Value.int .i64 2] 3)
  have rs := RowAt.new u2 3 #[Value.int .i64 0, Value.int .i64 0, Value.int .i64 0, Value.int .i64 0, Value.int .i64 0, Value.int .i64 0, Value.int .i64 10, Value.int .i64 2]
  have ra3 := ra2.below hb ra2.lt
  have hB3 := hB2.trans (hb.mono hB2.size)
  have HT3 := Lib.hid (HT2.out.below hb HT2.out.lt)
  clear hb
  have ca3_0 : (u2.alloc (.cells #[Value.int .i64 0, Value.int .i64 0, Value.int .i64 0, Value.int .i64 0, Value.int .i64 0, Value.int .i64 0, Value.int .i64 10, Value.int .i64 2] 3)).cell? ⟨B1, 0, none⟩ = some (Value.int .i64 1) := ra3.cell 0 rfl
  have ca3_1 : (u2.alloc (.cells #[Value.int .i64 0, Value.int .i64 0, Value.int .i64 0, Value.int .i64 0, Value.int .i64 0, Value.int .i64 0, Value.int .i64 10, Value.int .i64 2] 3)).cell? ⟨B1, 1, none⟩ = some (Value.int .i64 3) := ra3.cell 1 rfl
  have ca3_2 : (u2.alloc (.cells #[Value.int .i64 0, Value.int .i64 0, Value.int .i64 0, Value.int .i64 0, Value.int .i64 0, Value.int .i64 0, Value.int .i64 10, Value.int .i64 2] 3)).cell? ⟨B1, 2, none⟩ = some (Value.int .i64 0) := ra3.cell 2 rfl
  have ca3_3 : (u2.alloc (.cells #[Value.int .i64 0, Value.int .i64 0, Value.int .i64 0, Value.int .i64 0, Value.int .i64 0, Value.int .i64 0, Value.int .i64 10, Value.int .i64 2] 3)).cell? ⟨B1, 3, none⟩ = some (Value.int .i64 0) := ra3.cell 3 rfl
  have ca3_4 : (u2.alloc (.cells #[Value.int .i64 0, Value.int .i64 0, Value.int .i64 0, Value.int .i64 0, Value.int .i64 0, Value.int .i64 0, Value.int .i64 10, Value.int .i64 2] 3)).cell? ⟨B1, 4, none⟩ = some (Value.int .i64 1) := ra3.cell 4 rfl
  refine hK.out _ _ ⟨ca3_0, ca3_1, ca3_2, ca3_3, ca3_4⟩ (fun hS => ?_)
  clear hK K
  try simp only [Act.put, List.setIfInBounds_toArray, List.set_cons_zero, List.set_cons_succ]
  refine wpAnyH_ready (rs := [6]) (by kernel_rfl) (by simp) ?_
  refine AllReadyH.cons (o := { dst := some 18, op := Op.call { callee := Callee.value (Operand.func 14), args := #[Operand.tmp 12, Operand.tmp 17], argTypes := #[35, 36] }, type := 39, pos := "law.go:33", after := #[{ on := 0, ground := Ground.data }, { on := 5, ground := Ground.data }, { on := 4, ground := Ground.chain }], guard := none }) rfl (fun K hK => ?_) AllReadyH.nil
  go_simp
  refine (ex_laid _ _ _ rs).mono ?_
  rintro e u4 ⟨g, gw, rfl, g1, g2, hM4, hb⟩
  have ra4 := ra3.below hb ra3.lt
  have hB4 := hB3.trans (hb.mono hB3.size)
  have HT4 := Lib.hid (HT3.out.below hb HT3.out.lt)
  have g0 := hB3.size
  clear hb
  have ca4_0 : u4.cell? ⟨B1, 0, none⟩ = some (Value.int .i64 1) := ra4.cell 0 rfl
  have ca4_1 : u4.cell? ⟨B1, 1, none⟩ = some (Value.int .i64 3) := ra4.cell 1 rfl
  have ca4_2 : u4.cell? ⟨B1, 2, none⟩ = some (Value.int .i64 0) := ra4.cell 2 rfl
  have ca4_3 : u4.cell? ⟨B1, 3, none⟩ = some (Value.int .i64 0) := ra4.cell 3 rfl
  have ca4_4 : u4.cell? ⟨B1, 4, none⟩ = some (Value.int .i64 1) := ra4.cell 4 rfl
  refine hK.out _ _ ⟨ca4_0, ca4_1, ca4_2, ca4_3, ca4_4⟩ (fun hS => ?_)
  clear hK K
  try simp only [Act.put, List.setIfInBounds_toArray, List.set_cons_zero, List.set_cons_succ]
  refine wpAnyH_take (i := 7) (oi := { dst := some 2, op := Op.assign (Operand.tmp 18), type := 39, pos := "law.go:33", after := #[{ on := 6, ground := Ground.data }, { on := 6, ground := Ground.chain }, { on := 0, ground := Ground.phase }, { on := 1, ground := Ground.phase }, { on := 2, ground := Ground.phase }, { on := 3, ground := Ground.phase }, { on := 4, ground := Ground.phase }, { on := 5, ground := Ground.phase }, { on := 6, ground := Ground.phase }], guard := none }) (v := ?v7_4) rfl (by kernel_rfl) (by kernel_rfl) (by kernel_rfl) (fun _ _ _ h => h) (Or.inl ⟨by rfl, ?hy7_4⟩) hS ?rest7_4
  case hy7_4 =>
    intro w hSw
    (try dsimp only at hSw)
    go_simp
    try with_reducible rfl
  try simp only [Act.put, List.setIfInBounds_toArray, List.set_cons_zero, List.set_cons_succ]
  refine wpAnyH_done (by kernel_rfl) ?_ _
  go_wp2_with (refine wpList_load_row rfl 35 _ rfl _ rfl 35 _ (0, 0) _ ra4 Tryd.underlying35 rfl (by kernel_rfl) ?_)
  refine (ex_new _).mono ?_
  rintro e w5 ⟨f, q, n, fr, rfl, hF, hf, hq, hb⟩
  have l1 := hM4.lg
  have l2 := hM4.lw
  have HT5 := Lib.hid (HT4.out.below hb HT4.out.lt)
  have HM5 := Lib.hid (hM4.on hb)
  have HF5 := Lib.hid hF
  have hB5 := hB4.trans (hb.mono hB4.size)
  have z5 := hB4.size
  clear hb hF hM4 ra4
  go_wp2_with fail
  refine (touched_any g gw _ _ _ HM5.out).mono ?_
  rintro e w6 ⟨rfl, rfl⟩
  go_wp2_with fail
  refine (ex_step f q g gw 8 n 8 fr ⟨0, 0, false⟩ _ (by decide) HF5.out HM5.out HT5.out (by omega) (by omega) (by omega) (by omega) (by omega) (by omega) (by omega)).mono ?_
  rintro e w6 ⟨rfl, hm, hf6, hs⟩
  rw [ex_s1] at hf6 ⊢
  have HT6 := Lib.hid (HT5.out.spx hs (by simp <;> omega))
  have HM6 := Lib.hid hm
  have HF6 := Lib.hid hf6
  have hB6 := hs.below hB5 hB5.size (by simp <;> omega)
  clear hm hf6 hs
  go_wp2_with fail
  refine (ex_step f q g gw 8 n _ fr ⟨1, 0, false⟩ _ (by decide) HF6.out HM6.out HT6.out (by decide) (by omega) (by omega) (by omega) (by omega) (by omega) (by omega)).mono ?_
  rintro e w7 ⟨rfl, hm, hf6, hs⟩
  rw [ex_s2] at hf6 ⊢
  have HT7 := Lib.hid (HT6.out.spx hs (by simp <;> omega))
  have HM7 := Lib.hid hm
  have HF7 := Lib.hid hf6
  have hB7 := hs.below hB6 hB6.size (by simp <;> omega)
  clear hm hf6 hs
  go_wp2_with fail
  refine (ex_step f q g gw 8 n _ fr ⟨2, 10, false⟩ _ (by decide) HF7.out HM7.out HT7.out (by decide) (by omega) (by omega) (by omega) (by omega) (by omega) (by omega)).mono ?_
  rintro e w8 ⟨rfl, hm, hf6, hs⟩
  rw [ex_s3] at hf6 ⊢
  have HM8 := Lib.hid hm
  have HF8 := Lib.hid hf6
  have hB8 := hs.below hB7 hB7.size (by simp <;> omega)
  clear hm hf6 hs
  go_wp2_with fail
  refine (found_any f ex n fr ⟨2, 2, true⟩ _ HF8.out.row).mono ?_
  rintro e w9 ⟨rfl, j, rfl⟩
  rw [show foundV ⟨2, 2, true⟩ = .tuple #[.int .i64 2, .int .i64 2, .bool true] from rfl]
  go_wp2_with fail
  refine (ex_w2 _).mono ?_
  rintro e w10 ⟨rfl, hb⟩
  have hB10 := (bdrew hB8 j).trans (hb.mono (bdrew hB8 j).size)
  have HM10 := (HM8.out.drewN j).on hb
  clear hb
  go_wp2_with fail
  refine (touched_any g gw _ _ _ HM10).mono ?_
  rintro e w11 ⟨rfl, rfl⟩
  go_wp2_with fail
  go_ret
  exact ⟨rfl, hB10⟩
end Go.Proofs.YtbkcniknbpgphaaDoor
