/- One more is looked at, by the program; nothing else changes. -/
import Derived.Test.YtbkcniknbpgphaaDoorTurn
namespace Go.Proofs.YtbkcniknbpgphaaDoor
open Go.RowKit
attribute [local go_sem ↓] Go.wp_at_zero Go.wp_at_succ

theorem Tab.spx {w w' : World} {X : List Nat} (h : Tab w) (hs : SpX X w w') (hx : 0 ∉ X) : Tab w' := by
  have hl := h.lt
  obtain ⟨t, fr, ht⟩ := h
  exact ⟨t, fr, (hs.block 0 hl hx).trans ht⟩
theorem last_done {c : Cf} {x : Fs} {wd : Int} (hc : Rc c) (h0 : 0 ≤ x.po) (hlt : x.po < c.sl) : (!decide (0 ≤ slotI c (x.po + 1))) = doneB c ⟨x.po + 1, wd, false⟩ := by
  have q1 := hc.wo
  have q2 := hc.sl
  unfold doneB
  by_cases h : x.po + 1 < c.sl
  · have e := (slot_in (x := ⟨x.po + 1, wd, false⟩) hc (by simp only; omega) h).1
    simp only at e
    rw [e, decide_eq_true (by omega), decide_eq_false (by simp only; omega)]
    rfl
  · have e := slot_out (c := c) (x := ⟨x.po + 1, wd, false⟩) (by simp only; omega)
    simp only at e
    rw [e, decide_eq_false (by omega), decide_eq_true (by simp only; omega)]
    rfl
/-- what a step tells, and leaves -/
def RetStep (f q g gw c0 : Nat) (c : Cf) (n : Nat) (fr : Array Value) (k o : Int) (x : Fs) (s : St) (w : World) (e : Ending) (w' : World) : Prop :=
  e = .returned (.bool (doneB c (stepF c k o x s.ws))) ∧ MemAt w' g gw c0 ⟨s.ws, s.t + tch c x⟩ ∧ FindAt w' f q c n fr k o (stepF c k o x s.ws) ∧ SpX [f, g, gw] w w'
set_option maxRecDepth 100000 in
set_option maxHeartbeats 2000000 in
theorem step_no (f q g gw c0 : Nat) (c : Cf) (n : Nat) (fr : Array Value) (k o : Int) (x : Fs) (s : St) (w : World) (hc : Rc c) (hd : doneB c x = true) (hF : FindAt w f q c n fr k o x) (hM : MemAt w g gw c0 s) :
    Calls Tryd.prog 20 #[.pointer (some ⟨f, 0, none⟩), .pointer (some ⟨g, 0, none⟩)] w (RetStep f q g gw c0 c n fr k o x s w) := by
  have Hc := Lib.hid hc
  have Hd := Lib.hid hd
  have HF := Lib.hid hF
  have HM := Lib.hid hM
  have hx : x.is = true ∨ (x.is = false ∧ c.sl ≤ x.po) := by
    unfold doneB at hd
    cases h : x.is with
    | true => exact .inl rfl
    | false =>
      rw [h] at hd
      exact .inr ⟨rfl, by simpa using hd⟩
  clear hc hd hF hM
  have key : ∀ w1 b, Below w.heap.size w w1 → b = true → RetStep f q g gw c0 c n fr k o x s w (.returned (.bool b)) w1 := fun w1 b hb e => ⟨ret_bool (by rw [step_done Hd.out, Hd.out, e]), by rw [tch_done Hd.out]; exact HM.out.on hb, by rw [step_done Hd.out]; exact HF.out.on hb, .of_below hb⟩
  rcases hx with hx | ⟨hx, hp⟩
  · go_enter Tryd.func20, Tryd.ntmps20
    go_wp2_with fail
    refine (cell_find f c n fr x _ Hc.out HF.out.row).mono ?_
    rintro e w1 ⟨rfl, hb⟩
    have c8 := (HF.out.on hb).row.cell 8 rfl
    rw [hx] at c8
    clear hx
    go_wp2_with fail
    go_ret
    exact key _ _ hb rfl
  · have hs := slot_out hp
    clear hp
    go_enter Tryd.func20, Tryd.ntmps20
    go_wp2_with fail
    refine (cell_find f c n fr x _ Hc.out HF.out.row).mono ?_
    rw [hs, show decide ((0 : Int) ≤ -1) = false from rfl]
    rintro e w1 ⟨rfl, hb⟩
    have c8 := (HF.out.on hb).row.cell 8 rfl
    rw [hx] at c8
    clear hx hs
    go_wp2_with fail
    go_ret
    exact key _ _ hb rfl
set_option maxRecDepth 100000 in
set_option maxHeartbeats 2000000 in
theorem step_go (f q g gw c0 : Nat) (c : Cf) (n : Nat) (fr : Array Value) (k o : Int) (x : Fs) (s : St) (w : World) (hc : Rc c) (hd : doneB c x = false) (h0 : 0 ≤ x.po) (hF : FindAt w f q c n fr k o x) (hM : MemAt w g gw c0 s) (hT : Tab w)
    (hl : s.ws.length = cellsN c) (ht : s.t < 1000000) (hw : ∀ (k : Nat) x, s.ws[k]? = some x → -9223372036854775808 ≤ x ∧ x ≤ 9223372036854775807)
    (hfg : f ≠ g) (hfw : f ≠ gw) (hqg : q ≠ g) (hqw : q ≠ gw) (z1 : 0 < f) (z2 : 0 < g) (z3 : 0 < gw) :
    Calls Tryd.prog 20 #[.pointer (some ⟨f, 0, none⟩), .pointer (some ⟨g, 0, none⟩)] w (RetStep f q g gw c0 c n fr k o x s w) := by
  obtain ⟨his, hlt⟩ := done_parts hd
  obtain ⟨hs1, hs2⟩ := slot_in hc h0 hlt
  have ha : s.ws[slotN c x]? = some (lookI c x s.ws) := by
    have := St.at_nat (s := s) (k := slotN c x) (by rw [hl]; exact hs2)
    rw [this]
    rfl
  obtain ⟨hb1, hb2⟩ := hw _ _ ha
  have hsl : s.at ((slotN c x : Nat) : Int) = lookI c x s.ws := rfl
  obtain ⟨N, hN⟩ : ∃ N, N = slotN c x := ⟨_, rfl⟩
  obtain ⟨v, hv⟩ : ∃ v, v = lookI c x s.ws := ⟨_, rfl⟩
  rw [← hN] at hs1 hs2 hsl
  rw [← hv] at hsl hb1 hb2
  have h16 : x.po ≤ 15 := by have := hc.sl; omega
  have Hv := Lib.hid hv
  have Hc := Lib.hid hc
  have Hd := Lib.hid hd
  have HF := Lib.hid hF
  have HM := Lib.hid hM
  have HT := Lib.hid hT
  have Hl := Lib.hid hl
  have hgf := hfg.symm
  have hwf := hfw.symm
  have hfX : f ∈ [f, g, gw] := by simp
  have hne := HM.out.ne
  have Hi := Lib.hid his
  clear hc hd hF hM hT hl hN hv ha hw his
  go_enter Tryd.func20, Tryd.ntmps20
  go_wp2_with fail
  refine (cell_find f c n fr x _ Hc.out HF.out.row).mono ?_
  rw [hs1, decide_eq_true (show (0 : Int) ≤ (N : Int) by omega)]
  rintro e w1 ⟨rfl, hb⟩
  clear hs1
  have c8 := (HF.out.on hb).row.cell 8 rfl
  rw [Hi.out] at c8
  have HM1 := Lib.hid (HM.out.on hb)
  have HF1 := Lib.hid (HF.out.on hb)
  have HT1 := Lib.hid (HT.out.below hb HT.out.lt)
  have hS1 : SpX [f, g, gw] w w1 := .of_below hb
  clear HM HF HT hb
  go_wp2_with fail
  refine (load_in g gw c0 s N _ HM1.out (by rw [Hl.out]; exact hs2) ht).mono ?_
  rw [hsl]
  rintro e w2 ⟨rfl, hm, hs⟩
  have HM2 := Lib.hid hm
  have HF2 := Lib.hid (HF1.out.spx hs (by simp <;> omega) (by simp <;> omega))
  have HT2 := Lib.hid (HT1.out.spx hs (by simp <;> omega))
  have hS2 := hS1.trans (hs.more (Y := [f, g, gw]) (by simp <;> omega))
  clear hm hs HM1 HF1 HT1 hS1 c8
  have c7 := HF2.out.row.cell 7 rfl
  have g7 := HF2.out.row.frozen 7
  have HF3 := Lib.hid (HF2.out.set7 v)
  have e7 := HF3.out.row.cell 7 rfl
  have HM3 := Lib.hid (HM2.out.spx (sp_set (f := f) (j := 7) (v := .int .i64 v)) (by simpa using hgf) (by simpa using hwf))
  have HT3 := Lib.hid (HT2.out.spx (sp_set (f := f) (j := 7) (v := .int .i64 v)) (by simp <;> omega))
  have hS3 := hS2.set hfX 7 (.int .i64 v)
  clear HF2 HM2 HT2 hS2
  go_wp2_with fail
  generalize w2.setCell ⟨f, 7, none⟩ (.int .i64 v) = w3 at *
  clear c7 g7
  refine (decode_any v _ HT3.out hb1 hb2).mono ?_
  obtain ⟨y, hy⟩ : ∃ y, y = decS v := ⟨_, rfl⟩
  rw [← hy]
  have Hy := Lib.hid hy
  clear hy
  rintro e w4 ⟨rfl, hb⟩
  have HM4 := Lib.hid ((HM3.out.on hb).alloc (.cells #[Value.int .i64 y.st, Value.int .i64 y.ow, Value.int .i64 y.sr, Value.bool y.br, Value.bool y.ma, Value.int .i64 y.us, Value.int .i64 y.ge, Value.int .i64 y.ep, Value.int .i64 y.ve] 23))
  have HF4 := Lib.hid ((HF3.out.on hb).on (bnew w4 (.cells #[Value.int .i64 y.st, Value.int .i64 y.ow, Value.int .i64 y.sr, Value.bool y.br, Value.bool y.ma, Value.int .i64 y.us, Value.int .i64 y.ge, Value.int .i64 y.ep, Value.int .i64 y.ve] 23)))
  have hS4 := (hS3.on hb).alloc (.cells #[Value.int .i64 y.st, Value.int .i64 y.ow, Value.int .i64 y.sr, Value.bool y.br, Value.bool y.ma, Value.int .i64 y.us, Value.int .i64 y.ge, Value.int .i64 y.ep, Value.int .i64 y.ve] 23)
  have r4 := RowAt.new w4 23 #[Value.int .i64 y.st, Value.int .i64 y.ow, Value.int .i64 y.sr, Value.bool y.br, Value.bool y.ma, Value.int .i64 y.us, Value.int .i64 y.ge, Value.int .i64 y.ep, Value.int .i64 y.ve]
  have hB4 : f < w4.heap.size := (HF3.out.on hb).row.lt
  clear hb HM3 HF3 HT3 hS3 e7
  rw [Hi.out] at HF4
  cases hdc : decB v with
  | false =>
    have HW : Hid (wfitB (lookI c x s.ws) k o = false) := Lib.hid (by rw [← Hv.out, wfitB, hdc]; rfl)
    clear hdc
    rw [Hv.out] at HF4
    go_wp2_with fail
    obtain ⟨B, eB⟩ : ∃ B, B = w4.heap.size := ⟨_, rfl⟩
    rw [← eB] at r4 hB4 ⊢
    obtain ⟨W5, hW⟩ : ∃ W5, W5 = w4.alloc (.cells #[Value.int .i64 y.st, Value.int .i64 y.ow, Value.int .i64 y.sr, Value.bool y.br, Value.bool y.ma, Value.int .i64 y.us, Value.int .i64 y.ge, Value.int .i64 y.ep, Value.int .i64 y.ve] 23) := ⟨_, rfl⟩
    rw [← hW] at HM4 HF4 hS4 r4 ⊢
    clear hW eB
    have hBf : B ≠ f := by omega
    have ry0 := r4.drew
    have HF0 := Lib.hid HF4.out.drew
    have HM0 := Lib.hid HM4.out.drew
    have hS0 := hS4.drew
    clear HF4 HM4 hS4 r4
    have cy0_0 : W5.drew.cell? ⟨B, 0, none⟩ = some (Value.int .i64 y.st) := ry0.cell 0 rfl
    have cy0_1 : W5.drew.cell? ⟨B, 1, none⟩ = some (Value.int .i64 y.ow) := ry0.cell 1 rfl
    have cy0_2 : W5.drew.cell? ⟨B, 2, none⟩ = some (Value.int .i64 y.sr) := ry0.cell 2 rfl
    have cy0_3 : W5.drew.cell? ⟨B, 3, none⟩ = some (Value.bool y.br) := ry0.cell 3 rfl
    have cy0_4 : W5.drew.cell? ⟨B, 4, none⟩ = some (Value.bool y.ma) := ry0.cell 4 rfl
    have cy0_5 : W5.drew.cell? ⟨B, 5, none⟩ = some (Value.int .i64 y.us) := ry0.cell 5 rfl
    have cy0_6 : W5.drew.cell? ⟨B, 6, none⟩ = some (Value.int .i64 y.ge) := ry0.cell 6 rfl
    have cy0_7 : W5.drew.cell? ⟨B, 7, none⟩ = some (Value.int .i64 y.ep) := ry0.cell 7 rfl
    have cy0_8 : W5.drew.cell? ⟨B, 8, none⟩ = some (Value.int .i64 y.ve) := ry0.cell 8 rfl
    have x0_0 : W5.drew.cell? ⟨f, 5, none⟩ = some (.func (.func n) #[] fr) := HF0.out.row.cell 5 rfl
    have d8 : W5.drew.cell? ⟨f, 8, none⟩ = some (.bool false) := HF0.out.row.cell 8 rfl
    have g8 : W5.drew.frozen? ⟨f, 8, none⟩ = false := HF0.out.row.frozen 8
    refine wp_region_held_drew (S := (fun w' => w'.cell? ⟨B, 0, none⟩ = some (Value.int .i64 y.st) ∧ w'.cell? ⟨B, 1, none⟩ = some (Value.int .i64 y.ow) ∧ w'.cell? ⟨B, 2, none⟩ = some (Value.int .i64 y.sr) ∧ w'.cell? ⟨B, 3, none⟩ = some (Value.bool y.br) ∧ w'.cell? ⟨B, 4, none⟩ = some (Value.bool y.ma) ∧ w'.cell? ⟨B, 5, none⟩ = some (Value.int .i64 y.us) ∧ w'.cell? ⟨B, 6, none⟩ = some (Value.int .i64 y.ge) ∧ w'.cell? ⟨B, 7, none⟩ = some (Value.int .i64 y.ep) ∧ w'.cell? ⟨B, 8, none⟩ = some (Value.int .i64 y.ve) ∧ w'.cell? ⟨f, 5, none⟩ = some (.func (.func n) #[] fr))) (by kernel_rfl) ⟨cy0_0, cy0_1, cy0_2, cy0_3, cy0_4, cy0_5, cy0_6, cy0_7, cy0_8, x0_0⟩ (fun hS => ?_)
    generalize W5.drew = u0 at *
    refine wpAnyH_take (i := 0) (oi := { dst := some 36, op := Op.move (Operand.tmp 0), type := 41, pos := "find.go:95", after := #[], guard := none }) (v := ?v0_1) rfl (by kernel_rfl) (by kernel_rfl) (by kernel_rfl) (fun _ _ _ h => h) (Or.inl ⟨by rfl, ?hy0_1⟩) hS ?rest0_1
    case hy0_1 =>
      intro w hSw
      (try dsimp only at hSw)
      go_simp
      try with_reducible rfl
    try simp only [Act.put, List.setIfInBounds_toArray, List.set_cons_zero, List.set_cons_succ]
    refine wpAnyH_take (i := 1) (oi := { dst := some 37, op := Op.move (Operand.tmp 8), type := 4, pos := "find.go:95", after := #[], guard := none }) (v := ?v1_2) rfl (by kernel_rfl) (by kernel_rfl) (by kernel_rfl) (fun _ _ _ h => h) (Or.inl ⟨by rfl, ?hy1_2⟩) hS ?rest1_2
    case hy1_2 =>
      intro w hSw
      (try dsimp only at hSw)
      go_simp
      try with_reducible rfl
    try simp only [Act.put, List.setIfInBounds_toArray, List.set_cons_zero, List.set_cons_succ]
    refine wpAnyH_take (i := 2) (oi := { dst := some 38, op := Op.move (Operand.tmp 37), type := 4, pos := "find.go:95", after := #[{ on := 1, ground := Ground.data }], guard := none }) (v := ?v2_3) rfl (by kernel_rfl) (by kernel_rfl) (by kernel_rfl) (fun _ _ _ h => h) (Or.inl ⟨by rfl, ?hy2_3⟩) hS ?rest2_3
    case hy2_3 =>
      intro w hSw
      (try dsimp only at hSw)
      go_simp
      try with_reducible rfl
    try simp only [Act.put, List.setIfInBounds_toArray, List.set_cons_zero, List.set_cons_succ]
    refine wpAnyH_take (i := 3) (oi := { dst := some 39, op := Op.move (Operand.tmp 0), type := 41, pos := "find.go:95", after := #[{ on := 2, ground := Ground.guard }], guard := some (2, true) }) (v := undef) rfl (by kernel_rfl) (by kernel_rfl) (by kernel_rfl) (fun _ _ _ h => h) (Or.inr ⟨by rfl, rfl⟩) hS ?_
    try simp only [Act.put, List.setIfInBounds_toArray, List.set_cons_zero, List.set_cons_succ]
    refine wpAnyH_take (i := 4) (oi := { dst := some 40, op := Op.nilCheck (Operand.tmp 39), type := 0, pos := "find.go:95", after := #[{ on := 3, ground := Ground.data }, { on := 2, ground := Ground.guard }], guard := some (2, true) }) (v := undef) rfl (by kernel_rfl) (by kernel_rfl) (by kernel_rfl) (fun _ _ _ h => h) (Or.inr ⟨by rfl, rfl⟩) hS ?_
    try simp only [Act.put, List.setIfInBounds_toArray, List.set_cons_zero, List.set_cons_succ]
    refine wpAnyH_take (i := 5) (oi := { dst := some 41, op := Op.fieldAddr 77 (Operand.tmp 40) 1, type := 0, pos := "find.go:95", after := #[{ on := 4, ground := Ground.data }, { on := 2, ground := Ground.guard }], guard := some (2, true) }) (v := undef) rfl (by kernel_rfl) (by kernel_rfl) (by kernel_rfl) (fun _ _ _ h => h) (Or.inr ⟨by rfl, rfl⟩) hS ?_
    try simp only [Act.put, List.setIfInBounds_toArray, List.set_cons_zero, List.set_cons_succ]
    refine wpAnyH_take (i := 6) (oi := { dst := some 42, op := Op.load 68 (Operand.tmp 41), type := 68, pos := "find.go:95", after := #[{ on := 5, ground := Ground.data }, { on := 2, ground := Ground.guard }], guard := some (2, true) }) (v := undef) rfl (by kernel_rfl) (by kernel_rfl) (by kernel_rfl) (fun _ _ _ h => h) (Or.inr ⟨by rfl, rfl⟩) hS ?_
    try simp only [Act.put, List.setIfInBounds_toArray, List.set_cons_zero, List.set_cons_succ]
    refine wpAnyH_take (i := 7) (oi := { dst := some 43, op := Op.load 23 (Operand.tmp 7), type := 23, pos := "find.go:95", after := #[{ on := 2, ground := Ground.guard }], guard := some (2, true) }) (v := undef) rfl (by kernel_rfl) (by kernel_rfl) (by kernel_rfl) (fun _ _ _ h => h) (Or.inr ⟨by rfl, rfl⟩) hS ?_
    try simp only [Act.put, List.setIfInBounds_toArray, List.set_cons_zero, List.set_cons_succ]
    refine wpAnyH_take (i := 8) (oi := { dst := some 44, op := Op.call { callee := Callee.value (Operand.tmp 42), args := #[Operand.tmp 43], argTypes := #[23] }, type := 4, pos := "find.go:95", after := #[{ on := 6, ground := Ground.data }, { on := 7, ground := Ground.data }, { on := 2, ground := Ground.chain }, { on := 2, ground := Ground.guard }], guard := some (2, true) }) (v := undef) rfl (by kernel_rfl) (by kernel_rfl) (by kernel_rfl) (fun _ _ _ h => h) (Or.inr ⟨by rfl, rfl⟩) hS ?_
    try simp only [Act.put, List.setIfInBounds_toArray, List.set_cons_zero, List.set_cons_succ]
    refine wpAnyH_take (i := 9) (oi := { dst := some 45, op := Op.pick (Operand.tmp 38) (Operand.tmp 44) (Operand.const (Value.bool false)), type := 4, pos := "find.go:95", after := #[{ on := 2, ground := Ground.data }, { on := 8, ground := Ground.data }], guard := none }) (v := ?v9_4) rfl (by kernel_rfl) (by kernel_rfl) (by kernel_rfl) (fun _ _ _ h => h) (Or.inl ⟨by rfl, ?hy9_4⟩) hS ?rest9_4
    case hy9_4 =>
      intro w hSw
      (try dsimp only at hSw)
      go_simp
      try with_reducible rfl
    try simp only [Act.put, List.setIfInBounds_toArray, List.set_cons_zero, List.set_cons_succ]
    refine wpAnyH_take (i := 10) (oi := { dst := some 46, op := Op.nilCheck (Operand.tmp 36), type := 0, pos := "find.go:95", after := #[{ on := 0, ground := Ground.data }, { on := 0, ground := Ground.phase }, { on := 1, ground := Ground.phase }, { on := 2, ground := Ground.phase }, { on := 3, ground := Ground.phase }, { on := 4, ground := Ground.phase }, { on := 5, ground := Ground.phase }, { on := 6, ground := Ground.phase }, { on := 7, ground := Ground.phase }, { on := 8, ground := Ground.phase }, { on := 9, ground := Ground.phase }], guard := none }) (v := ?v10_5) rfl (by kernel_rfl) (by kernel_rfl) (by kernel_rfl) (fun _ _ _ h => h) (Or.inl ⟨by rfl, ?hy10_5⟩) hS ?rest10_5
    case hy10_5 =>
      intro w hSw
      (try dsimp only at hSw)
      go_simp
      try with_reducible rfl
    try simp only [Act.put, List.setIfInBounds_toArray, List.set_cons_zero, List.set_cons_succ]
    refine wpAnyH_take (i := 11) (oi := { dst := some 47, op := Op.fieldAddr 77 (Operand.tmp 46) 4, type := 0, pos := "find.go:95", after := #[{ on := 10, ground := Ground.data }, { on := 0, ground := Ground.phase }, { on := 1, ground := Ground.phase }, { on := 2, ground := Ground.phase }, { on := 3, ground := Ground.phase }, { on := 4, ground := Ground.phase }, { on := 5, ground := Ground.phase }, { on := 6, ground := Ground.phase }, { on := 7, ground := Ground.phase }, { on := 8, ground := Ground.phase }, { on := 9, ground := Ground.phase }], guard := none }) (v := ?v11_6) rfl (by kernel_rfl) (by kernel_rfl) (by kernel_rfl) (fun _ _ _ h => h) (Or.inl ⟨by rfl, ?hy11_6⟩) hS ?rest11_6
    case hy11_6 =>
      intro w hSw
      (try dsimp only at hSw)
      go_simp
      try with_reducible rfl
    try simp only [Act.put, List.setIfInBounds_toArray, List.set_cons_zero, List.set_cons_succ]
    refine wpAnyH_ready (rs := [12]) (by kernel_rfl) (by simp) ?_
    refine AllReadyH.cons (o := { dst := none, op := Op.store 4 (Operand.tmp 47) (Operand.tmp 45), type := 0, pos := "find.go:95", after := #[{ on := 11, ground := Ground.data }, { on := 9, ground := Ground.data }, { on := 8, ground := Ground.chain }, { on := 0, ground := Ground.phase }, { on := 1, ground := Ground.phase }, { on := 2, ground := Ground.phase }, { on := 3, ground := Ground.phase }, { on := 4, ground := Ground.phase }, { on := 5, ground := Ground.phase }, { on := 6, ground := Ground.phase }, { on := 7, ground := Ground.phase }, { on := 8, ground := Ground.phase }, { on := 9, ground := Ground.phase }], guard := none }) rfl (fun K hK => ?_) AllReadyH.nil
    go_simp
    have HF1 := Lib.hid (HF0.out.set8 false)
    have hS1 := hS0.set hfX 8 (.bool false)
    have HM1 := Lib.hid (HM0.out.spx (sp_set (f := f) (j := 8) (v := .bool false)) (by simpa using hgf) (by simpa using hwf))
    have ry1 := ry0.putOther ⟨f, 8, none⟩ hBf (.bool false)
    have cy1_0 : (u0.setCell ⟨f, 8, none⟩ (.bool false)).cell? ⟨B, 0, none⟩ = some (Value.int .i64 y.st) := ry1.cell 0 rfl
    have cy1_1 : (u0.setCell ⟨f, 8, none⟩ (.bool false)).cell? ⟨B, 1, none⟩ = some (Value.int .i64 y.ow) := ry1.cell 1 rfl
    have cy1_2 : (u0.setCell ⟨f, 8, none⟩ (.bool false)).cell? ⟨B, 2, none⟩ = some (Value.int .i64 y.sr) := ry1.cell 2 rfl
    have cy1_3 : (u0.setCell ⟨f, 8, none⟩ (.bool false)).cell? ⟨B, 3, none⟩ = some (Value.bool y.br) := ry1.cell 3 rfl
    have cy1_4 : (u0.setCell ⟨f, 8, none⟩ (.bool false)).cell? ⟨B, 4, none⟩ = some (Value.bool y.ma) := ry1.cell 4 rfl
    have cy1_5 : (u0.setCell ⟨f, 8, none⟩ (.bool false)).cell? ⟨B, 5, none⟩ = some (Value.int .i64 y.us) := ry1.cell 5 rfl
    have cy1_6 : (u0.setCell ⟨f, 8, none⟩ (.bool false)).cell? ⟨B, 6, none⟩ = some (Value.int .i64 y.ge) := ry1.cell 6 rfl
    have cy1_7 : (u0.setCell ⟨f, 8, none⟩ (.bool false)).cell? ⟨B, 7, none⟩ = some (Value.int .i64 y.ep) := ry1.cell 7 rfl
    have cy1_8 : (u0.setCell ⟨f, 8, none⟩ (.bool false)).cell? ⟨B, 8, none⟩ = some (Value.int .i64 y.ve) := ry1.cell 8 rfl
    have x1_0 : (u0.setCell ⟨f, 8, none⟩ (.bool false)).cell? ⟨f, 5, none⟩ = some (.func (.func n) #[] fr) := HF1.out.row.cell 5 rfl
    refine hK.out _ _ ⟨cy1_0, cy1_1, cy1_2, cy1_3, cy1_4, cy1_5, cy1_6, cy1_7, cy1_8, x1_0⟩ (fun hS => ?_)
    clear hK K
    try simp only [Act.put, List.setIfInBounds_toArray, List.set_cons_zero, List.set_cons_succ]
    refine wpAnyH_done (by kernel_rfl) ?_ _
    have e8 : (u0.setCell ⟨f, 8, none⟩ (.bool false)).cell? ⟨f, 8, none⟩ = some (.bool false) := HF1.out.row.cell 8 rfl
    have e6 : (u0.setCell ⟨f, 8, none⟩ (.bool false)).cell? ⟨f, 6, none⟩ = some (.int .i64 x.po) := HF1.out.row.cell 6 rfl
    have g6 : (u0.setCell ⟨f, 8, none⟩ (.bool false)).frozen? ⟨f, 6, none⟩ = false := HF1.out.row.frozen 6
    have HF9 := Lib.hid (HF1.out.set6 (x.po + 1))
    have hS9 := hS1.set hfX 6 (.int .i64 (x.po + 1))
    have HM9 := Lib.hid (HM1.out.spx (sp_set (f := f) (j := 6) (v := .int .i64 (x.po + 1))) (by simpa using hgf) (by simpa using hwf))
    obtain ⟨WZ, hZ⟩ : ∃ WZ, WZ = (u0.setCell ⟨f, 8, none⟩ (.bool false)) := ⟨_, rfl⟩
    rw [← hZ] at HF9 hS9 HM9 e8 e6 g6 ⊢
    clear hZ
    go_wp2_with fail
    refine (cell_find f c n fr _ _ Hc.out HF9.out.row).mono ?_
    rintro e w9 ⟨rfl, hb⟩
    go_wp2_with fail
    go_ret
    exact ⟨by rw [step_miss Hd.out HW.out]; exact ret_bool (last_done Hc.out h0 hlt), by rw [tch_go Hd.out]; exact HM9.out.on hb, by rw [step_miss Hd.out HW.out]; exact HF9.out.on hb, hS9.on hb⟩
  | true =>
    cases hq : fitsB y k o with
    | false =>
      have HW : Hid (wfitB (lookI c x s.ws) k o = false) := Lib.hid (by rw [← Hv.out, wfitB, hdc, ← Hy.out, hq]; rfl)
      have HQ := Lib.hid hq
      clear hdc hq
      rw [Hv.out] at HF4
      go_wp2_with fail
      obtain ⟨B, eB⟩ : ∃ B, B = w4.heap.size := ⟨_, rfl⟩
      rw [← eB] at r4 hB4 ⊢
      obtain ⟨W5, hW⟩ : ∃ W5, W5 = w4.alloc (.cells #[Value.int .i64 y.st, Value.int .i64 y.ow, Value.int .i64 y.sr, Value.bool y.br, Value.bool y.ma, Value.int .i64 y.us, Value.int .i64 y.ge, Value.int .i64 y.ep, Value.int .i64 y.ve] 23) := ⟨_, rfl⟩
      rw [← hW] at HM4 HF4 hS4 r4 ⊢
      clear hW eB
      have hBf : B ≠ f := by omega
      have ry0 := r4.drew
      have HF0 := Lib.hid HF4.out.drew
      have HM0 := Lib.hid HM4.out.drew
      have hS0 := hS4.drew
      clear HF4 HM4 hS4 r4
      have cy0_0 : W5.drew.cell? ⟨B, 0, none⟩ = some (Value.int .i64 y.st) := ry0.cell 0 rfl
      have cy0_1 : W5.drew.cell? ⟨B, 1, none⟩ = some (Value.int .i64 y.ow) := ry0.cell 1 rfl
      have cy0_2 : W5.drew.cell? ⟨B, 2, none⟩ = some (Value.int .i64 y.sr) := ry0.cell 2 rfl
      have cy0_3 : W5.drew.cell? ⟨B, 3, none⟩ = some (Value.bool y.br) := ry0.cell 3 rfl
      have cy0_4 : W5.drew.cell? ⟨B, 4, none⟩ = some (Value.bool y.ma) := ry0.cell 4 rfl
      have cy0_5 : W5.drew.cell? ⟨B, 5, none⟩ = some (Value.int .i64 y.us) := ry0.cell 5 rfl
      have cy0_6 : W5.drew.cell? ⟨B, 6, none⟩ = some (Value.int .i64 y.ge) := ry0.cell 6 rfl
      have cy0_7 : W5.drew.cell? ⟨B, 7, none⟩ = some (Value.int .i64 y.ep) := ry0.cell 7 rfl
      have cy0_8 : W5.drew.cell? ⟨B, 8, none⟩ = some (Value.int .i64 y.ve) := ry0.cell 8 rfl
      have x0_0 : W5.drew.cell? ⟨f, 5, none⟩ = some (.func (.func n) #[] fr) := HF0.out.row.cell 5 rfl
      have hen := HF0.out.fit.en
      refine wp_region_held_drew (S := (fun w' => w'.cell? ⟨B, 0, none⟩ = some (Value.int .i64 y.st) ∧ w'.cell? ⟨B, 1, none⟩ = some (Value.int .i64 y.ow) ∧ w'.cell? ⟨B, 2, none⟩ = some (Value.int .i64 y.sr) ∧ w'.cell? ⟨B, 3, none⟩ = some (Value.bool y.br) ∧ w'.cell? ⟨B, 4, none⟩ = some (Value.bool y.ma) ∧ w'.cell? ⟨B, 5, none⟩ = some (Value.int .i64 y.us) ∧ w'.cell? ⟨B, 6, none⟩ = some (Value.int .i64 y.ge) ∧ w'.cell? ⟨B, 7, none⟩ = some (Value.int .i64 y.ep) ∧ w'.cell? ⟨B, 8, none⟩ = some (Value.int .i64 y.ve) ∧ w'.cell? ⟨f, 5, none⟩ = some (.func (.func n) #[] fr))) (by kernel_rfl) ⟨cy0_0, cy0_1, cy0_2, cy0_3, cy0_4, cy0_5, cy0_6, cy0_7, cy0_8, x0_0⟩ (fun hS => ?_)
      generalize W5.drew = u0 at *
      refine wpAnyH_take (i := 0) (oi := { dst := some 36, op := Op.move (Operand.tmp 0), type := 41, pos := "find.go:95", after := #[], guard := none }) (v := ?v0_7) rfl (by kernel_rfl) (by kernel_rfl) (by kernel_rfl) (fun _ _ _ h => h) (Or.inl ⟨by rfl, ?hy0_7⟩) hS ?rest0_7
      case hy0_7 =>
        intro w hSw
        (try dsimp only at hSw)
        go_simp
        try with_reducible rfl
      try simp only [Act.put, List.setIfInBounds_toArray, List.set_cons_zero, List.set_cons_succ]
      refine wpAnyH_take (i := 1) (oi := { dst := some 37, op := Op.move (Operand.tmp 8), type := 4, pos := "find.go:95", after := #[], guard := none }) (v := ?v1_8) rfl (by kernel_rfl) (by kernel_rfl) (by kernel_rfl) (fun _ _ _ h => h) (Or.inl ⟨by rfl, ?hy1_8⟩) hS ?rest1_8
      case hy1_8 =>
        intro w hSw
        (try dsimp only at hSw)
        go_simp
        try with_reducible rfl
      try simp only [Act.put, List.setIfInBounds_toArray, List.set_cons_zero, List.set_cons_succ]
      refine wpAnyH_take (i := 2) (oi := { dst := some 38, op := Op.move (Operand.tmp 37), type := 4, pos := "find.go:95", after := #[{ on := 1, ground := Ground.data }], guard := none }) (v := ?v2_9) rfl (by kernel_rfl) (by kernel_rfl) (by kernel_rfl) (fun _ _ _ h => h) (Or.inl ⟨by rfl, ?hy2_9⟩) hS ?rest2_9
      case hy2_9 =>
        intro w hSw
        (try dsimp only at hSw)
        go_simp
        try with_reducible rfl
      try simp only [Act.put, List.setIfInBounds_toArray, List.set_cons_zero, List.set_cons_succ]
      refine wpAnyH_take (i := 3) (oi := { dst := some 39, op := Op.move (Operand.tmp 0), type := 41, pos := "find.go:95", after := #[{ on := 2, ground := Ground.guard }], guard := some (2, true) }) (v := ?v3_10) rfl (by kernel_rfl) (by kernel_rfl) (by kernel_rfl) (fun _ _ _ h => h) (Or.inl ⟨by rfl, ?hy3_10⟩) hS ?rest3_10
      case hy3_10 =>
        intro w hSw
        (try dsimp only at hSw)
        go_simp
        try with_reducible rfl
      try simp only [Act.put, List.setIfInBounds_toArray, List.set_cons_zero, List.set_cons_succ]
      refine wpAnyH_take (i := 4) (oi := { dst := some 40, op := Op.nilCheck (Operand.tmp 39), type := 0, pos := "find.go:95", after := #[{ on := 3, ground := Ground.data }, { on := 2, ground := Ground.guard }], guard := some (2, true) }) (v := ?v4_11) rfl (by kernel_rfl) (by kernel_rfl) (by kernel_rfl) (fun _ _ _ h => h) (Or.inl ⟨by rfl, ?hy4_11⟩) hS ?rest4_11
      case hy4_11 =>
        intro w hSw
        (try dsimp only at hSw)
        go_simp
        try with_reducible rfl
      try simp only [Act.put, List.setIfInBounds_toArray, List.set_cons_zero, List.set_cons_succ]
      refine wpAnyH_take (i := 5) (oi := { dst := some 41, op := Op.fieldAddr 77 (Operand.tmp 40) 1, type := 0, pos := "find.go:95", after := #[{ on := 4, ground := Ground.data }, { on := 2, ground := Ground.guard }], guard := some (2, true) }) (v := ?v5_12) rfl (by kernel_rfl) (by kernel_rfl) (by kernel_rfl) (fun _ _ _ h => h) (Or.inl ⟨by rfl, ?hy5_12⟩) hS ?rest5_12
      case hy5_12 =>
        intro w hSw
        (try dsimp only at hSw)
        go_simp
        try with_reducible rfl
      try simp only [Act.put, List.setIfInBounds_toArray, List.set_cons_zero, List.set_cons_succ]
      refine wpAnyH_take (i := 6) (oi := { dst := some 42, op := Op.load 68 (Operand.tmp 41), type := 68, pos := "find.go:95", after := #[{ on := 5, ground := Ground.data }, { on := 2, ground := Ground.guard }], guard := some (2, true) }) (v := ?v6_13) rfl (by kernel_rfl) (by kernel_rfl) (by kernel_rfl) (fun _ _ _ h => h) (Or.inl ⟨by rfl, ?hy6_13⟩) hS ?rest6_13
      case hy6_13 =>
        intro w hSw
        (try dsimp only at hSw)
        go_simp
        try with_reducible rfl
      try simp only [Act.put, List.setIfInBounds_toArray, List.set_cons_zero, List.set_cons_succ]
      refine wpAnyH_take (i := 7) (oi := { dst := some 43, op := Op.load 23 (Operand.tmp 7), type := 23, pos := "find.go:95", after := #[{ on := 2, ground := Ground.guard }], guard := some (2, true) }) (v := ?v7_14) rfl (by kernel_rfl) (by kernel_rfl) (by kernel_rfl) (fun _ _ _ h => h) (Or.inl ⟨by rfl, ?hy7_14⟩) hS ?rest7_14
      case hy7_14 =>
        intro w hSw
        (try dsimp only at hSw)
        go_simp
        try with_reducible rfl
      try simp only [Act.put, List.setIfInBounds_toArray, List.set_cons_zero, List.set_cons_succ]
      refine wpAnyH_ready (rs := [8]) (by kernel_rfl) (by simp) ?_
      refine AllReadyH.cons (o := { dst := some 44, op := Op.call { callee := Callee.value (Operand.tmp 42), args := #[Operand.tmp 43], argTypes := #[23] }, type := 4, pos := "find.go:95", after := #[{ on := 6, ground := Ground.data }, { on := 7, ground := Ground.data }, { on := 2, ground := Ground.chain }, { on := 2, ground := Ground.guard }], guard := some (2, true) }) rfl (fun K hK => ?_) AllReadyH.nil
      go_simp
      refine (HF0.out.fit.call y _ HF0.out.fit.cap).mono ?_
      rintro e u1 ⟨rfl, hb⟩
      have ry1 := ry0.below hb ry0.lt
      have HF1 := Lib.hid (HF0.out.on hb)
      have HM1 := Lib.hid (HM0.out.on hb)
      have hS1 := hS0.on hb
      clear hb
      have d8 : u1.cell? ⟨f, 8, none⟩ = some (.bool false) := HF1.out.row.cell 8 rfl
      have g8 : u1.frozen? ⟨f, 8, none⟩ = false := HF1.out.row.frozen 8
      have cy1_0 : u1.cell? ⟨B, 0, none⟩ = some (Value.int .i64 y.st) := ry1.cell 0 rfl
      have cy1_1 : u1.cell? ⟨B, 1, none⟩ = some (Value.int .i64 y.ow) := ry1.cell 1 rfl
      have cy1_2 : u1.cell? ⟨B, 2, none⟩ = some (Value.int .i64 y.sr) := ry1.cell 2 rfl
      have cy1_3 : u1.cell? ⟨B, 3, none⟩ = some (Value.bool y.br) := ry1.cell 3 rfl
      have cy1_4 : u1.cell? ⟨B, 4, none⟩ = some (Value.bool y.ma) := ry1.cell 4 rfl
      have cy1_5 : u1.cell? ⟨B, 5, none⟩ = some (Value.int .i64 y.us) := ry1.cell 5 rfl
      have cy1_6 : u1.cell? ⟨B, 6, none⟩ = some (Value.int .i64 y.ge) := ry1.cell 6 rfl
      have cy1_7 : u1.cell? ⟨B, 7, none⟩ = some (Value.int .i64 y.ep) := ry1.cell 7 rfl
      have cy1_8 : u1.cell? ⟨B, 8, none⟩ = some (Value.int .i64 y.ve) := ry1.cell 8 rfl
      have x1_0 : u1.cell? ⟨f, 5, none⟩ = some (.func (.func n) #[] fr) := HF1.out.row.cell 5 rfl
      rw [HQ.out]
      refine hK.out _ _ ⟨cy1_0, cy1_1, cy1_2, cy1_3, cy1_4, cy1_5, cy1_6, cy1_7, cy1_8, x1_0⟩ (fun hS => ?_)
      clear hK K
      try simp only [Act.put, List.setIfInBounds_toArray, List.set_cons_zero, List.set_cons_succ]
      refine wpAnyH_take (i := 9) (oi := { dst := some 45, op := Op.pick (Operand.tmp 38) (Operand.tmp 44) (Operand.const (Value.bool false)), type := 4, pos := "find.go:95", after := #[{ on := 2, ground := Ground.data }, { on := 8, ground := Ground.data }], guard := none }) (v := ?v9_15) rfl (by kernel_rfl) (by kernel_rfl) (by kernel_rfl) (fun _ _ _ h => h) (Or.inl ⟨by rfl, ?hy9_15⟩) hS ?rest9_15
      case hy9_15 =>
        intro w hSw
        (try dsimp only at hSw)
        go_simp
        try with_reducible rfl
      try simp only [Act.put, List.setIfInBounds_toArray, List.set_cons_zero, List.set_cons_succ]
      refine wpAnyH_take (i := 10) (oi := { dst := some 46, op := Op.nilCheck (Operand.tmp 36), type := 0, pos := "find.go:95", after := #[{ on := 0, ground := Ground.data }, { on := 0, ground := Ground.phase }, { on := 1, ground := Ground.phase }, { on := 2, ground := Ground.phase }, { on := 3, ground := Ground.phase }, { on := 4, ground := Ground.phase }, { on := 5, ground := Ground.phase }, { on := 6, ground := Ground.phase }, { on := 7, ground := Ground.phase }, { on := 8, ground := Ground.phase }, { on := 9, ground := Ground.phase }], guard := none }) (v := ?v10_16) rfl (by kernel_rfl) (by kernel_rfl) (by kernel_rfl) (fun _ _ _ h => h) (Or.inl ⟨by rfl, ?hy10_16⟩) hS ?rest10_16
      case hy10_16 =>
        intro w hSw
        (try dsimp only at hSw)
        go_simp
        try with_reducible rfl
      try simp only [Act.put, List.setIfInBounds_toArray, List.set_cons_zero, List.set_cons_succ]
      refine wpAnyH_take (i := 11) (oi := { dst := some 47, op := Op.fieldAddr 77 (Operand.tmp 46) 4, type := 0, pos := "find.go:95", after := #[{ on := 10, ground := Ground.data }, { on := 0, ground := Ground.phase }, { on := 1, ground := Ground.phase }, { on := 2, ground := Ground.phase }, { on := 3, ground := Ground.phase }, { on := 4, ground := Ground.phase }, { on := 5, ground := Ground.phase }, { on := 6, ground := Ground.phase }, { on := 7, ground := Ground.phase }, { on := 8, ground := Ground.phase }, { on := 9, ground := Ground.phase }], guard := none }) (v := ?v11_17) rfl (by kernel_rfl) (by kernel_rfl) (by kernel_rfl) (fun _ _ _ h => h) (Or.inl ⟨by rfl, ?hy11_17⟩) hS ?rest11_17
      case hy11_17 =>
        intro w hSw
        (try dsimp only at hSw)
        go_simp
        try with_reducible rfl
      try simp only [Act.put, List.setIfInBounds_toArray, List.set_cons_zero, List.set_cons_succ]
      refine wpAnyH_ready (rs := [12]) (by kernel_rfl) (by simp) ?_
      refine AllReadyH.cons (o := { dst := none, op := Op.store 4 (Operand.tmp 47) (Operand.tmp 45), type := 0, pos := "find.go:95", after := #[{ on := 11, ground := Ground.data }, { on := 9, ground := Ground.data }, { on := 8, ground := Ground.chain }, { on := 0, ground := Ground.phase }, { on := 1, ground := Ground.phase }, { on := 2, ground := Ground.phase }, { on := 3, ground := Ground.phase }, { on := 4, ground := Ground.phase }, { on := 5, ground := Ground.phase }, { on := 6, ground := Ground.phase }, { on := 7, ground := Ground.phase }, { on := 8, ground := Ground.phase }, { on := 9, ground := Ground.phase }], guard := none }) rfl (fun K hK => ?_) AllReadyH.nil
      go_simp
      have HF2 := Lib.hid (HF1.out.set8 false)
      have hS2 := hS1.set hfX 8 (.bool false)
      have HM2 := Lib.hid (HM1.out.spx (sp_set (f := f) (j := 8) (v := .bool false)) (by simpa using hgf) (by simpa using hwf))
      have ry2 := ry1.putOther ⟨f, 8, none⟩ hBf (.bool false)
      have cy2_0 : (u1.setCell ⟨f, 8, none⟩ (.bool false)).cell? ⟨B, 0, none⟩ = some (Value.int .i64 y.st) := ry2.cell 0 rfl
      have cy2_1 : (u1.setCell ⟨f, 8, none⟩ (.bool false)).cell? ⟨B, 1, none⟩ = some (Value.int .i64 y.ow) := ry2.cell 1 rfl
      have cy2_2 : (u1.setCell ⟨f, 8, none⟩ (.bool false)).cell? ⟨B, 2, none⟩ = some (Value.int .i64 y.sr) := ry2.cell 2 rfl
      have cy2_3 : (u1.setCell ⟨f, 8, none⟩ (.bool false)).cell? ⟨B, 3, none⟩ = some (Value.bool y.br) := ry2.cell 3 rfl
      have cy2_4 : (u1.setCell ⟨f, 8, none⟩ (.bool false)).cell? ⟨B, 4, none⟩ = some (Value.bool y.ma) := ry2.cell 4 rfl
      have cy2_5 : (u1.setCell ⟨f, 8, none⟩ (.bool false)).cell? ⟨B, 5, none⟩ = some (Value.int .i64 y.us) := ry2.cell 5 rfl
      have cy2_6 : (u1.setCell ⟨f, 8, none⟩ (.bool false)).cell? ⟨B, 6, none⟩ = some (Value.int .i64 y.ge) := ry2.cell 6 rfl
      have cy2_7 : (u1.setCell ⟨f, 8, none⟩ (.bool false)).cell? ⟨B, 7, none⟩ = some (Value.int .i64 y.ep) := ry2.cell 7 rfl
      have cy2_8 : (u1.setCell ⟨f, 8, none⟩ (.bool false)).cell? ⟨B, 8, none⟩ = some (Value.int .i64 y.ve) := ry2.cell 8 rfl
      have x2_0 : (u1.setCell ⟨f, 8, none⟩ (.bool false)).cell? ⟨f, 5, none⟩ = some (.func (.func n) #[] fr) := HF2.out.row.cell 5 rfl
      refine hK.out _ _ ⟨cy2_0, cy2_1, cy2_2, cy2_3, cy2_4, cy2_5, cy2_6, cy2_7, cy2_8, x2_0⟩ (fun hS => ?_)
      clear hK K
      try simp only [Act.put, List.setIfInBounds_toArray, List.set_cons_zero, List.set_cons_succ]
      refine wpAnyH_done (by kernel_rfl) ?_ _
      have e8 : (u1.setCell ⟨f, 8, none⟩ (.bool false)).cell? ⟨f, 8, none⟩ = some (.bool false) := HF2.out.row.cell 8 rfl
      have e6 : (u1.setCell ⟨f, 8, none⟩ (.bool false)).cell? ⟨f, 6, none⟩ = some (.int .i64 x.po) := HF2.out.row.cell 6 rfl
      have g6 : (u1.setCell ⟨f, 8, none⟩ (.bool false)).frozen? ⟨f, 6, none⟩ = false := HF2.out.row.frozen 6
      have HF9 := Lib.hid (HF2.out.set6 (x.po + 1))
      have hS9 := hS2.set hfX 6 (.int .i64 (x.po + 1))
      have HM9 := Lib.hid (HM2.out.spx (sp_set (f := f) (j := 6) (v := .int .i64 (x.po + 1))) (by simpa using hgf) (by simpa using hwf))
      obtain ⟨WZ, hZ⟩ : ∃ WZ, WZ = (u1.setCell ⟨f, 8, none⟩ (.bool false)) := ⟨_, rfl⟩
      rw [← hZ] at HF9 hS9 HM9 e8 e6 g6 ⊢
      clear hZ
      go_wp2_with fail
      refine (cell_find f c n fr _ _ Hc.out HF9.out.row).mono ?_
      rintro e w9 ⟨rfl, hb⟩
      go_wp2_with fail
      go_ret
      exact ⟨by rw [step_miss Hd.out HW.out]; exact ret_bool (last_done Hc.out h0 hlt), by rw [tch_go Hd.out]; exact HM9.out.on hb, by rw [step_miss Hd.out HW.out]; exact HF9.out.on hb, hS9.on hb⟩
    | true =>
      have HW : Hid (wfitB (lookI c x s.ws) k o = true) := Lib.hid (by rw [← Hv.out, wfitB, hdc, ← Hy.out, hq]; rfl)
      have HQ := Lib.hid hq
      clear hdc hq
      rw [Hv.out] at HF4
      go_wp2_with fail
      obtain ⟨B, eB⟩ : ∃ B, B = w4.heap.size := ⟨_, rfl⟩
      rw [← eB] at r4 hB4 ⊢
      obtain ⟨W5, hW⟩ : ∃ W5, W5 = w4.alloc (.cells #[Value.int .i64 y.st, Value.int .i64 y.ow, Value.int .i64 y.sr, Value.bool y.br, Value.bool y.ma, Value.int .i64 y.us, Value.int .i64 y.ge, Value.int .i64 y.ep, Value.int .i64 y.ve] 23) := ⟨_, rfl⟩
      rw [← hW] at HM4 HF4 hS4 r4 ⊢
      clear hW eB
      have hBf : B ≠ f := by omega
      have ry0 := r4.drew
      have HF0 := Lib.hid HF4.out.drew
      have HM0 := Lib.hid HM4.out.drew
      have hS0 := hS4.drew
      clear HF4 HM4 hS4 r4
      have cy0_0 : W5.drew.cell? ⟨B, 0, none⟩ = some (Value.int .i64 y.st) := ry0.cell 0 rfl
      have cy0_1 : W5.drew.cell? ⟨B, 1, none⟩ = some (Value.int .i64 y.ow) := ry0.cell 1 rfl
      have cy0_2 : W5.drew.cell? ⟨B, 2, none⟩ = some (Value.int .i64 y.sr) := ry0.cell 2 rfl
      have cy0_3 : W5.drew.cell? ⟨B, 3, none⟩ = some (Value.bool y.br) := ry0.cell 3 rfl
      have cy0_4 : W5.drew.cell? ⟨B, 4, none⟩ = some (Value.bool y.ma) := ry0.cell 4 rfl
      have cy0_5 : W5.drew.cell? ⟨B, 5, none⟩ = some (Value.int .i64 y.us) := ry0.cell 5 rfl
      have cy0_6 : W5.drew.cell? ⟨B, 6, none⟩ = some (Value.int .i64 y.ge) := ry0.cell 6 rfl
      have cy0_7 : W5.drew.cell? ⟨B, 7, none⟩ = some (Value.int .i64 y.ep) := ry0.cell 7 rfl
      have cy0_8 : W5.drew.cell? ⟨B, 8, none⟩ = some (Value.int .i64 y.ve) := ry0.cell 8 rfl
      have x0_0 : W5.drew.cell? ⟨f, 5, none⟩ = some (.func (.func n) #[] fr) := HF0.out.row.cell 5 rfl
      have hen := HF0.out.fit.en
      refine wp_region_held_drew (S := (fun w' => w'.cell? ⟨B, 0, none⟩ = some (Value.int .i64 y.st) ∧ w'.cell? ⟨B, 1, none⟩ = some (Value.int .i64 y.ow) ∧ w'.cell? ⟨B, 2, none⟩ = some (Value.int .i64 y.sr) ∧ w'.cell? ⟨B, 3, none⟩ = some (Value.bool y.br) ∧ w'.cell? ⟨B, 4, none⟩ = some (Value.bool y.ma) ∧ w'.cell? ⟨B, 5, none⟩ = some (Value.int .i64 y.us) ∧ w'.cell? ⟨B, 6, none⟩ = some (Value.int .i64 y.ge) ∧ w'.cell? ⟨B, 7, none⟩ = some (Value.int .i64 y.ep) ∧ w'.cell? ⟨B, 8, none⟩ = some (Value.int .i64 y.ve) ∧ w'.cell? ⟨f, 5, none⟩ = some (.func (.func n) #[] fr))) (by kernel_rfl) ⟨cy0_0, cy0_1, cy0_2, cy0_3, cy0_4, cy0_5, cy0_6, cy0_7, cy0_8, x0_0⟩ (fun hS => ?_)
      generalize W5.drew = u0 at *
      refine wpAnyH_take (i := 0) (oi := { dst := some 36, op := Op.move (Operand.tmp 0), type := 41, pos := "find.go:95", after := #[], guard := none }) (v := ?v0_18) rfl (by kernel_rfl) (by kernel_rfl) (by kernel_rfl) (fun _ _ _ h => h) (Or.inl ⟨by rfl, ?hy0_18⟩) hS ?rest0_18
      case hy0_18 =>
        intro w hSw
        (try dsimp only at hSw)
        go_simp
        try with_reducible rfl
      try simp only [Act.put, List.setIfInBounds_toArray, List.set_cons_zero, List.set_cons_succ]
      refine wpAnyH_take (i := 1) (oi := { dst := some 37, op := Op.move (Operand.tmp 8), type := 4, pos := "find.go:95", after := #[], guard := none }) (v := ?v1_19) rfl (by kernel_rfl) (by kernel_rfl) (by kernel_rfl) (fun _ _ _ h => h) (Or.inl ⟨by rfl, ?hy1_19⟩) hS ?rest1_19
      case hy1_19 =>
        intro w hSw
        (try dsimp only at hSw)
        go_simp
        try with_reducible rfl
      try simp only [Act.put, List.setIfInBounds_toArray, List.set_cons_zero, List.set_cons_succ]
      refine wpAnyH_take (i := 2) (oi := { dst := some 38, op := Op.move (Operand.tmp 37), type := 4, pos := "find.go:95", after := #[{ on := 1, ground := Ground.data }], guard := none }) (v := ?v2_20) rfl (by kernel_rfl) (by kernel_rfl) (by kernel_rfl) (fun _ _ _ h => h) (Or.inl ⟨by rfl, ?hy2_20⟩) hS ?rest2_20
      case hy2_20 =>
        intro w hSw
        (try dsimp only at hSw)
        go_simp
        try with_reducible rfl
      try simp only [Act.put, List.setIfInBounds_toArray, List.set_cons_zero, List.set_cons_succ]
      refine wpAnyH_take (i := 3) (oi := { dst := some 39, op := Op.move (Operand.tmp 0), type := 41, pos := "find.go:95", after := #[{ on := 2, ground := Ground.guard }], guard := some (2, true) }) (v := ?v3_21) rfl (by kernel_rfl) (by kernel_rfl) (by kernel_rfl) (fun _ _ _ h => h) (Or.inl ⟨by rfl, ?hy3_21⟩) hS ?rest3_21
      case hy3_21 =>
        intro w hSw
        (try dsimp only at hSw)
        go_simp
        try with_reducible rfl
      try simp only [Act.put, List.setIfInBounds_toArray, List.set_cons_zero, List.set_cons_succ]
      refine wpAnyH_take (i := 4) (oi := { dst := some 40, op := Op.nilCheck (Operand.tmp 39), type := 0, pos := "find.go:95", after := #[{ on := 3, ground := Ground.data }, { on := 2, ground := Ground.guard }], guard := some (2, true) }) (v := ?v4_22) rfl (by kernel_rfl) (by kernel_rfl) (by kernel_rfl) (fun _ _ _ h => h) (Or.inl ⟨by rfl, ?hy4_22⟩) hS ?rest4_22
      case hy4_22 =>
        intro w hSw
        (try dsimp only at hSw)
        go_simp
        try with_reducible rfl
      try simp only [Act.put, List.setIfInBounds_toArray, List.set_cons_zero, List.set_cons_succ]
      refine wpAnyH_take (i := 5) (oi := { dst := some 41, op := Op.fieldAddr 77 (Operand.tmp 40) 1, type := 0, pos := "find.go:95", after := #[{ on := 4, ground := Ground.data }, { on := 2, ground := Ground.guard }], guard := some (2, true) }) (v := ?v5_23) rfl (by kernel_rfl) (by kernel_rfl) (by kernel_rfl) (fun _ _ _ h => h) (Or.inl ⟨by rfl, ?hy5_23⟩) hS ?rest5_23
      case hy5_23 =>
        intro w hSw
        (try dsimp only at hSw)
        go_simp
        try with_reducible rfl
      try simp only [Act.put, List.setIfInBounds_toArray, List.set_cons_zero, List.set_cons_succ]
      refine wpAnyH_take (i := 6) (oi := { dst := some 42, op := Op.load 68 (Operand.tmp 41), type := 68, pos := "find.go:95", after := #[{ on := 5, ground := Ground.data }, { on := 2, ground := Ground.guard }], guard := some (2, true) }) (v := ?v6_24) rfl (by kernel_rfl) (by kernel_rfl) (by kernel_rfl) (fun _ _ _ h => h) (Or.inl ⟨by rfl, ?hy6_24⟩) hS ?rest6_24
      case hy6_24 =>
        intro w hSw
        (try dsimp only at hSw)
        go_simp
        try with_reducible rfl
      try simp only [Act.put, List.setIfInBounds_toArray, List.set_cons_zero, List.set_cons_succ]
      refine wpAnyH_take (i := 7) (oi := { dst := some 43, op := Op.load 23 (Operand.tmp 7), type := 23, pos := "find.go:95", after := #[{ on := 2, ground := Ground.guard }], guard := some (2, true) }) (v := ?v7_25) rfl (by kernel_rfl) (by kernel_rfl) (by kernel_rfl) (fun _ _ _ h => h) (Or.inl ⟨by rfl, ?hy7_25⟩) hS ?rest7_25
      case hy7_25 =>
        intro w hSw
        (try dsimp only at hSw)
        go_simp
        try with_reducible rfl
      try simp only [Act.put, List.setIfInBounds_toArray, List.set_cons_zero, List.set_cons_succ]
      refine wpAnyH_ready (rs := [8]) (by kernel_rfl) (by simp) ?_
      refine AllReadyH.cons (o := { dst := some 44, op := Op.call { callee := Callee.value (Operand.tmp 42), args := #[Operand.tmp 43], argTypes := #[23] }, type := 4, pos := "find.go:95", after := #[{ on := 6, ground := Ground.data }, { on := 7, ground := Ground.data }, { on := 2, ground := Ground.chain }, { on := 2, ground := Ground.guard }], guard := some (2, true) }) rfl (fun K hK => ?_) AllReadyH.nil
      go_simp
      refine (HF0.out.fit.call y _ HF0.out.fit.cap).mono ?_
      rintro e u1 ⟨rfl, hb⟩
      have ry1 := ry0.below hb ry0.lt
      have HF1 := Lib.hid (HF0.out.on hb)
      have HM1 := Lib.hid (HM0.out.on hb)
      have hS1 := hS0.on hb
      clear hb
      have d8 : u1.cell? ⟨f, 8, none⟩ = some (.bool false) := HF1.out.row.cell 8 rfl
      have g8 : u1.frozen? ⟨f, 8, none⟩ = false := HF1.out.row.frozen 8
      have cy1_0 : u1.cell? ⟨B, 0, none⟩ = some (Value.int .i64 y.st) := ry1.cell 0 rfl
      have cy1_1 : u1.cell? ⟨B, 1, none⟩ = some (Value.int .i64 y.ow) := ry1.cell 1 rfl
      have cy1_2 : u1.cell? ⟨B, 2, none⟩ = some (Value.int .i64 y.sr) := ry1.cell 2 rfl
      have cy1_3 : u1.cell? ⟨B, 3, none⟩ = some (Value.bool y.br) := ry1.cell 3 rfl
      have cy1_4 : u1.cell? ⟨B, 4, none⟩ = some (Value.bool y.ma) := ry1.cell 4 rfl
      have cy1_5 : u1.cell? ⟨B, 5, none⟩ = some (Value.int .i64 y.us) := ry1.cell 5 rfl
      have cy1_6 : u1.cell? ⟨B, 6, none⟩ = some (Value.int .i64 y.ge) := ry1.cell 6 rfl
      have cy1_7 : u1.cell? ⟨B, 7, none⟩ = some (Value.int .i64 y.ep) := ry1.cell 7 rfl
      have cy1_8 : u1.cell? ⟨B, 8, none⟩ = some (Value.int .i64 y.ve) := ry1.cell 8 rfl
      have x1_0 : u1.cell? ⟨f, 5, none⟩ = some (.func (.func n) #[] fr) := HF1.out.row.cell 5 rfl
      rw [HQ.out]
      refine hK.out _ _ ⟨cy1_0, cy1_1, cy1_2, cy1_3, cy1_4, cy1_5, cy1_6, cy1_7, cy1_8, x1_0⟩ (fun hS => ?_)
      clear hK K
      try simp only [Act.put, List.setIfInBounds_toArray, List.set_cons_zero, List.set_cons_succ]
      refine wpAnyH_take (i := 9) (oi := { dst := some 45, op := Op.pick (Operand.tmp 38) (Operand.tmp 44) (Operand.const (Value.bool false)), type := 4, pos := "find.go:95", after := #[{ on := 2, ground := Ground.data }, { on := 8, ground := Ground.data }], guard := none }) (v := ?v9_26) rfl (by kernel_rfl) (by kernel_rfl) (by kernel_rfl) (fun _ _ _ h => h) (Or.inl ⟨by rfl, ?hy9_26⟩) hS ?rest9_26
      case hy9_26 =>
        intro w hSw
        (try dsimp only at hSw)
        go_simp
        try with_reducible rfl
      try simp only [Act.put, List.setIfInBounds_toArray, List.set_cons_zero, List.set_cons_succ]
      refine wpAnyH_take (i := 10) (oi := { dst := some 46, op := Op.nilCheck (Operand.tmp 36), type := 0, pos := "find.go:95", after := #[{ on := 0, ground := Ground.data }, { on := 0, ground := Ground.phase }, { on := 1, ground := Ground.phase }, { on := 2, ground := Ground.phase }, { on := 3, ground := Ground.phase }, { on := 4, ground := Ground.phase }, { on := 5, ground := Ground.phase }, { on := 6, ground := Ground.phase }, { on := 7, ground := Ground.phase }, { on := 8, ground := Ground.phase }, { on := 9, ground := Ground.phase }], guard := none }) (v := ?v10_27) rfl (by kernel_rfl) (by kernel_rfl) (by kernel_rfl) (fun _ _ _ h => h) (Or.inl ⟨by rfl, ?hy10_27⟩) hS ?rest10_27
      case hy10_27 =>
        intro w hSw
        (try dsimp only at hSw)
        go_simp
        try with_reducible rfl
      try simp only [Act.put, List.setIfInBounds_toArray, List.set_cons_zero, List.set_cons_succ]
      refine wpAnyH_take (i := 11) (oi := { dst := some 47, op := Op.fieldAddr 77 (Operand.tmp 46) 4, type := 0, pos := "find.go:95", after := #[{ on := 10, ground := Ground.data }, { on := 0, ground := Ground.phase }, { on := 1, ground := Ground.phase }, { on := 2, ground := Ground.phase }, { on := 3, ground := Ground.phase }, { on := 4, ground := Ground.phase }, { on := 5, ground := Ground.phase }, { on := 6, ground := Ground.phase }, { on := 7, ground := Ground.phase }, { on := 8, ground := Ground.phase }, { on := 9, ground := Ground.phase }], guard := none }) (v := ?v11_28) rfl (by kernel_rfl) (by kernel_rfl) (by kernel_rfl) (fun _ _ _ h => h) (Or.inl ⟨by rfl, ?hy11_28⟩) hS ?rest11_28
      case hy11_28 =>
        intro w hSw
        (try dsimp only at hSw)
        go_simp
        try with_reducible rfl
      try simp only [Act.put, List.setIfInBounds_toArray, List.set_cons_zero, List.set_cons_succ]
      refine wpAnyH_ready (rs := [12]) (by kernel_rfl) (by simp) ?_
      refine AllReadyH.cons (o := { dst := none, op := Op.store 4 (Operand.tmp 47) (Operand.tmp 45), type := 0, pos := "find.go:95", after := #[{ on := 11, ground := Ground.data }, { on := 9, ground := Ground.data }, { on := 8, ground := Ground.chain }, { on := 0, ground := Ground.phase }, { on := 1, ground := Ground.phase }, { on := 2, ground := Ground.phase }, { on := 3, ground := Ground.phase }, { on := 4, ground := Ground.phase }, { on := 5, ground := Ground.phase }, { on := 6, ground := Ground.phase }, { on := 7, ground := Ground.phase }, { on := 8, ground := Ground.phase }, { on := 9, ground := Ground.phase }], guard := none }) rfl (fun K hK => ?_) AllReadyH.nil
      go_simp
      have HF2 := Lib.hid (HF1.out.set8 true)
      have hS2 := hS1.set hfX 8 (.bool true)
      have HM2 := Lib.hid (HM1.out.spx (sp_set (f := f) (j := 8) (v := .bool true)) (by simpa using hgf) (by simpa using hwf))
      have ry2 := ry1.putOther ⟨f, 8, none⟩ hBf (.bool true)
      have cy2_0 : (u1.setCell ⟨f, 8, none⟩ (.bool true)).cell? ⟨B, 0, none⟩ = some (Value.int .i64 y.st) := ry2.cell 0 rfl
      have cy2_1 : (u1.setCell ⟨f, 8, none⟩ (.bool true)).cell? ⟨B, 1, none⟩ = some (Value.int .i64 y.ow) := ry2.cell 1 rfl
      have cy2_2 : (u1.setCell ⟨f, 8, none⟩ (.bool true)).cell? ⟨B, 2, none⟩ = some (Value.int .i64 y.sr) := ry2.cell 2 rfl
      have cy2_3 : (u1.setCell ⟨f, 8, none⟩ (.bool true)).cell? ⟨B, 3, none⟩ = some (Value.bool y.br) := ry2.cell 3 rfl
      have cy2_4 : (u1.setCell ⟨f, 8, none⟩ (.bool true)).cell? ⟨B, 4, none⟩ = some (Value.bool y.ma) := ry2.cell 4 rfl
      have cy2_5 : (u1.setCell ⟨f, 8, none⟩ (.bool true)).cell? ⟨B, 5, none⟩ = some (Value.int .i64 y.us) := ry2.cell 5 rfl
      have cy2_6 : (u1.setCell ⟨f, 8, none⟩ (.bool true)).cell? ⟨B, 6, none⟩ = some (Value.int .i64 y.ge) := ry2.cell 6 rfl
      have cy2_7 : (u1.setCell ⟨f, 8, none⟩ (.bool true)).cell? ⟨B, 7, none⟩ = some (Value.int .i64 y.ep) := ry2.cell 7 rfl
      have cy2_8 : (u1.setCell ⟨f, 8, none⟩ (.bool true)).cell? ⟨B, 8, none⟩ = some (Value.int .i64 y.ve) := ry2.cell 8 rfl
      have x2_0 : (u1.setCell ⟨f, 8, none⟩ (.bool true)).cell? ⟨f, 5, none⟩ = some (.func (.func n) #[] fr) := HF2.out.row.cell 5 rfl
      refine hK.out _ _ ⟨cy2_0, cy2_1, cy2_2, cy2_3, cy2_4, cy2_5, cy2_6, cy2_7, cy2_8, x2_0⟩ (fun hS => ?_)
      clear hK K
      try simp only [Act.put, List.setIfInBounds_toArray, List.set_cons_zero, List.set_cons_succ]
      refine wpAnyH_done (by kernel_rfl) ?_ _
      have e8 : (u1.setCell ⟨f, 8, none⟩ (.bool true)).cell? ⟨f, 8, none⟩ = some (.bool true) := HF2.out.row.cell 8 rfl
      go_wp2
      go_ret
      exact ⟨by rw [step_hit Hd.out HW.out]; exact ret_bool (by simp [doneB]), by rw [tch_go Hd.out]; exact HM2.out, by rw [step_hit Hd.out HW.out]; exact HF2.out, hS2⟩
theorem step_any (f q g gw c0 : Nat) (c : Cf) (n : Nat) (fr : Array Value) (k o : Int) (x : Fs) (s : St) (w : World) (hc : Rc c) (h0 : 0 ≤ x.po) (hF : FindAt w f q c n fr k o x) (hM : MemAt w g gw c0 s) (hT : Tab w)
    (hl : s.ws.length = cellsN c) (ht : s.t < 1000000) (hw : ∀ (k : Nat) x, s.ws[k]? = some x → -9223372036854775808 ≤ x ∧ x ≤ 9223372036854775807)
    (hfg : f ≠ g) (hfw : f ≠ gw) (hqg : q ≠ g) (hqw : q ≠ gw) (z1 : 0 < f) (z2 : 0 < g) (z3 : 0 < gw) :
    Calls Tryd.prog 20 #[.pointer (some ⟨f, 0, none⟩), .pointer (some ⟨g, 0, none⟩)] w (RetStep f q g gw c0 c n fr k o x s w) := by
  cases hd : doneB c x with
  | true => exact step_no f q g gw c0 c n fr k o x s w hc hd hF hM
  | false => exact step_go f q g gw c0 c n fr k o x s w hc hd h0 hF hM hT hl ht hw hfg hfw hqg hqw z1 z2 z3
end Go.Proofs.YtbkcniknbpgphaaDoor
