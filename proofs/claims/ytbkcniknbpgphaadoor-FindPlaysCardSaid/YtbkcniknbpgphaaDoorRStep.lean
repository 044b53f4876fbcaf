/- One more is looked at, by the document's own; nothing else changes. -/
import Derived.Test.YtbkcniknbpgphaaDoorTurn
namespace Go.Proofs.YtbkcniknbpgphaaDoor
open Go.RowKit
attribute [local go_sem ↓] Go.wp_at_zero Go.wp_at_succ

theorem rlast {c : Cf} {x : Fs} {wd : Int} (hlt : x.po < c.sl) : (x.po + 1 == c.sl) = doneB c ⟨x.po + 1, wd, false⟩ := by
  unfold doneB
  by_cases h : x.po + 1 = c.sl
  · rw [decide_eq_true (by simp only; omega)]
    simpa using h
  · rw [decide_eq_false (by simp only; omega)]
    simpa using h
set_option maxRecDepth 100000 in
set_option maxHeartbeats 2000000 in
theorem refLoad_in (g gw c : Nat) (s : St) (k : Nat) (w : World) (h : MemAt w g gw c s) (hk : k < s.ws.length) (ht : s.t < 1000000) :
    Calls Tryd.prog 43 #[.pointer (some ⟨g, 0, none⟩), .int .i64 k] w (Ends w g gw c ⟨s.ws, s.t + 1⟩ (.int .i64 (s.at k))) := by
  have h0 := h.c0
  have h1 := h.c1
  have h2 := h.fg 1
  have h3 := h.ic k _ (St.at_nat hk)
  have hne := h.ne
  have hne2 := h.ne.symm
  go_enter Tryd.func43, Tryd.ntmps43
  go_wp2_with (go_at_call 59; go_in)
  go_ret
  exact ⟨rfl, h.touch _, (SpX.refl _ _).set (mem_g _ _) _ _⟩
/-- what a step of the document's tells, and leaves -/
def RetRStep (h g gw c0 : Nat) (c : Cf) (k o : Int) (x : Fs) (s : St) (w : World) (e : Ending) (w' : World) : Prop :=
  e = .returned (.bool (doneB c (stepF c k o x s.ws))) ∧ MemAt w' g gw c0 ⟨s.ws, s.t + tch c x⟩ ∧ RefAt w' h c k o (stepF c k o x s.ws) ∧ SpX [h, g, gw] w w'
set_option maxRecDepth 100000 in
set_option maxHeartbeats 2000000 in
theorem rstep_no (h g gw c0 : Nat) (c : Cf) (k o : Int) (x : Fs) (s : St) (w : World) (hd : doneB c x = true) (hR : RefAt w h c k o x) (hM : MemAt w g gw c0 s) :
    Calls Tryd.prog 21 #[.pointer (some ⟨h, 0, none⟩), .pointer (some ⟨g, 0, none⟩)] w (RetRStep h g gw c0 c k o x s w) := by
  have Hd := Lib.hid hd
  have HM := Lib.hid hM
  have HR := Lib.hid hR
  have hx : x.is = true ∨ (x.is = false ∧ c.sl ≤ x.po) := by
    unfold doneB at hd
    cases h : x.is with
    | true => exact .inl rfl
    | false =>
      rw [h] at hd
      exact .inr ⟨rfl, by simpa using hd⟩
  have c1 := hR.row.cell 1 rfl
  have c7 := hR.row.cell 7 rfl
  have c9 := hR.row.cell 9 rfl
  clear hd hR hM
  have key : ∀ b j, b = true → RetRStep h g gw c0 c k o x s w (.returned (.bool b)) (w.drewN j) := fun b j e => ⟨ret_bool (by rw [step_done Hd.out, Hd.out, e]), by rw [tch_done Hd.out]; exact HM.out.drewN j, by rw [step_done Hd.out]; exact ⟨HR.out.row⟩, (SpX.refl _ _).drewN j⟩
  rcases hx with hx | ⟨hx, hp⟩
  · rw [hx] at c9
    clear hx
    go_enter Tryd.func21, Tryd.ntmps21
    go_wp2_with fail
    go_quiet (fail)
    go_wp2
    go_ret
    exact key _ _ rfl
  · rw [hx] at c9
    clear hx
    go_enter Tryd.func21, Tryd.ntmps21
    go_wp2_with fail
    go_quiet (fail)
    go_wp2
    go_ret
    exact key _ _ rfl
set_option maxRecDepth 100000 in
set_option maxHeartbeats 2000000 in
theorem rstep_go (h g gw c0 : Nat) (c : Cf) (k o : Int) (x : Fs) (s : St) (w : World) (hc : Rc c) (hd : doneB c x = false) (h0 : 0 ≤ x.po) (hR : RefAt w h c k o x) (hM : MemAt w g gw c0 s)
    (hl : s.ws.length = cellsN c) (ht : s.t < 1000000) (hw : ∀ (k : Nat) x, s.ws[k]? = some x → -9223372036854775808 ≤ x ∧ x ≤ 9223372036854775807)
    (hfg : h ≠ g) (hfw : h ≠ gw) :
    Calls Tryd.prog 21 #[.pointer (some ⟨h, 0, none⟩), .pointer (some ⟨g, 0, none⟩)] w (RetRStep h g gw c0 c k o x s w) := by
  obtain ⟨his, h2⟩ := done_parts hd
  obtain ⟨hs1, hs2⟩ := slot_in hc h0 h2
  have ha : s.ws[slotN c x]? = some (lookI c x s.ws) := by
    have := St.at_nat (s := s) (k := slotN c x) (by rw [hl]; exact hs2)
    rw [this]
    rfl
  obtain ⟨hb1, hb2⟩ := hw _ _ ha
  have hsl : s.at ((slotN c x : Nat) : Int) = lookI c x s.ws := rfl
  obtain ⟨N, hN⟩ : ∃ N, N = slotN c x := ⟨_, rfl⟩
  obtain ⟨v, hv⟩ : ∃ v, v = lookI c x s.ws := ⟨_, rfl⟩
  rw [← hN] at hs1 hs2 hsl
  rw [← hv] at hsl hb1 hb2
  have h16 : x.po ≤ 15 := by have := hc.sl; omega
  have HV := Lib.hid hv
  have Hc := Lib.hid hc
  have Hd := Lib.hid hd
  have HR := Lib.hid hR
  have HM := Lib.hid hM
  have Hl := Lib.hid hl
  have hgf := hfg.symm
  have hwf := hfw.symm
  have hfX : h ∈ [h, g, gw] := by simp
  have hne := HM.out.ne
  have Hi := Lib.hid his
  have c1 := hR.row.cell 1 rfl
  have c7 := hR.row.cell 7 rfl
  have c9 := hR.row.cell 9 rfl
  rw [his] at c9
  clear hc hd hR hM hl hN hv ha hw his
  go_enter Tryd.func21, Tryd.ntmps21
  go_wp2_with fail
  go_quiet (fail)
  go_wp2_with fail
  have HR0 := Lib.hid (show RefAt ((w.drewN nq).drew) h c k o x from ⟨HR.out.row⟩)
  have HM0 := Lib.hid (HM.out.drewN nq).drew
  have hS0 := ((SpX.refl [h, g, gw] w).drewN nq).drew
  clear HR HM c1 c7 c9
  have x0_0 : (w.drewN nq).drew.cell? ⟨h, 0, none⟩ = some (Value.int .i64 c.wo) := HR0.out.row.cell 0 rfl
  have x0_1 : (w.drewN nq).drew.cell? ⟨h, 1, none⟩ = some (Value.int .i64 c.sl) := HR0.out.row.cell 1 rfl
  have x0_2 : (w.drewN nq).drew.cell? ⟨h, 2, none⟩ = some (Value.int .i64 c.st) := HR0.out.row.cell 2 rfl
  have x0_3 : (w.drewN nq).drew.cell? ⟨h, 3, none⟩ = some (Value.int .i64 c.wa) := HR0.out.row.cell 3 rfl
  have x0_4 : (w.drewN nq).drew.cell? ⟨h, 4, none⟩ = some (Value.int .i64 c.us) := HR0.out.row.cell 4 rfl
  have x0_5 : (w.drewN nq).drew.cell? ⟨h, 7, none⟩ = some (Value.int .i64 x.po) := HR0.out.row.cell 7 rfl
  refine wp_region_held_drew (S := (fun w' => w'.cell? ⟨h, 0, none⟩ = some (Value.int .i64 c.wo) ∧ w'.cell? ⟨h, 1, none⟩ = some (Value.int .i64 c.sl) ∧ w'.cell? ⟨h, 2, none⟩ = some (Value.int .i64 c.st) ∧ w'.cell? ⟨h, 3, none⟩ = some (Value.int .i64 c.wa) ∧ w'.cell? ⟨h, 4, none⟩ = some (Value.int .i64 c.us) ∧ w'.cell? ⟨h, 7, none⟩ = some (Value.int .i64 x.po))) (by kernel_rfl) ⟨x0_0, x0_1, x0_2, x0_3, x0_4, x0_5⟩ (fun hS => ?_)
  generalize (w.drewN nq).drew = u0 at *
  refine wpAnyH_take (i := 0) (oi := { dst := some 21, op := Op.move (Operand.tmp 0), type := 46, pos := "ref.go:60", after := #[], guard := none }) (v := ?v0_1) rfl (by kernel_rfl) (by kernel_rfl) (by kernel_rfl) (fun _ _ _ h => h) (Or.inl ⟨by rfl, ?hy0_1⟩) hS ?rest0_1
  case hy0_1 =>
    intro w hSw
    (try dsimp only at hSw)
    go_simp
    try with_reducible rfl
  try simp only [Act.put, List.setIfInBounds_toArray, List.set_cons_zero, List.set_cons_succ]
  refine wpAnyH_take (i := 1) (oi := { dst := some 22, op := Op.move (Operand.tmp 1), type := 43, pos := "ref.go:60", after := #[], guard := none }) (v := ?v1_2) rfl (by kernel_rfl) (by kernel_rfl) (by kernel_rfl) (fun _ _ _ h => h) (Or.inl ⟨by rfl, ?hy1_2⟩) hS ?rest1_2
  case hy1_2 =>
    intro w hSw
    (try dsimp only at hSw)
    go_simp
    try with_reducible rfl
  try simp only [Act.put, List.setIfInBounds_toArray, List.set_cons_zero, List.set_cons_succ]
  refine wpAnyH_take (i := 2) (oi := { dst := some 23, op := Op.move (Operand.tmp 0), type := 46, pos := "ref.go:60", after := #[], guard := none }) (v := ?v2_3) rfl (by kernel_rfl) (by kernel_rfl) (by kernel_rfl) (fun _ _ _ h => h) (Or.inl ⟨by rfl, ?hy2_3⟩) hS ?rest2_3
  case hy2_3 =>
    intro w hSw
    (try dsimp only at hSw)
    go_simp
    try with_reducible rfl
  try simp only [Act.put, List.setIfInBounds_toArray, List.set_cons_zero, List.set_cons_succ]
  refine wpAnyH_take (i := 3) (oi := { dst := some 24, op := Op.nilCheck (Operand.tmp 23), type := 0, pos := "ref.go:60", after := #[{ on := 2, ground := Ground.data }], guard := none }) (v := ?v3_4) rfl (by kernel_rfl) (by kernel_rfl) (by kernel_rfl) (fun _ _ _ h => h) (Or.inl ⟨by rfl, ?hy3_4⟩) hS ?rest3_4
  case hy3_4 =>
    intro w hSw
    (try dsimp only at hSw)
    go_simp
    try with_reducible rfl
  try simp only [Act.put, List.setIfInBounds_toArray, List.set_cons_zero, List.set_cons_succ]
  refine wpAnyH_take (i := 4) (oi := { dst := some 25, op := Op.fieldAddr 56 (Operand.tmp 24) 0, type := 0, pos := "ref.go:60", after := #[{ on := 3, ground := Ground.data }], guard := none }) (v := ?v4_5) rfl (by kernel_rfl) (by kernel_rfl) (by kernel_rfl) (fun _ _ _ h => h) (Or.inl ⟨by rfl, ?hy4_5⟩) hS ?rest4_5
  case hy4_5 =>
    intro w hSw
    (try dsimp only at hSw)
    go_simp
    try with_reducible rfl
  try simp only [Act.put, List.setIfInBounds_toArray, List.set_cons_zero, List.set_cons_succ]
  refine wpAnyH_take (i := 5) (oi := { dst := some 26, op := Op.load 35 (Operand.tmp 25), type := 35, pos := "ref.go:60", after := #[{ on := 4, ground := Ground.data }], guard := none }) (v := ?v5_6) rfl (by kernel_rfl) (by kernel_rfl) (by kernel_rfl) (fun _ _ _ h => h) (Or.inl ⟨by rfl, ?hy5_6⟩) hS ?rest5_6
  case hy5_6 =>
    intro w hSw
    (try dsimp only at hSw)
    go_simp
    try with_reducible rfl
  try simp only [Act.put, List.setIfInBounds_toArray, List.set_cons_zero, List.set_cons_succ]
  refine wpAnyH_take (i := 6) (oi := { dst := some 27, op := Op.move (Operand.tmp 0), type := 46, pos := "ref.go:60", after := #[], guard := none }) (v := ?v6_7) rfl (by kernel_rfl) (by kernel_rfl) (by kernel_rfl) (fun _ _ _ h => h) (Or.inl ⟨by rfl, ?hy6_7⟩) hS ?rest6_7
  case hy6_7 =>
    intro w hSw
    (try dsimp only at hSw)
    go_simp
    try with_reducible rfl
  try simp only [Act.put, List.setIfInBounds_toArray, List.set_cons_zero, List.set_cons_succ]
  refine wpAnyH_take (i := 7) (oi := { dst := some 28, op := Op.nilCheck (Operand.tmp 27), type := 0, pos := "ref.go:60", after := #[{ on := 6, ground := Ground.data }], guard := none }) (v := ?v7_8) rfl (by kernel_rfl) (by kernel_rfl) (by kernel_rfl) (fun _ _ _ h => h) (Or.inl ⟨by rfl, ?hy7_8⟩) hS ?rest7_8
  case hy7_8 =>
    intro w hSw
    (try dsimp only at hSw)
    go_simp
    try with_reducible rfl
  try simp only [Act.put, List.setIfInBounds_toArray, List.set_cons_zero, List.set_cons_succ]
  refine wpAnyH_take (i := 8) (oi := { dst := some 29, op := Op.fieldAddr 56 (Operand.tmp 28) 3, type := 0, pos := "ref.go:60", after := #[{ on := 7, ground := Ground.data }], guard := none }) (v := ?v8_9) rfl (by kernel_rfl) (by kernel_rfl) (by kernel_rfl) (fun _ _ _ h => h) (Or.inl ⟨by rfl, ?hy8_9⟩) hS ?rest8_9
  case hy8_9 =>
    intro w hSw
    (try dsimp only at hSw)
    go_simp
    try with_reducible rfl
  try simp only [Act.put, List.setIfInBounds_toArray, List.set_cons_zero, List.set_cons_succ]
  refine wpAnyH_take (i := 9) (oi := { dst := some 30, op := Op.load 3 (Operand.tmp 29), type := 3, pos := "ref.go:60", after := #[{ on := 8, ground := Ground.data }], guard := none }) (v := ?v9_10) rfl (by kernel_rfl) (by kernel_rfl) (by kernel_rfl) (fun _ _ _ h => h) (Or.inl ⟨by rfl, ?hy9_10⟩) hS ?rest9_10
  case hy9_10 =>
    intro w hSw
    (try dsimp only at hSw)
    go_simp
    try with_reducible rfl
  try simp only [Act.put, List.setIfInBounds_toArray, List.set_cons_zero, List.set_cons_succ]
  refine wpAnyH_ready (rs := [10]) (by kernel_rfl) (by simp) ?_
  refine AllReadyH.cons (o := { dst := some 31, op := Op.call { callee := Callee.value (Operand.func 30), args := #[Operand.tmp 26, Operand.tmp 30], argTypes := #[35, 3] }, type := 3, pos := "ref.go:60", after := #[{ on := 5, ground := Ground.data }, { on := 9, ground := Ground.data }], guard := none }) rfl (fun K hK => ?_) AllReadyH.nil
  go_simp
  refine (refSlot_any c x.po _ Hc.out).mono ?_
  rintro e u1 ⟨rfl, hb⟩
  rw [hs1]
  have HR1 := Lib.hid (HR0.out.on hb)
  have HM1 := Lib.hid (HM0.out.on hb)
  have hS1 := hS0.on hb
  clear hb
  have x1_0 : u1.cell? ⟨h, 0, none⟩ = some (Value.int .i64 c.wo) := HR1.out.row.cell 0 rfl
  have x1_1 : u1.cell? ⟨h, 1, none⟩ = some (Value.int .i64 c.sl) := HR1.out.row.cell 1 rfl
  have x1_2 : u1.cell? ⟨h, 2, none⟩ = some (Value.int .i64 c.st) := HR1.out.row.cell 2 rfl
  have x1_3 : u1.cell? ⟨h, 3, none⟩ = some (Value.int .i64 c.wa) := HR1.out.row.cell 3 rfl
  have x1_4 : u1.cell? ⟨h, 4, none⟩ = some (Value.int .i64 c.us) := HR1.out.row.cell 4 rfl
  have x1_5 : u1.cell? ⟨h, 7, none⟩ = some (Value.int .i64 x.po) := HR1.out.row.cell 7 rfl
  refine hK.out _ _ ⟨x1_0, x1_1, x1_2, x1_3, x1_4, x1_5⟩ (fun hS => ?_)
  clear hK K
  try simp only [Act.put, List.setIfInBounds_toArray, List.set_cons_zero, List.set_cons_succ]
  refine wpAnyH_ready (rs := [11]) (by kernel_rfl) (by simp) ?_
  refine AllReadyH.cons (o := { dst := some 32, op := Op.call { callee := Callee.value (Operand.func 43), args := #[Operand.tmp 22, Operand.tmp 31], argTypes := #[43, 3] }, type := 3, pos := "ref.go:60", after := #[{ on := 1, ground := Ground.data }, { on := 10, ground := Ground.data }, { on := 10, ground := Ground.chain }], guard := none }) rfl (fun K hK => ?_) AllReadyH.nil
  go_simp
  refine (refLoad_in g gw c0 s N _ HM1.out (by rw [Hl.out]; exact hs2) ht).mono ?_
  rw [hsl]
  rintro e u2 ⟨rfl, hm, hs⟩
  have HM2 := Lib.hid hm
  have HR2 := Lib.hid (HR1.out.spx hs (by simp <;> omega))
  have hS2 := hS1.trans (hs.more (Y := [h, g, gw]) (by simp <;> omega))
  clear hm hs
  have d8 : u2.cell? ⟨h, 8, none⟩ = some (.int .i64 x.wd) := HR2.out.row.cell 8 rfl
  have g8 : u2.frozen? ⟨h, 8, none⟩ = false := HR2.out.row.frozen 8
  have x2_0 : u2.cell? ⟨h, 0, none⟩ = some (Value.int .i64 c.wo) := HR2.out.row.cell 0 rfl
  have x2_1 : u2.cell? ⟨h, 1, none⟩ = some (Value.int .i64 c.sl) := HR2.out.row.cell 1 rfl
  have x2_2 : u2.cell? ⟨h, 2, none⟩ = some (Value.int .i64 c.st) := HR2.out.row.cell 2 rfl
  have x2_3 : u2.cell? ⟨h, 3, none⟩ = some (Value.int .i64 c.wa) := HR2.out.row.cell 3 rfl
  have x2_4 : u2.cell? ⟨h, 4, none⟩ = some (Value.int .i64 c.us) := HR2.out.row.cell 4 rfl
  have x2_5 : u2.cell? ⟨h, 7, none⟩ = some (Value.int .i64 x.po) := HR2.out.row.cell 7 rfl
  refine hK.out _ _ ⟨x2_0, x2_1, x2_2, x2_3, x2_4, x2_5⟩ (fun hS => ?_)
  clear hK K
  try simp only [Act.put, List.setIfInBounds_toArray, List.set_cons_zero, List.set_cons_succ]
  refine wpAnyH_take (i := 12) (oi := { dst := some 33, op := Op.nilCheck (Operand.tmp 21), type := 0, pos := "ref.go:60", after := #[{ on := 0, ground := Ground.data }, { on := 0, ground := Ground.phase }, { on := 1, ground := Ground.phase }, { on := 2, ground := Ground.phase }, { on := 3, ground := Ground.phase }, { on := 4, ground := Ground.phase }, { on := 5, ground := Ground.phase }, { on := 6, ground := Ground.phase }, { on := 7, ground := Ground.phase }, { on := 8, ground := Ground.phase }, { on := 9, ground := Ground.phase }, { on := 10, ground := Ground.phase }, { on := 11, ground := Ground.phase }], guard := none }) (v := ?v12_11) rfl (by kernel_rfl) (by kernel_rfl) (by kernel_rfl) (fun _ _ _ h => h) (Or.inl ⟨by rfl, ?hy12_11⟩) hS ?rest12_11
  case hy12_11 =>
    intro w hSw
    (try dsimp only at hSw)
    go_simp
    try with_reducible rfl
  try simp only [Act.put, List.setIfInBounds_toArray, List.set_cons_zero, List.set_cons_succ]
  refine wpAnyH_take (i := 13) (oi := { dst := some 34, op := Op.fieldAddr 56 (Operand.tmp 33) 4, type := 0, pos := "ref.go:60", after := #[{ on := 12, ground := Ground.data }, { on := 0, ground := Ground.phase }, { on := 1, ground := Ground.phase }, { on := 2, ground := Ground.phase }, { on := 3, ground := Ground.phase }, { on := 4, ground := Ground.phase }, { on := 5, ground := Ground.phase }, { on := 6, ground := Ground.phase }, { on := 7, ground := Ground.phase }, { on := 8, ground := Ground.phase }, { on := 9, ground := Ground.phase }, { on := 10, ground := Ground.phase }, { on := 11, ground := Ground.phase }], guard := none }) (v := ?v13_12) rfl (by kernel_rfl) (by kernel_rfl) (by kernel_rfl) (fun _ _ _ h => h) (Or.inl ⟨by rfl, ?hy13_12⟩) hS ?rest13_12
  case hy13_12 =>
    intro w hSw
    (try dsimp only at hSw)
    go_simp
    try with_reducible rfl
  try simp only [Act.put, List.setIfInBounds_toArray, List.set_cons_zero, List.set_cons_succ]
  refine wpAnyH_ready (rs := [14]) (by kernel_rfl) (by simp) ?_
  refine AllReadyH.cons (o := { dst := none, op := Op.store 3 (Operand.tmp 34) (Operand.tmp 32), type := 0, pos := "ref.go:60", after := #[{ on := 13, ground := Ground.data }, { on := 11, ground := Ground.data }, { on := 11, ground := Ground.chain }, { on := 0, ground := Ground.phase }, { on := 1, ground := Ground.phase }, { on := 2, ground := Ground.phase }, { on := 3, ground := Ground.phase }, { on := 4, ground := Ground.phase }, { on := 5, ground := Ground.phase }, { on := 6, ground := Ground.phase }, { on := 7, ground := Ground.phase }, { on := 8, ground := Ground.phase }, { on := 9, ground := Ground.phase }, { on := 10, ground := Ground.phase }, { on := 11, ground := Ground.phase }], guard := none }) rfl (fun K hK => ?_) AllReadyH.nil
  go_simp
  have HR3 := Lib.hid (HR2.out.set8 v)
  have hS3 := hS2.set hfX 8 (.int .i64 v)
  have HM3 := Lib.hid (HM2.out.spx (sp_set (f := h) (j := 8) (v := .int .i64 v)) (by simpa using hgf) (by simpa using hwf))
  have x3_0 : (u2.setCell ⟨h, 8, none⟩ (.int .i64 v)).cell? ⟨h, 0, none⟩ = some (Value.int .i64 c.wo) := HR3.out.row.cell 0 rfl
  have x3_1 : (u2.setCell ⟨h, 8, none⟩ (.int .i64 v)).cell? ⟨h, 1, none⟩ = some (Value.int .i64 c.sl) := HR3.out.row.cell 1 rfl
  have x3_2 : (u2.setCell ⟨h, 8, none⟩ (.int .i64 v)).cell? ⟨h, 2, none⟩ = some (Value.int .i64 c.st) := HR3.out.row.cell 2 rfl
  have x3_3 : (u2.setCell ⟨h, 8, none⟩ (.int .i64 v)).cell? ⟨h, 3, none⟩ = some (Value.int .i64 c.wa) := HR3.out.row.cell 3 rfl
  have x3_4 : (u2.setCell ⟨h, 8, none⟩ (.int .i64 v)).cell? ⟨h, 4, none⟩ = some (Value.int .i64 c.us) := HR3.out.row.cell 4 rfl
  have x3_5 : (u2.setCell ⟨h, 8, none⟩ (.int .i64 v)).cell? ⟨h, 7, none⟩ = some (Value.int .i64 x.po) := HR3.out.row.cell 7 rfl
  refine hK.out _ _ ⟨x3_0, x3_1, x3_2, x3_3, x3_4, x3_5⟩ (fun hS => ?_)
  clear hK K
  try simp only [Act.put, List.setIfInBounds_toArray, List.set_cons_zero, List.set_cons_succ]
  refine wpAnyH_done (by kernel_rfl) ?_ _
  obtain ⟨W6, h6⟩ : ∃ W6, W6 = (u2.setCell ⟨h, 8, none⟩ (.int .i64 v)) := ⟨_, rfl⟩
  rw [← h6] at HR3 HM3 hS3 ⊢
  clear h6
  go_wp2_with fail
  cases hq : wfitB v k o with
  | false =>
    have HW := Lib.hid hq
    have HW2 : Hid (wfitB (lookI c x s.ws) k o = false) := Lib.hid (by rw [← HV.out]; exact hq)
    clear hq
    have HR4 := Lib.hid HR3.out.drew
    have HM4 := Lib.hid HM3.out.drew
    have hS4 := hS3.drew
    clear HR3 HM3 hS3
    have x0_0 : W6.drew.cell? ⟨h, 8, none⟩ = some (Value.int .i64 v) := HR4.out.row.cell 8 rfl
    have x0_1 : W6.drew.cell? ⟨h, 5, none⟩ = some (Value.int .i64 k) := HR4.out.row.cell 5 rfl
    have x0_2 : W6.drew.cell? ⟨h, 6, none⟩ = some (Value.int .i64 o) := HR4.out.row.cell 6 rfl
    refine wp_region_held_drew (S := (fun w' => w'.cell? ⟨h, 8, none⟩ = some (Value.int .i64 v) ∧ w'.cell? ⟨h, 5, none⟩ = some (Value.int .i64 k) ∧ w'.cell? ⟨h, 6, none⟩ = some (Value.int .i64 o))) (by kernel_rfl) ⟨x0_0, x0_1, x0_2⟩ (fun hS => ?_)
    generalize W6.drew = y0 at *
    refine wpAnyH_take (i := 0) (oi := { dst := some 35, op := Op.move (Operand.tmp 0), type := 46, pos := "ref.go:61", after := #[], guard := none }) (v := ?v0_13) rfl (by kernel_rfl) (by kernel_rfl) (by kernel_rfl) (fun _ _ _ h => h) (Or.inl ⟨by rfl, ?hy0_13⟩) hS ?rest0_13
    case hy0_13 =>
      intro w hSw
      (try dsimp only at hSw)
      go_simp
      try with_reducible rfl
    try simp only [Act.put, List.setIfInBounds_toArray, List.set_cons_zero, List.set_cons_succ]
    refine wpAnyH_take (i := 1) (oi := { dst := some 36, op := Op.move (Operand.tmp 0), type := 46, pos := "ref.go:61", after := #[], guard := none }) (v := ?v1_14) rfl (by kernel_rfl) (by kernel_rfl) (by kernel_rfl) (fun _ _ _ h => h) (Or.inl ⟨by rfl, ?hy1_14⟩) hS ?rest1_14
    case hy1_14 =>
      intro w hSw
      (try dsimp only at hSw)
      go_simp
      try with_reducible rfl
    try simp only [Act.put, List.setIfInBounds_toArray, List.set_cons_zero, List.set_cons_succ]
    refine wpAnyH_take (i := 2) (oi := { dst := some 37, op := Op.nilCheck (Operand.tmp 36), type := 0, pos := "ref.go:61", after := #[{ on := 1, ground := Ground.data }], guard := none }) (v := ?v2_15) rfl (by kernel_rfl) (by kernel_rfl) (by kernel_rfl) (fun _ _ _ h => h) (Or.inl ⟨by rfl, ?hy2_15⟩) hS ?rest2_15
    case hy2_15 =>
      intro w hSw
      (try dsimp only at hSw)
      go_simp
      try with_reducible rfl
    try simp only [Act.put, List.setIfInBounds_toArray, List.set_cons_zero, List.set_cons_succ]
    refine wpAnyH_take (i := 3) (oi := { dst := some 38, op := Op.fieldAddr 56 (Operand.tmp 37) 4, type := 0, pos := "ref.go:61", after := #[{ on := 2, ground := Ground.data }], guard := none }) (v := ?v3_16) rfl (by kernel_rfl) (by kernel_rfl) (by kernel_rfl) (fun _ _ _ h => h) (Or.inl ⟨by rfl, ?hy3_16⟩) hS ?rest3_16
    case hy3_16 =>
      intro w hSw
      (try dsimp only at hSw)
      go_simp
      try with_reducible rfl
    try simp only [Act.put, List.setIfInBounds_toArray, List.set_cons_zero, List.set_cons_succ]
    refine wpAnyH_take (i := 4) (oi := { dst := some 39, op := Op.load 3 (Operand.tmp 38), type := 3, pos := "ref.go:61", after := #[{ on := 3, ground := Ground.data }], guard := none }) (v := ?v4_17) rfl (by kernel_rfl) (by kernel_rfl) (by kernel_rfl) (fun _ _ _ h => h) (Or.inl ⟨by rfl, ?hy4_17⟩) hS ?rest4_17
    case hy4_17 =>
      intro w hSw
      (try dsimp only at hSw)
      go_simp
      try with_reducible rfl
    try simp only [Act.put, List.setIfInBounds_toArray, List.set_cons_zero, List.set_cons_succ]
    refine wpAnyH_take (i := 5) (oi := { dst := some 40, op := Op.move (Operand.tmp 0), type := 46, pos := "ref.go:61", after := #[], guard := none }) (v := ?v5_18) rfl (by kernel_rfl) (by kernel_rfl) (by kernel_rfl) (fun _ _ _ h => h) (Or.inl ⟨by rfl, ?hy5_18⟩) hS ?rest5_18
    case hy5_18 =>
      intro w hSw
      (try dsimp only at hSw)
      go_simp
      try with_reducible rfl
    try simp only [Act.put, List.setIfInBounds_toArray, List.set_cons_zero, List.set_cons_succ]
    refine wpAnyH_take (i := 6) (oi := { dst := some 41, op := Op.nilCheck (Operand.tmp 40), type := 0, pos := "ref.go:61", after := #[{ on := 5, ground := Ground.data }], guard := none }) (v := ?v6_19) rfl (by kernel_rfl) (by kernel_rfl) (by kernel_rfl) (fun _ _ _ h => h) (Or.inl ⟨by rfl, ?hy6_19⟩) hS ?rest6_19
    case hy6_19 =>
      intro w hSw
      (try dsimp only at hSw)
      go_simp
      try with_reducible rfl
    try simp only [Act.put, List.setIfInBounds_toArray, List.set_cons_zero, List.set_cons_succ]
    refine wpAnyH_take (i := 7) (oi := { dst := some 42, op := Op.fieldAddr 56 (Operand.tmp 41) 1, type := 0, pos := "ref.go:61", after := #[{ on := 6, ground := Ground.data }], guard := none }) (v := ?v7_20) rfl (by kernel_rfl) (by kernel_rfl) (by kernel_rfl) (fun _ _ _ h => h) (Or.inl ⟨by rfl, ?hy7_20⟩) hS ?rest7_20
    case hy7_20 =>
      intro w hSw
      (try dsimp only at hSw)
      go_simp
      try with_reducible rfl
    try simp only [Act.put, List.setIfInBounds_toArray, List.set_cons_zero, List.set_cons_succ]
    refine wpAnyH_take (i := 8) (oi := { dst := some 43, op := Op.load 3 (Operand.tmp 42), type := 3, pos := "ref.go:61", after := #[{ on := 7, ground := Ground.data }], guard := none }) (v := ?v8_21) rfl (by kernel_rfl) (by kernel_rfl) (by kernel_rfl) (fun _ _ _ h => h) (Or.inl ⟨by rfl, ?hy8_21⟩) hS ?rest8_21
    case hy8_21 =>
      intro w hSw
      (try dsimp only at hSw)
      go_simp
      try with_reducible rfl
    try simp only [Act.put, List.setIfInBounds_toArray, List.set_cons_zero, List.set_cons_succ]
    refine wpAnyH_take (i := 9) (oi := { dst := some 44, op := Op.move (Operand.tmp 0), type := 46, pos := "ref.go:61", after := #[], guard := none }) (v := ?v9_22) rfl (by kernel_rfl) (by kernel_rfl) (by kernel_rfl) (fun _ _ _ h => h) (Or.inl ⟨by rfl, ?hy9_22⟩) hS ?rest9_22
    case hy9_22 =>
      intro w hSw
      (try dsimp only at hSw)
      go_simp
      try with_reducible rfl
    try simp only [Act.put, List.setIfInBounds_toArray, List.set_cons_zero, List.set_cons_succ]
    refine wpAnyH_take (i := 10) (oi := { dst := some 45, op := Op.nilCheck (Operand.tmp 44), type := 0, pos := "ref.go:61", after := #[{ on := 9, ground := Ground.data }], guard := none }) (v := ?v10_23) rfl (by kernel_rfl) (by kernel_rfl) (by kernel_rfl) (fun _ _ _ h => h) (Or.inl ⟨by rfl, ?hy10_23⟩) hS ?rest10_23
    case hy10_23 =>
      intro w hSw
      (try dsimp only at hSw)
      go_simp
      try with_reducible rfl
    try simp only [Act.put, List.setIfInBounds_toArray, List.set_cons_zero, List.set_cons_succ]
    refine wpAnyH_take (i := 11) (oi := { dst := some 46, op := Op.fieldAddr 56 (Operand.tmp 45) 2, type := 0, pos := "ref.go:61", after := #[{ on := 10, ground := Ground.data }], guard := none }) (v := ?v11_24) rfl (by kernel_rfl) (by kernel_rfl) (by kernel_rfl) (fun _ _ _ h => h) (Or.inl ⟨by rfl, ?hy11_24⟩) hS ?rest11_24
    case hy11_24 =>
      intro w hSw
      (try dsimp only at hSw)
      go_simp
      try with_reducible rfl
    try simp only [Act.put, List.setIfInBounds_toArray, List.set_cons_zero, List.set_cons_succ]
    refine wpAnyH_take (i := 12) (oi := { dst := some 47, op := Op.load 3 (Operand.tmp 46), type := 3, pos := "ref.go:61", after := #[{ on := 11, ground := Ground.data }], guard := none }) (v := ?v12_25) rfl (by kernel_rfl) (by kernel_rfl) (by kernel_rfl) (fun _ _ _ h => h) (Or.inl ⟨by rfl, ?hy12_25⟩) hS ?rest12_25
    case hy12_25 =>
      intro w hSw
      (try dsimp only at hSw)
      go_simp
      try with_reducible rfl
    try simp only [Act.put, List.setIfInBounds_toArray, List.set_cons_zero, List.set_cons_succ]
    refine wpAnyH_ready (rs := [13]) (by kernel_rfl) (by simp) ?_
    refine AllReadyH.cons (o := { dst := some 48, op := Op.call { callee := Callee.value (Operand.func 31), args := #[Operand.tmp 39, Operand.tmp 43, Operand.tmp 47], argTypes := #[3, 3, 3] }, type := 4, pos := "ref.go:61", after := #[{ on := 4, ground := Ground.data }, { on := 8, ground := Ground.data }, { on := 12, ground := Ground.data }], guard := none }) rfl (fun K hK => ?_) AllReadyH.nil
    go_simp
    refine (refWordF_any v k o _ hb1 hb2).mono ?_
    rw [HW.out]
    rintro e y1 ⟨rfl, hb⟩
    have HR5 := Lib.hid (HR4.out.on hb)
    have HM5 := Lib.hid (HM4.out.on hb)
    have hS5 := hS4.on hb
    clear hb
    have d9 : y1.cell? ⟨h, 9, none⟩ = some (.bool false) := by rw [← Hi.out]; exact HR5.out.row.cell 9 rfl
    have g9 : y1.frozen? ⟨h, 9, none⟩ = false := HR5.out.row.frozen 9
    have x1_0 : y1.cell? ⟨h, 8, none⟩ = some (Value.int .i64 v) := HR5.out.row.cell 8 rfl
    have x1_1 : y1.cell? ⟨h, 5, none⟩ = some (Value.int .i64 k) := HR5.out.row.cell 5 rfl
    have x1_2 : y1.cell? ⟨h, 6, none⟩ = some (Value.int .i64 o) := HR5.out.row.cell 6 rfl
    refine hK.out _ _ ⟨x1_0, x1_1, x1_2⟩ (fun hS => ?_)
    clear hK K
    try simp only [Act.put, List.setIfInBounds_toArray, List.set_cons_zero, List.set_cons_succ]
    refine wpAnyH_take (i := 14) (oi := { dst := some 49, op := Op.nilCheck (Operand.tmp 35), type := 0, pos := "ref.go:61", after := #[{ on := 0, ground := Ground.data }, { on := 0, ground := Ground.phase }, { on := 1, ground := Ground.phase }, { on := 2, ground := Ground.phase }, { on := 3, ground := Ground.phase }, { on := 4, ground := Ground.phase }, { on := 5, ground := Ground.phase }, { on := 6, ground := Ground.phase }, { on := 7, ground := Ground.phase }, { on := 8, ground := Ground.phase }, { on := 9, ground := Ground.phase }, { on := 10, ground := Ground.phase }, { on := 11, ground := Ground.phase }, { on := 12, ground := Ground.phase }, { on := 13, ground := Ground.phase }], guard := none }) (v := ?v14_26) rfl (by kernel_rfl) (by kernel_rfl) (by kernel_rfl) (fun _ _ _ h => h) (Or.inl ⟨by rfl, ?hy14_26⟩) hS ?rest14_26
    case hy14_26 =>
      intro w hSw
      (try dsimp only at hSw)
      go_simp
      try with_reducible rfl
    try simp only [Act.put, List.setIfInBounds_toArray, List.set_cons_zero, List.set_cons_succ]
    refine wpAnyH_take (i := 15) (oi := { dst := some 50, op := Op.fieldAddr 56 (Operand.tmp 49) 5, type := 0, pos := "ref.go:61", after := #[{ on := 14, ground := Ground.data }, { on := 0, ground := Ground.phase }, { on := 1, ground := Ground.phase }, { on := 2, ground := Ground.phase }, { on := 3, ground := Ground.phase }, { on := 4, ground := Ground.phase }, { on := 5, ground := Ground.phase }, { on := 6, ground := Ground.phase }, { on := 7, ground := Ground.phase }, { on := 8, ground := Ground.phase }, { on := 9, ground := Ground.phase }, { on := 10, ground := Ground.phase }, { on := 11, ground := Ground.phase }, { on := 12, ground := Ground.phase }, { on := 13, ground := Ground.phase }], guard := none }) (v := ?v15_27) rfl (by kernel_rfl) (by kernel_rfl) (by kernel_rfl) (fun _ _ _ h => h) (Or.inl ⟨by rfl, ?hy15_27⟩) hS ?rest15_27
    case hy15_27 =>
      intro w hSw
      (try dsimp only at hSw)
      go_simp
      try with_reducible rfl
    try simp only [Act.put, List.setIfInBounds_toArray, List.set_cons_zero, List.set_cons_succ]
    refine wpAnyH_ready (rs := [16]) (by kernel_rfl) (by simp) ?_
    refine AllReadyH.cons (o := { dst := none, op := Op.store 4 (Operand.tmp 50) (Operand.tmp 48), type := 0, pos := "ref.go:61", after := #[{ on := 15, ground := Ground.data }, { on := 13, ground := Ground.data }, { on := 13, ground := Ground.chain }, { on := 0, ground := Ground.phase }, { on := 1, ground := Ground.phase }, { on := 2, ground := Ground.phase }, { on := 3, ground := Ground.phase }, { on := 4, ground := Ground.phase }, { on := 5, ground := Ground.phase }, { on := 6, ground := Ground.phase }, { on := 7, ground := Ground.phase }, { on := 8, ground := Ground.phase }, { on := 9, ground := Ground.phase }, { on := 10, ground := Ground.phase }, { on := 11, ground := Ground.phase }, { on := 12, ground := Ground.phase }, { on := 13, ground := Ground.phase }], guard := none }) rfl (fun K hK => ?_) AllReadyH.nil
    go_simp
    have HR6 := Lib.hid (HR5.out.set9 false)
    have hS6 := hS5.set hfX 9 (.bool false)
    have HM6 := Lib.hid (HM5.out.spx (sp_set (f := h) (j := 9) (v := .bool false)) (by simpa using hgf) (by simpa using hwf))
    have x2_0 : (y1.setCell ⟨h, 9, none⟩ (.bool false)).cell? ⟨h, 8, none⟩ = some (Value.int .i64 v) := HR6.out.row.cell 8 rfl
    have x2_1 : (y1.setCell ⟨h, 9, none⟩ (.bool false)).cell? ⟨h, 5, none⟩ = some (Value.int .i64 k) := HR6.out.row.cell 5 rfl
    have x2_2 : (y1.setCell ⟨h, 9, none⟩ (.bool false)).cell? ⟨h, 6, none⟩ = some (Value.int .i64 o) := HR6.out.row.cell 6 rfl
    refine hK.out _ _ ⟨x2_0, x2_1, x2_2⟩ (fun hS => ?_)
    clear hK K
    try simp only [Act.put, List.setIfInBounds_toArray, List.set_cons_zero, List.set_cons_succ]
    refine wpAnyH_done (by kernel_rfl) ?_ _
    obtain ⟨W7, h7⟩ : ∃ W7, W7 = (y1.setCell ⟨h, 9, none⟩ (.bool false)) := ⟨_, rfl⟩
    rw [← h7] at HR6 HM6 hS6 ⊢
    clear h7
    have e9 : W7.cell? ⟨h, 9, none⟩ = some (.bool false) := HR6.out.row.cell 9 rfl
    have e7 : W7.cell? ⟨h, 7, none⟩ = some (.int .i64 x.po) := HR6.out.row.cell 7 rfl
    have g7 : W7.frozen? ⟨h, 7, none⟩ = false := HR6.out.row.frozen 7
    have HR9 := Lib.hid (HR6.out.set7 (x.po + 1))
    have hS9 := hS6.set hfX 7 (.int .i64 (x.po + 1))
    have HM9 := Lib.hid (HM6.out.spx (sp_set (f := h) (j := 7) (v := .int .i64 (x.po + 1))) (by simpa using hgf) (by simpa using hwf))
    have k7 := HR9.out.row.cell 7 rfl
    have k1 := HR9.out.row.cell 1 rfl
    go_wp2_with fail
    generalize W7.setCell ⟨h, 7, none⟩ (.int .i64 (x.po + 1)) = W8 at *
    go_quiet (fail)
    go_wp2
    go_ret
    rw [HV.out] at HR9
    exact ⟨by rw [step_miss Hd.out HW2.out]; exact ret_bool (rlast h2), by rw [tch_go Hd.out]; exact HM9.out.drewN _, by rw [step_miss Hd.out HW2.out]; exact ⟨HR9.out.row⟩, hS9.drewN _⟩
  | true =>
    have HW := Lib.hid hq
    have HW2 : Hid (wfitB (lookI c x s.ws) k o = true) := Lib.hid (by rw [← HV.out]; exact hq)
    clear hq
    have HR4 := Lib.hid HR3.out.drew
    have HM4 := Lib.hid HM3.out.drew
    have hS4 := hS3.drew
    clear HR3 HM3 hS3
    have x0_0 : W6.drew.cell? ⟨h, 8, none⟩ = some (Value.int .i64 v) := HR4.out.row.cell 8 rfl
    have x0_1 : W6.drew.cell? ⟨h, 5, none⟩ = some (Value.int .i64 k) := HR4.out.row.cell 5 rfl
    have x0_2 : W6.drew.cell? ⟨h, 6, none⟩ = some (Value.int .i64 o) := HR4.out.row.cell 6 rfl
    refine wp_region_held_drew (S := (fun w' => w'.cell? ⟨h, 8, none⟩ = some (Value.int .i64 v) ∧ w'.cell? ⟨h, 5, none⟩ = some (Value.int .i64 k) ∧ w'.cell? ⟨h, 6, none⟩ = some (Value.int .i64 o))) (by kernel_rfl) ⟨x0_0, x0_1, x0_2⟩ (fun hS => ?_)
    generalize W6.drew = y0 at *
    refine wpAnyH_take (i := 0) (oi := { dst := some 35, op := Op.move (Operand.tmp 0), type := 46, pos := "ref.go:61", after := #[], guard := none }) (v := ?v0_28) rfl (by kernel_rfl) (by kernel_rfl) (by kernel_rfl) (fun _ _ _ h => h) (Or.inl ⟨by rfl, ?hy0_28⟩) hS ?rest0_28
    case hy0_28 =>
      intro w hSw
      (try dsimp only at hSw)
      go_simp
      try with_reducible rfl
    try simp only [Act.put, List.setIfInBounds_toArray, List.set_cons_zero, List.set_cons_succ]
    refine wpAnyH_take (i := 1) (oi := { dst := some 36, op := Op.move (Operand.tmp 0), type := 46, pos := "ref.go:61", after := #[], guard := none }) (v := ?v1_29) rfl (by kernel_rfl) (by kernel_rfl) (by kernel_rfl) (fun _ _ _ h => h) (Or.inl ⟨by rfl, ?hy1_29⟩) hS ?rest1_29
    case hy1_29 =>
      intro w hSw
      (try dsimp only at hSw)
      go_simp
      try with_reducible rfl
    try simp only [Act.put, List.setIfInBounds_toArray, List.set_cons_zero, List.set_cons_succ]
    refine wpAnyH_take (i := 2) (oi := { dst := some 37, op := Op.nilCheck (Operand.tmp 36), type := 0, pos := "ref.go:61", after := #[{ on := 1, ground := Ground.data }], guard := none }) (v := ?v2_30) rfl (by kernel_rfl) (by kernel_rfl) (by kernel_rfl) (fun _ _ _ h => h) (Or.inl ⟨by rfl, ?hy2_30⟩) hS ?rest2_30
    case hy2_30 =>
      intro w hSw
      (try dsimp only at hSw)
      go_simp
      try with_reducible rfl
    try simp only [Act.put, List.setIfInBounds_toArray, List.set_cons_zero, List.set_cons_succ]
    refine wpAnyH_take (i := 3) (oi := { dst := some 38, op := Op.fieldAddr 56 (Operand.tmp 37) 4, type := 0, pos := "ref.go:61", after := #[{ on := 2, ground := Ground.data }], guard := none }) (v := ?v3_31) rfl (by kernel_rfl) (by kernel_rfl) (by kernel_rfl) (fun _ _ _ h => h) (Or.inl ⟨by rfl, ?hy3_31⟩) hS ?rest3_31
    case hy3_31 =>
      intro w hSw
      (try dsimp only at hSw)
      go_simp
      try with_reducible rfl
    try simp only [Act.put, List.setIfInBounds_toArray, List.set_cons_zero, List.set_cons_succ]
    refine wpAnyH_take (i := 4) (oi := { dst := some 39, op := Op.load 3 (Operand.tmp 38), type := 3, pos := "ref.go:61", after := #[{ on := 3, ground := Ground.data }], guard := none }) (v := ?v4_32) rfl (by kernel_rfl) (by kernel_rfl) (by kernel_rfl) (fun _ _ _ h => h) (Or.inl ⟨by rfl, ?hy4_32⟩) hS ?rest4_32
    case hy4_32 =>
      intro w hSw
      (try dsimp only at hSw)
      go_simp
      try with_reducible rfl
    try simp only [Act.put, List.setIfInBounds_toArray, List.set_cons_zero, List.set_cons_succ]
    refine wpAnyH_take (i := 5) (oi := { dst := some 40, op := Op.move (Operand.tmp 0), type := 46, pos := "ref.go:61", after := #[], guard := none }) (v := ?v5_33) rfl (by kernel_rfl) (by kernel_rfl) (by kernel_rfl) (fun _ _ _ h => h) (Or.inl ⟨by rfl, ?hy5_33⟩) hS ?rest5_33
    case hy5_33 =>
      intro w hSw
      (try dsimp only at hSw)
      go_simp
      try with_reducible rfl
    try simp only [Act.put, List.setIfInBounds_toArray, List.set_cons_zero, List.set_cons_succ]
    refine wpAnyH_take (i := 6) (oi := { dst := some 41, op := Op.nilCheck (Operand.tmp 40), type := 0, pos := "ref.go:61", after := #[{ on := 5, ground := Ground.data }], guard := none }) (v := ?v6_34) rfl (by kernel_rfl) (by kernel_rfl) (by kernel_rfl) (fun _ _ _ h => h) (Or.inl ⟨by rfl, ?hy6_34⟩) hS ?rest6_34
    case hy6_34 =>
      intro w hSw
      (try dsimp only at hSw)
      go_simp
      try with_reducible rfl
    try simp only [Act.put, List.setIfInBounds_toArray, List.set_cons_zero, List.set_cons_succ]
    refine wpAnyH_take (i := 7) (oi := { dst := some 42, op := Op.fieldAddr 56 (Operand.tmp 41) 1, type := 0, pos := "ref.go:61", after := #[{ on := 6, ground := Ground.data }], guard := none }) (v := ?v7_35) rfl (by kernel_rfl) (by kernel_rfl) (by kernel_rfl) (fun _ _ _ h => h) (Or.inl ⟨by rfl, ?hy7_35⟩) hS ?rest7_35
    case hy7_35 =>
      intro w hSw
      (try dsimp only at hSw)
      go_simp
      try with_reducible rfl
    try simp only [Act.put, List.setIfInBounds_toArray, List.set_cons_zero, List.set_cons_succ]
    refine wpAnyH_take (i := 8) (oi := { dst := some 43, op := Op.load 3 (Operand.tmp 42), type := 3, pos := "ref.go:61", after := #[{ on := 7, ground := Ground.data }], guard := none }) (v := ?v8_36) rfl (by kernel_rfl) (by kernel_rfl) (by kernel_rfl) (fun _ _ _ h => h) (Or.inl ⟨by rfl, ?hy8_36⟩) hS ?rest8_36
    case hy8_36 =>
      intro w hSw
      (try dsimp only at hSw)
      go_simp
      try with_reducible rfl
    try simp only [Act.put, List.setIfInBounds_toArray, List.set_cons_zero, List.set_cons_succ]
    refine wpAnyH_take (i := 9) (oi := { dst := some 44, op := Op.move (Operand.tmp 0), type := 46, pos := "ref.go:61", after := #[], guard := none }) (v := ?v9_37) rfl (by kernel_rfl) (by kernel_rfl) (by kernel_rfl) (fun _ _ _ h => h) (Or.inl ⟨by rfl, ?hy9_37⟩) hS ?rest9_37
    case hy9_37 =>
      intro w hSw
      (try dsimp only at hSw)
      go_simp
      try with_reducible rfl
    try simp only [Act.put, List.setIfInBounds_toArray, List.set_cons_zero, List.set_cons_succ]
    refine wpAnyH_take (i := 10) (oi := { dst := some 45, op := Op.nilCheck (Operand.tmp 44), type := 0, pos := "ref.go:61", after := #[{ on := 9, ground := Ground.data }], guard := none }) (v := ?v10_38) rfl (by kernel_rfl) (by kernel_rfl) (by kernel_rfl) (fun _ _ _ h => h) (Or.inl ⟨by rfl, ?hy10_38⟩) hS ?rest10_38
    case hy10_38 =>
      intro w hSw
      (try dsimp only at hSw)
      go_simp
      try with_reducible rfl
    try simp only [Act.put, List.setIfInBounds_toArray, List.set_cons_zero, List.set_cons_succ]
    refine wpAnyH_take (i := 11) (oi := { dst := some 46, op := Op.fieldAddr 56 (Operand.tmp 45) 2, type := 0, pos := "ref.go:61", after := #[{ on := 10, ground := Ground.data }], guard := none }) (v := ?v11_39) rfl (by kernel_rfl) (by kernel_rfl) (by kernel_rfl) (fun _ _ _ h => h) (Or.inl ⟨by rfl, ?hy11_39⟩) hS ?rest11_39
    case hy11_39 =>
      intro w hSw
      (try dsimp only at hSw)
      go_simp
      try with_reducible rfl
    try simp only [Act.put, List.setIfInBounds_toArray, List.set_cons_zero, List.set_cons_succ]
    refine wpAnyH_take (i := 12) (oi := { dst := some 47, op := Op.load 3 (Operand.tmp 46), type := 3, pos := "ref.go:61", after := #[{ on := 11, ground := Ground.data }], guard := none }) (v := ?v12_40) rfl (by kernel_rfl) (by kernel_rfl) (by kernel_rfl) (fun _ _ _ h => h) (Or.inl ⟨by rfl, ?hy12_40⟩) hS ?rest12_40
    case hy12_40 =>
      intro w hSw
      (try dsimp only at hSw)
      go_simp
      try with_reducible rfl
    try simp only [Act.put, List.setIfInBounds_toArray, List.set_cons_zero, List.set_cons_succ]
    refine wpAnyH_ready (rs := [13]) (by kernel_rfl) (by simp) ?_
    refine AllReadyH.cons (o := { dst := some 48, op := Op.call { callee := Callee.value (Operand.func 31), args := #[Operand.tmp 39, Operand.tmp 43, Operand.tmp 47], argTypes := #[3, 3, 3] }, type := 4, pos := "ref.go:61", after := #[{ on := 4, ground := Ground.data }, { on := 8, ground := Ground.data }, { on := 12, ground := Ground.data }], guard := none }) rfl (fun K hK => ?_) AllReadyH.nil
    go_simp
    refine (refWordF_any v k o _ hb1 hb2).mono ?_
    rw [HW.out]
    rintro e y1 ⟨rfl, hb⟩
    have HR5 := Lib.hid (HR4.out.on hb)
    have HM5 := Lib.hid (HM4.out.on hb)
    have hS5 := hS4.on hb
    clear hb
    have d9 : y1.cell? ⟨h, 9, none⟩ = some (.bool false) := by rw [← Hi.out]; exact HR5.out.row.cell 9 rfl
    have g9 : y1.frozen? ⟨h, 9, none⟩ = false := HR5.out.row.frozen 9
    have x1_0 : y1.cell? ⟨h, 8, none⟩ = some (Value.int .i64 v) := HR5.out.row.cell 8 rfl
    have x1_1 : y1.cell? ⟨h, 5, none⟩ = some (Value.int .i64 k) := HR5.out.row.cell 5 rfl
    have x1_2 : y1.cell? ⟨h, 6, none⟩ = some (Value.int .i64 o) := HR5.out.row.cell 6 rfl
    refine hK.out _ _ ⟨x1_0, x1_1, x1_2⟩ (fun hS => ?_)
    clear hK K
    try simp only [Act.put, List.setIfInBounds_toArray, List.set_cons_zero, List.set_cons_succ]
    refine wpAnyH_take (i := 14) (oi := { dst := some 49, op := Op.nilCheck (Operand.tmp 35), type := 0, pos := "ref.go:61", after := #[{ on := 0, ground := Ground.data }, { on := 0, ground := Ground.phase }, { on := 1, ground := Ground.phase }, { on := 2, ground := Ground.phase }, { on := 3, ground := Ground.phase }, { on := 4, ground := Ground.phase }, { on := 5, ground := Ground.phase }, { on := 6, ground := Ground.phase }, { on := 7, ground := Ground.phase }, { on := 8, ground := Ground.phase }, { on := 9, ground := Ground.phase }, { on := 10, ground := Ground.phase }, { on := 11, ground := Ground.phase }, { on := 12, ground := Ground.phase }, { on := 13, ground := Ground.phase }], guard := none }) (v := ?v14_41) rfl (by kernel_rfl) (by kernel_rfl) (by kernel_rfl) (fun _ _ _ h => h) (Or.inl ⟨by rfl, ?hy14_41⟩) hS ?rest14_41
    case hy14_41 =>
      intro w hSw
      (try dsimp only at hSw)
      go_simp
      try with_reducible rfl
    try simp only [Act.put, List.setIfInBounds_toArray, List.set_cons_zero, List.set_cons_succ]
    refine wpAnyH_take (i := 15) (oi := { dst := some 50, op := Op.fieldAddr 56 (Operand.tmp 49) 5, type := 0, pos := "ref.go:61", after := #[{ on := 14, ground := Ground.data }, { on := 0, ground := Ground.phase }, { on := 1, ground := Ground.phase }, { on := 2, ground := Ground.phase }, { on := 3, ground := Ground.phase }, { on := 4, ground := Ground.phase }, { on := 5, ground := Ground.phase }, { on := 6, ground := Ground.phase }, { on := 7, ground := Ground.phase }, { on := 8, ground := Ground.phase }, { on := 9, ground := Ground.phase }, { on := 10, ground := Ground.phase }, { on := 11, ground := Ground.phase }, { on := 12, ground := Ground.phase }, { on := 13, ground := Ground.phase }], guard := none }) (v := ?v15_42) rfl (by kernel_rfl) (by kernel_rfl) (by kernel_rfl) (fun _ _ _ h => h) (Or.inl ⟨by rfl, ?hy15_42⟩) hS ?rest15_42
    case hy15_42 =>
      intro w hSw
      (try dsimp only at hSw)
      go_simp
      try with_reducible rfl
    try simp only [Act.put, List.setIfInBounds_toArray, List.set_cons_zero, List.set_cons_succ]
    refine wpAnyH_ready (rs := [16]) (by kernel_rfl) (by simp) ?_
    refine AllReadyH.cons (o := { dst := none, op := Op.store 4 (Operand.tmp 50) (Operand.tmp 48), type := 0, pos := "ref.go:61", after := #[{ on := 15, ground := Ground.data }, { on := 13, ground := Ground.data }, { on := 13, ground := Ground.chain }, { on := 0, ground := Ground.phase }, { on := 1, ground := Ground.phase }, { on := 2, ground := Ground.phase }, { on := 3, ground := Ground.phase }, { on := 4, ground := Ground.phase }, { on := 5, ground := Ground.phase }, { on := 6, ground := Ground.phase }, { on := 7, ground := Ground.phase }, { on := 8, ground := Ground.phase }, { on := 9, ground := Ground.phase }, { on := 10, ground := Ground.phase }, { on := 11, ground := Ground.phase }, { on := 12, ground := Ground.phase }, { on := 13, ground := Ground.phase }], guard := none }) rfl (fun K hK => ?_) AllReadyH.nil
    go_simp
    have HR6 := Lib.hid (HR5.out.set9 true)
    have hS6 := hS5.set hfX 9 (.bool true)
    have HM6 := Lib.hid (HM5.out.spx (sp_set (f := h) (j := 9) (v := .bool true)) (by simpa using hgf) (by simpa using hwf))
    have x2_0 : (y1.setCell ⟨h, 9, none⟩ (.bool true)).cell? ⟨h, 8, none⟩ = some (Value.int .i64 v) := HR6.out.row.cell 8 rfl
    have x2_1 : (y1.setCell ⟨h, 9, none⟩ (.bool true)).cell? ⟨h, 5, none⟩ = some (Value.int .i64 k) := HR6.out.row.cell 5 rfl
    have x2_2 : (y1.setCell ⟨h, 9, none⟩ (.bool true)).cell? ⟨h, 6, none⟩ = some (Value.int .i64 o) := HR6.out.row.cell 6 rfl
    refine hK.out _ _ ⟨x2_0, x2_1, x2_2⟩ (fun hS => ?_)
    clear hK K
    try simp only [Act.put, List.setIfInBounds_toArray, List.set_cons_zero, List.set_cons_succ]
    refine wpAnyH_done (by kernel_rfl) ?_ _
    obtain ⟨W7, h7⟩ : ∃ W7, W7 = (y1.setCell ⟨h, 9, none⟩ (.bool true)) := ⟨_, rfl⟩
    rw [← h7] at HR6 HM6 hS6 ⊢
    clear h7
    have e9 : W7.cell? ⟨h, 9, none⟩ = some (.bool true) := HR6.out.row.cell 9 rfl
    go_wp2
    go_ret
    rw [HV.out] at HR6
    exact ⟨by rw [step_hit Hd.out HW2.out]; exact ret_bool (by simp [doneB]), by rw [tch_go Hd.out]; exact HM6.out, by rw [step_hit Hd.out HW2.out]; exact HR6.out, hS6⟩
theorem rstep_any (h g gw c0 : Nat) (c : Cf) (k o : Int) (x : Fs) (s : St) (w : World) (hc : Rc c) (h0 : 0 ≤ x.po) (hR : RefAt w h c k o x) (hM : MemAt w g gw c0 s)
    (hl : s.ws.length = cellsN c) (ht : s.t < 1000000) (hw : ∀ (k : Nat) x, s.ws[k]? = some x → -9223372036854775808 ≤ x ∧ x ≤ 9223372036854775807)
    (hfg : h ≠ g) (hfw : h ≠ gw) :
    Calls Tryd.prog 21 #[.pointer (some ⟨h, 0, none⟩), .pointer (some ⟨g, 0, none⟩)] w (RetRStep h g gw c0 c k o x s w) := by
  cases hd : doneB c x with
  | true => exact rstep_no h g gw c0 c k o x s w hd hR hM
  | false => exact rstep_go h g gw c0 c k o x s w hc hd h0 hR hM hl ht hw hfg hfw
end Go.Proofs.YtbkcniknbpgphaaDoor
