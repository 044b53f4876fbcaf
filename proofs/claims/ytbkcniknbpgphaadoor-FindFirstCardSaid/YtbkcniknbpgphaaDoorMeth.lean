/- The cell that is looked at; what is found; nothing that was there changes. -/
import Derived.Test.YtbkcniknbpgphaaDoorNew
import Derived.BigQuiet
import Derived.Deep.QuietTactic
namespace Go.Proofs.YtbkcniknbpgphaaDoor
open Go.RowKit
attribute [local go_sem ↓] Go.wp_at_zero Go.wp_at_succ

/-- whether all have been looked at, or one is found -/
def doneB (c : Cf) (x : Fs) : Bool := x.is || decide (c.sl ≤ x.po)
/-- what is looked at next -/
def lookI (c : Cf) (x : Fs) (ws : List Int) : Int := ws.getD (3 + c.wo + c.wo + x.po).toNat 0
def stepF (c : Cf) (k o : Int) (x : Fs) (ws : List Int) : Fs :=
  if doneB c x then x else if wfitB (lookI c x ws) k o then ⟨x.po, lookI c x ws, true⟩ else ⟨x.po + 1, lookI c x ws, false⟩
def tch (c : Cf) (x : Fs) : Nat := if doneB c x then 0 else 1
theorem step_done {c : Cf} {k o : Int} {x : Fs} {ws : List Int} (h : doneB c x = true) : stepF c k o x ws = x := if_pos h
theorem step_hit {c : Cf} {k o : Int} {x : Fs} {ws : List Int} (h : doneB c x = false) (hf : wfitB (lookI c x ws) k o = true) : stepF c k o x ws = ⟨x.po, lookI c x ws, true⟩ := by
  unfold stepF
  rw [h, hf]
  rfl
theorem step_miss {c : Cf} {k o : Int} {x : Fs} {ws : List Int} (h : doneB c x = false) (hf : wfitB (lookI c x ws) k o = false) : stepF c k o x ws = ⟨x.po + 1, lookI c x ws, false⟩ := by
  unfold stepF
  rw [h, hf]
  rfl
theorem tch_done {c : Cf} {x : Fs} (h : doneB c x = true) : tch c x = 0 := if_pos h
theorem tch_go {c : Cf} {x : Fs} (h : doneB c x = false) : tch c x = 1 := by
  unfold tch
  rw [h]
  rfl
theorem done_parts {c : Cf} {x : Fs} (h : doneB c x = false) : x.is = false ∧ x.po < c.sl := by
  unfold doneB at h
  rw [Bool.or_eq_false_iff, decide_eq_false_iff_not] at h
  exact ⟨h.1, by omega⟩
/-- the slot's cell, as a number -/
def slotN (c : Cf) (x : Fs) : Nat := (3 + c.wo + c.wo + x.po).toNat
theorem slot_in {c : Cf} {x : Fs} (hc : Rc c) (h0 : 0 ≤ x.po) (h : x.po < c.sl) : slotI c x.po = ((slotN c x : Nat) : Int) ∧ slotN c x < cellsN c := by
  have q1 := hc.wo
  have q2 := hc.sl
  have q3 := cellsN_eq hc
  unfold slotI cellI wiB slotN
  unfold cellsI at q3
  rw [if_pos (by simp; omega)]
  omega
theorem slot_out {c : Cf} {x : Fs} (h : c.sl ≤ x.po) : slotI c x.po = -1 := by
  unfold slotI cellI wiB
  rw [if_neg (by simp; omega)]
set_option maxRecDepth 100000 in
set_option maxHeartbeats 2000000 in
theorem cell_find (f : Nat) (c : Cf) (n : Nat) (fr : Array Value) (x : Fs) (w : World) (hc : Rc c) (h : RowAt w f 77 #[Value.int .i64 c.wo, Value.int .i64 c.sl, Value.int .i64 c.st, Value.int .i64 c.wa, Value.int .i64 c.us, (.func (.func n) #[] fr), Value.int .i64 x.po, Value.int .i64 x.wd, Value.bool x.is]) :
    Calls Tryd.prog 40 #[.pointer (some ⟨f, 0, none⟩)] w fun e w' => e = .returned (.tuple #[.int .i64 (slotI c x.po), .bool (decide (0 ≤ slotI c x.po))]) ∧ Below w.heap.size w w' := by
  have Hc := Lib.hid hc
  have rf0 := h.drew
  have hB0 : Below w.heap.size w w.drew := (Below.refl _ w).drew
  clear hc h
  go_enter Tryd.func40, Tryd.ntmps40
  go_wp2_with fail
  have cf0_0 : w.drew.cell? ⟨f, 0, none⟩ = some (Value.int .i64 c.wo) := rf0.cell 0 rfl
  have cf0_1 : w.drew.cell? ⟨f, 1, none⟩ = some (Value.int .i64 c.sl) := rf0.cell 1 rfl
  have cf0_2 : w.drew.cell? ⟨f, 2, none⟩ = some (Value.int .i64 c.st) := rf0.cell 2 rfl
  have cf0_3 : w.drew.cell? ⟨f, 3, none⟩ = some (Value.int .i64 c.wa) := rf0.cell 3 rfl
  have cf0_4 : w.drew.cell? ⟨f, 4, none⟩ = some (Value.int .i64 c.us) := rf0.cell 4 rfl
  have cf0_5 : w.drew.cell? ⟨f, 5, none⟩ = some (.func (.func n) #[] fr) := rf0.cell 5 rfl
  have cf0_6 : w.drew.cell? ⟨f, 6, none⟩ = some (Value.int .i64 x.po) := rf0.cell 6 rfl
  have cf0_7 : w.drew.cell? ⟨f, 7, none⟩ = some (Value.int .i64 x.wd) := rf0.cell 7 rfl
  have cf0_8 : w.drew.cell? ⟨f, 8, none⟩ = some (Value.bool x.is) := rf0.cell 8 rfl
  refine wp_region_held_drew (S := (fun w' => w'.cell? ⟨f, 0, none⟩ = some (Value.int .i64 c.wo) ∧ w'.cell? ⟨f, 1, none⟩ = some (Value.int .i64 c.sl) ∧ w'.cell? ⟨f, 2, none⟩ = some (Value.int .i64 c.st) ∧ w'.cell? ⟨f, 3, none⟩ = some (Value.int .i64 c.wa) ∧ w'.cell? ⟨f, 4, none⟩ = some (Value.int .i64 c.us) ∧ w'.cell? ⟨f, 5, none⟩ = some (.func (.func n) #[] fr) ∧ w'.cell? ⟨f, 6, none⟩ = some (Value.int .i64 x.po) ∧ w'.cell? ⟨f, 7, none⟩ = some (Value.int .i64 x.wd) ∧ w'.cell? ⟨f, 8, none⟩ = some (Value.bool x.is))) (by kernel_rfl) ⟨cf0_0, cf0_1, cf0_2, cf0_3, cf0_4, cf0_5, cf0_6, cf0_7, cf0_8⟩ (fun hS => ?_)
  generalize w.drew = u0 at *
  refine wpAnyH_take (i := 0) (oi := { dst := some 5, op := Op.move (Operand.tmp 0), type := 41, pos := "find.go:83", after := #[], guard := none }) (v := ?v0_1) rfl (by kernel_rfl) (by kernel_rfl) (by kernel_rfl) (fun _ _ _ h => h) (Or.inl ⟨by rfl, ?hy0_1⟩) hS ?rest0_1
  case hy0_1 =>
    intro w hSw
    (try dsimp only at hSw)
    go_simp
    try with_reducible rfl
  try simp only [Act.put, List.setIfInBounds_toArray, List.set_cons_zero, List.set_cons_succ]
  refine wpAnyH_take (i := 1) (oi := { dst := some 6, op := Op.nilCheck (Operand.tmp 5), type := 0, pos := "find.go:83", after := #[{ on := 0, ground := Ground.data }], guard := none }) (v := ?v1_2) rfl (by kernel_rfl) (by kernel_rfl) (by kernel_rfl) (fun _ _ _ h => h) (Or.inl ⟨by rfl, ?hy1_2⟩) hS ?rest1_2
  case hy1_2 =>
    intro w hSw
    (try dsimp only at hSw)
    go_simp
    try with_reducible rfl
  try simp only [Act.put, List.setIfInBounds_toArray, List.set_cons_zero, List.set_cons_succ]
  refine wpAnyH_take (i := 2) (oi := { dst := some 7, op := Op.fieldAddr 77 (Operand.tmp 6) 0, type := 0, pos := "find.go:83", after := #[{ on := 1, ground := Ground.data }], guard := none }) (v := ?v2_3) rfl (by kernel_rfl) (by kernel_rfl) (by kernel_rfl) (fun _ _ _ h => h) (Or.inl ⟨by rfl, ?hy2_3⟩) hS ?rest2_3
  case hy2_3 =>
    intro w hSw
    (try dsimp only at hSw)
    go_simp
    try with_reducible rfl
  try simp only [Act.put, List.setIfInBounds_toArray, List.set_cons_zero, List.set_cons_succ]
  refine wpAnyH_take (i := 3) (oi := { dst := some 8, op := Op.load 35 (Operand.tmp 7), type := 35, pos := "find.go:83", after := #[{ on := 2, ground := Ground.data }], guard := none }) (v := ?v3_4) rfl (by kernel_rfl) (by kernel_rfl) (by kernel_rfl) (fun _ _ _ h => h) (Or.inl ⟨by rfl, ?hy3_4⟩) hS ?rest3_4
  case hy3_4 =>
    intro w hSw
    (try dsimp only at hSw)
    go_simp
    try with_reducible rfl
  try simp only [Act.put, List.setIfInBounds_toArray, List.set_cons_zero, List.set_cons_succ]
  refine wpAnyH_take (i := 4) (oi := { dst := some 9, op := Op.move (Operand.tmp 0), type := 41, pos := "find.go:83", after := #[], guard := none }) (v := ?v4_5) rfl (by kernel_rfl) (by kernel_rfl) (by kernel_rfl) (fun _ _ _ h => h) (Or.inl ⟨by rfl, ?hy4_5⟩) hS ?rest4_5
  case hy4_5 =>
    intro w hSw
    (try dsimp only at hSw)
    go_simp
    try with_reducible rfl
  try simp only [Act.put, List.setIfInBounds_toArray, List.set_cons_zero, List.set_cons_succ]
  refine wpAnyH_take (i := 5) (oi := { dst := some 10, op := Op.nilCheck (Operand.tmp 9), type := 0, pos := "find.go:83", after := #[{ on := 4, ground := Ground.data }], guard := none }) (v := ?v5_6) rfl (by kernel_rfl) (by kernel_rfl) (by kernel_rfl) (fun _ _ _ h => h) (Or.inl ⟨by rfl, ?hy5_6⟩) hS ?rest5_6
  case hy5_6 =>
    intro w hSw
    (try dsimp only at hSw)
    go_simp
    try with_reducible rfl
  try simp only [Act.put, List.setIfInBounds_toArray, List.set_cons_zero, List.set_cons_succ]
  refine wpAnyH_take (i := 6) (oi := { dst := some 11, op := Op.fieldAddr 77 (Operand.tmp 10) 2, type := 0, pos := "find.go:83", after := #[{ on := 5, ground := Ground.data }], guard := none }) (v := ?v6_7) rfl (by kernel_rfl) (by kernel_rfl) (by kernel_rfl) (fun _ _ _ h => h) (Or.inl ⟨by rfl, ?hy6_7⟩) hS ?rest6_7
  case hy6_7 =>
    intro w hSw
    (try dsimp only at hSw)
    go_simp
    try with_reducible rfl
  try simp only [Act.put, List.setIfInBounds_toArray, List.set_cons_zero, List.set_cons_succ]
  refine wpAnyH_take (i := 7) (oi := { dst := some 12, op := Op.load 3 (Operand.tmp 11), type := 3, pos := "find.go:83", after := #[{ on := 6, ground := Ground.data }], guard := none }) (v := ?v7_8) rfl (by kernel_rfl) (by kernel_rfl) (by kernel_rfl) (fun _ _ _ h => h) (Or.inl ⟨by rfl, ?hy7_8⟩) hS ?rest7_8
  case hy7_8 =>
    intro w hSw
    (try dsimp only at hSw)
    go_simp
    try with_reducible rfl
  try simp only [Act.put, List.setIfInBounds_toArray, List.set_cons_zero, List.set_cons_succ]
  refine wpAnyH_ready (rs := [8]) (by kernel_rfl) (by simp) ?_
  refine AllReadyH.cons (o := { dst := some 13, op := Op.call { callee := Callee.value (Operand.func 54), args := #[Operand.tmp 8, Operand.tmp 12], argTypes := #[35, 3] }, type := 3, pos := "find.go:83", after := #[{ on := 3, ground := Ground.data }, { on := 7, ground := Ground.data }], guard := none }) rfl (fun K hK => ?_) AllReadyH.nil
  go_simp
  refine (slot_any c x.po _ Hc.out).mono ?_
  rintro e u1 ⟨rfl, hb⟩
  have hB1 := hB0.trans (hb.mono hB0.size)
  have rf1 := rf0.below hb rf0.lt
  clear hb
  have cf1_0 : u1.cell? ⟨f, 0, none⟩ = some (Value.int .i64 c.wo) := rf1.cell 0 rfl
  have cf1_1 : u1.cell? ⟨f, 1, none⟩ = some (Value.int .i64 c.sl) := rf1.cell 1 rfl
  have cf1_2 : u1.cell? ⟨f, 2, none⟩ = some (Value.int .i64 c.st) := rf1.cell 2 rfl
  have cf1_3 : u1.cell? ⟨f, 3, none⟩ = some (Value.int .i64 c.wa) := rf1.cell 3 rfl
  have cf1_4 : u1.cell? ⟨f, 4, none⟩ = some (Value.int .i64 c.us) := rf1.cell 4 rfl
  have cf1_5 : u1.cell? ⟨f, 5, none⟩ = some (.func (.func n) #[] fr) := rf1.cell 5 rfl
  have cf1_6 : u1.cell? ⟨f, 6, none⟩ = some (Value.int .i64 x.po) := rf1.cell 6 rfl
  have cf1_7 : u1.cell? ⟨f, 7, none⟩ = some (Value.int .i64 x.wd) := rf1.cell 7 rfl
  have cf1_8 : u1.cell? ⟨f, 8, none⟩ = some (Value.bool x.is) := rf1.cell 8 rfl
  refine hK.out _ _ ⟨cf1_0, cf1_1, cf1_2, cf1_3, cf1_4, cf1_5, cf1_6, cf1_7, cf1_8⟩ (fun hS => ?_)
  clear hK K
  try simp only [Act.put, List.setIfInBounds_toArray, List.set_cons_zero, List.set_cons_succ]
  refine wpAnyH_take (i := 9) (oi := { dst := some 4, op := Op.assign (Operand.tmp 13), type := 3, pos := "find.go:83", after := #[{ on := 8, ground := Ground.data }, { on := 8, ground := Ground.chain }, { on := 0, ground := Ground.phase }, { on := 1, ground := Ground.phase }, { on := 2, ground := Ground.phase }, { on := 3, ground := Ground.phase }, { on := 4, ground := Ground.phase }, { on := 5, ground := Ground.phase }, { on := 6, ground := Ground.phase }, { on := 7, ground := Ground.phase }, { on := 8, ground := Ground.phase }], guard := none }) (v := ?v9_9) rfl (by kernel_rfl) (by kernel_rfl) (by kernel_rfl) (fun _ _ _ h => h) (Or.inl ⟨by rfl, ?hy9_9⟩) hS ?rest9_9
  case hy9_9 =>
    intro w hSw
    (try dsimp only at hSw)
    go_simp
    try with_reducible rfl
  try simp only [Act.put, List.setIfInBounds_toArray, List.set_cons_zero, List.set_cons_succ]
  refine wpAnyH_done (by kernel_rfl) ?_ _
  go_wp2
  go_ret2
  exact ⟨rfl, hB1⟩
/-- what is told of what is found -/
def foundV (x : Fs) : Value := if x.is then .tuple #[.int .i64 x.po, .int .i64 x.wd, .bool true] else .tuple #[.int .i64 0, .int .i64 0, .bool false]
set_option maxRecDepth 100000 in
set_option maxHeartbeats 2000000 in
theorem found_any (f : Nat) (c : Cf) (n : Nat) (fr : Array Value) (x : Fs) (w : World) (h : RowAt w f 77 #[Value.int .i64 c.wo, Value.int .i64 c.sl, Value.int .i64 c.st, Value.int .i64 c.wa, Value.int .i64 c.us, (.func (.func n) #[] fr), Value.int .i64 x.po, Value.int .i64 x.wd, Value.bool x.is]) :
    Calls Tryd.prog 22 #[.pointer (some ⟨f, 0, none⟩)] w fun e w' => e = .returned (foundV x) ∧ ∃ j, w' = w.drewN j := by
  obtain ⟨po, wd, b⟩ := x
  have c2 := h.cell 6 rfl
  have c3 := h.cell 7 rfl
  have c4 := h.cell 8 rfl
  clear h
  cases b with
  | false =>
    go_enter Tryd.func22, Tryd.ntmps22
    go_wp2
    go_ret3
    exact ⟨rfl, 0, rfl⟩
  | true =>
    go_enter Tryd.func22, Tryd.ntmps22
    go_wp2
    go_quiet (fail)
    go_wp2
    go_ret3
    exact ⟨rfl, _, rfl⟩
end Go.Proofs.YtbkcniknbpgphaaDoor
