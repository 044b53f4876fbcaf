/- Fits of the program; one that looks, made; nothing that was there changes. -/
import Derived.Test.YtbkcniknbpgphaaDoorSmall
import Derived.Deep.RegionHeld3
namespace Go.Proofs.YtbkcniknbpgphaaDoor
open Go.RowKit
attribute [local go_sem ↓] Go.wp_at_zero Go.wp_at_succ

set_option maxRecDepth 100000 in
set_option maxHeartbeats 2000000 in
theorem fits_any (s : Sl) (k o : Int) (w : World) : Calls Tryd.prog 10 #[Value.agg #[Value.int .i64 s.st, Value.int .i64 s.ow, Value.int .i64 s.sr, Value.bool s.br, Value.bool s.ma, Value.int .i64 s.us, Value.int .i64 s.ge, Value.int .i64 s.ep, Value.int .i64 s.ve], .int .i64 k, .int .i64 o] w (RetB (fitsB s k o) w) := by
  have hB := bnew w (.cells #[Value.int .i64 s.st, Value.int .i64 s.ow, Value.int .i64 s.sr, Value.bool s.br, Value.bool s.ma, Value.int .i64 s.us, Value.int .i64 s.ge, Value.int .i64 s.ep, Value.int .i64 s.ve] 23)
  have r0 := RowAt.new w 23 #[Value.int .i64 s.st, Value.int .i64 s.ow, Value.int .i64 s.sr, Value.bool s.br, Value.bool s.ma, Value.int .i64 s.us, Value.int .i64 s.ge, Value.int .i64 s.ep, Value.int .i64 s.ve]
  go_enter Tryd.func10, Tryd.ntmps10
  go_wp2_with fail
  obtain ⟨B1, e1⟩ : ∃ B1, B1 = w.heap.size := ⟨_, rfl⟩
  rw [← e1] at r0 ⊢
  obtain ⟨W, hW⟩ : ∃ W, W = w.alloc (.cells #[Value.int .i64 s.st, Value.int .i64 s.ow, Value.int .i64 s.sr, Value.bool s.br, Value.bool s.ma, Value.int .i64 s.us, Value.int .i64 s.ge, Value.int .i64 s.ep, Value.int .i64 s.ve] 23) := ⟨_, rfl⟩
  rw [← hW] at hB r0 ⊢
  clear hW e1
  have ra0 := r0.drew
  have hB0 := hB.drew
  clear r0 hB
  have ca0_0 : W.drew.cell? ⟨B1, 0, none⟩ = some (Value.int .i64 s.st) := ra0.cell 0 rfl
  have ca0_1 : W.drew.cell? ⟨B1, 1, none⟩ = some (Value.int .i64 s.ow) := ra0.cell 1 rfl
  have ca0_2 : W.drew.cell? ⟨B1, 2, none⟩ = some (Value.int .i64 s.sr) := ra0.cell 2 rfl
  have ca0_3 : W.drew.cell? ⟨B1, 3, none⟩ = some (Value.bool s.br) := ra0.cell 3 rfl
  have ca0_4 : W.drew.cell? ⟨B1, 4, none⟩ = some (Value.bool s.ma) := ra0.cell 4 rfl
  have ca0_5 : W.drew.cell? ⟨B1, 5, none⟩ = some (Value.int .i64 s.us) := ra0.cell 5 rfl
  have ca0_6 : W.drew.cell? ⟨B1, 6, none⟩ = some (Value.int .i64 s.ge) := ra0.cell 6 rfl
  have ca0_7 : W.drew.cell? ⟨B1, 7, none⟩ = some (Value.int .i64 s.ep) := ra0.cell 7 rfl
  have ca0_8 : W.drew.cell? ⟨B1, 8, none⟩ = some (Value.int .i64 s.ve) := ra0.cell 8 rfl
  refine wp_region_held_drew (S := (fun w' => w'.cell? ⟨B1, 0, none⟩ = some (Value.int .i64 s.st) ∧ w'.cell? ⟨B1, 1, none⟩ = some (Value.int .i64 s.ow) ∧ w'.cell? ⟨B1, 2, none⟩ = some (Value.int .i64 s.sr) ∧ w'.cell? ⟨B1, 3, none⟩ = some (Value.bool s.br) ∧ w'.cell? ⟨B1, 4, none⟩ = some (Value.bool s.ma) ∧ w'.cell? ⟨B1, 5, none⟩ = some (Value.int .i64 s.us) ∧ w'.cell? ⟨B1, 6, none⟩ = some (Value.int .i64 s.ge) ∧ w'.cell? ⟨B1, 7, none⟩ = some (Value.int .i64 s.ep) ∧ w'.cell? ⟨B1, 8, none⟩ = some (Value.int .i64 s.ve))) (by kernel_rfl) ⟨ca0_0, ca0_1, ca0_2, ca0_3, ca0_4, ca0_5, ca0_6, ca0_7, ca0_8⟩ (fun hS => ?_)
  generalize W.drew = u0 at *
  refine wpAnyH_take (i := 0) (oi := { dst := some 7, op := Op.move (Operand.tmp 1), type := 3, pos := "find.go:73", after := #[], guard := none }) (v := ?v0_1) rfl (by kernel_rfl) (by kernel_rfl) (by kernel_rfl) (fun _ _ _ h => h) (Or.inl ⟨by rfl, ?hy0_1⟩) hS ?rest0_1
  case hy0_1 =>
    intro w hSw
    (try dsimp only at hSw)
    go_simp
    try with_reducible rfl
  try simp only [Act.put, List.setIfInBounds_toArray, List.set_cons_zero, List.set_cons_succ]
  refine wpAnyH_take (i := 1) (oi := { dst := some 8, op := Op.move (Operand.tmp 2), type := 3, pos := "find.go:73", after := #[], guard := none }) (v := ?v1_2) rfl (by kernel_rfl) (by kernel_rfl) (by kernel_rfl) (fun _ _ _ h => h) (Or.inl ⟨by rfl, ?hy1_2⟩) hS ?rest1_2
  case hy1_2 =>
    intro w hSw
    (try dsimp only at hSw)
    go_simp
    try with_reducible rfl
  try simp only [Act.put, List.setIfInBounds_toArray, List.set_cons_zero, List.set_cons_succ]
  refine wpAnyH_take (i := 3) (oi := { dst := some 10, op := Op.load 23 (Operand.tmp 3), type := 23, pos := "find.go:73", after := #[], guard := none }) (v := ?v3_3) rfl (by kernel_rfl) (by kernel_rfl) (by kernel_rfl) (fun _ _ _ h => h) (Or.inl ⟨by rfl, ?hy3_3⟩) hS ?rest3_3
  case hy3_3 =>
    intro w hSw
    (try dsimp only at hSw)
    go_simp
    try with_reducible rfl
  try simp only [Act.put, List.setIfInBounds_toArray, List.set_cons_zero, List.set_cons_succ]
  refine wpAnyH_ready (rs := [2]) (by kernel_rfl) (by simp) ?_
  refine AllReadyH.cons (o := { dst := some 9, op := Op.call { callee := Callee.value (Operand.func 33), args := #[Operand.tmp 7, Operand.tmp 8], argTypes := #[3, 3] }, type := 68, pos := "find.go:73", after := #[{ on := 0, ground := Ground.data }, { on := 1, ground := Ground.data }], guard := none }) rfl (fun K hK => ?_) AllReadyH.nil
  go_simp
  refine (ask_any k o _).mono ?_
  rintro e u1 ⟨n, fr, q, rfl, hF, _, _, hb⟩
  have ra1 := ra0.below hb ra0.lt
  have hB1 := hB0.trans (hb.mono hB0.size)
  clear hb
  have hen := hF.en
  have ca1_0 : u1.cell? ⟨B1, 0, none⟩ = some (Value.int .i64 s.st) := ra1.cell 0 rfl
  have ca1_1 : u1.cell? ⟨B1, 1, none⟩ = some (Value.int .i64 s.ow) := ra1.cell 1 rfl
  have ca1_2 : u1.cell? ⟨B1, 2, none⟩ = some (Value.int .i64 s.sr) := ra1.cell 2 rfl
  have ca1_3 : u1.cell? ⟨B1, 3, none⟩ = some (Value.bool s.br) := ra1.cell 3 rfl
  have ca1_4 : u1.cell? ⟨B1, 4, none⟩ = some (Value.bool s.ma) := ra1.cell 4 rfl
  have ca1_5 : u1.cell? ⟨B1, 5, none⟩ = some (Value.int .i64 s.us) := ra1.cell 5 rfl
  have ca1_6 : u1.cell? ⟨B1, 6, none⟩ = some (Value.int .i64 s.ge) := ra1.cell 6 rfl
  have ca1_7 : u1.cell? ⟨B1, 7, none⟩ = some (Value.int .i64 s.ep) := ra1.cell 7 rfl
  have ca1_8 : u1.cell? ⟨B1, 8, none⟩ = some (Value.int .i64 s.ve) := ra1.cell 8 rfl
  refine hK.out _ _ ⟨ca1_0, ca1_1, ca1_2, ca1_3, ca1_4, ca1_5, ca1_6, ca1_7, ca1_8⟩ (fun hS => ?_)
  clear hK K
  try simp only [Act.put, List.setIfInBounds_toArray, List.set_cons_zero, List.set_cons_succ]
  refine wpAnyH_ready (rs := [4]) (by kernel_rfl) (by simp) ?_
  refine AllReadyH.cons (o := { dst := some 11, op := Op.call { callee := Callee.value (Operand.tmp 9), args := #[Operand.tmp 10], argTypes := #[23] }, type := 4, pos := "find.go:73", after := #[{ on := 2, ground := Ground.data }, { on := 3, ground := Ground.data }, { on := 2, ground := Ground.chain }], guard := none }) rfl (fun K hK => ?_) AllReadyH.nil
  go_simp
  refine (hF.call s _ hF.cap).mono ?_
  rintro e u2 ⟨rfl, hb⟩
  have ra2 := ra1.below hb ra1.lt
  have hB2 := hB1.trans (hb.mono hB1.size)
  have ca2_0 : u2.cell? ⟨B1, 0, none⟩ = some (Value.int .i64 s.st) := ra2.cell 0 rfl
  have ca2_1 : u2.cell? ⟨B1, 1, none⟩ = some (Value.int .i64 s.ow) := ra2.cell 1 rfl
  have ca2_2 : u2.cell? ⟨B1, 2, none⟩ = some (Value.int .i64 s.sr) := ra2.cell 2 rfl
  have ca2_3 : u2.cell? ⟨B1, 3, none⟩ = some (Value.bool s.br) := ra2.cell 3 rfl
  have ca2_4 : u2.cell? ⟨B1, 4, none⟩ = some (Value.bool s.ma) := ra2.cell 4 rfl
  have ca2_5 : u2.cell? ⟨B1, 5, none⟩ = some (Value.int .i64 s.us) := ra2.cell 5 rfl
  have ca2_6 : u2.cell? ⟨B1, 6, none⟩ = some (Value.int .i64 s.ge) := ra2.cell 6 rfl
  have ca2_7 : u2.cell? ⟨B1, 7, none⟩ = some (Value.int .i64 s.ep) := ra2.cell 7 rfl
  have ca2_8 : u2.cell? ⟨B1, 8, none⟩ = some (Value.int .i64 s.ve) := ra2.cell 8 rfl
  refine hK.out _ _ ⟨ca2_0, ca2_1, ca2_2, ca2_3, ca2_4, ca2_5, ca2_6, ca2_7, ca2_8⟩ (fun hS => ?_)
  clear hK K
  try simp only [Act.put, List.setIfInBounds_toArray, List.set_cons_zero, List.set_cons_succ]
  refine wpAnyH_take (i := 5) (oi := { dst := some 6, op := Op.assign (Operand.tmp 11), type := 4, pos := "find.go:73", after := #[{ on := 4, ground := Ground.data }, { on := 4, ground := Ground.chain }, { on := 0, ground := Ground.phase }, { on := 1, ground := Ground.phase }, { on := 2, ground := Ground.phase }, { on := 3, ground := Ground.phase }, { on := 4, ground := Ground.phase }], guard := none }) (v := ?v5_4) rfl (by kernel_rfl) (by kernel_rfl) (by kernel_rfl) (fun _ _ _ h => h) (Or.inl ⟨by rfl, ?hy5_4⟩) hS ?rest5_4
  case hy5_4 =>
    intro w hSw
    (try dsimp only at hSw)
    go_simp
    try with_reducible rfl
  try simp only [Act.put, List.setIfInBounds_toArray, List.set_cons_zero, List.set_cons_succ]
  refine wpAnyH_done (by kernel_rfl) ?_ _
  go_wp2
  go_ret
  exact .mk rfl hB2
/-- what one that looks is at -/
structure Fs where
  po : Int
  wd : Int
  is : Bool
/-- one that looks, in block f; what it asks has captured block q, if any -/
structure FindAt (w : World) (f q : Nat) (c : Cf) (n : Nat) (fr : Array Value) (k o : Int) (x : Fs) : Prop where
  row : RowAt w f 77 #[Value.int .i64 c.wo, Value.int .i64 c.sl, Value.int .i64 c.st, Value.int .i64 c.wa, Value.int .i64 c.us, (.func (.func n) #[] fr), Value.int .i64 x.po, Value.int .i64 x.wd, Value.bool x.is]
  fit : FitQ w n fr q k o
  ne : f ≠ q
  lq : q < w.heap.size
theorem FindAt.spx {w w' : World} {f q : Nat} {c : Cf} {n : Nat} {fr : Array Value} {k o : Int} {x : Fs} {X : List Nat} (h : FindAt w f q c n fr k o x) (hs : SpX X w w') (h1 : f ∉ X) (h2 : q ∉ X) : FindAt w' f q c n fr k o x :=
  ⟨h.row.spx hs h1, h.fit.spx hs h2, h.ne, Nat.lt_of_lt_of_le h.lq hs.size⟩
theorem FindAt.on {w w' : World} {f q : Nat} {c : Cf} {n : Nat} {fr : Array Value} {k o : Int} {x : Fs} (h : FindAt w f q c n fr k o x) (hb : Below w.heap.size w w') : FindAt w' f q c n fr k o x := h.spx (X := []) (.of_below hb) (by simp) (by simp)
theorem FindAt.drew {w : World} {f q : Nat} {c : Cf} {n : Nat} {fr : Array Value} {k o : Int} {x : Fs} (h : FindAt w f q c n fr k o x) : FindAt w.drew f q c n fr k o x := ⟨h.row, h.fit.drew, h.ne, h.lq⟩
/-- what a call tells that makes one -/
def RetFind (c : Cf) (k o p : Int) (w : World) (e : Ending) (w' : World) : Prop := ∃ f q n fr, e = .returned (.pointer (some ⟨f, 0, none⟩)) ∧ FindAt w' f q c n fr k o ⟨p, 0, false⟩ ∧ w.heap.size ≤ f ∧ w.heap.size ≤ q ∧ Below w.heap.size w w'
set_option maxRecDepth 100000 in
set_option maxHeartbeats 2000000 in
theorem find_new (c : Cf) (k o m : Int) (w : World) : Calls Tryd.prog 15 #[Value.agg #[Value.int .i64 c.wo, Value.int .i64 c.sl, Value.int .i64 c.st, Value.int .i64 c.wa, Value.int .i64 c.us], .int .i64 k, .int .i64 o, .int .i64 m] w (RetFind c k o (max m 0) w) := by
  have hB := bnew w (.cells #[Value.int .i64 c.wo, Value.int .i64 c.sl, Value.int .i64 c.st, Value.int .i64 c.wa, Value.int .i64 c.us] 35)
  have r0 := RowAt.new w 35 #[Value.int .i64 c.wo, Value.int .i64 c.sl, Value.int .i64 c.st, Value.int .i64 c.wa, Value.int .i64 c.us]
  go_enter Tryd.func15, Tryd.ntmps15
  go_wp2_with fail
  obtain ⟨B1, e1⟩ : ∃ B1, B1 = w.heap.size := ⟨_, rfl⟩
  rw [← e1] at r0 ⊢
  obtain ⟨W, hW⟩ : ∃ W, W = w.alloc (.cells #[Value.int .i64 c.wo, Value.int .i64 c.sl, Value.int .i64 c.st, Value.int .i64 c.wa, Value.int .i64 c.us] 35) := ⟨_, rfl⟩
  rw [← hW] at hB r0 ⊢
  clear hW e1
  have ra0 := r0.drew
  have hB0 := hB.drew
  clear r0 hB
  have ca0_0 : W.drew.cell? ⟨B1, 0, none⟩ = some (Value.int .i64 c.wo) := ra0.cell 0 rfl
  have ca0_1 : W.drew.cell? ⟨B1, 1, none⟩ = some (Value.int .i64 c.sl) := ra0.cell 1 rfl
  have ca0_2 : W.drew.cell? ⟨B1, 2, none⟩ = some (Value.int .i64 c.st) := ra0.cell 2 rfl
  have ca0_3 : W.drew.cell? ⟨B1, 3, none⟩ = some (Value.int .i64 c.wa) := ra0.cell 3 rfl
  have ca0_4 : W.drew.cell? ⟨B1, 4, none⟩ = some (Value.int .i64 c.us) := ra0.cell 4 rfl
  refine wp_region_held_drew (S := (fun w' => w'.cell? ⟨B1, 0, none⟩ = some (Value.int .i64 c.wo) ∧ w'.cell? ⟨B1, 1, none⟩ = some (Value.int .i64 c.sl) ∧ w'.cell? ⟨B1, 2, none⟩ = some (Value.int .i64 c.st) ∧ w'.cell? ⟨B1, 3, none⟩ = some (Value.int .i64 c.wa) ∧ w'.cell? ⟨B1, 4, none⟩ = some (Value.int .i64 c.us))) (by kernel_rfl) ⟨ca0_0, ca0_1, ca0_2, ca0_3, ca0_4⟩ (fun hS => ?_)
  generalize W.drew = u0 at *
  refine wpAnyH_take (i := 0) (oi := { dst := some 9, op := Op.load 35 (Operand.tmp 4), type := 35, pos := "find.go:78", after := #[], guard := none }) (v := ?v0_5) rfl (by kernel_rfl) (by kernel_rfl) (by kernel_rfl) (fun _ _ _ h => h) (Or.inl ⟨by rfl, ?hy0_5⟩) hS ?rest0_5
  case hy0_5 =>
    intro w hSw
    (try dsimp only at hSw)
    go_simp
    try with_reducible rfl
  try simp only [Act.put, List.setIfInBounds_toArray, List.set_cons_zero, List.set_cons_succ]
  refine wpAnyH_take (i := 1) (oi := { dst := some 10, op := Op.move (Operand.tmp 1), type := 3, pos := "find.go:78", after := #[], guard := none }) (v := ?v1_6) rfl (by kernel_rfl) (by kernel_rfl) (by kernel_rfl) (fun _ _ _ h => h) (Or.inl ⟨by rfl, ?hy1_6⟩) hS ?rest1_6
  case hy1_6 =>
    intro w hSw
    (try dsimp only at hSw)
    go_simp
    try with_reducible rfl
  try simp only [Act.put, List.setIfInBounds_toArray, List.set_cons_zero, List.set_cons_succ]
  refine wpAnyH_take (i := 2) (oi := { dst := some 11, op := Op.move (Operand.tmp 2), type := 3, pos := "find.go:78", after := #[], guard := none }) (v := ?v2_7) rfl (by kernel_rfl) (by kernel_rfl) (by kernel_rfl) (fun _ _ _ h => h) (Or.inl ⟨by rfl, ?hy2_7⟩) hS ?rest2_7
  case hy2_7 =>
    intro w hSw
    (try dsimp only at hSw)
    go_simp
    try with_reducible rfl
  try simp only [Act.put, List.setIfInBounds_toArray, List.set_cons_zero, List.set_cons_succ]
  refine wpAnyH_take (i := 4) (oi := { dst := some 13, op := Op.move (Operand.tmp 3), type := 3, pos := "find.go:78", after := #[], guard := none }) (v := ?v4_8) rfl (by kernel_rfl) (by kernel_rfl) (by kernel_rfl) (fun _ _ _ h => h) (Or.inl ⟨by rfl, ?hy4_8⟩) hS ?rest4_8
  case hy4_8 =>
    intro w hSw
    (try dsimp only at hSw)
    go_simp
    try with_reducible rfl
  try simp only [Act.put, List.setIfInBounds_toArray, List.set_cons_zero, List.set_cons_succ]
  refine wpAnyH_take (i := 5) (oi := { dst := some 14, op := Op.call { callee := Callee.builtin Builtin.max, args := #[Operand.tmp 13, Operand.const (Value.int IntKind.i64 0)], argTypes := #[3, 3] }, type := 3, pos := "find.go:78", after := #[{ on := 4, ground := Ground.data }], guard := none }) (v := ?v5_9) rfl (by kernel_rfl) (by kernel_rfl) (by kernel_rfl) (fun _ _ _ h => h) (Or.inl ⟨by rfl, ?hy5_9⟩) hS ?rest5_9
  case hy5_9 =>
    intro w hSw
    (try dsimp only at hSw)
    go_simp
    try with_reducible rfl
  try simp only [Act.put, List.setIfInBounds_toArray, List.set_cons_zero, List.set_cons_succ]
  refine wpAnyH_ready (rs := [3]) (by kernel_rfl) (by simp) ?_
  refine AllReadyH.cons (o := { dst := some 12, op := Op.call { callee := Callee.value (Operand.func 33), args := #[Operand.tmp 10, Operand.tmp 11], argTypes := #[3, 3] }, type := 68, pos := "find.go:78", after := #[{ on := 1, ground := Ground.data }, { on := 2, ground := Ground.data }], guard := none }) rfl (fun K hK => ?_) AllReadyH.nil
  go_simp
  refine (ask_any k o _).mono ?_
  rintro e u1 ⟨n, fr, q, rfl, hF, hq1, hq2, hb⟩
  have ra1 := ra0.below hb ra0.lt
  have hB1 := hB0.trans (hb.mono hB0.size)
  clear hb
  have ca1_0 : u1.cell? ⟨B1, 0, none⟩ = some (Value.int .i64 c.wo) := ra1.cell 0 rfl
  have ca1_1 : u1.cell? ⟨B1, 1, none⟩ = some (Value.int .i64 c.sl) := ra1.cell 1 rfl
  have ca1_2 : u1.cell? ⟨B1, 2, none⟩ = some (Value.int .i64 c.st) := ra1.cell 2 rfl
  have ca1_3 : u1.cell? ⟨B1, 3, none⟩ = some (Value.int .i64 c.wa) := ra1.cell 3 rfl
  have ca1_4 : u1.cell? ⟨B1, 4, none⟩ = some (Value.int .i64 c.us) := ra1.cell 4 rfl
  refine hK.out _ _ ⟨ca1_0, ca1_1, ca1_2, ca1_3, ca1_4⟩ (fun hS => ?_)
  clear hK K
  try simp only [Act.put, List.setIfInBounds_toArray, List.set_cons_zero, List.set_cons_succ]
  refine wpAnyH_take (i := 6) (oi := { dst := some 15, op := Op.build 77 #[(0, Operand.tmp 9), (1, Operand.tmp 12), (2, Operand.tmp 14)], type := 77, pos := "find.go:78", after := #[{ on := 0, ground := Ground.data }, { on := 3, ground := Ground.data }, { on := 5, ground := Ground.data }], guard := none }) (v := ?v6_10) rfl (by kernel_rfl) (by kernel_rfl) (by kernel_rfl) (fun _ _ _ h => h) (Or.inl ⟨by rfl, ?hy6_10⟩) hS ?rest6_10
  case hy6_10 =>
    intro w hSw
    (try dsimp only at hSw)
    go_simp
    try with_reducible rfl
  try simp only [Act.put, List.setIfInBounds_toArray, List.set_cons_zero, List.set_cons_succ]
  refine wpAnyH_ready (rs := [7]) (by kernel_rfl) (by simp) ?_
  refine AllReadyH.cons (o := { dst := some 16, op := Op.box 77 (Operand.tmp 15), type := 41, pos := "find.go:78", after := #[{ on := 6, ground := Ground.data }], guard := none }) rfl (fun K hK => ?_) AllReadyH.nil
  go_simp
  have rf := RowAt.new u1 77 #[Value.int .i64 c.wo, Value.int .i64 c.sl, Value.int .i64 c.st, Value.int .i64 c.wa, Value.int .i64 c.us, .func (.func n) #[] fr, Value.int .i64 (max m 0), Value.int .i64 0, Value.bool false]
  have hB2 := bst hB1 (bnew u1 (.cells #[Value.int .i64 c.wo, Value.int .i64 c.sl, Value.int .i64 c.st, Value.int .i64 c.wa, Value.int .i64 c.us, .func (.func n) #[] fr, Value.int .i64 (max m 0), Value.int .i64 0, Value.bool false] 77))
  have ra2 := ra1.alloc (.cells #[Value.int .i64 c.wo, Value.int .i64 c.sl, Value.int .i64 c.st, Value.int .i64 c.wa, Value.int .i64 c.us, .func (.func n) #[] fr, Value.int .i64 (max m 0), Value.int .i64 0, Value.bool false] 77)
  have ca2_0 : (u1.alloc (.cells #[Value.int .i64 c.wo, Value.int .i64 c.sl, Value.int .i64 c.st, Value.int .i64 c.wa, Value.int .i64 c.us, .func (.func n) #[] fr, Value.int .i64 (max m 0), Value.int .i64 0, Value.bool false] 77)).cell? ⟨B1, 0, none⟩ = some (Value.int .i64 c.wo) := ra2.cell 0 rfl
  have ca2_1 : (u1.alloc (.cells #[Value.int .i64 c.wo, Value.int .i64 c.sl, Value.int .i64 c.st, Value.int .i64 c.wa, Value.int .i64 c.us, .func (.func n) #[] fr, Value.int .i64 (max m 0), Value.int .i64 0, Value.bool false] 77)).cell? ⟨B1, 1, none⟩ = some (Value.int .i64 c.sl) := ra2.cell 1 rfl
  have ca2_2 : (u1.alloc (.cells #[Value.int .i64 c.wo, Value.int .i64 c.sl, Value.int .i64 c.st, Value.int .i64 c.wa, Value.int .i64 c.us, .func (.func n) #[] fr, Value.int .i64 (max m 0), Value.int .i64 0, Value.bool false] 77)).cell? ⟨B1, 2, none⟩ = some (Value.int .i64 c.st) := ra2.cell 2 rfl
  have ca2_3 : (u1.alloc (.cells #[Value.int .i64 c.wo, Value.int .i64 c.sl, Value.int .i64 c.st, Value.int .i64 c.wa, Value.int .i64 c.us, .func (.func n) #[] fr, Value.int .i64 (max m 0), Value.int .i64 0, Value.bool false] 77)).cell? ⟨B1, 3, none⟩ = some (Value.int .i64 c.wa) := ra2.cell 3 rfl
  have ca2_4 : (u1.alloc (.cells #[Value.int .i64 c.wo, Value.int .i64 c.sl, Value.int .i64 c.st, Value.int .i64 c.wa, Value.int .i64 c.us, .func (.func n) #[] fr, Value.int .i64 (max m 0), Value.int .i64 0, Value.bool false] 77)).cell? ⟨B1, 4, none⟩ = some (Value.int .i64 c.us) := ra2.cell 4 rfl
  refine hK.out _ _ ⟨ca2_0, ca2_1, ca2_2, ca2_3, ca2_4⟩ (fun hS => ?_)
  clear hK K
  try simp only [Act.put, List.setIfInBounds_toArray, List.set_cons_zero, List.set_cons_succ]
  refine wpAnyH_take (i := 8) (oi := { dst := some 8, op := Op.assign (Operand.tmp 16), type := 41, pos := "find.go:78", after := #[{ on := 7, ground := Ground.data }, { on := 3, ground := Ground.chain }, { on := 0, ground := Ground.phase }, { on := 1, ground := Ground.phase }, { on := 2, ground := Ground.phase }, { on := 3, ground := Ground.phase }, { on := 4, ground := Ground.phase }, { on := 5, ground := Ground.phase }, { on := 6, ground := Ground.phase }, { on := 7, ground := Ground.phase }], guard := none }) (v := ?v8_11) rfl (by kernel_rfl) (by kernel_rfl) (by kernel_rfl) (fun _ _ _ h => h) (Or.inl ⟨by rfl, ?hy8_11⟩) hS ?rest8_11
  case hy8_11 =>
    intro w hSw
    (try dsimp only at hSw)
    go_simp
    try with_reducible rfl
  try simp only [Act.put, List.setIfInBounds_toArray, List.set_cons_zero, List.set_cons_succ]
  refine wpAnyH_done (by kernel_rfl) ?_ _
  go_wp2
  go_ret
  have := ra1.lt
  have := hB0.size
  exact ⟨u1.heap.size, q, n, fr, rfl, ⟨rf, hF.on (bnew _ _), by omega, by simp; omega⟩, by have := hB1.size; omega, by omega, hB2⟩
/-- the document's own one that looks -/
structure RefAt (w : World) (f : Nat) (c : Cf) (k o : Int) (x : Fs) : Prop where
  row : RowAt w f 56 #[Value.int .i64 c.wo, Value.int .i64 c.sl, Value.int .i64 c.st, Value.int .i64 c.wa, Value.int .i64 c.us, Value.int .i64 k, Value.int .i64 o, Value.int .i64 x.po, Value.int .i64 x.wd, Value.bool x.is]
theorem RefAt.spx {w w' : World} {f : Nat} {c : Cf} {k o : Int} {x : Fs} {X : List Nat} (h : RefAt w f c k o x) (hs : SpX X w w') (h1 : f ∉ X) : RefAt w' f c k o x := ⟨h.row.spx hs h1⟩
theorem RefAt.on {w w' : World} {f : Nat} {c : Cf} {k o : Int} {x : Fs} (h : RefAt w f c k o x) (hb : Below w.heap.size w w') : RefAt w' f c k o x := h.spx (X := []) (.of_below hb) (by simp)
theorem RefAt.drew {w : World} {f : Nat} {c : Cf} {k o : Int} {x : Fs} (h : RefAt w f c k o x) : RefAt w.drew f c k o x := ⟨h.row⟩
set_option maxRecDepth 100000 in
set_option maxHeartbeats 2000000 in
theorem ref_new (c : Cf) (k o m : Int) (w : World) : Calls Tryd.prog 16 #[Value.agg #[Value.int .i64 c.wo, Value.int .i64 c.sl, Value.int .i64 c.st, Value.int .i64 c.wa, Value.int .i64 c.us], .int .i64 k, .int .i64 o, .int .i64 m] w fun e w' => ∃ f, e = .returned (.pointer (some ⟨f, 0, none⟩)) ∧ RefAt w' f c k o ⟨max m 0, 0, false⟩ ∧ w.heap.size ≤ f ∧ Below w.heap.size w w' := by
  have hB := bst (bnew w (.cells #[Value.int .i64 c.wo, Value.int .i64 c.sl, Value.int .i64 c.st, Value.int .i64 c.wa, Value.int .i64 c.us] 35)) (bnew (w.alloc (.cells #[Value.int .i64 c.wo, Value.int .i64 c.sl, Value.int .i64 c.st, Value.int .i64 c.wa, Value.int .i64 c.us] 35)) (.cells #[Value.int .i64 c.wo, Value.int .i64 c.sl, Value.int .i64 c.st, Value.int .i64 c.wa, Value.int .i64 c.us, Value.int .i64 k, Value.int .i64 o, Value.int .i64 ((⟨max m 0, 0, false⟩ : Fs)).po, Value.int .i64 ((⟨max m 0, 0, false⟩ : Fs)).wd, Value.bool ((⟨max m 0, 0, false⟩ : Fs)).is] 56))
  have hr := new2 w (.cells #[Value.int .i64 c.wo, Value.int .i64 c.sl, Value.int .i64 c.st, Value.int .i64 c.wa, Value.int .i64 c.us] 35) 56 #[Value.int .i64 c.wo, Value.int .i64 c.sl, Value.int .i64 c.st, Value.int .i64 c.wa, Value.int .i64 c.us, Value.int .i64 k, Value.int .i64 o, Value.int .i64 ((⟨max m 0, 0, false⟩ : Fs)).po, Value.int .i64 ((⟨max m 0, 0, false⟩ : Fs)).wd, Value.bool ((⟨max m 0, 0, false⟩ : Fs)).is]
  go_enter Tryd.func16, Tryd.ntmps16
  go_wp2
  go_ret
  rw [Int.max_comm]
  exact ⟨w.heap.size + 1, rfl, ⟨hr⟩, by omega, hB⟩
end Go.Proofs.YtbkcniknbpgphaaDoor
