/- The parts of a right conf; nothing that was there changes. -/
import Derived.Test.YtalmadeibnekoaaCf
namespace Go.Proofs.Ytalmadeibnekoaa
open Go.RowKit
attribute [local go_sem ↓] Go.wp_at_zero Go.wp_at_succ

theorem new2 (w : World) (o : Obj) (t : TypeId) (vs : Array Value) : RowAt ((w.alloc o).alloc (.cells vs t)) (w.heap.size + 1) t vs := by
  have h := RowAt.new (w.alloc o) t vs
  simpa using h
theorem new3 (w : World) (o p : Obj) (t : TypeId) (vs : Array Value) : RowAt (((w.alloc o).alloc p).alloc (.cells vs t)) (w.heap.size + 1 + 1) t vs := by
  have h := RowAt.new ((w.alloc o).alloc p) t vs
  simpa using h
theorem new4 (w : World) (o p q : Obj) (t : TypeId) (vs : Array Value) : RowAt ((((w.alloc o).alloc p).alloc q).alloc (.cells vs t)) (w.heap.size + 1 + 1 + 1) t vs := by
  have h := RowAt.new (((w.alloc o).alloc p).alloc q) t vs
  simpa using h
theorem res_three {fn : Func} {p q r : Tmp} (h : fn.results = #[.cell p 84, .cell q 84, .cell r 84]) (tmps : Array Value) (W : World) (b1 b2 b3 : Nat) (u v x : Array Value) (hp : tmps.getD p undef = .pointer (some ⟨b1, 0, none⟩)) (hq : tmps.getD q undef = .pointer (some ⟨b2, 0, none⟩)) (hr : tmps.getD r undef = .pointer (some ⟨b3, 0, none⟩))
    (r1 : RowAt W b1 84 u) (r2 : RowAt W b2 84 v) (r3 : RowAt W b3 84 x) (s1 : u.size = 2) (s2 : v.size = 2) (s3 : x.size = 2) :
    (results fn tmps).run Try.prog W = .ok (.tuple #[.agg u, .agg v, .agg x]) W := by
  have e1 := run_loadVar_row (P := Try.prog) W b1 84 84 u (0, 0) _ r1 Try.underlying84 rfl (by rw [s1]; kernel_rfl)
  have e2 := run_loadVar_row (P := Try.prog) W b2 84 84 v (0, 0) _ r2 Try.underlying84 rfl (by rw [s2]; kernel_rfl)
  have e3 := run_loadVar_row (P := Try.prog) W b3 84 84 x (0, 0) _ r3 Try.underlying84 rfl (by rw [s3]; kernel_rfl)
  have hp' : tmps[p]?.getD undef = .pointer (some ⟨b1, 0, none⟩) := by simpa using hp
  have hq' : tmps[q]?.getD undef = .pointer (some ⟨b2, 0, none⟩) := by simpa using hq
  have hr' : tmps[r]?.getD undef = .pointer (some ⟨b3, 0, none⟩) := by simpa using hr
  simp [results, h, hp', hq', hr', asAddr, e1, e2, e3]

theorem row2 {W : World} {b : Nat} {t : TypeId} {u0 u1 : Value} (h : RowAt W b t #[u0, u1]) (v0 v1 : Value) : RowAt ((W.setCell ⟨b, 0, none⟩ v0).setCell ⟨b, 1, none⟩ v1) b t #[v0, v1] := by
  have h0 : RowAt _ b t #[v0, u1] := h.put 0 v0
  exact h0.put 1 v1
theorem roth2 {W : World} {b c : Nat} {t : TypeId} {vs : Array Value} (h : RowAt W b t vs) (hne : b ≠ c) (v0 v1 : Value) : RowAt ((W.setCell ⟨c, 0, none⟩ v0).setCell ⟨c, 1, none⟩ v1) b t vs := (h.putOther ⟨c, 0, none⟩ hne v0).putOther ⟨c, 1, none⟩ hne v1
theorem below2 {n b : Nat} {A W : World} (h : Below n A W) (hb : n ≤ b) (v0 v1 : Value) : Below n A ((W.setCell ⟨b, 0, none⟩ v0).setCell ⟨b, 1, none⟩ v1) := (h.setCell hb v0).setCell hb v1
theorem oth2 {W : World} {b c j : Nat} {v0 v1 : Value} (hne : b ≠ c) : ((W.setCell ⟨c, 0, none⟩ v0).setCell ⟨c, 1, none⟩ v1).cell? ⟨b, j, none⟩ = W.cell? ⟨b, j, none⟩ := by
  rw [World.cell?_setCell_other _ _ _ _ (by intro e; injection e with e; exact hne e.symm), World.cell?_setCell_other _ _ _ _ (by intro e; injection e with e; exact hne e.symm)]
set_option maxRecDepth 100000 in
set_option maxHeartbeats 2000000 in
theorem parts_any (c : Cf) (w : World) (hc : Rc c) :
    Calls Try.prog 44 #[Value.agg #[Value.int .i64 c.wo, Value.int .i64 c.sl, Value.int .i64 c.st, Value.int .i64 c.wa, Value.int .i64 c.us]] w fun e w' => e = .returned (.tuple #[.agg #[.int .i64 3, .int .i64 c.wo], .agg #[.int .i64 (3 + c.wo), .int .i64 c.wo], .agg #[.int .i64 (3 + c.wo + c.wo), .int .i64 c.sl]]) ∧ Below w.heap.size w w' := by
  have Hr := Lib.hid (rcB_iff.2 hc)
  have q1 := hc.wo
  have q2 := hc.sl
  clear hc
  have r1 := (((RowAt.new w 31 #[Value.int .i64 c.wo, Value.int .i64 c.sl, Value.int .i64 c.st, Value.int .i64 c.wa, Value.int .i64 c.us]).alloc (.cells #[.int .i64 0, .int .i64 0] 84)).alloc (.cells #[.int .i64 0, .int .i64 0] 84)).alloc (.cells #[.int .i64 0, .int .i64 0] 84)
  have r2 := ((new2 w (.cells #[Value.int .i64 c.wo, Value.int .i64 c.sl, Value.int .i64 c.st, Value.int .i64 c.wa, Value.int .i64 c.us] 31) 84 #[.int .i64 0, .int .i64 0]).alloc (.cells #[.int .i64 0, .int .i64 0] 84)).alloc (.cells #[.int .i64 0, .int .i64 0] 84)
  have r3 := (new3 w (.cells #[Value.int .i64 c.wo, Value.int .i64 c.sl, Value.int .i64 c.st, Value.int .i64 c.wa, Value.int .i64 c.us] 31) (.cells #[.int .i64 0, .int .i64 0] 84) 84 #[.int .i64 0, .int .i64 0]).alloc (.cells #[.int .i64 0, .int .i64 0] 84)
  have r4 := new4 w (.cells #[Value.int .i64 c.wo, Value.int .i64 c.sl, Value.int .i64 c.st, Value.int .i64 c.wa, Value.int .i64 c.us] 31) (.cells #[.int .i64 0, .int .i64 0] 84) (.cells #[.int .i64 0, .int .i64 0] 84) 84 #[.int .i64 0, .int .i64 0]
  have hB : Below w.heap.size w ((((w.alloc (.cells #[Value.int .i64 c.wo, Value.int .i64 c.sl, Value.int .i64 c.st, Value.int .i64 c.wa, Value.int .i64 c.us] 31)).alloc (.cells #[.int .i64 0, .int .i64 0] 84)).alloc (.cells #[.int .i64 0, .int .i64 0] 84)).alloc (.cells #[.int .i64 0, .int .i64 0] 84)) := ((((Below.refl _ _).alloc (Nat.le_refl _) _).alloc (by simp) _).alloc (by simp; omega) _).alloc (by simp; omega) _
  go_enter Try.func44, Try.ntmps44
  go_wp2_with fail
  refine (cright_any c _).mono ?_
  rintro e w1 ⟨rfl, hb⟩
  rw [Hr.out]
  replace r1 := r1.below hb r1.lt
  replace r2 := r2.below hb r2.lt
  replace r3 := r3.below hb r3.lt
  replace r4 := r4.below hb r4.lt
  replace hB := hB.trans (hb.mono hB.size)
  clear hb
  obtain ⟨B4, e4⟩ : ∃ B4, B4 = w.heap.size + 1 + 1 + 1 := ⟨_, rfl⟩
  obtain ⟨B3, e3⟩ : ∃ B3, B3 = w.heap.size + 1 + 1 := ⟨_, rfl⟩
  obtain ⟨B2, e2⟩ : ∃ B2, B2 = w.heap.size + 1 := ⟨_, rfl⟩
  obtain ⟨B1, e1⟩ : ∃ B1, B1 = w.heap.size := ⟨_, rfl⟩
  rw [← e4] at r4 ⊢
  rw [← e3] at r3 ⊢
  rw [← e2] at r2 ⊢
  rw [← e1] at r1 ⊢
  have n1 : B1 ≠ B2 := by omega
  have n2 : B1 ≠ B3 := by omega
  have n3 : B1 ≠ B4 := by omega
  have n4 : B2 ≠ B3 := by omega
  have n5 : B2 ≠ B4 := by omega
  have n6 : B3 ≠ B4 := by omega
  have l2 : w.heap.size ≤ B2 := by omega
  have l3 : w.heap.size ≤ B3 := by omega
  have l4 : w.heap.size ≤ B4 := by omega
  clear e1 e2 e3 e4
  have k0 : w1.cell? ⟨B1, 0, none⟩ = some (.int .i64 c.wo) := r1.cell 0 rfl
  have hlt1 := r1.lt
  have hlt4 := r4.lt
  go_wp2_with (refine wpList_store_row rfl 84 _ _ rfl _ #[.int .i64 3, .int .i64 c.wo] rfl rfl 84 _ r2 (by kernel_rfl) rfl (by simp [Value.oneCell']) ?_)
  replace r1 := r1.other n1 #[.int .i64 3, .int .i64 c.wo]
  replace r2 := r2.set #[.int .i64 3, .int .i64 c.wo]
  replace r3 := r3.other n4.symm #[.int .i64 3, .int .i64 c.wo]
  replace r4 := r4.other n5.symm #[.int .i64 3, .int .i64 c.wo]
  replace hB := below_setRow hB l2 #[.int .i64 3, .int .i64 c.wo]
  obtain ⟨W2, hW2⟩ : ∃ W2, W2 = w1.setRow B2 #[.int .i64 3, .int .i64 c.wo] := ⟨_, rfl⟩
  rw [← hW2] at r1 r2 r3 r4 hB ⊢
  clear hW2 k0 hlt1 hlt4 w1
  have p1 := r1.drew
  have p2 := r2.drew
  have p3 := r3.drew
  have p4 := r4.drew
  have hB0 := hB.drew
  clear hB r1 r2 r3 r4
  have c00 : W2.drew.cell? ⟨B1, 0, none⟩ = some (Value.int .i64 c.wo) := p1.cell 0 rfl
  have c01 : W2.drew.cell? ⟨B1, 1, none⟩ = some (Value.int .i64 c.sl) := p1.cell 1 rfl
  have c02 : W2.drew.cell? ⟨B1, 2, none⟩ = some (Value.int .i64 c.st) := p1.cell 2 rfl
  have c03 : W2.drew.cell? ⟨B1, 3, none⟩ = some (Value.int .i64 c.wa) := p1.cell 3 rfl
  have c04 : W2.drew.cell? ⟨B1, 4, none⟩ = some (Value.int .i64 c.us) := p1.cell 4 rfl
  have y00 : W2.drew.cell? ⟨B2, 0, none⟩ = some (Value.int .i64 3) := p2.cell 0 rfl
  have y01 : W2.drew.cell? ⟨B2, 1, none⟩ = some (Value.int .i64 c.wo) := p2.cell 1 rfl
  have d00 : W2.drew.cell? ⟨B3, 0, none⟩ = some (Value.int .i64 0) := p3.cell 0 rfl
  have d01 : W2.drew.cell? ⟨B3, 1, none⟩ = some (Value.int .i64 0) := p3.cell 1 rfl
  have fd00 : W2.drew.frozen? ⟨B3, 0, none⟩ = false := p3.frozen 0
  have fd01 : W2.drew.frozen? ⟨B3, 1, none⟩ = false := p3.frozen 1
  refine wp_region_held_drew (S := (fun w' => w'.cell? ⟨B1, 0, none⟩ = some (Value.int .i64 c.wo) ∧ w'.cell? ⟨B1, 1, none⟩ = some (Value.int .i64 c.sl) ∧ w'.cell? ⟨B1, 2, none⟩ = some (Value.int .i64 c.st) ∧ w'.cell? ⟨B1, 3, none⟩ = some (Value.int .i64 c.wa) ∧ w'.cell? ⟨B1, 4, none⟩ = some (Value.int .i64 c.us) ∧ w'.cell? ⟨B2, 0, none⟩ = some (Value.int .i64 3) ∧ w'.cell? ⟨B2, 1, none⟩ = some (Value.int .i64 c.wo))) (by kernel_rfl) ⟨c00, c01, c02, c03, c04, y00, y01⟩ (fun hS => ?_)
  generalize W2.drew = WD at *
  refine wpAnyH_take (i := 0) (oi := { dst := some 12, op := Op.load 84 (Operand.tmp 2), type := 84, pos := "conf.go:64", after := #[], guard := none }) (v := ?v0_1) rfl (by kernel_rfl) (by kernel_rfl) (by kernel_rfl) (fun _ _ _ h => h) (Or.inl ⟨by rfl, ?hy0_1⟩) hS ?rest0_1
  case hy0_1 =>
    intro w hSw
    (try dsimp only at hSw)
    go_simp
    try with_reducible rfl
  try simp only [Act.put, List.setIfInBounds_toArray, List.set_cons_zero, List.set_cons_succ]
  refine wpAnyH_take (i := 2) (oi := { dst := some 14, op := Op.fieldAddr 31 (Operand.tmp 1) 0, type := 0, pos := "conf.go:64", after := #[], guard := none }) (v := ?v2_2) rfl (by kernel_rfl) (by kernel_rfl) (by kernel_rfl) (fun _ _ _ h => h) (Or.inl ⟨by rfl, ?hy2_2⟩) hS ?rest2_2
  case hy2_2 =>
    intro w hSw
    (try dsimp only at hSw)
    go_simp
    try with_reducible rfl
  try simp only [Act.put, List.setIfInBounds_toArray, List.set_cons_zero, List.set_cons_succ]
  refine wpAnyH_take (i := 3) (oi := { dst := some 15, op := Op.load 3 (Operand.tmp 14), type := 3, pos := "conf.go:64", after := #[{ on := 2, ground := Ground.data }], guard := none }) (v := ?v3_3) rfl (by kernel_rfl) (by kernel_rfl) (by kernel_rfl) (fun _ _ _ h => h) (Or.inl ⟨by rfl, ?hy3_3⟩) hS ?rest3_3
  case hy3_3 =>
    intro w hSw
    (try dsimp only at hSw)
    go_simp
    try with_reducible rfl
  try simp only [Act.put, List.setIfInBounds_toArray, List.set_cons_zero, List.set_cons_succ]
  refine wpAnyH_ready (rs := [1]) (by kernel_rfl) (by simp) ?_
  refine AllReadyH.cons (o := { dst := some 13, op := Op.call { callee := Callee.value (Operand.func 52), args := #[Operand.tmp 12], argTypes := #[84] }, type := 3, pos := "conf.go:64", after := #[{ on := 0, ground := Ground.data }], guard := none }) rfl (fun K hK => ?_) AllReadyH.nil
  go_simp
  refine (behind_any 3 c.wo _ (by omega) (by omega)).mono ?_
  rintro e w9 ⟨rfl, hb⟩
  have s1 := p1.below hb p1.lt
  have s2 := p2.below hb p2.lt
  have s3 := p3.below hb p3.lt
  have s4 := p4.below hb p4.lt
  have hB9 := hB0.trans (hb.mono hB0.size)
  clear hb
  have c90 : w9.cell? ⟨B1, 0, none⟩ = some (Value.int .i64 c.wo) := s1.cell 0 rfl
  have c91 : w9.cell? ⟨B1, 1, none⟩ = some (Value.int .i64 c.sl) := s1.cell 1 rfl
  have c92 : w9.cell? ⟨B1, 2, none⟩ = some (Value.int .i64 c.st) := s1.cell 2 rfl
  have c93 : w9.cell? ⟨B1, 3, none⟩ = some (Value.int .i64 c.wa) := s1.cell 3 rfl
  have c94 : w9.cell? ⟨B1, 4, none⟩ = some (Value.int .i64 c.us) := s1.cell 4 rfl
  have y90 : w9.cell? ⟨B2, 0, none⟩ = some (Value.int .i64 3) := s2.cell 0 rfl
  have y91 : w9.cell? ⟨B2, 1, none⟩ = some (Value.int .i64 c.wo) := s2.cell 1 rfl
  have d90 : w9.cell? ⟨B3, 0, none⟩ = some (Value.int .i64 0) := s3.cell 0 rfl
  have d91 : w9.cell? ⟨B3, 1, none⟩ = some (Value.int .i64 0) := s3.cell 1 rfl
  have fd90 : w9.frozen? ⟨B3, 0, none⟩ = false := s3.frozen 0
  have fd91 : w9.frozen? ⟨B3, 1, none⟩ = false := s3.frozen 1
  refine hK.out _ _ ⟨c90, c91, c92, c93, c94, y90, y91⟩ (fun hS => ?_)
  clear hK K
  try simp only [Act.put, List.setIfInBounds_toArray, List.set_cons_zero, List.set_cons_succ]
  refine wpAnyH_take (i := 4) (oi := { dst := some 16, op := Op.build 84 #[(0, Operand.tmp 13), (1, Operand.tmp 15)], type := 84, pos := "conf.go:64", after := #[{ on := 1, ground := Ground.data }, { on := 3, ground := Ground.data }], guard := none }) (v := ?v4_4) rfl (by kernel_rfl) (by kernel_rfl) (by kernel_rfl) (fun _ _ _ h => h) (Or.inl ⟨by rfl, ?hy4_4⟩) hS ?rest4_4
  case hy4_4 =>
    intro w hSw
    (try dsimp only at hSw)
    go_simp
    try with_reducible rfl
  try simp only [Act.put, List.setIfInBounds_toArray, List.set_cons_zero, List.set_cons_succ]
  refine wpAnyH_ready (rs := [5]) (by kernel_rfl) (by simp) ?_
  refine AllReadyH.cons (o := { dst := none, op := Op.store 84 (Operand.tmp 3) (Operand.tmp 16), type := 0, pos := "conf.go:64", after := #[{ on := 4, ground := Ground.data }, { on := 1, ground := Ground.chain }, { on := 0, ground := Ground.phase }, { on := 1, ground := Ground.phase }, { on := 2, ground := Ground.phase }, { on := 3, ground := Ground.phase }, { on := 4, ground := Ground.phase }], guard := none }) rfl (fun K hK => ?_) AllReadyH.nil
  go_simp
  refine hK.out _ _ ⟨(oth2 n2).trans c90, (oth2 n2).trans c91, (oth2 n2).trans c92, (oth2 n2).trans c93, (oth2 n2).trans c94, (oth2 n4).trans y90, (oth2 n4).trans y91⟩ (fun hS => ?_)
  clear hK K
  try simp only [Act.put, List.setIfInBounds_toArray, List.set_cons_zero, List.set_cons_succ]
  refine wpAnyH_done (by kernel_rfl) ?_ _
  have r1 := roth2 s1 n2 (Value.int .i64 (3 + c.wo)) (Value.int .i64 c.wo)
  have r2 := roth2 s2 n4 (Value.int .i64 (3 + c.wo)) (Value.int .i64 c.wo)
  have r3 := row2 s3 (Value.int .i64 (3 + c.wo)) (Value.int .i64 c.wo)
  have r4 := roth2 s4 n6.symm (Value.int .i64 (3 + c.wo)) (Value.int .i64 c.wo)
  have hB := below2 hB9 l3 (Value.int .i64 (3 + c.wo)) (Value.int .i64 c.wo)
  generalize ((w9.setCell ⟨B3, 0, none⟩ (Value.int .i64 (3 + c.wo))).setCell ⟨B3, 1, none⟩ (Value.int .i64 c.wo)) = W3 at r1 r2 r3 r4 hB ⊢
  clear hS
  clear p1 p2 p3 p4 s1 s2 s3 s4 hB0 hB9 c00 c01 c02 c03 c04 y00 y01 d00 d01 fd00 fd01 c90 c91 c92 c93 c94 y90 y91 d90 d91 fd90 fd91
  go_wp2_with fail
  have p1 := r1.drew
  have p2 := r2.drew
  have p3 := r3.drew
  have p4 := r4.drew
  have hB0 := hB.drew
  clear hB r1 r2 r3 r4
  have c00 : W3.drew.cell? ⟨B1, 0, none⟩ = some (Value.int .i64 c.wo) := p1.cell 0 rfl
  have c01 : W3.drew.cell? ⟨B1, 1, none⟩ = some (Value.int .i64 c.sl) := p1.cell 1 rfl
  have c02 : W3.drew.cell? ⟨B1, 2, none⟩ = some (Value.int .i64 c.st) := p1.cell 2 rfl
  have c03 : W3.drew.cell? ⟨B1, 3, none⟩ = some (Value.int .i64 c.wa) := p1.cell 3 rfl
  have c04 : W3.drew.cell? ⟨B1, 4, none⟩ = some (Value.int .i64 c.us) := p1.cell 4 rfl
  have y00 : W3.drew.cell? ⟨B3, 0, none⟩ = some (Value.int .i64 (3 + c.wo)) := p3.cell 0 rfl
  have y01 : W3.drew.cell? ⟨B3, 1, none⟩ = some (Value.int .i64 c.wo) := p3.cell 1 rfl
  have d00 : W3.drew.cell? ⟨B4, 0, none⟩ = some (Value.int .i64 0) := p4.cell 0 rfl
  have d01 : W3.drew.cell? ⟨B4, 1, none⟩ = some (Value.int .i64 0) := p4.cell 1 rfl
  have fd00 : W3.drew.frozen? ⟨B4, 0, none⟩ = false := p4.frozen 0
  have fd01 : W3.drew.frozen? ⟨B4, 1, none⟩ = false := p4.frozen 1
  refine wp_region_held_drew (S := (fun w' => w'.cell? ⟨B1, 0, none⟩ = some (Value.int .i64 c.wo) ∧ w'.cell? ⟨B1, 1, none⟩ = some (Value.int .i64 c.sl) ∧ w'.cell? ⟨B1, 2, none⟩ = some (Value.int .i64 c.st) ∧ w'.cell? ⟨B1, 3, none⟩ = some (Value.int .i64 c.wa) ∧ w'.cell? ⟨B1, 4, none⟩ = some (Value.int .i64 c.us) ∧ w'.cell? ⟨B3, 0, none⟩ = some (Value.int .i64 (3 + c.wo)) ∧ w'.cell? ⟨B3, 1, none⟩ = some (Value.int .i64 c.wo))) (by kernel_rfl) ⟨c00, c01, c02, c03, c04, y00, y01⟩ (fun hS => ?_)
  generalize W3.drew = WD at *
  refine wpAnyH_take (i := 0) (oi := { dst := some 17, op := Op.load 84 (Operand.tmp 3), type := 84, pos := "conf.go:65", after := #[], guard := none }) (v := ?v0_5) rfl (by kernel_rfl) (by kernel_rfl) (by kernel_rfl) (fun _ _ _ h => h) (Or.inl ⟨by rfl, ?hy0_5⟩) hS ?rest0_5
  case hy0_5 =>
    intro w hSw
    (try dsimp only at hSw)
    go_simp
    try with_reducible rfl
  try simp only [Act.put, List.setIfInBounds_toArray, List.set_cons_zero, List.set_cons_succ]
  refine wpAnyH_take (i := 2) (oi := { dst := some 19, op := Op.fieldAddr 31 (Operand.tmp 1) 1, type := 0, pos := "conf.go:65", after := #[], guard := none }) (v := ?v2_6) rfl (by kernel_rfl) (by kernel_rfl) (by kernel_rfl) (fun _ _ _ h => h) (Or.inl ⟨by rfl, ?hy2_6⟩) hS ?rest2_6
  case hy2_6 =>
    intro w hSw
    (try dsimp only at hSw)
    go_simp
    try with_reducible rfl
  try simp only [Act.put, List.setIfInBounds_toArray, List.set_cons_zero, List.set_cons_succ]
  refine wpAnyH_take (i := 3) (oi := { dst := some 20, op := Op.load 3 (Operand.tmp 19), type := 3, pos := "conf.go:65", after := #[{ on := 2, ground := Ground.data }], guard := none }) (v := ?v3_7) rfl (by kernel_rfl) (by kernel_rfl) (by kernel_rfl) (fun _ _ _ h => h) (Or.inl ⟨by rfl, ?hy3_7⟩) hS ?rest3_7
  case hy3_7 =>
    intro w hSw
    (try dsimp only at hSw)
    go_simp
    try with_reducible rfl
  try simp only [Act.put, List.setIfInBounds_toArray, List.set_cons_zero, List.set_cons_succ]
  refine wpAnyH_ready (rs := [1]) (by kernel_rfl) (by simp) ?_
  refine AllReadyH.cons (o := { dst := some 18, op := Op.call { callee := Callee.value (Operand.func 52), args := #[Operand.tmp 17], argTypes := #[84] }, type := 3, pos := "conf.go:65", after := #[{ on := 0, ground := Ground.data }], guard := none }) rfl (fun K hK => ?_) AllReadyH.nil
  go_simp
  refine (behind_any (3 + c.wo) c.wo _ (by omega) (by omega)).mono ?_
  rintro e w9 ⟨rfl, hb⟩
  have s1 := p1.below hb p1.lt
  have s2 := p2.below hb p2.lt
  have s3 := p3.below hb p3.lt
  have s4 := p4.below hb p4.lt
  have hB9 := hB0.trans (hb.mono hB0.size)
  clear hb
  have c90 : w9.cell? ⟨B1, 0, none⟩ = some (Value.int .i64 c.wo) := s1.cell 0 rfl
  have c91 : w9.cell? ⟨B1, 1, none⟩ = some (Value.int .i64 c.sl) := s1.cell 1 rfl
  have c92 : w9.cell? ⟨B1, 2, none⟩ = some (Value.int .i64 c.st) := s1.cell 2 rfl
  have c93 : w9.cell? ⟨B1, 3, none⟩ = some (Value.int .i64 c.wa) := s1.cell 3 rfl
  have c94 : w9.cell? ⟨B1, 4, none⟩ = some (Value.int .i64 c.us) := s1.cell 4 rfl
  have y90 : w9.cell? ⟨B3, 0, none⟩ = some (Value.int .i64 (3 + c.wo)) := s3.cell 0 rfl
  have y91 : w9.cell? ⟨B3, 1, none⟩ = some (Value.int .i64 c.wo) := s3.cell 1 rfl
  have d90 : w9.cell? ⟨B4, 0, none⟩ = some (Value.int .i64 0) := s4.cell 0 rfl
  have d91 : w9.cell? ⟨B4, 1, none⟩ = some (Value.int .i64 0) := s4.cell 1 rfl
  have fd90 : w9.frozen? ⟨B4, 0, none⟩ = false := s4.frozen 0
  have fd91 : w9.frozen? ⟨B4, 1, none⟩ = false := s4.frozen 1
  refine hK.out _ _ ⟨c90, c91, c92, c93, c94, y90, y91⟩ (fun hS => ?_)
  clear hK K
  try simp only [Act.put, List.setIfInBounds_toArray, List.set_cons_zero, List.set_cons_succ]
  refine wpAnyH_take (i := 4) (oi := { dst := some 21, op := Op.build 84 #[(0, Operand.tmp 18), (1, Operand.tmp 20)], type := 84, pos := "conf.go:65", after := #[{ on := 1, ground := Ground.data }, { on := 3, ground := Ground.data }], guard := none }) (v := ?v4_8) rfl (by kernel_rfl) (by kernel_rfl) (by kernel_rfl) (fun _ _ _ h => h) (Or.inl ⟨by rfl, ?hy4_8⟩) hS ?rest4_8
  case hy4_8 =>
    intro w hSw
    (try dsimp only at hSw)
    go_simp
    try with_reducible rfl
  try simp only [Act.put, List.setIfInBounds_toArray, List.set_cons_zero, List.set_cons_succ]
  refine wpAnyH_ready (rs := [5]) (by kernel_rfl) (by simp) ?_
  refine AllReadyH.cons (o := { dst := none, op := Op.store 84 (Operand.tmp 4) (Operand.tmp 21), type := 0, pos := "conf.go:65", after := #[{ on := 4, ground := Ground.data }, { on := 1, ground := Ground.chain }, { on := 0, ground := Ground.phase }, { on := 1, ground := Ground.phase }, { on := 2, ground := Ground.phase }, { on := 3, ground := Ground.phase }, { on := 4, ground := Ground.phase }], guard := none }) rfl (fun K hK => ?_) AllReadyH.nil
  go_simp
  refine hK.out _ _ ⟨(oth2 n3).trans c90, (oth2 n3).trans c91, (oth2 n3).trans c92, (oth2 n3).trans c93, (oth2 n3).trans c94, (oth2 n6).trans y90, (oth2 n6).trans y91⟩ (fun hS => ?_)
  clear hK K
  try simp only [Act.put, List.setIfInBounds_toArray, List.set_cons_zero, List.set_cons_succ]
  refine wpAnyH_done (by kernel_rfl) ?_ _
  have r1 := roth2 s1 n3 (Value.int .i64 (3 + c.wo + c.wo)) (Value.int .i64 c.sl)
  have r2 := roth2 s2 n5 (Value.int .i64 (3 + c.wo + c.wo)) (Value.int .i64 c.sl)
  have r3 := roth2 s3 n6 (Value.int .i64 (3 + c.wo + c.wo)) (Value.int .i64 c.sl)
  have r4 := row2 s4 (Value.int .i64 (3 + c.wo + c.wo)) (Value.int .i64 c.sl)
  have hB := below2 hB9 l4 (Value.int .i64 (3 + c.wo + c.wo)) (Value.int .i64 c.sl)
  generalize ((w9.setCell ⟨B4, 0, none⟩ (Value.int .i64 (3 + c.wo + c.wo))).setCell ⟨B4, 1, none⟩ (Value.int .i64 c.sl)) = W4 at r1 r2 r3 r4 hB ⊢
  clear hS
  clear p1 p2 p3 p4 s1 s2 s3 s4 hB0 hB9 c00 c01 c02 c03 c04 y00 y01 d00 d01 fd00 fd01 c90 c91 c92 c93 c94 y90 y91 d90 d91 fd90 fd91
  go_wp2_with fail
  have p2 := r2.drew
  have p3 := r3.drew
  have p4 := r4.drew
  have hB0 := hB.drew
  clear hB r1 r2 r3 r4
  have y200 : W4.drew.cell? ⟨B2, 0, none⟩ = some (Value.int .i64 3) := p2.cell 0 rfl
  have y201 : W4.drew.cell? ⟨B2, 1, none⟩ = some (Value.int .i64 c.wo) := p2.cell 1 rfl
  have y300 : W4.drew.cell? ⟨B3, 0, none⟩ = some (Value.int .i64 (3 + c.wo)) := p3.cell 0 rfl
  have y301 : W4.drew.cell? ⟨B3, 1, none⟩ = some (Value.int .i64 c.wo) := p3.cell 1 rfl
  have y400 : W4.drew.cell? ⟨B4, 0, none⟩ = some (Value.int .i64 (3 + c.wo + c.wo)) := p4.cell 0 rfl
  have y401 : W4.drew.cell? ⟨B4, 1, none⟩ = some (Value.int .i64 c.sl) := p4.cell 1 rfl
  have fy200 : W4.drew.frozen? ⟨B2, 0, none⟩ = false := p2.frozen 0
  have fy201 : W4.drew.frozen? ⟨B2, 1, none⟩ = false := p2.frozen 1
  have fy300 : W4.drew.frozen? ⟨B3, 0, none⟩ = false := p3.frozen 0
  have fy301 : W4.drew.frozen? ⟨B3, 1, none⟩ = false := p3.frozen 1
  have fy400 : W4.drew.frozen? ⟨B4, 0, none⟩ = false := p4.frozen 0
  have fy401 : W4.drew.frozen? ⟨B4, 1, none⟩ = false := p4.frozen 1
  refine wp_region_held_drew (S := (fun w' => w'.cell? ⟨B2, 0, none⟩ = some (Value.int .i64 3) ∧ w'.cell? ⟨B2, 1, none⟩ = some (Value.int .i64 c.wo) ∧ w'.cell? ⟨B3, 0, none⟩ = some (Value.int .i64 (3 + c.wo)) ∧ w'.cell? ⟨B3, 1, none⟩ = some (Value.int .i64 c.wo) ∧ w'.cell? ⟨B4, 0, none⟩ = some (Value.int .i64 (3 + c.wo + c.wo)) ∧ w'.cell? ⟨B4, 1, none⟩ = some (Value.int .i64 c.sl))) (by kernel_rfl) ⟨y200, y201, y300, y301, y400, y401⟩ (fun hS => ?_)
  generalize W4.drew = WD at *
  refine wpAnyH_take (i := 0) (oi := { dst := some 22, op := Op.load 84 (Operand.tmp 2), type := 84, pos := "conf.go:66", after := #[], guard := none }) (v := ?v0_9) rfl (by kernel_rfl) (by kernel_rfl) (by kernel_rfl) (fun _ _ _ h => h) (Or.inl ⟨by rfl, ?hy0_9⟩) hS ?rest0_9
  case hy0_9 =>
    intro w hSw
    (try dsimp only at hSw)
    go_simp
    try with_reducible rfl
  try simp only [Act.put, List.setIfInBounds_toArray, List.set_cons_zero, List.set_cons_succ]
  refine wpAnyH_take (i := 1) (oi := { dst := some 23, op := Op.load 84 (Operand.tmp 3), type := 84, pos := "conf.go:66", after := #[{ on := 3, ground := Ground.gcOnly Departure.lateStores }], guard := none }) (v := ?v1_10) rfl (by kernel_rfl) (by kernel_rfl) (by kernel_rfl) (fun _ _ _ h => h) (Or.inl ⟨by rfl, ?hy1_10⟩) hS ?rest1_10
  case hy1_10 =>
    intro w hSw
    (try dsimp only at hSw)
    go_simp
    try with_reducible rfl
  try simp only [Act.put, List.setIfInBounds_toArray, List.set_cons_zero, List.set_cons_succ]
  refine wpAnyH_take (i := 2) (oi := { dst := some 24, op := Op.load 84 (Operand.tmp 4), type := 84, pos := "conf.go:66", after := #[{ on := 4, ground := Ground.gcOnly Departure.lateStores }], guard := none }) (v := ?v2_11) rfl (by kernel_rfl) (by kernel_rfl) (by kernel_rfl) (fun _ _ _ h => h) (Or.inl ⟨by rfl, ?hy2_11⟩) hS ?rest2_11
  case hy2_11 =>
    intro w hSw
    (try dsimp only at hSw)
    go_simp
    try with_reducible rfl
  try simp only [Act.put, List.setIfInBounds_toArray, List.set_cons_zero, List.set_cons_succ]
  refine wpAnyH_ready (rs := [3]) (by kernel_rfl) (by simp) ?_
  refine AllReadyH.cons (o := { dst := none, op := Op.store 84 (Operand.tmp 2) (Operand.tmp 22), type := 0, pos := "conf.go:66", after := #[{ on := 0, ground := Ground.data }, { on := 0, ground := Ground.phase }, { on := 1, ground := Ground.textOnly Departure.lateStores }, { on := 2, ground := Ground.textOnly Departure.lateStores }], guard := none }) rfl (fun K hK => ?_) AllReadyH.nil
  go_simp
  have s2 := row2 p2 (Value.int .i64 3) (Value.int .i64 c.wo)
  have s3 := roth2 p3 n4.symm (Value.int .i64 3) (Value.int .i64 c.wo)
  have s4 := roth2 p4 n5.symm (Value.int .i64 3) (Value.int .i64 c.wo)
  have hB1 := below2 hB0 l2 (Value.int .i64 3) (Value.int .i64 c.wo)
  refine hK.out _ _ ⟨s2.cell 0 rfl, s2.cell 1 rfl, s3.cell 0 rfl, s3.cell 1 rfl, s4.cell 0 rfl, s4.cell 1 rfl⟩ (fun hS => ?_)
  clear hK K
  try simp only [Act.put, List.setIfInBounds_toArray, List.set_cons_zero, List.set_cons_succ]
  generalize ((WD.setCell ⟨B2, 0, none⟩ (Value.int .i64 3)).setCell ⟨B2, 1, none⟩ (Value.int .i64 c.wo)) = V1 at s2 s3 s4 hB1 hS ⊢
  have y210 : V1.cell? ⟨B2, 0, none⟩ = some (Value.int .i64 3) := s2.cell 0 rfl
  have y211 : V1.cell? ⟨B2, 1, none⟩ = some (Value.int .i64 c.wo) := s2.cell 1 rfl
  have y310 : V1.cell? ⟨B3, 0, none⟩ = some (Value.int .i64 (3 + c.wo)) := s3.cell 0 rfl
  have y311 : V1.cell? ⟨B3, 1, none⟩ = some (Value.int .i64 c.wo) := s3.cell 1 rfl
  have y410 : V1.cell? ⟨B4, 0, none⟩ = some (Value.int .i64 (3 + c.wo + c.wo)) := s4.cell 0 rfl
  have y411 : V1.cell? ⟨B4, 1, none⟩ = some (Value.int .i64 c.sl) := s4.cell 1 rfl
  have fy210 : V1.frozen? ⟨B2, 0, none⟩ = false := s2.frozen 0
  have fy211 : V1.frozen? ⟨B2, 1, none⟩ = false := s2.frozen 1
  have fy310 : V1.frozen? ⟨B3, 0, none⟩ = false := s3.frozen 0
  have fy311 : V1.frozen? ⟨B3, 1, none⟩ = false := s3.frozen 1
  have fy410 : V1.frozen? ⟨B4, 0, none⟩ = false := s4.frozen 0
  have fy411 : V1.frozen? ⟨B4, 1, none⟩ = false := s4.frozen 1
  refine wpAnyH_ready (rs := [4]) (by kernel_rfl) (by simp) ?_
  refine AllReadyH.cons (o := { dst := none, op := Op.store 84 (Operand.tmp 3) (Operand.tmp 23), type := 0, pos := "conf.go:66", after := #[{ on := 1, ground := Ground.data }, { on := 3, ground := Ground.chain }, { on := 0, ground := Ground.phase }, { on := 1, ground := Ground.phase }, { on := 2, ground := Ground.textOnly Departure.lateStores }, { on := 3, ground := Ground.phase }], guard := none }) rfl (fun K hK => ?_) AllReadyH.nil
  go_simp
  have t2 := roth2 s2 n4 (Value.int .i64 (3 + c.wo)) (Value.int .i64 c.wo)
  have t3 := row2 s3 (Value.int .i64 (3 + c.wo)) (Value.int .i64 c.wo)
  have t4 := roth2 s4 n6.symm (Value.int .i64 (3 + c.wo)) (Value.int .i64 c.wo)
  have hB2 := below2 hB1 l3 (Value.int .i64 (3 + c.wo)) (Value.int .i64 c.wo)
  refine hK.out _ _ ⟨t2.cell 0 rfl, t2.cell 1 rfl, t3.cell 0 rfl, t3.cell 1 rfl, t4.cell 0 rfl, t4.cell 1 rfl⟩ (fun hS => ?_)
  clear hK K
  try simp only [Act.put, List.setIfInBounds_toArray, List.set_cons_zero, List.set_cons_succ]
  generalize ((V1.setCell ⟨B3, 0, none⟩ (Value.int .i64 (3 + c.wo))).setCell ⟨B3, 1, none⟩ (Value.int .i64 c.wo)) = V2 at t2 t3 t4 hB2 hS ⊢
  have y220 : V2.cell? ⟨B2, 0, none⟩ = some (Value.int .i64 3) := t2.cell 0 rfl
  have y221 : V2.cell? ⟨B2, 1, none⟩ = some (Value.int .i64 c.wo) := t2.cell 1 rfl
  have y320 : V2.cell? ⟨B3, 0, none⟩ = some (Value.int .i64 (3 + c.wo)) := t3.cell 0 rfl
  have y321 : V2.cell? ⟨B3, 1, none⟩ = some (Value.int .i64 c.wo) := t3.cell 1 rfl
  have y420 : V2.cell? ⟨B4, 0, none⟩ = some (Value.int .i64 (3 + c.wo + c.wo)) := t4.cell 0 rfl
  have y421 : V2.cell? ⟨B4, 1, none⟩ = some (Value.int .i64 c.sl) := t4.cell 1 rfl
  have fy220 : V2.frozen? ⟨B2, 0, none⟩ = false := t2.frozen 0
  have fy221 : V2.frozen? ⟨B2, 1, none⟩ = false := t2.frozen 1
  have fy320 : V2.frozen? ⟨B3, 0, none⟩ = false := t3.frozen 0
  have fy321 : V2.frozen? ⟨B3, 1, none⟩ = false := t3.frozen 1
  have fy420 : V2.frozen? ⟨B4, 0, none⟩ = false := t4.frozen 0
  have fy421 : V2.frozen? ⟨B4, 1, none⟩ = false := t4.frozen 1
  refine wpAnyH_ready (rs := [5]) (by kernel_rfl) (by simp) ?_
  refine AllReadyH.cons (o := { dst := none, op := Op.store 84 (Operand.tmp 4) (Operand.tmp 24), type := 0, pos := "conf.go:66", after := #[{ on := 2, ground := Ground.data }, { on := 4, ground := Ground.chain }, { on := 0, ground := Ground.phase }, { on := 1, ground := Ground.phase }, { on := 2, ground := Ground.phase }, { on := 3, ground := Ground.phase }, { on := 4, ground := Ground.phase }], guard := none }) rfl (fun K hK => ?_) AllReadyH.nil
  go_simp
  have h2 := roth2 t2 n5 (Value.int .i64 (3 + c.wo + c.wo)) (Value.int .i64 c.sl)
  have h3 := roth2 t3 n6 (Value.int .i64 (3 + c.wo + c.wo)) (Value.int .i64 c.sl)
  have h4 := row2 t4 (Value.int .i64 (3 + c.wo + c.wo)) (Value.int .i64 c.sl)
  have hB3 := below2 hB2 l4 (Value.int .i64 (3 + c.wo + c.wo)) (Value.int .i64 c.sl)
  refine hK.out _ _ ⟨h2.cell 0 rfl, h2.cell 1 rfl, h3.cell 0 rfl, h3.cell 1 rfl, h4.cell 0 rfl, h4.cell 1 rfl⟩ (fun hS => ?_)
  clear hK K
  try simp only [Act.put, List.setIfInBounds_toArray, List.set_cons_zero, List.set_cons_succ]
  generalize ((V2.setCell ⟨B4, 0, none⟩ (Value.int .i64 (3 + c.wo + c.wo))).setCell ⟨B4, 1, none⟩ (Value.int .i64 c.sl)) = V3 at h2 h3 h4 hB3 hS ⊢
  refine wpAnyH_done (by kernel_rfl) ?_ _
  go_wp2_with fail
  refine bodyPost_ret (res_three (p := 2) (q := 3) (r := 4) rfl _ _ B2 B3 B4 _ _ _ rfl rfl rfl h2 h3 h4 rfl rfl rfl) rfl ⟨rfl, hB3⟩
end Go.Proofs.Ytalmadeibnekoaa
