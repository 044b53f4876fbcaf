/- Rows of the document's own table; nothing that was there changes. -/
import Derived.Test.YtdiipmejkanhfaaDoorRowD
namespace Go.Proofs.YtdiipmejkanhfaaDoor
open Go.RowKit
attribute [local go_sem ↓] Go.wp_at_zero Go.wp_at_succ
set_option maxRecDepth 100000 in
set_option maxHeartbeats 4000000 in
theorem w15_any (s : Sl) (a mo : Int) (w : World) (hr : Rt s) :
    Calls Tryd.prog 17 #[Value.agg #[Value.int .i64 s.st, Value.int .i64 s.ow, Value.int .i64 s.sr, Value.bool s.br, Value.bool s.ma, Value.int .i64 s.us, Value.int .i64 s.ge, Value.int .i64 s.ep, Value.int .i64 s.ve], .int .i64 15, .int .i64 a, .int .i64 mo] w fun e w' => e = .returned (.tuple #[.agg #[Value.int .i64 (rS 15 s a mo).st, Value.int .i64 (rS 15 s a mo).ow, Value.int .i64 (rS 15 s a mo).sr, Value.bool (rS 15 s a mo).br, Value.bool (rS 15 s a mo).ma, Value.int .i64 (rS 15 s a mo).us, Value.int .i64 (rS 15 s a mo).ge, Value.int .i64 (rS 15 s a mo).ep, Value.int .i64 (rS 15 s a mo).ve], .bool (rB 15 s a mo)]) ∧ Below w.heap.size w w' := by
  cases h0 : (s.st == 3 && s.ow == a && (decide (0 ≤ mo) && decide (mo ≤ 7))) with
  | false =>
    rw [(r15_no h0).1, (r15_no h0).2]
    obtain ⟨st, ow, sr, br, ma, us, ge, ep, ve⟩ := s
    have H := Lib.hid h0
    clear h0 hr
    go_enter Tryd.func17, Tryd.ntmps17
    by_cases k1 : st = 3
    · by_cases k2 : ow = a
      · by_cases k3 : mo < 0
        · subst k1 k2
          go_wp2
          refine bodyPost_ret (res_pair (p := 8) (u := 9) rfl _ _ _ _ rfl ((new2 _ _ _ _).alloc _) rfl) rfl ⟨rfl, (((Below.refl _ _).alloc (Nat.le_refl _) _).alloc (by simp) _).alloc (by simp; omega) _⟩
        · have k4 : 7 < mo := by
            have h := H.out
            simp [k1, k2] at h
            omega
          have k5 : 0 ≤ mo := by omega
          clear H
          subst k1 k2
          go_wp2
          refine bodyPost_ret (res_pair (p := 8) (u := 9) rfl _ _ _ _ rfl ((new2 _ _ _ _).alloc _) rfl) rfl ⟨rfl, (((Below.refl _ _).alloc (Nat.le_refl _) _).alloc (by simp) _).alloc (by simp; omega) _⟩
      · clear H
        subst k1
        go_wp2
        refine bodyPost_ret (res_pair (p := 8) (u := 9) rfl _ _ _ _ rfl ((new2 _ _ _ _).alloc _) rfl) rfl ⟨rfl, (((Below.refl _ _).alloc (Nat.le_refl _) _).alloc (by simp) _).alloc (by simp; omega) _⟩
    · clear H
      go_wp2
      refine bodyPost_ret (res_pair (p := 8) (u := 9) rfl _ _ _ _ rfl ((new2 _ _ _ _).alloc _) rfl) rfl ⟨rfl, (((Below.refl _ _).alloc (Nat.le_refl _) _).alloc (by simp) _).alloc (by simp; omega) _⟩
  | true =>
    obtain ⟨st, ow, sr, br, ma, us, ge, ep, ve⟩ := s
    simp at h0
    obtain ⟨⟨k1, k2⟩, k3, k4⟩ := h0
    (try simp only at k1 k2)
    subst k1 k2
    obtain ⟨n, en⟩ : ∃ n : Nat, mo = n := ⟨mo.toNat, by omega⟩
    have n7 : n ≤ 7 := by omega
    obtain ⟨p, ep2⟩ : ∃ p : Int, p = 2 ^ n := ⟨_, rfl⟩
    have E0 := r15_yes (st := 3) (ow := ow) (sr := sr) (br := br) (ma := ma) (us := us) (ge := ge) (ep := ep) (ve := ve) rfl rfl en n7 ep2
    rw [E0.1, E0.2]
    clear E0
    subst en
    have CP : ∀ w : World, Calls Tryd.prog 42 #[.int .i64 (n : Int)] w fun e w' => e = .returned (.int .i64 p) ∧ w = w' := fun w => by rw [ep2]; exact power_any n w (by omega)
    have p1 : 0 < p := by rw [ep2]; exact Int.pow_pos (by omega)
    have p2 : p ≤ 256 := by rw [ep2]; exact pow_256 (by omega)
    have hsr : 0 ≤ sr ∧ sr ≤ 255 := hr.sr
    have s1 := hsr.1
    have s2 := hsr.2
    have hw : IntKind.i64.wrap (sr - p) = sr - p := by rw [i64_wrap]; unfold wrap64; omega
    have hp0 : ¬ p = 0 := by omega
    obtain ⟨Q, eQ⟩ : ∃ Q, Q = sr / p := ⟨_, rfl⟩
    obtain ⟨R, eR⟩ : ∃ R, R = Q % 2 := ⟨_, rfl⟩
    have e1 : sr.tdiv p = Q := by rw [eQ, Int.tdiv_eq_ediv_of_nonneg s1]
    have Q0 : 0 ≤ Q := by rw [eQ]; exact Int.ediv_nonneg s1 (by omega)
    have Q1 : Q ≤ 255 := by rw [eQ]; exact Int.le_trans (Int.ediv_le_self p s1) s2
    have hq : IntKind.i64.wrap (sr.tdiv p) = Q := by rw [e1, i64_wrap]; unfold wrap64; omega
    have hq2 : Q.tmod 2 = R := by rw [eR, Int.tmod_eq_emod_of_nonneg Q0]
    have hq3 : IntKind.i64.wrap R = R := by rw [i64_wrap]; unfold wrap64; omega
    rw [← eQ, ← eR]
    clear ep2 hr hsr eQ eR e1
    go_enter Tryd.func17, Tryd.ntmps17
    go_wp2_with fail
    have hB : Below w.heap.size w (((w.alloc (.cells #[Value.int .i64 3, Value.int .i64 ow, Value.int .i64 sr, Value.bool br, Value.bool ma, Value.int .i64 us, Value.int .i64 ge, Value.int .i64 ep, Value.int .i64 ve] 23)).alloc (.cells #[Value.int .i64 0, Value.int .i64 0, Value.int .i64 0, Value.bool false, Value.bool false, Value.int .i64 0, Value.int .i64 0, Value.int .i64 0, Value.int .i64 0] 23)).alloc (.cells #[Value.int .i64 3, Value.int .i64 ow, Value.int .i64 sr, Value.bool br, Value.bool ma, Value.int .i64 us, Value.int .i64 ge, Value.int .i64 ep, Value.int .i64 ve] 23)) := (((Below.refl _ _).alloc (Nat.le_refl _) _).alloc (by simp) _).alloc (by simp; omega) _
    have r0 := ((RowAt.new w 23 #[Value.int .i64 3, Value.int .i64 ow, Value.int .i64 sr, Value.bool br, Value.bool ma, Value.int .i64 us, Value.int .i64 ge, Value.int .i64 ep, Value.int .i64 ve]).alloc (.cells #[Value.int .i64 0, Value.int .i64 0, Value.int .i64 0, Value.bool false, Value.bool false, Value.int .i64 0, Value.int .i64 0, Value.int .i64 0, Value.int .i64 0] 23)).alloc (.cells #[Value.int .i64 3, Value.int .i64 ow, Value.int .i64 sr, Value.bool br, Value.bool ma, Value.int .i64 us, Value.int .i64 ge, Value.int .i64 ep, Value.int .i64 ve] 23)
    have r1 := (new2 w (.cells #[Value.int .i64 3, Value.int .i64 ow, Value.int .i64 sr, Value.bool br, Value.bool ma, Value.int .i64 us, Value.int .i64 ge, Value.int .i64 ep, Value.int .i64 ve] 23) 23 #[Value.int .i64 0, Value.int .i64 0, Value.int .i64 0, Value.bool false, Value.bool false, Value.int .i64 0, Value.int .i64 0, Value.int .i64 0, Value.int .i64 0]).alloc (.cells #[Value.int .i64 3, Value.int .i64 ow, Value.int .i64 sr, Value.bool br, Value.bool ma, Value.int .i64 us, Value.int .i64 ge, Value.int .i64 ep, Value.int .i64 ve] 23)
    have r2 := new3 w (.cells #[Value.int .i64 3, Value.int .i64 ow, Value.int .i64 sr, Value.bool br, Value.bool ma, Value.int .i64 us, Value.int .i64 ge, Value.int .i64 ep, Value.int .i64 ve] 23) (.cells #[Value.int .i64 0, Value.int .i64 0, Value.int .i64 0, Value.bool false, Value.bool false, Value.int .i64 0, Value.int .i64 0, Value.int .i64 0, Value.int .i64 0] 23) 23 #[Value.int .i64 3, Value.int .i64 ow, Value.int .i64 sr, Value.bool br, Value.bool ma, Value.int .i64 us, Value.int .i64 ge, Value.int .i64 ep, Value.int .i64 ve]
    obtain ⟨W, hW⟩ : ∃ W, W = ((w.alloc (.cells #[Value.int .i64 3, Value.int .i64 ow, Value.int .i64 sr, Value.bool br, Value.bool ma, Value.int .i64 us, Value.int .i64 ge, Value.int .i64 ep, Value.int .i64 ve] 23)).alloc (.cells #[Value.int .i64 0, Value.int .i64 0, Value.int .i64 0, Value.bool false, Value.bool false, Value.int .i64 0, Value.int .i64 0, Value.int .i64 0, Value.int .i64 0] 23)).alloc (.cells #[Value.int .i64 3, Value.int .i64 ow, Value.int .i64 sr, Value.bool br, Value.bool ma, Value.int .i64 us, Value.int .i64 ge, Value.int .i64 ep, Value.int .i64 ve] 23) := ⟨_, rfl⟩
    rw [← hW] at hB r0 r1 r2 ⊢
    clear hW
    obtain ⟨B1, e1⟩ : ∃ B1, B1 = w.heap.size := ⟨_, rfl⟩
    have hle : w.heap.size ≤ B1 := by omega
    rw [← e1] at r0 r1 r2 ⊢
    clear e1
    have hne : B1 ≠ B1 + 1 := by omega
    have hne2 : B1 + 2 ≠ B1 + 1 := by omega
    have q0 := r0.drew
    have p0 := r1.drew
    have u0 := r2.drew
    have hB0 := hB.drew
    clear hB r0 r1 r2
    have c00 : W.drew.cell? ⟨B1, 0, none⟩ = some (Value.int .i64 3) := q0.cell 0 rfl
    have c01 : W.drew.cell? ⟨B1, 1, none⟩ = some (Value.int .i64 ow) := q0.cell 1 rfl
    have c02 : W.drew.cell? ⟨B1, 2, none⟩ = some (Value.int .i64 sr) := q0.cell 2 rfl
    have c03 : W.drew.cell? ⟨B1, 3, none⟩ = some (Value.bool br) := q0.cell 3 rfl
    have c04 : W.drew.cell? ⟨B1, 4, none⟩ = some (Value.bool ma) := q0.cell 4 rfl
    have c05 : W.drew.cell? ⟨B1, 5, none⟩ = some (Value.int .i64 us) := q0.cell 5 rfl
    have c06 : W.drew.cell? ⟨B1, 6, none⟩ = some (Value.int .i64 ge) := q0.cell 6 rfl
    have c07 : W.drew.cell? ⟨B1, 7, none⟩ = some (Value.int .i64 ep) := q0.cell 7 rfl
    have c08 : W.drew.cell? ⟨B1, 8, none⟩ = some (Value.int .i64 ve) := q0.cell 8 rfl
    have x0 : W.drew.cell? ⟨B1 + 2, 2, none⟩ = some (Value.int .i64 sr) := u0.cell 2 rfl
    have f0 : W.drew.frozen? ⟨B1 + 2, 2, none⟩ = false := u0.frozen 2
    refine wp_region_held_drew (S := (fun w' => w'.cell? ⟨B1, 0, none⟩ = some (Value.int .i64 3) ∧ w'.cell? ⟨B1, 1, none⟩ = some (Value.int .i64 ow) ∧ w'.cell? ⟨B1, 2, none⟩ = some (Value.int .i64 sr) ∧ w'.cell? ⟨B1, 3, none⟩ = some (Value.bool br) ∧ w'.cell? ⟨B1, 4, none⟩ = some (Value.bool ma) ∧ w'.cell? ⟨B1, 5, none⟩ = some (Value.int .i64 us) ∧ w'.cell? ⟨B1, 6, none⟩ = some (Value.int .i64 ge) ∧ w'.cell? ⟨B1, 7, none⟩ = some (Value.int .i64 ep) ∧ w'.cell? ⟨B1, 8, none⟩ = some (Value.int .i64 ve))) (by kernel_rfl) ⟨c00, c01, c02, c03, c04, c05, c06, c07, c08⟩ (fun hS => ?_)
    generalize W.drew = W1 at *
    refine wpAnyH_take (i := 0) (oi := { dst := some 235, op := Op.fieldAddr 23 (Operand.tmp 4) 2, type := 0, pos := "ref.go:97", after := #[], guard := none }) (v := ?v0_228) rfl (by kernel_rfl) (by kernel_rfl) (by kernel_rfl) (fun _ _ _ h => h) (Or.inl ⟨by rfl, ?hy0_228⟩) hS ?rest0_228
    case hy0_228 =>
      intro w hSw
      (try dsimp only at hSw)
      go_simp
      try with_reducible rfl
    try simp only [Act.put, List.setIfInBounds_toArray, List.set_cons_zero, List.set_cons_succ]
    refine wpAnyH_take (i := 1) (oi := { dst := some 236, op := Op.load 3 (Operand.tmp 235), type := 3, pos := "ref.go:97", after := #[{ on := 0, ground := Ground.data }], guard := none }) (v := ?v1_229) rfl (by kernel_rfl) (by kernel_rfl) (by kernel_rfl) (fun _ _ _ h => h) (Or.inl ⟨by rfl, ?hy1_229⟩) hS ?rest1_229
    case hy1_229 =>
      intro w hSw
      (try dsimp only at hSw)
      go_simp
      try with_reducible rfl
    try simp only [Act.put, List.setIfInBounds_toArray, List.set_cons_zero, List.set_cons_succ]
    refine wpAnyH_take (i := 2) (oi := { dst := some 237, op := Op.move (Operand.tmp 3), type := 3, pos := "ref.go:97", after := #[], guard := none }) (v := ?v2_230) rfl (by kernel_rfl) (by kernel_rfl) (by kernel_rfl) (fun _ _ _ h => h) (Or.inl ⟨by rfl, ?hy2_230⟩) hS ?rest2_230
    case hy2_230 =>
      intro w hSw
      (try dsimp only at hSw)
      go_simp
      try with_reducible rfl
    try simp only [Act.put, List.setIfInBounds_toArray, List.set_cons_zero, List.set_cons_succ]
    refine wpAnyH_ready (rs := [3]) (by kernel_rfl) (by simp) ?_
    refine AllReadyH.cons (o := { dst := some 238, op := Op.call { callee := Callee.value (Operand.func 42), args := #[Operand.tmp 237], argTypes := #[3] }, type := 3, pos := "ref.go:97", after := #[{ on := 2, ground := Ground.data }], guard := none }) rfl (fun K hK => ?_) AllReadyH.nil
    go_simp
    refine (CP _).mono ?_
    rintro e w9 ⟨rfl, rfl⟩
    refine hK.out _ _ ⟨c00, c01, c02, c03, c04, c05, c06, c07, c08⟩ (fun hS => ?_)
    clear hK K
    try simp only [Act.put, List.setIfInBounds_toArray, List.set_cons_zero, List.set_cons_succ]
    refine wpAnyH_take (i := 4) (oi := { dst := some 239, op := Op.binOp BinOp.quo 3 (Operand.tmp 236) (Operand.tmp 238) 3, type := 3, pos := "ref.go:97", after := #[{ on := 1, ground := Ground.data }, { on := 3, ground := Ground.data }], guard := none }) (v := ?v4_231) rfl (by kernel_rfl) (by kernel_rfl) (by kernel_rfl) (fun _ _ _ h => h) (Or.inl ⟨by rfl, ?hy4_231⟩) hS ?rest4_231
    case hy4_231 =>
      intro w hSw
      (try dsimp only at hSw)
      go_simp
      try with_reducible rfl
    try simp only [Act.put, List.setIfInBounds_toArray, List.set_cons_zero, List.set_cons_succ]
    refine wpAnyH_take (i := 5) (oi := { dst := some 240, op := Op.binOp BinOp.rem 3 (Operand.tmp 239) (Operand.const (Value.int IntKind.i64 2)) 3, type := 3, pos := "ref.go:97", after := #[{ on := 4, ground := Ground.data }], guard := none }) (v := ?v5_232) rfl (by kernel_rfl) (by kernel_rfl) (by kernel_rfl) (fun _ _ _ h => h) (Or.inl ⟨by rfl, ?hy5_232⟩) hS ?rest5_232
    case hy5_232 =>
      intro w hSw
      (try dsimp only at hSw)
      go_simp
      try with_reducible rfl
    try simp only [Act.put, List.setIfInBounds_toArray, List.set_cons_zero, List.set_cons_succ]
    refine wpAnyH_take (i := 6) (oi := { dst := some 13, op := Op.assign (Operand.tmp 240), type := 3, pos := "ref.go:97", after := #[{ on := 5, ground := Ground.data }, { on := 3, ground := Ground.chain }, { on := 0, ground := Ground.phase }, { on := 1, ground := Ground.phase }, { on := 2, ground := Ground.phase }, { on := 3, ground := Ground.phase }, { on := 4, ground := Ground.phase }, { on := 5, ground := Ground.phase }], guard := none }) (v := ?v6_233) rfl (by kernel_rfl) (by kernel_rfl) (by kernel_rfl) (fun _ _ _ h => h) (Or.inl ⟨by rfl, ?hy6_233⟩) hS ?rest6_233
    case hy6_233 =>
      intro w hSw
      (try dsimp only at hSw)
      go_simp
      try with_reducible rfl
    try simp only [Act.put, List.setIfInBounds_toArray, List.set_cons_zero, List.set_cons_succ]
    refine wpAnyH_done (by kernel_rfl) ?_ _
    go_wp2_with fail
    clear hS x0 f0 c00 c01 c02 c03 c04 c05 c06 c07 c08
    have r0 := q0
    have r1 := p0
    have r2 := u0
    have hB := hB0
    clear q0 p0 u0 hB0
    have q0 := r0.drew
    have p0 := r1.drew
    have u0 := r2.drew
    have hB0 := hB.drew
    clear hB r0 r1 r2
    have c00 : W1.drew.cell? ⟨B1, 0, none⟩ = some (Value.int .i64 3) := q0.cell 0 rfl
    have c01 : W1.drew.cell? ⟨B1, 1, none⟩ = some (Value.int .i64 ow) := q0.cell 1 rfl
    have c02 : W1.drew.cell? ⟨B1, 2, none⟩ = some (Value.int .i64 sr) := q0.cell 2 rfl
    have c03 : W1.drew.cell? ⟨B1, 3, none⟩ = some (Value.bool br) := q0.cell 3 rfl
    have c04 : W1.drew.cell? ⟨B1, 4, none⟩ = some (Value.bool ma) := q0.cell 4 rfl
    have c05 : W1.drew.cell? ⟨B1, 5, none⟩ = some (Value.int .i64 us) := q0.cell 5 rfl
    have c06 : W1.drew.cell? ⟨B1, 6, none⟩ = some (Value.int .i64 ge) := q0.cell 6 rfl
    have c07 : W1.drew.cell? ⟨B1, 7, none⟩ = some (Value.int .i64 ep) := q0.cell 7 rfl
    have c08 : W1.drew.cell? ⟨B1, 8, none⟩ = some (Value.int .i64 ve) := q0.cell 8 rfl
    have x0 : W1.drew.cell? ⟨B1 + 2, 2, none⟩ = some (Value.int .i64 sr) := u0.cell 2 rfl
    have f0 : W1.drew.frozen? ⟨B1 + 2, 2, none⟩ = false := u0.frozen 2
    refine wp_region_held_drew (S := (fun w' => w'.cell? ⟨B1, 0, none⟩ = some (Value.int .i64 3) ∧ w'.cell? ⟨B1, 1, none⟩ = some (Value.int .i64 ow) ∧ w'.cell? ⟨B1, 2, none⟩ = some (Value.int .i64 sr) ∧ w'.cell? ⟨B1, 3, none⟩ = some (Value.bool br) ∧ w'.cell? ⟨B1, 4, none⟩ = some (Value.bool ma) ∧ w'.cell? ⟨B1, 5, none⟩ = some (Value.int .i64 us) ∧ w'.cell? ⟨B1, 6, none⟩ = some (Value.int .i64 ge) ∧ w'.cell? ⟨B1, 7, none⟩ = some (Value.int .i64 ep) ∧ w'.cell? ⟨B1, 8, none⟩ = some (Value.int .i64 ve))) (by kernel_rfl) ⟨c00, c01, c02, c03, c04, c05, c06, c07, c08⟩ (fun hS => ?_)
    generalize W1.drew = WD at *
    refine wpAnyH_take (i := 0) (oi := { dst := some 241, op := Op.fieldAddr 23 (Operand.tmp 4) 2, type := 0, pos := "ref.go:98", after := #[], guard := none }) (v := ?v0_234) rfl (by kernel_rfl) (by kernel_rfl) (by kernel_rfl) (fun _ _ _ h => h) (Or.inl ⟨by rfl, ?hy0_234⟩) hS ?rest0_234
    case hy0_234 =>
      intro w hSw
      (try dsimp only at hSw)
      go_simp
      try with_reducible rfl
    try simp only [Act.put, List.setIfInBounds_toArray, List.set_cons_zero, List.set_cons_succ]
    refine wpAnyH_take (i := 1) (oi := { dst := some 242, op := Op.load 3 (Operand.tmp 241), type := 3, pos := "ref.go:98", after := #[{ on := 0, ground := Ground.data }], guard := none }) (v := ?v1_235) rfl (by kernel_rfl) (by kernel_rfl) (by kernel_rfl) (fun _ _ _ h => h) (Or.inl ⟨by rfl, ?hy1_235⟩) hS ?rest1_235
    case hy1_235 =>
      intro w hSw
      (try dsimp only at hSw)
      go_simp
      try with_reducible rfl
    try simp only [Act.put, List.setIfInBounds_toArray, List.set_cons_zero, List.set_cons_succ]
    refine wpAnyH_take (i := 2) (oi := { dst := some 243, op := Op.move (Operand.tmp 3), type := 3, pos := "ref.go:98", after := #[], guard := none }) (v := ?v2_236) rfl (by kernel_rfl) (by kernel_rfl) (by kernel_rfl) (fun _ _ _ h => h) (Or.inl ⟨by rfl, ?hy2_236⟩) hS ?rest2_236
    case hy2_236 =>
      intro w hSw
      (try dsimp only at hSw)
      go_simp
      try with_reducible rfl
    try simp only [Act.put, List.setIfInBounds_toArray, List.set_cons_zero, List.set_cons_succ]
    refine wpAnyH_ready (rs := [3]) (by kernel_rfl) (by simp) ?_
    refine AllReadyH.cons (o := { dst := some 244, op := Op.call { callee := Callee.value (Operand.func 42), args := #[Operand.tmp 243], argTypes := #[3] }, type := 3, pos := "ref.go:98", after := #[{ on := 2, ground := Ground.data }], guard := none }) rfl (fun K hK => ?_) AllReadyH.nil
    go_simp
    refine (CP _).mono ?_
    rintro e w9 ⟨rfl, rfl⟩
    refine hK.out _ _ ⟨c00, c01, c02, c03, c04, c05, c06, c07, c08⟩ (fun hS => ?_)
    clear hK K
    try simp only [Act.put, List.setIfInBounds_toArray, List.set_cons_zero, List.set_cons_succ]
    refine wpAnyH_take (i := 4) (oi := { dst := some 245, op := Op.binOp BinOp.sub 3 (Operand.tmp 242) (Operand.tmp 244) 3, type := 3, pos := "ref.go:98", after := #[{ on := 1, ground := Ground.data }, { on := 3, ground := Ground.data }], guard := none }) (v := ?v4_237) rfl (by kernel_rfl) (by kernel_rfl) (by kernel_rfl) (fun _ _ _ h => h) (Or.inl ⟨by rfl, ?hy4_237⟩) hS ?rest4_237
    case hy4_237 =>
      intro w hSw
      (try dsimp only at hSw)
      go_simp
      try with_reducible rfl
    try simp only [Act.put, List.setIfInBounds_toArray, List.set_cons_zero, List.set_cons_succ]
    refine wpAnyH_take (i := 5) (oi := { dst := some 246, op := Op.fieldAddr 23 (Operand.tmp 10) 2, type := 0, pos := "ref.go:98", after := #[{ on := 0, ground := Ground.phase }, { on := 1, ground := Ground.phase }, { on := 2, ground := Ground.phase }, { on := 3, ground := Ground.phase }, { on := 4, ground := Ground.phase }], guard := none }) (v := ?v5_238) rfl (by kernel_rfl) (by kernel_rfl) (by kernel_rfl) (fun _ _ _ h => h) (Or.inl ⟨by rfl, ?hy5_238⟩) hS ?rest5_238
    case hy5_238 =>
      intro w hSw
      (try dsimp only at hSw)
      go_simp
      try with_reducible rfl
    try simp only [Act.put, List.setIfInBounds_toArray, List.set_cons_zero, List.set_cons_succ]
    refine wpAnyH_ready (rs := [6]) (by kernel_rfl) (by simp) ?_
    refine AllReadyH.cons (o := { dst := none, op := Op.store 3 (Operand.tmp 246) (Operand.tmp 245), type := 0, pos := "ref.go:98", after := #[{ on := 5, ground := Ground.data }, { on := 4, ground := Ground.data }, { on := 3, ground := Ground.chain }, { on := 0, ground := Ground.phase }, { on := 1, ground := Ground.phase }, { on := 2, ground := Ground.phase }, { on := 3, ground := Ground.phase }, { on := 4, ground := Ground.phase }], guard := none }) rfl (fun K hK => ?_) AllReadyH.nil
    go_simp
    have tq := q0.putOther ⟨B1 + 2, 2, none⟩ (show B1 ≠ B1 + 2 by omega) (.int .i64 (sr - p))
    have k0 : (WD.setCell ⟨B1 + 2, 2, none⟩ (.int .i64 (sr - p))).cell? ⟨B1, 0, none⟩ = some (Value.int .i64 3) := tq.cell 0 rfl
    have k1 : (WD.setCell ⟨B1 + 2, 2, none⟩ (.int .i64 (sr - p))).cell? ⟨B1, 1, none⟩ = some (Value.int .i64 ow) := tq.cell 1 rfl
    have k2 : (WD.setCell ⟨B1 + 2, 2, none⟩ (.int .i64 (sr - p))).cell? ⟨B1, 2, none⟩ = some (Value.int .i64 sr) := tq.cell 2 rfl
    have k3 : (WD.setCell ⟨B1 + 2, 2, none⟩ (.int .i64 (sr - p))).cell? ⟨B1, 3, none⟩ = some (Value.bool br) := tq.cell 3 rfl
    have k4 : (WD.setCell ⟨B1 + 2, 2, none⟩ (.int .i64 (sr - p))).cell? ⟨B1, 4, none⟩ = some (Value.bool ma) := tq.cell 4 rfl
    have k5 : (WD.setCell ⟨B1 + 2, 2, none⟩ (.int .i64 (sr - p))).cell? ⟨B1, 5, none⟩ = some (Value.int .i64 us) := tq.cell 5 rfl
    have k6 : (WD.setCell ⟨B1 + 2, 2, none⟩ (.int .i64 (sr - p))).cell? ⟨B1, 6, none⟩ = some (Value.int .i64 ge) := tq.cell 6 rfl
    have k7 : (WD.setCell ⟨B1 + 2, 2, none⟩ (.int .i64 (sr - p))).cell? ⟨B1, 7, none⟩ = some (Value.int .i64 ep) := tq.cell 7 rfl
    have k8 : (WD.setCell ⟨B1 + 2, 2, none⟩ (.int .i64 (sr - p))).cell? ⟨B1, 8, none⟩ = some (Value.int .i64 ve) := tq.cell 8 rfl
    refine hK.out _ _ ⟨k0, k1, k2, k3, k4, k5, k6, k7, k8⟩ (fun hS => ?_)
    clear hK K
    try simp only [Act.put, List.setIfInBounds_toArray, List.set_cons_zero, List.set_cons_succ]
    refine wpAnyH_done (by kernel_rfl) ?_ _
    have n1 : B1 ≠ B1 + 2 := by omega
    have n2 : B1 + 1 ≠ B1 + 2 := by omega
    have t0 := q0.putOther ⟨B1 + 2, 2, none⟩ n1 (.int .i64 (sr - p))
    have t1 := p0.putOther ⟨B1 + 2, 2, none⟩ n2 (.int .i64 (sr - p))
    have t2 : RowAt _ (B1 + 2) 23 #[Value.int .i64 3, Value.int .i64 ow, Value.int .i64 (sr - p), Value.bool br, Value.bool ma, Value.int .i64 us, Value.int .i64 ge, Value.int .i64 ep, Value.int .i64 ve] := u0.put 2 (.int .i64 (sr - p))
    have hB2 := hB0.setCell (p := ⟨B1 + 2, 2, none⟩) (show w.heap.size ≤ B1 + 2 by omega) (.int .i64 (sr - p))
    clear c00 c01 c02 c03 c04 c05 c06 c07 c08 x0 f0 hS tq k0 k1 k2 k3 k4 k5 k6 k7 k8
    have c0 : (WD.setCell ⟨B1 + 2, 2, none⟩ (.int .i64 (sr - p))).cell? ⟨B1, 0, none⟩ = some (Value.int .i64 3) := t0.cell 0 rfl
    have c1 : (WD.setCell ⟨B1 + 2, 2, none⟩ (.int .i64 (sr - p))).cell? ⟨B1, 1, none⟩ = some (Value.int .i64 ow) := t0.cell 1 rfl
    have c2 : (WD.setCell ⟨B1 + 2, 2, none⟩ (.int .i64 (sr - p))).cell? ⟨B1, 2, none⟩ = some (Value.int .i64 sr) := t0.cell 2 rfl
    have c3 : (WD.setCell ⟨B1 + 2, 2, none⟩ (.int .i64 (sr - p))).cell? ⟨B1, 3, none⟩ = some (Value.bool br) := t0.cell 3 rfl
    have c4 : (WD.setCell ⟨B1 + 2, 2, none⟩ (.int .i64 (sr - p))).cell? ⟨B1, 4, none⟩ = some (Value.bool ma) := t0.cell 4 rfl
    have c5 : (WD.setCell ⟨B1 + 2, 2, none⟩ (.int .i64 (sr - p))).cell? ⟨B1, 5, none⟩ = some (Value.int .i64 us) := t0.cell 5 rfl
    have c6 : (WD.setCell ⟨B1 + 2, 2, none⟩ (.int .i64 (sr - p))).cell? ⟨B1, 6, none⟩ = some (Value.int .i64 ge) := t0.cell 6 rfl
    have c7 : (WD.setCell ⟨B1 + 2, 2, none⟩ (.int .i64 (sr - p))).cell? ⟨B1, 7, none⟩ = some (Value.int .i64 ep) := t0.cell 7 rfl
    have c8 : (WD.setCell ⟨B1 + 2, 2, none⟩ (.int .i64 (sr - p))).cell? ⟨B1, 8, none⟩ = some (Value.int .i64 ve) := t0.cell 8 rfl
    have y0 : (WD.setCell ⟨B1 + 2, 2, none⟩ (.int .i64 (sr - p))).cell? ⟨B1 + 2, 0, none⟩ = some (Value.int .i64 3) := t2.cell 0 rfl
    have y1 : (WD.setCell ⟨B1 + 2, 2, none⟩ (.int .i64 (sr - p))).cell? ⟨B1 + 2, 1, none⟩ = some (Value.int .i64 ow) := t2.cell 1 rfl
    have y2 : (WD.setCell ⟨B1 + 2, 2, none⟩ (.int .i64 (sr - p))).cell? ⟨B1 + 2, 2, none⟩ = some (Value.int .i64 (sr - p)) := t2.cell 2 rfl
    have y3 : (WD.setCell ⟨B1 + 2, 2, none⟩ (.int .i64 (sr - p))).cell? ⟨B1 + 2, 3, none⟩ = some (Value.bool br) := t2.cell 3 rfl
    have y4 : (WD.setCell ⟨B1 + 2, 2, none⟩ (.int .i64 (sr - p))).cell? ⟨B1 + 2, 4, none⟩ = some (Value.bool ma) := t2.cell 4 rfl
    have y5 : (WD.setCell ⟨B1 + 2, 2, none⟩ (.int .i64 (sr - p))).cell? ⟨B1 + 2, 5, none⟩ = some (Value.int .i64 us) := t2.cell 5 rfl
    have y6 : (WD.setCell ⟨B1 + 2, 2, none⟩ (.int .i64 (sr - p))).cell? ⟨B1 + 2, 6, none⟩ = some (Value.int .i64 ge) := t2.cell 6 rfl
    have y7 : (WD.setCell ⟨B1 + 2, 2, none⟩ (.int .i64 (sr - p))).cell? ⟨B1 + 2, 7, none⟩ = some (Value.int .i64 ep) := t2.cell 7 rfl
    have y8 : (WD.setCell ⟨B1 + 2, 2, none⟩ (.int .i64 (sr - p))).cell? ⟨B1 + 2, 8, none⟩ = some (Value.int .i64 ve) := t2.cell 8 rfl
    go_wp2_with (refine wpList_store_row rfl 23 _ _ rfl _ _ rfl rfl 23 _ t1 (by kernel_rfl) rfl (by simp [Value.oneCell']) ?_)
    all_goals (try subst_vars)
    all_goals refine bodyPost_ret (res_pair (p := 8) (u := 9) rfl _ _ _ _ rfl (t1.set _) rfl) rfl ⟨?_, below_setRow hB2 (by omega) _⟩
    all_goals (clear q0 p0 u0 t0 t1 t2 hB0 hB2 c0 c1 c2 c3 c4 c5 c6 c7 c8 y0 y1 y2 y3 y4 y5 y6 y7 y8)
    all_goals (refine ret_pair ?_; first | rfl | (simp [*]; done))
end Go.Proofs.YtdiipmejkanhfaaDoor
