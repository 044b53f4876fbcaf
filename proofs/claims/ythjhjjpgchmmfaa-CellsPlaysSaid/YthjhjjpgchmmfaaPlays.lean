/- The law CellsPlays, walked. -/
import Derived.Test.YthjhjjpgchmmfaaAlone
namespace Go.Proofs.Ythjhjjpgchmmfaa
open Go.RowKit
attribute [local go_sem ↓] Go.wp_at_zero Go.wp_at_succ

theorem held_mono {P : Program} {md : Region.Mode} {ops : Array Oper} {Q : Exit → Act → World → Prop} {S S2 : World → Prop} (h : ∀ w, S2 w → S w) : ∀ (fuel : Nat) (listed : Array Bool) (a : Act) (w : World), wpAnyH P md ops Q S2 fuel listed a w → wpAnyH P md ops Q S fuel listed a w
  | 0, _, _, _, hh => hh
  | fuel + 1, _, _, _, hh => ⟨hh.1, fun i hi => wpOp_mono (fun a' w' h' => ⟨h _ h'.1, held_mono h fuel _ a' w' h'.2⟩) (hh.2 i hi)⟩

set_option maxRecDepth 100000 in
set_option maxHeartbeats 1000000 in
theorem plays_skip (i : Int) (A : Option Addr) (n c : Nat) (w : World) (h : 60 < n ∨ (n ≤ 60 ∧ 100 < i ∧ i ≤ 4096)) :
    Calls Try.prog 3 #[.int .i64 i, .slice A n c] w (fun e w' => e = .returned (.bool true) ∧ Below w.heap.size w w') := by
  rcases h with hl | ⟨hl, h1, h2⟩
  · go_enter Try.func3, Try.ntmps3
    go_wp2_with fail
    refine (awake_any _).mono ?_
    rintro e w1 ⟨rfl, hB1⟩
    go_wp2_with fail
    go_ret
    exact ⟨rfl, hB1⟩
  · go_enter Try.func3, Try.ntmps3
    go_wp2_with fail
    refine (awake_any _).mono ?_
    rintro e w1 ⟨rfl, hB1⟩
    go_wp2_with fail
    go_ret
    exact ⟨rfl, hB1⟩
set_option maxRecDepth 100000 in
set_option maxHeartbeats 1000000 in
theorem plays_none (i : Int) (A : Option Addr) (n c : Nat) (w : World) (hl : n ≤ 60) (h : i < 1 ∨ 4096 < i) :
    Calls Try.prog 3 #[.int .i64 i, .slice A n c] w (fun e w' => e = .returned (.bool true) ∧ Below w.heap.size w w') := by
  rcases h with h | h
  · have h4 : i ≤ 4096 := by omega
    go_enter Try.func3, Try.ntmps3
    go_wp2_with fail
    refine (awake_any _).mono ?_
    rintro e w1 ⟨rfl, hB1⟩
    go_wp2_with fail
    refine (new_out i _ (.inl h)).mono ?_
    rintro e w2 ⟨rfl, rfl⟩
    go_wp2_with fail
    go_ret
    exact ⟨rfl, hB1⟩
  · have h4 : ¬ i ≤ 4096 := by omega
    have h5 : ¬ i < 1 := by omega
    go_enter Try.func3, Try.ntmps3
    go_wp2_with fail
    refine (awake_any _).mono ?_
    rintro e w1 ⟨rfl, hB1⟩
    go_wp2_with fail
    refine (new_out i _ (.inr h)).mono ?_
    rintro e w2 ⟨rfl, rfl⟩
    go_wp2_with fail
    go_ret
    exact ⟨rfl, hB1⟩
set_option maxRecDepth 100000 in
set_option maxHeartbeats 20000000 in
theorem plays_go (N : Nat) (A : Option Addr) (c0 : Nat) (l : List OpT) (w : World) (hN1 : 1 ≤ N) (hN2 : N ≤ 100) (hl : l.length ≤ 60) (hO : OS w w.heap.size A l) :
    Calls Try.prog 3 #[.int .i64 N, .slice A l.length c0] w (fun e w' => e = .returned (.bool true) ∧ Below w.heap.size w w') := by
  have hm := make_run N (by omega)
  go_enter Try.func3, Try.ntmps3
  go_wp2_with fail
  refine (awake_any _).mono ?_
  rintro e w1 ⟨rfl, hB1⟩
  go_wp2_with fail
  refine (new_in N _ hN1 (by omega)).mono ?_
  rintro e w2 ⟨g, gw, rfl, hg1, hgw1, hM, hB2⟩
  have hB := hB1.trans (hB2.mono hB1.size)
  go_wp2_with fail
  have hn0 := nums_new w2 N
  have hb0 : Below w2.heap.size w2 (w2.alloc (.cells (madeCells #[.int .i64 0] N) 3)) := (Below.refl _ _).alloc (Nat.le_refl _) _
  have hb1 : Below w2.heap.size w2 ((w2.alloc (.cells (madeCells #[.int .i64 0] N) 3)).alloc (.cells #[.slice (some ⟨w2.heap.size, 0, none⟩) N N, .int .i64 0] 31)) := hb0.alloc hb0.size _
  have hx0 := hM.on hb1
  have hD : RowKit.Hid (w.heap.size ≤ g ∧ w.heap.size ≤ gw ∧ w.heap.size ≤ w2.heap.size + 1 ∧ w.heap.size ≤ w2.heap.size ∧ w2.heap.size + 1 ≠ g ∧ w2.heap.size + 1 ≠ gw ∧ w2.heap.size ≠ g ∧ w2.heap.size ≠ gw) := by
    have i1 := hM.lg
    have i2 := hM.lw
    have i3 := hB1.size
    have i4 := hB.size
    exact Lib.hid ⟨by omega, by omega, by omega, by omega, by omega, by omega, by omega, by omega⟩
  have hBa := hB.trans (hb1.mono hB.size)
  have hr0 : MemAt ((w2.alloc (.cells (madeCells #[.int .i64 0] N) 3)).alloc (.cells #[.slice (some ⟨w2.heap.size, 0, none⟩) N N, .int .i64 0] 31)) (w2.heap.size + 1) w2.heap.size N ⟨List.replicate N 0, 0⟩ := by
    have hk := memAt_box _ w2.heap.size N _ 0 31 hn0
    simpa using hk
  obtain ⟨W0, hW0⟩ : ∃ W0, W0 = ((w2.alloc (.cells (madeCells #[.int .i64 0] N) 3)).alloc (.cells #[.slice (some ⟨w2.heap.size, 0, none⟩) N N, .int .i64 0] 31)) := ⟨_, rfl⟩
  rw [← hW0] at hr0 hx0 hBa ⊢
  clear hW0 hn0 hb0 hb1 hB hB1 hB2 hM hg1 hgw1 hm
  obtain ⟨g2, eg2⟩ : ∃ g2, g2 = w2.heap.size + 1 := ⟨_, rfl⟩
  obtain ⟨gw2, egw2⟩ : ∃ gw2, gw2 = w2.heap.size := ⟨_, rfl⟩
  rw [← eg2] at hr0 hD ⊢
  rw [← egw2] at hr0 hD
  clear eg2 egw2
  go_loopw [9] (fun j wr => ∃ (k : Nat), k ≤ l.length ∧ j = .int .i64 k ∧ MemAt wr g gw N ((St.new N).run (l.take k)) ∧ MemAt wr g2 gw2 N ((St.new N).run (l.take k)) ∧ Below w.heap.size w wr) (fun j _ => l.length - (intOf j).toNat)
  case atStart => exact ⟨0, Nat.zero_le _, rfl, hx0, hr0, hBa⟩
  case round =>
    clear hr0 hx0 hBa
    obtain ⟨k, hk, rfl, hx5, hr5, hB5⟩ := hrel
    by_cases hlt : k < l.length
    · have ht5 := St.run_t (s := St.new N) (l := l) (k := k) (Nat.zero_le _) (by omega)
      obtain ⟨o, ho⟩ := op_some hlt
      have HT := Lib.hid (St.run_take (s := St.new N) ho)
      have hL5 : ((St.new N).run (l.take k)).ws.length = N := newRun_len N _
      obtain ⟨s5, es5⟩ : ∃ s5, s5 = (St.new N).run (l.take k) := ⟨_, rfl⟩
      rw [← es5] at hx5 hr5 HT ht5 hL5
      clear es5
      have hL6 : (s5.opS o).ws.length = N := (s5.opS_len o).1.trans hL5
      have hL6a : 0 < (s5.opS o).ws.length := by omega
      have hL6b : (s5.opS o).ws.length ≤ 1000000 := by omega
      obtain ⟨b, off, rfl, hbl, d1, d2, d3, d4⟩ := hO k o ho
      clear ho
      have e1 := (hB5.cell (p := ⟨b, off + k * 4, none⟩) hbl).trans d1
      have e2 := (hB5.cell (p := ⟨b, off + k * 4 + 1, none⟩) hbl).trans d2
      have e3 := (hB5.cell (p := ⟨b, off + k * 4 + 2, none⟩) hbl).trans d3
      have e4 := (hB5.cell (p := ⟨b, off + k * 4 + 3, none⟩) hbl).trans d4
      have hk1 : (k : Int) < (l.length : Int) := by omega
      have hk0 : (0 : Int) ≤ (k : Int) := Int.natCast_nonneg _
      have hdo : ∀ W, MemAt W g gw N s5 → Calls Try.prog 12 #[.pointer (some ⟨g, 0, none⟩), .agg #[.int .u8 o.k, .int .i64 o.i, .int .i64 o.v, .int .i64 o.u]] W (Ends W g gw N (s5.opS o) (.int .i64 (s5.opA o))) := fun W hW => do_any g gw N s5 o W hW ht5
      have hrdo : ∀ W, MemAt W g2 gw2 N s5 → Calls Try.prog 13 #[.pointer (some ⟨g2, 0, none⟩), .agg #[.int .u8 o.k, .int .i64 o.i, .int .i64 o.v, .int .i64 o.u]] W (Ends W g2 gw2 N (s5.opS o) (.int .i64 (s5.opA o))) := fun W hW => refDo_any g2 gw2 N s5 o W hW ht5
      obtain ⟨s6, es6⟩ : ∃ s6, s6 = s5.opS o := ⟨_, rfl⟩
      obtain ⟨x, ex⟩ : ∃ x, x = s5.opA o := ⟨_, rfl⟩
      rw [← es6] at hL6 hL6a hL6b HT
      rw [← es6, ← ex] at hdo hrdo
      clear es6 ex ht5 hL5
      go_wp2_with fail
      refine wp_region_held_drew (S := (fun w' => w'.cell? ⟨b, off + k * 4, none⟩ = some (.int .u8 o.k) ∧ w'.cell? ⟨b, off + k * 4 + 1, none⟩ = some (.int .i64 o.i) ∧ w'.cell? ⟨b, off + k * 4 + 2, none⟩ = some (.int .i64 o.v) ∧ w'.cell? ⟨b, off + k * 4 + 3, none⟩ = some (.int .i64 o.u))) (by kernel_rfl) ⟨e1, e2, e3, e4⟩ (fun hS => ?_)
      refine wpAnyH_take (i := 0) (oi := { dst := some 59, op := Op.move (Operand.tmp 6), type := 24, pos := "law.go:59", after := #[], guard := none }) (v := ?v0) rfl (by kernel_rfl) (by kernel_rfl) (by kernel_rfl) (fun _ _ _ h => h) (Or.inl ⟨by rfl, ?hy0⟩) hS ?rest0
      case hy0 =>
        intro w hSw
        (try dsimp only at hSw)
        go_simp
        try with_reducible rfl
      try simp only [Act.put, List.setIfInBounds_toArray, List.set_cons_zero, List.set_cons_succ]
      refine wpAnyH_take (i := 1) (oi := { dst := some 60, op := Op.move (Operand.tmp 1), type := 22, pos := "law.go:59", after := #[], guard := none }) (v := ?v1) rfl (by kernel_rfl) (by kernel_rfl) (by kernel_rfl) (fun _ _ _ h => h) (Or.inl ⟨by rfl, ?hy1⟩) hS ?rest1
      case hy1 =>
        intro w hSw
        (try dsimp only at hSw)
        go_simp
        try with_reducible rfl
      try simp only [Act.put, List.setIfInBounds_toArray, List.set_cons_zero, List.set_cons_succ]
      refine wpAnyH_take (i := 2) (oi := { dst := some 61, op := Op.move (Operand.tmp 9), type := 3, pos := "law.go:59", after := #[], guard := none }) (v := ?v2) rfl (by kernel_rfl) (by kernel_rfl) (by kernel_rfl) (fun _ _ _ h => h) (Or.inl ⟨by rfl, ?hy2⟩) hS ?rest2
      case hy2 =>
        intro w hSw
        (try dsimp only at hSw)
        go_simp
        try with_reducible rfl
      try simp only [Act.put, List.setIfInBounds_toArray, List.set_cons_zero, List.set_cons_succ]
      refine wpAnyH_take (i := 3) (oi := { dst := some 62, op := Op.indexAddr 22 (Operand.tmp 60) (Operand.tmp 61), type := 0, pos := "law.go:59", after := #[{ on := 1, ground := Ground.data }, { on := 2, ground := Ground.data }], guard := none }) (v := ?v3) rfl (by kernel_rfl) (by kernel_rfl) (by kernel_rfl) (fun _ _ _ h => h) (Or.inl ⟨by rfl, ?hy3⟩) hS ?rest3
      case hy3 =>
        intro w hSw
        (try dsimp only at hSw)
        go_simp
        try with_reducible rfl
      try simp only [Act.put, List.setIfInBounds_toArray, List.set_cons_zero, List.set_cons_succ]
      refine wpAnyH_take (i := 4) (oi := { dst := some 63, op := Op.load 34 (Operand.tmp 62), type := 34, pos := "law.go:59", after := #[{ on := 3, ground := Ground.data }], guard := none }) (v := ?v4) rfl (by kernel_rfl) (by kernel_rfl) (by kernel_rfl) (fun _ _ _ h => h) (Or.inl ⟨by rfl, ?hy4⟩) hS ?rest4
      case hy4 =>
        intro w hSw
        (try dsimp only at hSw)
        go_simp
        try with_reducible rfl
      try simp only [Act.put, List.setIfInBounds_toArray, List.set_cons_zero, List.set_cons_succ]
      refine wpAnyH_take (i := 6) (oi := { dst := some 65, op := Op.move (Operand.tmp 8), type := 28, pos := "law.go:59", after := #[], guard := none }) (v := ?v6) rfl (by kernel_rfl) (by kernel_rfl) (by kernel_rfl) (fun _ _ _ h => h) (Or.inl ⟨by rfl, ?hy6⟩) hS ?rest6
      case hy6 =>
        intro w hSw
        (try dsimp only at hSw)
        go_simp
        try with_reducible rfl
      try simp only [Act.put, List.setIfInBounds_toArray, List.set_cons_zero, List.set_cons_succ]
      refine wpAnyH_take (i := 7) (oi := { dst := some 66, op := Op.move (Operand.tmp 1), type := 22, pos := "law.go:59", after := #[], guard := none }) (v := ?v7) rfl (by kernel_rfl) (by kernel_rfl) (by kernel_rfl) (fun _ _ _ h => h) (Or.inl ⟨by rfl, ?hy7⟩) hS ?rest7
      case hy7 =>
        intro w hSw
        (try dsimp only at hSw)
        go_simp
        try with_reducible rfl
      try simp only [Act.put, List.setIfInBounds_toArray, List.set_cons_zero, List.set_cons_succ]
      refine wpAnyH_take (i := 8) (oi := { dst := some 67, op := Op.move (Operand.tmp 9), type := 3, pos := "law.go:59", after := #[], guard := none }) (v := ?v8) rfl (by kernel_rfl) (by kernel_rfl) (by kernel_rfl) (fun _ _ _ h => h) (Or.inl ⟨by rfl, ?hy8⟩) hS ?rest8
      case hy8 =>
        intro w hSw
        (try dsimp only at hSw)
        go_simp
        try with_reducible rfl
      try simp only [Act.put, List.setIfInBounds_toArray, List.set_cons_zero, List.set_cons_succ]
      refine wpAnyH_take (i := 9) (oi := { dst := some 68, op := Op.indexAddr 22 (Operand.tmp 66) (Operand.tmp 67), type := 0, pos := "law.go:59", after := #[{ on := 7, ground := Ground.data }, { on := 8, ground := Ground.data }], guard := none }) (v := ?v9) rfl (by kernel_rfl) (by kernel_rfl) (by kernel_rfl) (fun _ _ _ h => h) (Or.inl ⟨by rfl, ?hy9⟩) hS ?rest9
      case hy9 =>
        intro w hSw
        (try dsimp only at hSw)
        go_simp
        try with_reducible rfl
      try simp only [Act.put, List.setIfInBounds_toArray, List.set_cons_zero, List.set_cons_succ]
      refine wpAnyH_take (i := 10) (oi := { dst := some 69, op := Op.load 34 (Operand.tmp 68), type := 34, pos := "law.go:59", after := #[{ on := 9, ground := Ground.data }], guard := none }) (v := ?v10) rfl (by kernel_rfl) (by kernel_rfl) (by kernel_rfl) (fun _ _ _ h => h) (Or.inl ⟨by rfl, ?hy10⟩) hS ?rest10
      case hy10 =>
        intro w hSw
        (try dsimp only at hSw)
        go_simp
        try with_reducible rfl
      try simp only [Act.put, List.setIfInBounds_toArray, List.set_cons_zero, List.set_cons_succ]
      refine wpAnyH_ready (rs := [5]) (by kernel_rfl) (by simp) ?_
      refine AllReadyH.cons (o := { dst := some 64, op := Op.call { callee := Callee.value (Operand.func 12), args := #[Operand.tmp 59, Operand.tmp 63], argTypes := #[24, 34] }, type := 3, pos := "law.go:59", after := #[{ on := 0, ground := Ground.data }, { on := 4, ground := Ground.data }], guard := none }) rfl (fun K hK => ?_) AllReadyH.nil
      go_simp
      refine (hdo _ hx5.drew).mono ?_
      rintro e wx ⟨rfl, hx6, hsx⟩
      have hBx := Sp.below hB5.drew hsx hB5.size hD.out.1 hD.out.2.1
      have hr6 := hr5.drew.sp hsx hD.out.2.2.2.2.1 hD.out.2.2.2.2.2.1 hD.out.2.2.2.2.2.2.1 hD.out.2.2.2.2.2.2.2
      have fx0 := (hBx.cell (p := ⟨b, off + k * 4, none⟩) hbl).trans d1
      have fx1 := (hBx.cell (p := ⟨b, off + k * 4 + 1, none⟩) hbl).trans d2
      have fx2 := (hBx.cell (p := ⟨b, off + k * 4 + 2, none⟩) hbl).trans d3
      have fx3 := (hBx.cell (p := ⟨b, off + k * 4 + 3, none⟩) hbl).trans d4
      refine hK.out _ _ ⟨fx0, fx1, fx2, fx3⟩ (fun hS => ?_)
      clear hK K
      try simp only [Act.put, List.setIfInBounds_toArray, List.set_cons_zero, List.set_cons_succ]
      refine wpAnyH_ready (rs := [11]) (by kernel_rfl) (by simp) ?_
      refine AllReadyH.cons (o := { dst := some 70, op := Op.call { callee := Callee.value (Operand.func 13), args := #[Operand.tmp 65, Operand.tmp 69], argTypes := #[28, 34] }, type := 3, pos := "law.go:59", after := #[{ on := 6, ground := Ground.data }, { on := 10, ground := Ground.data }, { on := 5, ground := Ground.chain }], guard := none }) rfl (fun K hK => ?_) AllReadyH.nil
      go_simp
      refine (hrdo _ hr6).mono ?_
      rintro e wr2 ⟨rfl, hr7, hsr⟩
      have hBr := Sp.below hBx hsr hBx.size hD.out.2.2.1 hD.out.2.2.2.1
      have hx7 := hx6.sp hsr hD.out.2.2.2.2.1.symm hD.out.2.2.2.2.2.2.1.symm hD.out.2.2.2.2.2.1.symm hD.out.2.2.2.2.2.2.2.symm
      have p0 := hr7.c0
      have p1 := hr7.c1
      rw [hL6] at p0
      have fr0 := (hBr.cell (p := ⟨b, off + k * 4, none⟩) hbl).trans d1
      have fr1 := (hBr.cell (p := ⟨b, off + k * 4 + 1, none⟩) hbl).trans d2
      have fr2 := (hBr.cell (p := ⟨b, off + k * 4 + 2, none⟩) hbl).trans d3
      have fr3 := (hBr.cell (p := ⟨b, off + k * 4 + 3, none⟩) hbl).trans d4
      refine hK.out _ _ ⟨fr0, fr1, fr2, fr3⟩ (fun hS => ?_)
      clear hK K
      try simp only [Act.put, List.setIfInBounds_toArray, List.set_cons_zero, List.set_cons_succ]
      refine held_mono (S2 := (fun w' => w'.cell? ⟨b, off + k * 4, none⟩ = some (.int .u8 o.k) ∧ w'.cell? ⟨b, off + k * 4 + 1, none⟩ = some (.int .i64 o.i) ∧ w'.cell? ⟨b, off + k * 4 + 2, none⟩ = some (.int .i64 o.v) ∧ w'.cell? ⟨b, off + k * 4 + 3, none⟩ = some (.int .i64 o.u) ∧ w'.cell? ⟨g2, 0, none⟩ = some (.slice (some ⟨gw2, 0, none⟩) N N) ∧ w'.cell? ⟨g2, 1, none⟩ = some (.int .i64 s6.t))) (fun _ h => ⟨h.1, h.2.1, h.2.2.1, h.2.2.2.1⟩) _ _ _ _ ?_
      clear hS
      have hS : (fun w' => w'.cell? ⟨b, off + k * 4, none⟩ = some (.int .u8 o.k) ∧ w'.cell? ⟨b, off + k * 4 + 1, none⟩ = some (.int .i64 o.i) ∧ w'.cell? ⟨b, off + k * 4 + 2, none⟩ = some (.int .i64 o.v) ∧ w'.cell? ⟨b, off + k * 4 + 3, none⟩ = some (.int .i64 o.u) ∧ w'.cell? ⟨g2, 0, none⟩ = some (.slice (some ⟨gw2, 0, none⟩) N N) ∧ w'.cell? ⟨g2, 1, none⟩ = some (.int .i64 s6.t)) wr2 := ⟨fr0, fr1, fr2, fr3, p0, p1⟩
      refine wpAnyH_take (i := 12) (oi := { dst := some 71, op := Op.binOp BinOp.neq 3 (Operand.tmp 64) (Operand.tmp 70) 3, type := 4, pos := "law.go:59", after := #[{ on := 5, ground := Ground.data }, { on := 11, ground := Ground.data }], guard := none }) (v := ?v12) rfl (by kernel_rfl) (by kernel_rfl) (by kernel_rfl) (fun _ _ _ h => h) (Or.inl ⟨by rfl, ?hy12⟩) hS ?rest12
      case hy12 =>
        intro w hSw
        (try dsimp only at hSw)
        go_simp
        try with_reducible rfl
      try simp only [Act.put, List.setIfInBounds_toArray, List.set_cons_zero, List.set_cons_succ]
      refine wpAnyH_take (i := 13) (oi := { dst := some 72, op := Op.move (Operand.tmp 71), type := 4, pos := "law.go:59", after := #[{ on := 12, ground := Ground.data }, { on := 11, ground := Ground.chain }], guard := none }) (v := ?v13) rfl (by kernel_rfl) (by kernel_rfl) (by kernel_rfl) (fun _ _ _ h => h) (Or.inl ⟨by rfl, ?hy13⟩) hS ?rest13
      case hy13 =>
        intro w hSw
        (try dsimp only at hSw)
        go_simp
        try with_reducible rfl
      try simp only [Act.put, List.setIfInBounds_toArray, List.set_cons_zero, List.set_cons_succ]
      refine wpAnyH_take (i := 14) (oi := { dst := some 73, op := Op.move (Operand.tmp 6), type := 24, pos := "law.go:59", after := #[{ on := 13, ground := Ground.guard }], guard := some (13, false) }) (v := ?v14) rfl (by kernel_rfl) (by kernel_rfl) (by kernel_rfl) (fun _ _ _ h => h) (Or.inl ⟨by rfl, ?hy14⟩) hS ?rest14
      case hy14 =>
        intro w hSw
        (try dsimp only at hSw)
        go_simp
        try with_reducible rfl
      try simp only [Act.put, List.setIfInBounds_toArray, List.set_cons_zero, List.set_cons_succ]
      refine wpAnyH_take (i := 16) (oi := { dst := some 75, op := Op.move (Operand.tmp 8), type := 28, pos := "law.go:59", after := #[{ on := 13, ground := Ground.guard }], guard := some (13, false) }) (v := ?v16) rfl (by kernel_rfl) (by kernel_rfl) (by kernel_rfl) (fun _ _ _ h => h) (Or.inl ⟨by rfl, ?hy16⟩) hS ?rest16
      case hy16 =>
        intro w hSw
        (try dsimp only at hSw)
        go_simp
        try with_reducible rfl
      try simp only [Act.put, List.setIfInBounds_toArray, List.set_cons_zero, List.set_cons_succ]
      refine wpAnyH_take (i := 17) (oi := { dst := some 76, op := Op.nilCheck (Operand.tmp 75), type := 0, pos := "law.go:59", after := #[{ on := 16, ground := Ground.data }, { on := 13, ground := Ground.guard }], guard := some (13, false) }) (v := ?v17) rfl (by kernel_rfl) (by kernel_rfl) (by kernel_rfl) (fun _ _ _ h => h) (Or.inl ⟨by rfl, ?hy17⟩) hS ?rest17
      case hy17 =>
        intro w hSw
        (try dsimp only at hSw)
        go_simp
        try with_reducible rfl
      try simp only [Act.put, List.setIfInBounds_toArray, List.set_cons_zero, List.set_cons_succ]
      refine wpAnyH_take (i := 18) (oi := { dst := some 77, op := Op.fieldAddr 31 (Operand.tmp 76) 1, type := 0, pos := "law.go:59", after := #[{ on := 17, ground := Ground.data }, { on := 13, ground := Ground.guard }], guard := some (13, false) }) (v := ?v18) rfl (by kernel_rfl) (by kernel_rfl) (by kernel_rfl) (fun _ _ _ h => h) (Or.inl ⟨by rfl, ?hy18⟩) hS ?rest18
      case hy18 =>
        intro w hSw
        (try dsimp only at hSw)
        go_simp
        try with_reducible rfl
      try simp only [Act.put, List.setIfInBounds_toArray, List.set_cons_zero, List.set_cons_succ]
      refine wpAnyH_take (i := 19) (oi := { dst := some 78, op := Op.load 3 (Operand.tmp 77), type := 3, pos := "law.go:59", after := #[{ on := 18, ground := Ground.data }, { on := 13, ground := Ground.guard }], guard := some (13, false) }) (v := ?v19) rfl (by kernel_rfl) (by kernel_rfl) (by kernel_rfl) (fun _ _ _ h => h) (Or.inl ⟨by rfl, ?hy19⟩) hS ?rest19
      case hy19 =>
        intro w hSw
        (try dsimp only at hSw)
        go_simp
        try with_reducible rfl
      try simp only [Act.put, List.setIfInBounds_toArray, List.set_cons_zero, List.set_cons_succ]
      refine wpAnyH_ready (rs := [15]) (by kernel_rfl) (by simp) ?_
      refine AllReadyH.cons (o := { dst := some 74, op := Op.call { callee := Callee.value (Operand.func 14), args := #[Operand.tmp 73], argTypes := #[24] }, type := 3, pos := "law.go:59", after := #[{ on := 14, ground := Ground.data }, { on := 13, ground := Ground.chain }, { on := 13, ground := Ground.guard }], guard := some (13, false) }) rfl (fun K hK => ?_) AllReadyH.nil
      go_simp
      refine (touched_any g gw N _ _ hx7).mono ?_
      rintro e wt ⟨rfl, rfl⟩
      refine hK.out _ _ ⟨fr0, fr1, fr2, fr3, p0, p1⟩ (fun hS => ?_)
      clear hK K
      try simp only [Act.put, List.setIfInBounds_toArray, List.set_cons_zero, List.set_cons_succ]
      refine wpAnyH_take (i := 20) (oi := { dst := some 79, op := Op.binOp BinOp.neq 3 (Operand.tmp 74) (Operand.tmp 78) 3, type := 4, pos := "law.go:59", after := #[{ on := 15, ground := Ground.data }, { on := 19, ground := Ground.data }, { on := 13, ground := Ground.guard }], guard := some (13, false) }) (v := ?v20) rfl (by kernel_rfl) (by kernel_rfl) (by kernel_rfl) (fun _ _ _ h => h) (Or.inl ⟨by rfl, ?hy20⟩) hS ?rest20
      case hy20 =>
        intro w hSw
        (try dsimp only at hSw)
        go_simp
        try with_reducible rfl
      try simp only [Act.put, List.setIfInBounds_toArray, List.set_cons_zero, List.set_cons_succ]
      refine wpAnyH_take (i := 21) (oi := { dst := some 80, op := Op.pick (Operand.tmp 72) (Operand.const (Value.bool true)) (Operand.tmp 79), type := 4, pos := "law.go:59", after := #[{ on := 13, ground := Ground.data }, { on := 20, ground := Ground.data }], guard := none }) (v := ?v21) rfl (by kernel_rfl) (by kernel_rfl) (by kernel_rfl) (fun _ _ _ h => h) (Or.inl ⟨by rfl, ?hy21⟩) hS ?rest21
      case hy21 =>
        intro w hSw
        (try dsimp only at hSw)
        go_simp
        try with_reducible rfl
      try simp only [Act.put, List.setIfInBounds_toArray, List.set_cons_zero, List.set_cons_succ]
      refine wpAnyH_take (i := 22) (oi := { dst := some 81, op := Op.move (Operand.tmp 80), type := 4, pos := "law.go:59", after := #[{ on := 21, ground := Ground.data }, { on := 15, ground := Ground.chain }], guard := none }) (v := ?v22) rfl (by kernel_rfl) (by kernel_rfl) (by kernel_rfl) (fun _ _ _ h => h) (Or.inl ⟨by rfl, ?hy22⟩) hS ?rest22
      case hy22 =>
        intro w hSw
        (try dsimp only at hSw)
        go_simp
        try with_reducible rfl
      try simp only [Act.put, List.setIfInBounds_toArray, List.set_cons_zero, List.set_cons_succ]
      refine wpAnyH_take (i := 23) (oi := { dst := some 82, op := Op.move (Operand.tmp 6), type := 24, pos := "law.go:59", after := #[{ on := 22, ground := Ground.guard }], guard := some (22, false) }) (v := ?v23) rfl (by kernel_rfl) (by kernel_rfl) (by kernel_rfl) (fun _ _ _ h => h) (Or.inl ⟨by rfl, ?hy23⟩) hS ?rest23
      case hy23 =>
        intro w hSw
        (try dsimp only at hSw)
        go_simp
        try with_reducible rfl
      try simp only [Act.put, List.setIfInBounds_toArray, List.set_cons_zero, List.set_cons_succ]
      refine wpAnyH_take (i := 25) (oi := { dst := some 84, op := Op.move (Operand.tmp 8), type := 28, pos := "law.go:59", after := #[{ on := 22, ground := Ground.guard }], guard := some (22, false) }) (v := ?v25) rfl (by kernel_rfl) (by kernel_rfl) (by kernel_rfl) (fun _ _ _ h => h) (Or.inl ⟨by rfl, ?hy25⟩) hS ?rest25
      case hy25 =>
        intro w hSw
        (try dsimp only at hSw)
        go_simp
        try with_reducible rfl
      try simp only [Act.put, List.setIfInBounds_toArray, List.set_cons_zero, List.set_cons_succ]
      refine wpAnyH_take (i := 26) (oi := { dst := some 85, op := Op.nilCheck (Operand.tmp 84), type := 0, pos := "law.go:59", after := #[{ on := 25, ground := Ground.data }, { on := 22, ground := Ground.guard }], guard := some (22, false) }) (v := ?v26) rfl (by kernel_rfl) (by kernel_rfl) (by kernel_rfl) (fun _ _ _ h => h) (Or.inl ⟨by rfl, ?hy26⟩) hS ?rest26
      case hy26 =>
        intro w hSw
        (try dsimp only at hSw)
        go_simp
        try with_reducible rfl
      try simp only [Act.put, List.setIfInBounds_toArray, List.set_cons_zero, List.set_cons_succ]
      refine wpAnyH_take (i := 27) (oi := { dst := some 86, op := Op.fieldAddr 31 (Operand.tmp 85) 0, type := 0, pos := "law.go:59", after := #[{ on := 26, ground := Ground.data }, { on := 22, ground := Ground.guard }], guard := some (22, false) }) (v := ?v27) rfl (by kernel_rfl) (by kernel_rfl) (by kernel_rfl) (fun _ _ _ h => h) (Or.inl ⟨by rfl, ?hy27⟩) hS ?rest27
      case hy27 =>
        intro w hSw
        (try dsimp only at hSw)
        go_simp
        try with_reducible rfl
      try simp only [Act.put, List.setIfInBounds_toArray, List.set_cons_zero, List.set_cons_succ]
      refine wpAnyH_take (i := 28) (oi := { dst := some 87, op := Op.load 29 (Operand.tmp 86), type := 29, pos := "law.go:59", after := #[{ on := 27, ground := Ground.data }, { on := 22, ground := Ground.guard }], guard := some (22, false) }) (v := ?v28) rfl (by kernel_rfl) (by kernel_rfl) (by kernel_rfl) (fun _ _ _ h => h) (Or.inl ⟨by rfl, ?hy28⟩) hS ?rest28
      case hy28 =>
        intro w hSw
        (try dsimp only at hSw)
        go_simp
        try with_reducible rfl
      try simp only [Act.put, List.setIfInBounds_toArray, List.set_cons_zero, List.set_cons_succ]
      refine wpAnyH_ready (rs := [24]) (by kernel_rfl) (by simp) ?_
      refine AllReadyH.cons (o := { dst := some 83, op := Op.call { callee := Callee.value (Operand.func 16), args := #[Operand.tmp 82], argTypes := #[24] }, type := 29, pos := "law.go:59", after := #[{ on := 23, ground := Ground.data }, { on := 22, ground := Ground.chain }, { on := 22, ground := Ground.guard }], guard := some (22, false) }) rfl (fun K hK => ?_) AllReadyH.nil
      go_simp
      refine (words_any g gw N _ _ hx7 hL6a hL6b).mono ?_
      rintro e w9 ⟨b9, c9, rfl, hb9, hn9, hB9⟩
      rw [hL6]
      have hB9' := hBr.trans (hB9.mono hBr.size)
      have q0 := (cell_far hB9 0 hr7.lg).trans p0
      have q1 := (cell_far hB9 1 hr7.lg).trans p1
      have fw0 := (hB9'.cell (p := ⟨b, off + k * 4, none⟩) hbl).trans d1
      have fw1 := (hB9'.cell (p := ⟨b, off + k * 4 + 1, none⟩) hbl).trans d2
      have fw2 := (hB9'.cell (p := ⟨b, off + k * 4 + 2, none⟩) hbl).trans d3
      have fw3 := (hB9'.cell (p := ⟨b, off + k * 4 + 3, none⟩) hbl).trans d4
      refine hK.out _ _ ⟨fw0, fw1, fw2, fw3, q0, q1⟩ (fun hS => ?_)
      clear hK K
      try simp only [Act.put, List.setIfInBounds_toArray, List.set_cons_zero, List.set_cons_succ]
      refine wpAnyH_ready (rs := [29]) (by kernel_rfl) (by simp) ?_
      refine AllReadyH.cons (o := { dst := some 88, op := Op.call { callee := Callee.value (Operand.func 15), args := #[Operand.tmp 83, Operand.tmp 87], argTypes := #[29, 29] }, type := 4, pos := "law.go:59", after := #[{ on := 24, ground := Ground.data }, { on := 28, ground := Ground.data }, { on := 24, ground := Ground.chain }, { on := 22, ground := Ground.guard }], guard := some (22, false) }) rfl (fun K hK => ?_) AllReadyH.nil
      go_simp
      rw [← hL6]
      refine (ints_any b9 _ gw2 _ _ _ _ hn9 (hr7.on hB9).nums hL6b).mono ?_
      rw [decide_eq_true (show s6.ws = s6.ws from rfl)]
      rintro e w10 ⟨rfl, hB10⟩
      rw [hL6]
      have hB10' := hB9'.trans (hB10.mono hB9'.size)
      have u0 := (cell_far hB10 0 (Nat.lt_of_lt_of_le hr7.lg hB9.size)).trans q0
      have u1 := (cell_far hB10 1 (Nat.lt_of_lt_of_le hr7.lg hB9.size)).trans q1
      have fi0 := (hB10'.cell (p := ⟨b, off + k * 4, none⟩) hbl).trans d1
      have fi1 := (hB10'.cell (p := ⟨b, off + k * 4 + 1, none⟩) hbl).trans d2
      have fi2 := (hB10'.cell (p := ⟨b, off + k * 4 + 2, none⟩) hbl).trans d3
      have fi3 := (hB10'.cell (p := ⟨b, off + k * 4 + 3, none⟩) hbl).trans d4
      refine hK.out _ _ ⟨fi0, fi1, fi2, fi3, u0, u1⟩ (fun hS => ?_)
      clear hK K
      try simp only [Act.put, List.setIfInBounds_toArray, List.set_cons_zero, List.set_cons_succ]
      refine wpAnyH_take (i := 30) (oi := { dst := some 89, op := Op.unOp UnOp.not 4 (Operand.tmp 88), type := 4, pos := "law.go:59", after := #[{ on := 29, ground := Ground.data }, { on := 22, ground := Ground.guard }], guard := some (22, false) }) (v := ?v30) rfl (by kernel_rfl) (by kernel_rfl) (by kernel_rfl) (fun _ _ _ h => h) (Or.inl ⟨by rfl, ?hy30⟩) hS ?rest30
      case hy30 =>
        intro w hSw
        (try dsimp only at hSw)
        go_simp
        try with_reducible rfl
      try simp only [Act.put, List.setIfInBounds_toArray, List.set_cons_zero, List.set_cons_succ]
      refine wpAnyH_take (i := 31) (oi := { dst := some 90, op := Op.pick (Operand.tmp 81) (Operand.const (Value.bool true)) (Operand.tmp 89), type := 4, pos := "law.go:59", after := #[{ on := 22, ground := Ground.data }, { on := 30, ground := Ground.data }], guard := none }) (v := ?v31) rfl (by kernel_rfl) (by kernel_rfl) (by kernel_rfl) (fun _ _ _ h => h) (Or.inl ⟨by rfl, ?hy31⟩) hS ?rest31
      case hy31 =>
        intro w hSw
        (try dsimp only at hSw)
        go_simp
        try with_reducible rfl
      try simp only [Act.put, List.setIfInBounds_toArray, List.set_cons_zero, List.set_cons_succ]
      refine wpAnyH_done (by kernel_rfl) ?_ _
      have hxe := (hx7.on hB9).on hB10
      have hre := (hr7.on hB9).on hB10
      clear hn9 hx6 hx7 hr6 hr7 hsx hsr hBx hBr hB9 hB10 p0 p1 q0 hdo hrdo
      go_wp2_with fail
      go_roundw
      case rel => exact ⟨k + 1, by omega, by go_num, by rw [HT.out]; exact hxe, by rw [HT.out]; exact hre, hB10'⟩
      case measure => simp [intOf]; omega
    · obtain rfl : k = l.length := by omega
      have hL5 : ((St.new N).run (l.take l.length)).ws.length = N := newRun_len N _
      go_wp2_with fail
      refine (many_any g gw N _ _ hx5).mono ?_
      rw [hL5]
      rintro e w7 ⟨rfl, rfl⟩
      go_wp2_with fail
      go_ret
      exact ⟨ret_bool (by simp), hB5⟩
theorem plays_any (i : Int) (A : Option Addr) (n c : Nat) (l : List OpT) (w : World) (hn : l.length = n) (_hc : n ≤ c) (hO : OS w w.heap.size A l) :
    Calls Try.prog 3 #[.int .i64 i, .slice A n c] w (fun e w' => e = .returned (.bool true) ∧ Below w.heap.size w w') := by
  subst hn
  by_cases h : 60 < l.length ∨ (l.length ≤ 60 ∧ 100 < i ∧ i ≤ 4096)
  · exact plays_skip i A _ c w h
  · by_cases h2 : i < 1 ∨ 4096 < i
    · exact plays_none i A _ c w (by omega) h2
    · obtain ⟨N, rfl⟩ := Int.eq_ofNat_of_zero_le (show 0 ≤ i by omega)
      exact plays_go N A c l w (by omega) (by omega) (by omega) hO
end Go.Proofs.Ythjhjjpgchmmfaa
