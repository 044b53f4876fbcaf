/- What others do ahead of a step, to the document's memory; nothing else changes. -/
import Derived.Test.YtalmadeibnekoaaWr
namespace Go.Proofs.Ytalmadeibnekoaa
open Go.RowKit
attribute [local go_sem ↓] Go.wp_at_zero Go.wp_at_succ

set_option maxRecDepth 100000 in
set_option maxHeartbeats 2000000 in
theorem refWrites_any (g gw c : Nat) (A : Option Addr) (n c1 M : Nat) (l : List Wr) (i : Int) (s0 : St) (w : World) (hM : MemAt w g gw c s0) (hW : WS w M A l) (hn : l.length = n) (hO : ∀ x ∈ l, Wr.Ok x) (hMw : M ≤ w.heap.size) (hg : M ≤ g) (hgw : M ≤ gw) (hl : 0 < s0.ws.length) (hl2 : s0.ws.length ≤ 1000) (ht : s0.t + n < 1000000) (hi : 0 ≤ i ∧ i ≤ 1000) :
    Calls Try.prog 14 #[.pointer (some ⟨g, 0, none⟩), .slice A n c1, .int .i64 i] w fun e w' => e = .returned (.tuple #[]) ∧ MemAt w' g gw c ⟨(wrS s0 l i).ws, s0.t⟩ ∧ SpX [g, gw] w w' := by
  have Hn := Lib.hid hn
  have HO := Lib.hid hO
  have HWS := Lib.hid hW
  have HM0 := Lib.hid hM
  obtain ⟨N, hN⟩ : ∃ N, N = s0.ws.length := ⟨_, rfl⟩
  have HN := Lib.hid hN
  rw [← hN] at hl hl2
  have hsx : ∀ {a b : World}, SpX [g, gw] a b → M ≤ a.heap.size → ∀ xs, WS a M A xs → WS b M A xs := fun hs hm xs h => h.spx hm hs (by simp <;> omega)
  clear hM hW hO hn hN
  go_enter Try.func14, Try.ntmps14
  go_wp2_with fail
  go_loopw [6] (fun j wr => ∃ (k : Nat), k ≤ n ∧ j = .int .i64 k ∧ MemAt wr g gw c ⟨(wrS s0 (l.take k) i).ws, s0.t⟩ ∧ SpX [g, gw] w wr) (fun j _ => n - (intOf j).toNat)
  case atStart => exact ⟨0, Nat.zero_le _, rfl, HM0.out, SpX.refl _ _⟩
  case round =>
    obtain ⟨k, hk, rfl, hM2, hS⟩ := hrel
    by_cases hlt : k < n
    · obtain ⟨x, hx⟩ := wr_some (l := l) (k := k) (by rw [Hn.out]; exact hlt)
      have HT := Lib.hid (wrS_take (s := s0) (i := i) hx)
      obtain ⟨q1, q2, q3⟩ := wrS_len s0 (l.take k) i
      rw [← HN.out] at q1
      rw [List.length_take, Hn.out, Nat.min_eq_left hk] at q3
      obtain ⟨hw1, ha1, hv1⟩ := HO.out x (List.mem_of_getElem? hx)
      obtain ⟨b, off, eA, hb, d0, d1, d2⟩ := (hsx hS hMw l HWS.out) k x hx
      have hbl : b < wr.heap.size := by have := hS.size; omega
      subst eA
      clear hx
      obtain ⟨s, es⟩ : ∃ s, s = wrS s0 (l.take k) i := ⟨_, rfl⟩
      rw [← es] at hM2 HT q1 q2 q3
      clear es
      have Hlen := Lib.hid q1
      have HM3 := Lib.hid hM2
      clear hM2 q1
      by_cases hh : x.wh = i
      · have HH := Lib.hid (wr1_hit (s := s) hh)
        obtain ⟨N2, eN2⟩ : ∃ N2 : Nat, x.ad % (N : Int) = N2 := ⟨(x.ad % (N : Int)).toNat, by have := Int.emod_nonneg x.ad (b := (N : Int)) (by omega); omega⟩
        have hN2 : N2 < N := by have := Int.emod_lt_of_pos x.ad (b := (N : Int)) (by omega); omega
        have hN0 : ¬ N = 0 := by omega
        have hwr : IntKind.i64.wrap x.ad = x.ad := IntWalk.i64_in _ (by omega)
        have htm : x.ad.tmod (N : Int) = (N2 : Int) := by rw [Int.tmod_eq_emod_of_nonneg (by omega)]; exact eN2
        rw [Hlen.out, eN2, Int.toNat_natCast] at HH
        clear eN2
        subst hh
        go_wp2_with fail
        have HM0 := Lib.hid HM3.out.drew
        have hS0 := hS.drew
        have x0_0 : wr.drew.cell? ⟨b, off + k * 3 + 1, none⟩ = some (.int .u8 x.ad) := d1
        have x0_1 : wr.drew.cell? ⟨b, off + k * 3 + 2, none⟩ = some (.int .i64 x.v) := d2
        have x0_2 : wr.drew.cell? ⟨g, 0, none⟩ = some (.slice (some ⟨gw, 0, none⟩) N c) := by have := HM0.out.c0; rwa [Hlen.out] at this
        have x0_3 : wr.drew.cell? ⟨gw, N2, none⟩ = some (.int .i64 (s.at N2)) := HM0.out.ic N2 _ (St.at_nat (by rw [Hlen.out]; exact hN2))
        have g0_3 : wr.drew.frozen? ⟨gw, N2, none⟩ = false := HM0.out.fw N2
        have hbl : b < wr.drew.heap.size := hbl
        clear d0 d1 d2
        refine wp_region_held_drew (S := (fun w' => w'.cell? ⟨b, off + k * 3 + 1, none⟩ = some (.int .u8 x.ad) ∧ w'.cell? ⟨b, off + k * 3 + 2, none⟩ = some (.int .i64 x.v) ∧ w'.cell? ⟨g, 0, none⟩ = some (.slice (some ⟨gw, 0, none⟩) N c))) (by kernel_rfl) ⟨x0_0, x0_1, x0_2⟩ (fun hS => ?_)
        generalize wr.drew = u0 at *
        refine wpAnyH_take (i := 0) (oi := { dst := some 21, op := Op.move (Operand.tmp 0), type := 39, pos := "ref.go:115", after := #[], guard := none }) (v := ?v0_1) rfl (by kernel_rfl) (by kernel_rfl) (by kernel_rfl) (fun _ _ _ h => h) (Or.inl ⟨by rfl, ?hy0_1⟩) hS ?rest0_1
        case hy0_1 =>
          intro w hSw
          (try dsimp only at hSw)
          go_simp
          try with_reducible rfl
        try simp only [Act.put, List.setIfInBounds_toArray, List.set_cons_zero, List.set_cons_succ]
        refine wpAnyH_take (i := 1) (oi := { dst := some 22, op := Op.nilCheck (Operand.tmp 21), type := 0, pos := "ref.go:115", after := #[{ on := 0, ground := Ground.data }], guard := none }) (v := ?v1_2) rfl (by kernel_rfl) (by kernel_rfl) (by kernel_rfl) (fun _ _ _ h => h) (Or.inl ⟨by rfl, ?hy1_2⟩) hS ?rest1_2
        case hy1_2 =>
          intro w hSw
          (try dsimp only at hSw)
          go_simp
          try with_reducible rfl
        try simp only [Act.put, List.setIfInBounds_toArray, List.set_cons_zero, List.set_cons_succ]
        refine wpAnyH_take (i := 2) (oi := { dst := some 23, op := Op.fieldAddr 41 (Operand.tmp 22) 0, type := 0, pos := "ref.go:115", after := #[{ on := 1, ground := Ground.data }], guard := none }) (v := ?v2_3) rfl (by kernel_rfl) (by kernel_rfl) (by kernel_rfl) (fun _ _ _ h => h) (Or.inl ⟨by rfl, ?hy2_3⟩) hS ?rest2_3
        case hy2_3 =>
          intro w hSw
          (try dsimp only at hSw)
          go_simp
          try with_reducible rfl
        try simp only [Act.put, List.setIfInBounds_toArray, List.set_cons_zero, List.set_cons_succ]
        refine wpAnyH_take (i := 3) (oi := { dst := some 24, op := Op.load 32 (Operand.tmp 23), type := 32, pos := "ref.go:115", after := #[{ on := 2, ground := Ground.data }], guard := none }) (v := ?v3_4) rfl (by kernel_rfl) (by kernel_rfl) (by kernel_rfl) (fun _ _ _ h => h) (Or.inl ⟨by rfl, ?hy3_4⟩) hS ?rest3_4
        case hy3_4 =>
          intro w hSw
          (try dsimp only at hSw)
          go_simp
          try with_reducible rfl
        try simp only [Act.put, List.setIfInBounds_toArray, List.set_cons_zero, List.set_cons_succ]
        refine wpAnyH_take (i := 4) (oi := { dst := some 25, op := Op.move (Operand.tmp 1), type := 28, pos := "ref.go:115", after := #[], guard := none }) (v := ?v4_5) rfl (by kernel_rfl) (by kernel_rfl) (by kernel_rfl) (fun _ _ _ h => h) (Or.inl ⟨by rfl, ?hy4_5⟩) hS ?rest4_5
        case hy4_5 =>
          intro w hSw
          (try dsimp only at hSw)
          go_simp
          try with_reducible rfl
        try simp only [Act.put, List.setIfInBounds_toArray, List.set_cons_zero, List.set_cons_succ]
        refine wpAnyH_take (i := 5) (oi := { dst := some 26, op := Op.move (Operand.tmp 6), type := 3, pos := "ref.go:115", after := #[], guard := none }) (v := ?v5_6) rfl (by kernel_rfl) (by kernel_rfl) (by kernel_rfl) (fun _ _ _ h => h) (Or.inl ⟨by rfl, ?hy5_6⟩) hS ?rest5_6
        case hy5_6 =>
          intro w hSw
          (try dsimp only at hSw)
          go_simp
          try with_reducible rfl
        try simp only [Act.put, List.setIfInBounds_toArray, List.set_cons_zero, List.set_cons_succ]
        refine wpAnyH_take (i := 6) (oi := { dst := some 27, op := Op.indexAddr 28 (Operand.tmp 25) (Operand.tmp 26), type := 0, pos := "ref.go:115", after := #[{ on := 4, ground := Ground.data }, { on := 5, ground := Ground.data }], guard := none }) (v := ?v6_7) rfl (by kernel_rfl) (by kernel_rfl) (by kernel_rfl) (fun _ _ _ h => h) (Or.inl ⟨by rfl, ?hy6_7⟩) hS ?rest6_7
        case hy6_7 =>
          intro w hSw
          (try dsimp only at hSw)
          go_simp
          try with_reducible rfl
        try simp only [Act.put, List.setIfInBounds_toArray, List.set_cons_zero, List.set_cons_succ]
        refine wpAnyH_take (i := 7) (oi := { dst := some 28, op := Op.fieldAddr 55 (Operand.tmp 27) 1, type := 0, pos := "ref.go:115", after := #[{ on := 6, ground := Ground.data }], guard := none }) (v := ?v7_8) rfl (by kernel_rfl) (by kernel_rfl) (by kernel_rfl) (fun _ _ _ h => h) (Or.inl ⟨by rfl, ?hy7_8⟩) hS ?rest7_8
        case hy7_8 =>
          intro w hSw
          (try dsimp only at hSw)
          go_simp
          try with_reducible rfl
        try simp only [Act.put, List.setIfInBounds_toArray, List.set_cons_zero, List.set_cons_succ]
        refine wpAnyH_take (i := 8) (oi := { dst := some 29, op := Op.load 5 (Operand.tmp 28), type := 5, pos := "ref.go:115", after := #[{ on := 7, ground := Ground.data }], guard := none }) (v := ?v8_9) rfl (by kernel_rfl) (by kernel_rfl) (by kernel_rfl) (fun _ _ _ h => h) (Or.inl ⟨by rfl, ?hy8_9⟩) hS ?rest8_9
        case hy8_9 =>
          intro w hSw
          (try dsimp only at hSw)
          go_simp
          try with_reducible rfl
        try simp only [Act.put, List.setIfInBounds_toArray, List.set_cons_zero, List.set_cons_succ]
        refine wpAnyH_take (i := 9) (oi := { dst := some 30, op := Op.convert 5 3 (Operand.tmp 29), type := 3, pos := "ref.go:115", after := #[{ on := 8, ground := Ground.data }], guard := none }) (v := ?v9_10) rfl (by kernel_rfl) (by kernel_rfl) (by kernel_rfl) (fun _ _ _ h => h) (Or.inl ⟨by rfl, ?hy9_10⟩) hS ?rest9_10
        case hy9_10 =>
          intro w hSw
          (try dsimp only at hSw)
          go_simp
          try with_reducible rfl
        try simp only [Act.put, List.setIfInBounds_toArray, List.set_cons_zero, List.set_cons_succ]
        refine wpAnyH_take (i := 10) (oi := { dst := some 31, op := Op.move (Operand.tmp 0), type := 39, pos := "ref.go:115", after := #[], guard := none }) (v := ?v10_11) rfl (by kernel_rfl) (by kernel_rfl) (by kernel_rfl) (fun _ _ _ h => h) (Or.inl ⟨by rfl, ?hy10_11⟩) hS ?rest10_11
        case hy10_11 =>
          intro w hSw
          (try dsimp only at hSw)
          go_simp
          try with_reducible rfl
        try simp only [Act.put, List.setIfInBounds_toArray, List.set_cons_zero, List.set_cons_succ]
        refine wpAnyH_take (i := 11) (oi := { dst := some 32, op := Op.nilCheck (Operand.tmp 31), type := 0, pos := "ref.go:115", after := #[{ on := 10, ground := Ground.data }], guard := none }) (v := ?v11_12) rfl (by kernel_rfl) (by kernel_rfl) (by kernel_rfl) (fun _ _ _ h => h) (Or.inl ⟨by rfl, ?hy11_12⟩) hS ?rest11_12
        case hy11_12 =>
          intro w hSw
          (try dsimp only at hSw)
          go_simp
          try with_reducible rfl
        try simp only [Act.put, List.setIfInBounds_toArray, List.set_cons_zero, List.set_cons_succ]
        refine wpAnyH_take (i := 12) (oi := { dst := some 33, op := Op.fieldAddr 41 (Operand.tmp 32) 0, type := 0, pos := "ref.go:115", after := #[{ on := 11, ground := Ground.data }], guard := none }) (v := ?v12_13) rfl (by kernel_rfl) (by kernel_rfl) (by kernel_rfl) (fun _ _ _ h => h) (Or.inl ⟨by rfl, ?hy12_13⟩) hS ?rest12_13
        case hy12_13 =>
          intro w hSw
          (try dsimp only at hSw)
          go_simp
          try with_reducible rfl
        try simp only [Act.put, List.setIfInBounds_toArray, List.set_cons_zero, List.set_cons_succ]
        refine wpAnyH_take (i := 13) (oi := { dst := some 34, op := Op.load 32 (Operand.tmp 33), type := 32, pos := "ref.go:115", after := #[{ on := 12, ground := Ground.data }], guard := none }) (v := ?v13_14) rfl (by kernel_rfl) (by kernel_rfl) (by kernel_rfl) (fun _ _ _ h => h) (Or.inl ⟨by rfl, ?hy13_14⟩) hS ?rest13_14
        case hy13_14 =>
          intro w hSw
          (try dsimp only at hSw)
          go_simp
          try with_reducible rfl
        try simp only [Act.put, List.setIfInBounds_toArray, List.set_cons_zero, List.set_cons_succ]
        refine wpAnyH_take (i := 14) (oi := { dst := some 35, op := Op.call { callee := Callee.builtin Builtin.len, args := #[Operand.tmp 34], argTypes := #[32] }, type := 3, pos := "ref.go:115", after := #[{ on := 13, ground := Ground.data }], guard := none }) (v := ?v14_15) rfl (by kernel_rfl) (by kernel_rfl) (by kernel_rfl) (fun _ _ _ h => h) (Or.inl ⟨by rfl, ?hy14_15⟩) hS ?rest14_15
        case hy14_15 =>
          intro w hSw
          (try dsimp only at hSw)
          go_simp
          try with_reducible rfl
        try simp only [Act.put, List.setIfInBounds_toArray, List.set_cons_zero, List.set_cons_succ]
        refine wpAnyH_take (i := 15) (oi := { dst := some 36, op := Op.binOp BinOp.rem 3 (Operand.tmp 30) (Operand.tmp 35) 3, type := 3, pos := "ref.go:115", after := #[{ on := 9, ground := Ground.data }, { on := 14, ground := Ground.data }], guard := none }) (v := ?v15_16) rfl (by kernel_rfl) (by kernel_rfl) (by kernel_rfl) (fun _ _ _ h => h) (Or.inl ⟨by rfl, ?hy15_16⟩) hS ?rest15_16
        case hy15_16 =>
          intro w hSw
          (try dsimp only at hSw)
          go_simp
          try with_reducible rfl
        try simp only [Act.put, List.setIfInBounds_toArray, List.set_cons_zero, List.set_cons_succ]
        refine wpAnyH_take (i := 16) (oi := { dst := some 37, op := Op.move (Operand.tmp 1), type := 28, pos := "ref.go:115", after := #[], guard := none }) (v := ?v16_17) rfl (by kernel_rfl) (by kernel_rfl) (by kernel_rfl) (fun _ _ _ h => h) (Or.inl ⟨by rfl, ?hy16_17⟩) hS ?rest16_17
        case hy16_17 =>
          intro w hSw
          (try dsimp only at hSw)
          go_simp
          try with_reducible rfl
        try simp only [Act.put, List.setIfInBounds_toArray, List.set_cons_zero, List.set_cons_succ]
        refine wpAnyH_take (i := 17) (oi := { dst := some 38, op := Op.move (Operand.tmp 6), type := 3, pos := "ref.go:115", after := #[], guard := none }) (v := ?v17_18) rfl (by kernel_rfl) (by kernel_rfl) (by kernel_rfl) (fun _ _ _ h => h) (Or.inl ⟨by rfl, ?hy17_18⟩) hS ?rest17_18
        case hy17_18 =>
          intro w hSw
          (try dsimp only at hSw)
          go_simp
          try with_reducible rfl
        try simp only [Act.put, List.setIfInBounds_toArray, List.set_cons_zero, List.set_cons_succ]
        refine wpAnyH_take (i := 18) (oi := { dst := some 39, op := Op.indexAddr 28 (Operand.tmp 37) (Operand.tmp 38), type := 0, pos := "ref.go:115", after := #[{ on := 16, ground := Ground.data }, { on := 17, ground := Ground.data }], guard := none }) (v := ?v18_19) rfl (by kernel_rfl) (by kernel_rfl) (by kernel_rfl) (fun _ _ _ h => h) (Or.inl ⟨by rfl, ?hy18_19⟩) hS ?rest18_19
        case hy18_19 =>
          intro w hSw
          (try dsimp only at hSw)
          go_simp
          try with_reducible rfl
        try simp only [Act.put, List.setIfInBounds_toArray, List.set_cons_zero, List.set_cons_succ]
        refine wpAnyH_take (i := 19) (oi := { dst := some 40, op := Op.fieldAddr 55 (Operand.tmp 39) 2, type := 0, pos := "ref.go:115", after := #[{ on := 18, ground := Ground.data }], guard := none }) (v := ?v19_20) rfl (by kernel_rfl) (by kernel_rfl) (by kernel_rfl) (fun _ _ _ h => h) (Or.inl ⟨by rfl, ?hy19_20⟩) hS ?rest19_20
        case hy19_20 =>
          intro w hSw
          (try dsimp only at hSw)
          go_simp
          try with_reducible rfl
        try simp only [Act.put, List.setIfInBounds_toArray, List.set_cons_zero, List.set_cons_succ]
        refine wpAnyH_take (i := 20) (oi := { dst := some 41, op := Op.load 3 (Operand.tmp 40), type := 3, pos := "ref.go:115", after := #[{ on := 19, ground := Ground.data }], guard := none }) (v := ?v20_21) rfl (by kernel_rfl) (by kernel_rfl) (by kernel_rfl) (fun _ _ _ h => h) (Or.inl ⟨by rfl, ?hy20_21⟩) hS ?rest20_21
        case hy20_21 =>
          intro w hSw
          (try dsimp only at hSw)
          go_simp
          try with_reducible rfl
        try simp only [Act.put, List.setIfInBounds_toArray, List.set_cons_zero, List.set_cons_succ]
        refine wpAnyH_take (i := 21) (oi := { dst := some 42, op := Op.indexAddr 32 (Operand.tmp 24) (Operand.tmp 36), type := 0, pos := "ref.go:115", after := #[{ on := 3, ground := Ground.data }, { on := 15, ground := Ground.data }, { on := 0, ground := Ground.phase }, { on := 1, ground := Ground.phase }, { on := 2, ground := Ground.phase }, { on := 3, ground := Ground.phase }, { on := 4, ground := Ground.phase }, { on := 5, ground := Ground.phase }, { on := 6, ground := Ground.phase }, { on := 7, ground := Ground.phase }, { on := 8, ground := Ground.phase }, { on := 9, ground := Ground.phase }, { on := 10, ground := Ground.phase }, { on := 11, ground := Ground.phase }, { on := 12, ground := Ground.phase }, { on := 13, ground := Ground.phase }, { on := 14, ground := Ground.phase }, { on := 15, ground := Ground.phase }, { on := 16, ground := Ground.phase }, { on := 17, ground := Ground.phase }, { on := 18, ground := Ground.phase }, { on := 19, ground := Ground.phase }, { on := 20, ground := Ground.phase }], guard := none }) (v := ?v21_22) rfl (by kernel_rfl) (by kernel_rfl) (by kernel_rfl) (fun _ _ _ h => h) (Or.inl ⟨by rfl, ?hy21_22⟩) hS ?rest21_22
        case hy21_22 =>
          intro w hSw
          (try dsimp only at hSw)
          go_simp
          try with_reducible rfl
        try simp only [Act.put, List.setIfInBounds_toArray, List.set_cons_zero, List.set_cons_succ]
        refine wpAnyH_ready (rs := [22]) (by kernel_rfl) (by simp) ?_
        refine AllReadyH.cons (o := { dst := none, op := Op.store 3 (Operand.tmp 42) (Operand.tmp 41), type := 0, pos := "ref.go:115", after := #[{ on := 21, ground := Ground.data }, { on := 20, ground := Ground.data }, { on := 0, ground := Ground.phase }, { on := 1, ground := Ground.phase }, { on := 2, ground := Ground.phase }, { on := 3, ground := Ground.phase }, { on := 4, ground := Ground.phase }, { on := 5, ground := Ground.phase }, { on := 6, ground := Ground.phase }, { on := 7, ground := Ground.phase }, { on := 8, ground := Ground.phase }, { on := 9, ground := Ground.phase }, { on := 10, ground := Ground.phase }, { on := 11, ground := Ground.phase }, { on := 12, ground := Ground.phase }, { on := 13, ground := Ground.phase }, { on := 14, ground := Ground.phase }, { on := 15, ground := Ground.phase }, { on := 16, ground := Ground.phase }, { on := 17, ground := Ground.phase }, { on := 18, ground := Ground.phase }, { on := 19, ground := Ground.phase }, { on := 20, ground := Ground.phase }], guard := none }) rfl (fun K hK => ?_) AllReadyH.nil
        go_simp
        have HM2 := Lib.hid (HM0.out.word N2 x.v)
        have hS2 := hS0.set (mem_gw _ _) N2 (.int .i64 x.v)
        have hs : SpX [gw] u0 (u0.setCell ⟨gw, N2, none⟩ (.int .i64 x.v)) := sp_set
        have hB2 := hs.cell (off + k * 3 + 1) hbl (by simp <;> omega)
        have hB3 := hs.cell (off + k * 3 + 2) hbl (by simp <;> omega)
        have hC := HM2.out.c0
        rw [List.length_set, Hlen.out] at hC
        have x1_0 : (u0.setCell ⟨gw, N2, none⟩ (.int .i64 x.v)).cell? ⟨b, off + k * 3 + 1, none⟩ = some (.int .u8 x.ad) := hB2.trans x0_0
        have x1_1 : (u0.setCell ⟨gw, N2, none⟩ (.int .i64 x.v)).cell? ⟨b, off + k * 3 + 2, none⟩ = some (.int .i64 x.v) := hB3.trans x0_1
        have x1_2 : (u0.setCell ⟨gw, N2, none⟩ (.int .i64 x.v)).cell? ⟨g, 0, none⟩ = some (.slice (some ⟨gw, 0, none⟩) N c) := hC
        refine hK.out _ _ ⟨x1_0, x1_1, x1_2⟩ (fun hS => ?_)
        clear hK K
        try simp only [Act.put, List.setIfInBounds_toArray, List.set_cons_zero, List.set_cons_succ]
        refine wpAnyH_done (by kernel_rfl) ?_ _
        go_wp2_with fail
        go_roundw
        case rel => exact ⟨k + 1, by omega, by go_num, by rw [HT.out, HH.out]; exact HM2.out, hS2⟩
        case measure => simp [intOf]; omega
      · have HH := Lib.hid (wr1_miss (s := s) hh)
        go_wp2_with fail
        go_roundw
        case rel => exact ⟨k + 1, by omega, by go_num, by rw [HT.out, HH.out]; exact HM3.out, hS⟩
        case measure => simp [intOf]; omega
    · obtain rfl : k = n := by omega
      go_wp2_with fail
      go_end0
      rw [List.take_of_length_le (by rw [Hn.out]; exact Nat.le_refl _)] at hM2
      exact ⟨rfl, hM2, hS⟩
end Go.Proofs.Ytalmadeibnekoaa
