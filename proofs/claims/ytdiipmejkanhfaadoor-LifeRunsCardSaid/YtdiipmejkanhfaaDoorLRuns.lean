/- LifeRuns: from an empty slot on, whatever is done, it is right, each lease has a Gen of its own, and streams are only open while it is leased, no more than may be. -/
import Derived.Test.YtdiipmejkanhfaaDoorRunM
import Derived.Deep.QuietTactic
namespace Go.Proofs.YtdiipmejkanhfaaDoor
open Go.RowKit
attribute [local go_sem ↓] Go.wp_at_zero Go.wp_at_succ

theorem stp_some {l : List Stp} {k : Nat} (h : k < l.length) : ∃ o, l[k]? = some o := ⟨l[k], by simp [h]⟩
theorem lruns_long (A : Option Addr) (n c : Nat) (u : Int) (w : World) (hT : Tb w) (hn : 60 < n) :
    Calls Tryd.prog 5 #[.slice A n c, .int .u8 u] w fun e w' => e = .returned (.bool true) ∧ Below w.heap.size w w' := by
  have hn2 : (60 : Int) < n := by omega
  go_enter Tryd.func5, Tryd.ntmps5
  go_wp2_with fail
  refine (awake_any _ hT).mono ?_
  rintro e w1 ⟨rfl, hb⟩
  go_wp2
  go_ret
  exact ⟨rfl, hb⟩
theorem rt_zero : Rt Sl.zero := by constructor <;> decide
set_option maxRecDepth 100000 in
set_option maxHeartbeats 16000000 in
theorem lruns_go (A : Option Addr) (n c : Nat) (l : List Stp) (u : Int) (k : Nat) (w : World) (hT : Tb w) (hl : l.length = n) (hn : n ≤ 60) (hS : SS w w.heap.size A l) (hbig : ∀ (j : Nat) x, l[j]? = some x → Big x.m) (hk : u % 9 = k) (hk8 : k ≤ 8) (hu : 0 ≤ u) (hu2 : u ≤ 255) :
    Calls Tryd.prog 5 #[.slice A n c, .int .u8 u] w fun e w' => e = .returned (.bool true) ∧ Below w.heap.size w w' := by
  have hn2 : (n : Int) ≤ 60 := by omega
  have HL := Lib.hid hl
  clear hl
  go_enter Tryd.func5, Tryd.ntmps5
  go_wp2_with fail
  refine (awake_any _ hT).mono ?_
  rintro e w1 ⟨rfl, hb⟩
  have HT := Lib.hid (hT.below hb hT.lt)
  have HS := Lib.hid (hS.below hb)
  have hB := hb
  clear hb hT hS
  go_wp2_with fail
  clear hk
  have hle := hB.size
  have h2B := HT.out.lt
  have r0 := RowAt.new w1 23 #[Value.int .i64 0, Value.int .i64 0, Value.int .i64 0, Value.bool false, Value.bool false, Value.int .i64 0, Value.int .i64 0, Value.int .i64 0, Value.int .i64 0]
  replace HS := Lib.hid (HS.out.below ((Below.refl w.heap.size w1).alloc hB.size (.cells #[Value.int .i64 0, Value.int .i64 0, Value.int .i64 0, Value.bool false, Value.bool false, Value.int .i64 0, Value.int .i64 0, Value.int .i64 0, Value.int .i64 0] 23)))
  replace HT := Lib.hid (HT.out.alloc (.cells #[Value.int .i64 0, Value.int .i64 0, Value.int .i64 0, Value.bool false, Value.bool false, Value.int .i64 0, Value.int .i64 0, Value.int .i64 0, Value.int .i64 0] 23))
  replace hB := hB.alloc hB.size (.cells #[Value.int .i64 0, Value.int .i64 0, Value.int .i64 0, Value.bool false, Value.bool false, Value.int .i64 0, Value.int .i64 0, Value.int .i64 0, Value.int .i64 0] 23)
  obtain ⟨W, hW⟩ : ∃ W, W = w1.alloc (.cells #[Value.int .i64 0, Value.int .i64 0, Value.int .i64 0, Value.bool false, Value.bool false, Value.int .i64 0, Value.int .i64 0, Value.int .i64 0, Value.int .i64 0] 23) := ⟨_, rfl⟩
  rw [← hW] at r0 HS HT hB ⊢
  clear hW
  obtain ⟨B, eB⟩ : ∃ B, B = w1.heap.size := ⟨_, rfl⟩
  rw [← eB] at r0 hle h2B ⊢
  clear eB
  go_loopw [8, 9] (fun g i wr => ∃ (j : Nat) (s : Sl), j ≤ n ∧ i = .int .i64 j ∧ g = .int .i64 s.ge ∧ Rt s ∧ s.ge ≤ j ∧ s.sr < 2 ^ k ∧ RowAt wr B 23 #[Value.int .i64 s.st, Value.int .i64 s.ow, Value.int .i64 s.sr, Value.bool s.br, Value.bool s.ma, Value.int .i64 s.us, Value.int .i64 s.ge, Value.int .i64 s.ep, Value.int .i64 s.ve] ∧ Hid (Tb wr) ∧ Hid (SS wr w.heap.size A l) ∧ Below w.heap.size w wr)
    (fun _ i _ => n - (intOf i).toNat)
  case atStart => exact ⟨0, Sl.zero, by omega, rfl, rfl, rt_zero, by decide, Int.pow_pos (by omega), r0, HT, HS, hB⟩
  case round =>
    obtain ⟨j, s, hj, rfl, rfl, hR, hge, hsr, q0, HT2, HS2, hB2⟩ := hrel
    have HSR := Lib.hid hsr
    clear hsr
    by_cases hlt : j < n
    · obtain ⟨x, hx⟩ := stp_some (l := l) (k := j) (by rw [HL.out]; exact hlt)
      have hxm := hbig j x hx
      obtain ⟨bS, off, rfl, hbn, s0, s1, s2⟩ := HS2.out j x hx
      have j0 : (0 : Int) ≤ j := by omega
      have j1 : (j : Int) < n := by omega
      have j2 : (j : Int) ≤ 60 := by omega
      have hg0 : 0 ≤ s.ge := hR.ge.1
      clear hx
      by_cases hd : x.d = 14
      · have hq : (x.d == 14) = true := by simpa using hd
        clear hd
        have big : Big (k : Int) := ⟨by omega, by omega⟩
        obtain ⟨t, et⟩ : ∃ t, nxS s x.d x.o (k : Int) = t := ⟨_, rfl⟩
        cases hn : nxB s x.d x.o (k : Int) with
        | false =>
          have CN := next_is hR.wf et hn
          clear et hn big
          go_wp2_with fail
          have q00 := q0.drew
          have hB0 := hB2.drew
          have HT0 := Lib.hid HT2.out.drew
          have HS0 : Hid (SS wr.drew w.heap.size _ l) := Lib.hid HS2.out
          have e00 : wr.drew.cell? ⟨bS, off + j * 3, none⟩ = some (.int .i64 x.d) := s0
          have e10 : wr.drew.cell? ⟨bS, off + j * 3 + 1, none⟩ = some (.int .i64 x.o) := s1
          clear q0 hB2 HT2 HS2 s0 s1 s2
          have c00 : wr.drew.cell? ⟨B, 0, none⟩ = some (Value.int .i64 s.st) := q00.cell 0 rfl
          have c01 : wr.drew.cell? ⟨B, 1, none⟩ = some (Value.int .i64 s.ow) := q00.cell 1 rfl
          have c02 : wr.drew.cell? ⟨B, 2, none⟩ = some (Value.int .i64 s.sr) := q00.cell 2 rfl
          have c03 : wr.drew.cell? ⟨B, 3, none⟩ = some (Value.bool s.br) := q00.cell 3 rfl
          have c04 : wr.drew.cell? ⟨B, 4, none⟩ = some (Value.bool s.ma) := q00.cell 4 rfl
          have c05 : wr.drew.cell? ⟨B, 5, none⟩ = some (Value.int .i64 s.us) := q00.cell 5 rfl
          have c06 : wr.drew.cell? ⟨B, 6, none⟩ = some (Value.int .i64 s.ge) := q00.cell 6 rfl
          have c07 : wr.drew.cell? ⟨B, 7, none⟩ = some (Value.int .i64 s.ep) := q00.cell 7 rfl
          have c08 : wr.drew.cell? ⟨B, 8, none⟩ = some (Value.int .i64 s.ve) := q00.cell 8 rfl
          refine wp_region_held_drew (S := (fun w' => w'.cell? ⟨B, 0, none⟩ = some (Value.int .i64 s.st) ∧ w'.cell? ⟨B, 1, none⟩ = some (Value.int .i64 s.ow) ∧ w'.cell? ⟨B, 2, none⟩ = some (Value.int .i64 s.sr) ∧ w'.cell? ⟨B, 3, none⟩ = some (Value.bool s.br) ∧ w'.cell? ⟨B, 4, none⟩ = some (Value.bool s.ma) ∧ w'.cell? ⟨B, 5, none⟩ = some (Value.int .i64 s.us) ∧ w'.cell? ⟨B, 6, none⟩ = some (Value.int .i64 s.ge) ∧ w'.cell? ⟨B, 7, none⟩ = some (Value.int .i64 s.ep) ∧ w'.cell? ⟨B, 8, none⟩ = some (Value.int .i64 s.ve) ∧ w'.cell? ⟨bS, off + j * 3, none⟩ = some (.int .i64 x.d) ∧ w'.cell? ⟨bS, off + j * 3 + 1, none⟩ = some (.int .i64 x.o))) (by kernel_rfl) ⟨c00, c01, c02, c03, c04, c05, c06, c07, c08, e00, e10⟩ (fun hS => ?_)
          generalize wr.drew = WD at *
          refine wpAnyH_take (i := 0) (oi := { dst := some 43, op := Op.load 23 (Operand.tmp 7), type := 23, pos := "law.go:52", after := #[], guard := none }) (v := ?v0_1) rfl (by kernel_rfl) (by kernel_rfl) (by kernel_rfl) (fun _ _ _ h => h) (Or.inl ⟨by rfl, ?hy0_1⟩) hS ?rest0_1
          case hy0_1 =>
            intro w hSw
            (try dsimp only at hSw)
            go_simp
            try with_reducible rfl
          try simp only [Act.put, List.setIfInBounds_toArray, List.set_cons_zero, List.set_cons_succ]
          refine wpAnyH_take (i := 1) (oi := { dst := some 44, op := Op.move (Operand.tmp 0), type := 29, pos := "law.go:52", after := #[], guard := none }) (v := ?v1_2) rfl (by kernel_rfl) (by kernel_rfl) (by kernel_rfl) (fun _ _ _ h => h) (Or.inl ⟨by rfl, ?hy1_2⟩) hS ?rest1_2
          case hy1_2 =>
            intro w hSw
            (try dsimp only at hSw)
            go_simp
            try with_reducible rfl
          try simp only [Act.put, List.setIfInBounds_toArray, List.set_cons_zero, List.set_cons_succ]
          refine wpAnyH_take (i := 2) (oi := { dst := some 45, op := Op.move (Operand.tmp 9), type := 3, pos := "law.go:52", after := #[], guard := none }) (v := ?v2_3) rfl (by kernel_rfl) (by kernel_rfl) (by kernel_rfl) (fun _ _ _ h => h) (Or.inl ⟨by rfl, ?hy2_3⟩) hS ?rest2_3
          case hy2_3 =>
            intro w hSw
            (try dsimp only at hSw)
            go_simp
            try with_reducible rfl
          try simp only [Act.put, List.setIfInBounds_toArray, List.set_cons_zero, List.set_cons_succ]
          refine wpAnyH_take (i := 3) (oi := { dst := some 46, op := Op.indexAddr 29 (Operand.tmp 44) (Operand.tmp 45), type := 0, pos := "law.go:52", after := #[{ on := 1, ground := Ground.data }, { on := 2, ground := Ground.data }], guard := none }) (v := ?v3_4) rfl (by kernel_rfl) (by kernel_rfl) (by kernel_rfl) (fun _ _ _ h => h) (Or.inl ⟨by rfl, ?hy3_4⟩) hS ?rest3_4
          case hy3_4 =>
            intro w hSw
            (try dsimp only at hSw)
            go_simp
            try with_reducible rfl
          try simp only [Act.put, List.setIfInBounds_toArray, List.set_cons_zero, List.set_cons_succ]
          refine wpAnyH_take (i := 4) (oi := { dst := some 47, op := Op.fieldAddr 31 (Operand.tmp 46) 0, type := 0, pos := "law.go:52", after := #[{ on := 3, ground := Ground.data }], guard := none }) (v := ?v4_5) rfl (by kernel_rfl) (by kernel_rfl) (by kernel_rfl) (fun _ _ _ h => h) (Or.inl ⟨by rfl, ?hy4_5⟩) hS ?rest4_5
          case hy4_5 =>
            intro w hSw
            (try dsimp only at hSw)
            go_simp
            try with_reducible rfl
          try simp only [Act.put, List.setIfInBounds_toArray, List.set_cons_zero, List.set_cons_succ]
          refine wpAnyH_take (i := 5) (oi := { dst := some 48, op := Op.load 3 (Operand.tmp 47), type := 3, pos := "law.go:52", after := #[{ on := 4, ground := Ground.data }], guard := none }) (v := ?v5_6) rfl (by kernel_rfl) (by kernel_rfl) (by kernel_rfl) (fun _ _ _ h => h) (Or.inl ⟨by rfl, ?hy5_6⟩) hS ?rest5_6
          case hy5_6 =>
            intro w hSw
            (try dsimp only at hSw)
            go_simp
            try with_reducible rfl
          try simp only [Act.put, List.setIfInBounds_toArray, List.set_cons_zero, List.set_cons_succ]
          refine wpAnyH_take (i := 6) (oi := { dst := some 49, op := Op.move (Operand.tmp 0), type := 29, pos := "law.go:52", after := #[], guard := none }) (v := ?v6_7) rfl (by kernel_rfl) (by kernel_rfl) (by kernel_rfl) (fun _ _ _ h => h) (Or.inl ⟨by rfl, ?hy6_7⟩) hS ?rest6_7
          case hy6_7 =>
            intro w hSw
            (try dsimp only at hSw)
            go_simp
            try with_reducible rfl
          try simp only [Act.put, List.setIfInBounds_toArray, List.set_cons_zero, List.set_cons_succ]
          refine wpAnyH_take (i := 7) (oi := { dst := some 50, op := Op.move (Operand.tmp 9), type := 3, pos := "law.go:52", after := #[], guard := none }) (v := ?v7_8) rfl (by kernel_rfl) (by kernel_rfl) (by kernel_rfl) (fun _ _ _ h => h) (Or.inl ⟨by rfl, ?hy7_8⟩) hS ?rest7_8
          case hy7_8 =>
            intro w hSw
            (try dsimp only at hSw)
            go_simp
            try with_reducible rfl
          try simp only [Act.put, List.setIfInBounds_toArray, List.set_cons_zero, List.set_cons_succ]
          refine wpAnyH_take (i := 8) (oi := { dst := some 51, op := Op.indexAddr 29 (Operand.tmp 49) (Operand.tmp 50), type := 0, pos := "law.go:52", after := #[{ on := 6, ground := Ground.data }, { on := 7, ground := Ground.data }], guard := none }) (v := ?v8_9) rfl (by kernel_rfl) (by kernel_rfl) (by kernel_rfl) (fun _ _ _ h => h) (Or.inl ⟨by rfl, ?hy8_9⟩) hS ?rest8_9
          case hy8_9 =>
            intro w hSw
            (try dsimp only at hSw)
            go_simp
            try with_reducible rfl
          try simp only [Act.put, List.setIfInBounds_toArray, List.set_cons_zero, List.set_cons_succ]
          refine wpAnyH_take (i := 9) (oi := { dst := some 52, op := Op.fieldAddr 31 (Operand.tmp 51) 1, type := 0, pos := "law.go:52", after := #[{ on := 8, ground := Ground.data }], guard := none }) (v := ?v9_10) rfl (by kernel_rfl) (by kernel_rfl) (by kernel_rfl) (fun _ _ _ h => h) (Or.inl ⟨by rfl, ?hy9_10⟩) hS ?rest9_10
          case hy9_10 =>
            intro w hSw
            (try dsimp only at hSw)
            go_simp
            try with_reducible rfl
          try simp only [Act.put, List.setIfInBounds_toArray, List.set_cons_zero, List.set_cons_succ]
          refine wpAnyH_take (i := 10) (oi := { dst := some 53, op := Op.load 3 (Operand.tmp 52), type := 3, pos := "law.go:52", after := #[{ on := 9, ground := Ground.data }], guard := none }) (v := ?v10_11) rfl (by kernel_rfl) (by kernel_rfl) (by kernel_rfl) (fun _ _ _ h => h) (Or.inl ⟨by rfl, ?hy10_11⟩) hS ?rest10_11
          case hy10_11 =>
            intro w hSw
            (try dsimp only at hSw)
            go_simp
            try with_reducible rfl
          try simp only [Act.put, List.setIfInBounds_toArray, List.set_cons_zero, List.set_cons_succ]
          refine wpAnyH_take (i := 11) (oi := { dst := some 54, op := Op.move (Operand.tmp 10), type := 3, pos := "law.go:52", after := #[], guard := none }) (v := ?v11_12) rfl (by kernel_rfl) (by kernel_rfl) (by kernel_rfl) (fun _ _ _ h => h) (Or.inl ⟨by rfl, ?hy11_12⟩) hS ?rest11_12
          case hy11_12 =>
            intro w hSw
            (try dsimp only at hSw)
            go_simp
            try with_reducible rfl
          try simp only [Act.put, List.setIfInBounds_toArray, List.set_cons_zero, List.set_cons_succ]
          refine wpAnyH_ready (rs := [12, 16]) (by kernel_rfl) (by simp) ?_
          refine AllReadyH.cons (o := { dst := some 55, op := Op.call { callee := Callee.value (Operand.func 11), args := #[Operand.tmp 43, Operand.tmp 48, Operand.tmp 53, Operand.tmp 54], argTypes := #[23, 3, 3, 3] }, type := 25, pos := "law.go:52", after := #[{ on := 0, ground := Ground.data }, { on := 5, ground := Ground.data }, { on := 10, ground := Ground.data }, { on := 11, ground := Ground.data }], guard := none }) rfl (fun K hK => ?_) ?_
          ·
            go_simp
            refine (CN _ HT0.out).mono ?_
            rintro e v1 ⟨rfl, hb⟩
            have q01 := q00.below hb q00.lt
            have hbw := hb.mono hB0.size
            have hB1 := hB0.trans hbw
            have HT1 := Lib.hid (HT0.out.below hb HT0.out.lt)
            have HS1 := Lib.hid (HS0.out.below hbw)
            have e01 : v1.cell? ⟨bS, off + j * 3, none⟩ = some (.int .i64 x.d) := (hbw.cell (p := ⟨bS, _, none⟩) hbn).trans e00
            have e11 : v1.cell? ⟨bS, off + j * 3 + 1, none⟩ = some (.int .i64 x.o) := (hbw.cell (p := ⟨bS, _, none⟩) hbn).trans e10
            clear hb hbw
            have c10 : v1.cell? ⟨B, 0, none⟩ = some (Value.int .i64 s.st) := q01.cell 0 rfl
            have c11 : v1.cell? ⟨B, 1, none⟩ = some (Value.int .i64 s.ow) := q01.cell 1 rfl
            have c12 : v1.cell? ⟨B, 2, none⟩ = some (Value.int .i64 s.sr) := q01.cell 2 rfl
            have c13 : v1.cell? ⟨B, 3, none⟩ = some (Value.bool s.br) := q01.cell 3 rfl
            have c14 : v1.cell? ⟨B, 4, none⟩ = some (Value.bool s.ma) := q01.cell 4 rfl
            have c15 : v1.cell? ⟨B, 5, none⟩ = some (Value.int .i64 s.us) := q01.cell 5 rfl
            have c16 : v1.cell? ⟨B, 6, none⟩ = some (Value.int .i64 s.ge) := q01.cell 6 rfl
            have c17 : v1.cell? ⟨B, 7, none⟩ = some (Value.int .i64 s.ep) := q01.cell 7 rfl
            have c18 : v1.cell? ⟨B, 8, none⟩ = some (Value.int .i64 s.ve) := q01.cell 8 rfl
            refine hK.out _ _ ⟨c10, c11, c12, c13, c14, c15, c16, c17, c18, e01, e11⟩ (fun hS => ?_)
            clear hK K
            try simp only [Act.put, List.setIfInBounds_toArray, List.set_cons_zero, List.set_cons_succ]
            refine wpAnyH_take (i := 13) (oi := { dst := some 42, op := Op.move (Operand.tmp 55), type := 25, pos := "law.go:52", after := #[{ on := 12, ground := Ground.data }], guard := none }) (v := ?v13_13) rfl (by kernel_rfl) (by kernel_rfl) (by kernel_rfl) (fun _ _ _ h => h) (Or.inl ⟨by rfl, ?hy13_13⟩) hS ?rest13_13
            case hy13_13 =>
              intro w hSw
              (try dsimp only at hSw)
              go_simp
              try with_reducible rfl
            try simp only [Act.put, List.setIfInBounds_toArray, List.set_cons_zero, List.set_cons_succ]
            refine wpAnyH_take (i := 14) (oi := { dst := some 56, op := Op.extract (Operand.tmp 42) 0, type := 23, pos := "law.go:52", after := #[{ on := 13, ground := Ground.data }], guard := none }) (v := ?v14_14) rfl (by kernel_rfl) (by kernel_rfl) (by kernel_rfl) (fun _ _ _ h => h) (Or.inl ⟨by rfl, ?hy14_14⟩) hS ?rest14_14
            case hy14_14 =>
              intro w hSw
              (try dsimp only at hSw)
              go_simp
              try with_reducible rfl
            try simp only [Act.put, List.setIfInBounds_toArray, List.set_cons_zero, List.set_cons_succ]
            refine wpAnyH_take (i := 15) (oi := { dst := some 57, op := Op.extract (Operand.tmp 42) 1, type := 4, pos := "law.go:52", after := #[{ on := 13, ground := Ground.data }, { on := 17, ground := Ground.gcOnly Departure.lateStores }], guard := none }) (v := ?v15_15) rfl (by kernel_rfl) (by kernel_rfl) (by kernel_rfl) (fun _ _ _ h => h) (Or.inl ⟨by rfl, ?hy15_15⟩) hS ?rest15_15
            case hy15_15 =>
              intro w hSw
              (try dsimp only at hSw)
              go_simp
              try with_reducible rfl
            try simp only [Act.put, List.setIfInBounds_toArray, List.set_cons_zero, List.set_cons_succ]
            refine wpAnyH_ready (rs := [16]) (by kernel_rfl) (by simp) ?_
            refine AllReadyH.cons (o := { dst := some 11, op := Op.alloc 23, type := 0, pos := "law.go:52", after := #[], guard := none }) rfl (fun K hK => ?_) AllReadyH.nil
            go_simp
            have o2 := RowAt.new v1 23 #[Value.int .i64 0, Value.int .i64 0, Value.int .i64 0, Value.bool false, Value.bool false, Value.int .i64 0, Value.int .i64 0, Value.int .i64 0, Value.int .i64 0]
            have q02 := q01.alloc (.cells #[Value.int .i64 0, Value.int .i64 0, Value.int .i64 0, Value.bool false, Value.bool false, Value.int .i64 0, Value.int .i64 0, Value.int .i64 0, Value.int .i64 0] 23)
            have hbw := (Below.refl w.heap.size v1).alloc hB1.size (.cells #[Value.int .i64 0, Value.int .i64 0, Value.int .i64 0, Value.bool false, Value.bool false, Value.int .i64 0, Value.int .i64 0, Value.int .i64 0, Value.int .i64 0] 23)
            have hB2 := hB1.trans hbw
            have HT2 := Lib.hid (HT1.out.alloc (.cells #[Value.int .i64 0, Value.int .i64 0, Value.int .i64 0, Value.bool false, Value.bool false, Value.int .i64 0, Value.int .i64 0, Value.int .i64 0, Value.int .i64 0] 23))
            have HS2 := Lib.hid (HS1.out.below hbw)
            have e02 : (v1.alloc (.cells #[Value.int .i64 0, Value.int .i64 0, Value.int .i64 0, Value.bool false, Value.bool false, Value.int .i64 0, Value.int .i64 0, Value.int .i64 0, Value.int .i64 0] 23)).cell? ⟨bS, off + j * 3, none⟩ = some (.int .i64 x.d) := (hbw.cell (p := ⟨bS, _, none⟩) hbn).trans e01
            have e12 : (v1.alloc (.cells #[Value.int .i64 0, Value.int .i64 0, Value.int .i64 0, Value.bool false, Value.bool false, Value.int .i64 0, Value.int .i64 0, Value.int .i64 0, Value.int .i64 0] 23)).cell? ⟨bS, off + j * 3 + 1, none⟩ = some (.int .i64 x.o) := (hbw.cell (p := ⟨bS, _, none⟩) hbn).trans e11
            clear hbw
            have c20 : (v1.alloc (.cells #[Value.int .i64 0, Value.int .i64 0, Value.int .i64 0, Value.bool false, Value.bool false, Value.int .i64 0, Value.int .i64 0, Value.int .i64 0, Value.int .i64 0] 23)).cell? ⟨B, 0, none⟩ = some (Value.int .i64 s.st) := q02.cell 0 rfl
            have c21 : (v1.alloc (.cells #[Value.int .i64 0, Value.int .i64 0, Value.int .i64 0, Value.bool false, Value.bool false, Value.int .i64 0, Value.int .i64 0, Value.int .i64 0, Value.int .i64 0] 23)).cell? ⟨B, 1, none⟩ = some (Value.int .i64 s.ow) := q02.cell 1 rfl
            have c22 : (v1.alloc (.cells #[Value.int .i64 0, Value.int .i64 0, Value.int .i64 0, Value.bool false, Value.bool false, Value.int .i64 0, Value.int .i64 0, Value.int .i64 0, Value.int .i64 0] 23)).cell? ⟨B, 2, none⟩ = some (Value.int .i64 s.sr) := q02.cell 2 rfl
            have c23 : (v1.alloc (.cells #[Value.int .i64 0, Value.int .i64 0, Value.int .i64 0, Value.bool false, Value.bool false, Value.int .i64 0, Value.int .i64 0, Value.int .i64 0, Value.int .i64 0] 23)).cell? ⟨B, 3, none⟩ = some (Value.bool s.br) := q02.cell 3 rfl
            have c24 : (v1.alloc (.cells #[Value.int .i64 0, Value.int .i64 0, Value.int .i64 0, Value.bool false, Value.bool false, Value.int .i64 0, Value.int .i64 0, Value.int .i64 0, Value.int .i64 0] 23)).cell? ⟨B, 4, none⟩ = some (Value.bool s.ma) := q02.cell 4 rfl
            have c25 : (v1.alloc (.cells #[Value.int .i64 0, Value.int .i64 0, Value.int .i64 0, Value.bool false, Value.bool false, Value.int .i64 0, Value.int .i64 0, Value.int .i64 0, Value.int .i64 0] 23)).cell? ⟨B, 5, none⟩ = some (Value.int .i64 s.us) := q02.cell 5 rfl
            have c26 : (v1.alloc (.cells #[Value.int .i64 0, Value.int .i64 0, Value.int .i64 0, Value.bool false, Value.bool false, Value.int .i64 0, Value.int .i64 0, Value.int .i64 0, Value.int .i64 0] 23)).cell? ⟨B, 6, none⟩ = some (Value.int .i64 s.ge) := q02.cell 6 rfl
            have c27 : (v1.alloc (.cells #[Value.int .i64 0, Value.int .i64 0, Value.int .i64 0, Value.bool false, Value.bool false, Value.int .i64 0, Value.int .i64 0, Value.int .i64 0, Value.int .i64 0] 23)).cell? ⟨B, 7, none⟩ = some (Value.int .i64 s.ep) := q02.cell 7 rfl
            have c28 : (v1.alloc (.cells #[Value.int .i64 0, Value.int .i64 0, Value.int .i64 0, Value.bool false, Value.bool false, Value.int .i64 0, Value.int .i64 0, Value.int .i64 0, Value.int .i64 0] 23)).cell? ⟨B, 8, none⟩ = some (Value.int .i64 s.ve) := q02.cell 8 rfl
            refine hK.out _ _ ⟨c20, c21, c22, c23, c24, c25, c26, c27, c28, e02, e12⟩ (fun hS => ?_)
            clear hK K
            try simp only [Act.put, List.setIfInBounds_toArray, List.set_cons_zero, List.set_cons_succ]
            refine wpAnyH_ready (rs := [17]) (by kernel_rfl) (by simp) ?_
            refine AllReadyH.cons (o := { dst := none, op := Op.store 23 (Operand.tmp 11) (Operand.tmp 56), type := 0, pos := "law.go:52", after := #[{ on := 16, ground := Ground.data }, { on := 14, ground := Ground.data }, { on := 12, ground := Ground.chain }, { on := 0, ground := Ground.phase }, { on := 1, ground := Ground.phase }, { on := 2, ground := Ground.phase }, { on := 3, ground := Ground.phase }, { on := 4, ground := Ground.phase }, { on := 5, ground := Ground.phase }, { on := 6, ground := Ground.phase }, { on := 7, ground := Ground.phase }, { on := 8, ground := Ground.phase }, { on := 9, ground := Ground.phase }, { on := 10, ground := Ground.phase }, { on := 11, ground := Ground.phase }, { on := 12, ground := Ground.phase }, { on := 13, ground := Ground.phase }, { on := 14, ground := Ground.phase }, { on := 15, ground := Ground.textOnly Departure.lateStores }, { on := 16, ground := Ground.phase }], guard := none }) rfl (fun K hK => ?_) AllReadyH.nil
            go_simp
            have RB := RowAt.new v1 23 #[Value.int .i64 t.st, Value.int .i64 t.ow, Value.int .i64 t.sr, Value.bool t.br, Value.bool t.ma, Value.int .i64 t.us, Value.int .i64 t.ge, Value.int .i64 t.ep, Value.int .i64 t.ve]
            have R0 := q01.alloc (.cells #[Value.int .i64 t.st, Value.int .i64 t.ow, Value.int .i64 t.sr, Value.bool t.br, Value.bool t.ma, Value.int .i64 t.us, Value.int .i64 t.ge, Value.int .i64 t.ep, Value.int .i64 t.ve] 23)
            have hbw := (Below.refl w.heap.size v1).alloc hB1.size (.cells #[Value.int .i64 t.st, Value.int .i64 t.ow, Value.int .i64 t.sr, Value.bool t.br, Value.bool t.ma, Value.int .i64 t.us, Value.int .i64 t.ge, Value.int .i64 t.ep, Value.int .i64 t.ve] 23)
            have HB := hB1.trans hbw
            have HT := Lib.hid (HT1.out.alloc (.cells #[Value.int .i64 t.st, Value.int .i64 t.ow, Value.int .i64 t.sr, Value.bool t.br, Value.bool t.ma, Value.int .i64 t.us, Value.int .i64 t.ge, Value.int .i64 t.ep, Value.int .i64 t.ve] 23))
            have HS := Lib.hid (HS1.out.below hbw)
            have hne := Nat.ne_of_lt q01.lt
            have f0 : (v1.alloc (.cells #[Value.int .i64 t.st, Value.int .i64 t.ow, Value.int .i64 t.sr, Value.bool t.br, Value.bool t.ma, Value.int .i64 t.us, Value.int .i64 t.ge, Value.int .i64 t.ep, Value.int .i64 t.ve] 23)).cell? ⟨bS, off + j * 3, none⟩ = some (.int .i64 x.d) := (hbw.cell (p := ⟨bS, _, none⟩) hbn).trans e01
            have f1 : (v1.alloc (.cells #[Value.int .i64 t.st, Value.int .i64 t.ow, Value.int .i64 t.sr, Value.bool t.br, Value.bool t.ma, Value.int .i64 t.us, Value.int .i64 t.ge, Value.int .i64 t.ep, Value.int .i64 t.ve] 23)).cell? ⟨bS, off + j * 3 + 1, none⟩ = some (.int .i64 x.o) := (hbw.cell (p := ⟨bS, _, none⟩) hbn).trans e11
            clear hbw
            obtain ⟨V, hV⟩ : ∃ V, V = (v1.alloc (.cells #[Value.int .i64 t.st, Value.int .i64 t.ow, Value.int .i64 t.sr, Value.bool t.br, Value.bool t.ma, Value.int .i64 t.us, Value.int .i64 t.ge, Value.int .i64 t.ep, Value.int .i64 t.ve] 23)) := ⟨_, rfl⟩
            rw [← hV] at RB R0 HB HT HS f0 f1 ⊢
            clear hV
            obtain ⟨B5, eB⟩ : ∃ B5, B5 = v1.heap.size := ⟨_, rfl⟩
            rw [← eB] at RB hne ⊢
            clear eB
            have z0 : V.cell? ⟨B, 0, none⟩ = some (Value.int .i64 s.st) := R0.cell 0 rfl
            have z1 : V.cell? ⟨B, 1, none⟩ = some (Value.int .i64 s.ow) := R0.cell 1 rfl
            have z2 : V.cell? ⟨B, 2, none⟩ = some (Value.int .i64 s.sr) := R0.cell 2 rfl
            have z3 : V.cell? ⟨B, 3, none⟩ = some (Value.bool s.br) := R0.cell 3 rfl
            have z4 : V.cell? ⟨B, 4, none⟩ = some (Value.bool s.ma) := R0.cell 4 rfl
            have z5 : V.cell? ⟨B, 5, none⟩ = some (Value.int .i64 s.us) := R0.cell 5 rfl
            have z6 : V.cell? ⟨B, 6, none⟩ = some (Value.int .i64 s.ge) := R0.cell 6 rfl
            have z7 : V.cell? ⟨B, 7, none⟩ = some (Value.int .i64 s.ep) := R0.cell 7 rfl
            have z8 : V.cell? ⟨B, 8, none⟩ = some (Value.int .i64 s.ve) := R0.cell 8 rfl
            refine hK.out _ _ ⟨z0, z1, z2, z3, z4, z5, z6, z7, z8, f0, f1⟩ (fun hS => ?_)
            clear hK K
            try simp only [Act.put, List.setIfInBounds_toArray, List.set_cons_zero, List.set_cons_succ]
            refine wpAnyH_take (i := 18) (oi := { dst := some 12, op := Op.assign (Operand.tmp 57), type := 4, pos := "law.go:52", after := #[{ on := 15, ground := Ground.data }, { on := 17, ground := Ground.chain }, { on := 0, ground := Ground.phase }, { on := 1, ground := Ground.phase }, { on := 2, ground := Ground.phase }, { on := 3, ground := Ground.phase }, { on := 4, ground := Ground.phase }, { on := 5, ground := Ground.phase }, { on := 6, ground := Ground.phase }, { on := 7, ground := Ground.phase }, { on := 8, ground := Ground.phase }, { on := 9, ground := Ground.phase }, { on := 10, ground := Ground.phase }, { on := 11, ground := Ground.phase }, { on := 12, ground := Ground.phase }, { on := 13, ground := Ground.phase }, { on := 14, ground := Ground.phase }, { on := 15, ground := Ground.phase }, { on := 16, ground := Ground.phase }, { on := 17, ground := Ground.phase }], guard := none }) (v := ?v18_16) rfl (by kernel_rfl) (by kernel_rfl) (by kernel_rfl) (fun _ _ _ h => h) (Or.inl ⟨by rfl, ?hy18_16⟩) hS ?rest18_16
            case hy18_16 =>
              intro w hSw
              (try dsimp only at hSw)
              go_simp
              try with_reducible rfl
            try simp only [Act.put, List.setIfInBounds_toArray, List.set_cons_zero, List.set_cons_succ]
            refine wpAnyH_done (by kernel_rfl) ?_ _
            go_wp2
            go_roundw
            case rel => exact ⟨j + 1, s, by omega, by go_num, rfl, hR, by omega, HSR.out, R0, HT, HS, HB⟩
            case measure => simp [intOf]; omega
          refine AllReadyH.cons (o := { dst := some 11, op := Op.alloc 23, type := 0, pos := "law.go:52", after := #[], guard := none }) rfl (fun K hK => ?_) AllReadyH.nil
          go_simp
          have o1 := RowAt.new WD 23 #[Value.int .i64 0, Value.int .i64 0, Value.int .i64 0, Value.bool false, Value.bool false, Value.int .i64 0, Value.int .i64 0, Value.int .i64 0, Value.int .i64 0]
          have q01 := q00.alloc (.cells #[Value.int .i64 0, Value.int .i64 0, Value.int .i64 0, Value.bool false, Value.bool false, Value.int .i64 0, Value.int .i64 0, Value.int .i64 0, Value.int .i64 0] 23)
          have hbw := (Below.refl w.heap.size WD).alloc hB0.size (.cells #[Value.int .i64 0, Value.int .i64 0, Value.int .i64 0, Value.bool false, Value.bool false, Value.int .i64 0, Value.int .i64 0, Value.int .i64 0, Value.int .i64 0] 23)
          have hB1 := hB0.trans hbw
          have HT1 := Lib.hid (HT0.out.alloc (.cells #[Value.int .i64 0, Value.int .i64 0, Value.int .i64 0, Value.bool false, Value.bool false, Value.int .i64 0, Value.int .i64 0, Value.int .i64 0, Value.int .i64 0] 23))
          have HS1 := Lib.hid (HS0.out.below hbw)
          have e01 : (WD.alloc (.cells #[Value.int .i64 0, Value.int .i64 0, Value.int .i64 0, Value.bool false, Value.bool false, Value.int .i64 0, Value.int .i64 0, Value.int .i64 0, Value.int .i64 0] 23)).cell? ⟨bS, off + j * 3, none⟩ = some (.int .i64 x.d) := (hbw.cell (p := ⟨bS, _, none⟩) hbn).trans e00
          have e11 : (WD.alloc (.cells #[Value.int .i64 0, Value.int .i64 0, Value.int .i64 0, Value.bool false, Value.bool false, Value.int .i64 0, Value.int .i64 0, Value.int .i64 0, Value.int .i64 0] 23)).cell? ⟨bS, off + j * 3 + 1, none⟩ = some (.int .i64 x.o) := (hbw.cell (p := ⟨bS, _, none⟩) hbn).trans e10
          clear hbw
          have c10 : (WD.alloc (.cells #[Value.int .i64 0, Value.int .i64 0, Value.int .i64 0, Value.bool false, Value.bool false, Value.int .i64 0, Value.int .i64 0, Value.int .i64 0, Value.int .i64 0] 23)).cell? ⟨B, 0, none⟩ = some (Value.int .i64 s.st) := q01.cell 0 rfl
          have c11 : (WD.alloc (.cells #[Value.int .i64 0, Value.int .i64 0, Value.int .i64 0, Value.bool false, Value.bool false, Value.int .i64 0, Value.int .i64 0, Value.int .i64 0, Value.int .i64 0] 23)).cell? ⟨B, 1, none⟩ = some (Value.int .i64 s.ow) := q01.cell 1 rfl
          have c12 : (WD.alloc (.cells #[Value.int .i64 0, Value.int .i64 0, Value.int .i64 0, Value.bool false, Value.bool false, Value.int .i64 0, Value.int .i64 0, Value.int .i64 0, Value.int .i64 0] 23)).cell? ⟨B, 2, none⟩ = some (Value.int .i64 s.sr) := q01.cell 2 rfl
          have c13 : (WD.alloc (.cells #[Value.int .i64 0, Value.int .i64 0, Value.int .i64 0, Value.bool false, Value.bool false, Value.int .i64 0, Value.int .i64 0, Value.int .i64 0, Value.int .i64 0] 23)).cell? ⟨B, 3, none⟩ = some (Value.bool s.br) := q01.cell 3 rfl
          have c14 : (WD.alloc (.cells #[Value.int .i64 0, Value.int .i64 0, Value.int .i64 0, Value.bool false, Value.bool false, Value.int .i64 0, Value.int .i64 0, Value.int .i64 0, Value.int .i64 0] 23)).cell? ⟨B, 4, none⟩ = some (Value.bool s.ma) := q01.cell 4 rfl
          have c15 : (WD.alloc (.cells #[Value.int .i64 0, Value.int .i64 0, Value.int .i64 0, Value.bool false, Value.bool false, Value.int .i64 0, Value.int .i64 0, Value.int .i64 0, Value.int .i64 0] 23)).cell? ⟨B, 5, none⟩ = some (Value.int .i64 s.us) := q01.cell 5 rfl
          have c16 : (WD.alloc (.cells #[Value.int .i64 0, Value.int .i64 0, Value.int .i64 0, Value.bool false, Value.bool false, Value.int .i64 0, Value.int .i64 0, Value.int .i64 0, Value.int .i64 0] 23)).cell? ⟨B, 6, none⟩ = some (Value.int .i64 s.ge) := q01.cell 6 rfl
          have c17 : (WD.alloc (.cells #[Value.int .i64 0, Value.int .i64 0, Value.int .i64 0, Value.bool false, Value.bool false, Value.int .i64 0, Value.int .i64 0, Value.int .i64 0, Value.int .i64 0] 23)).cell? ⟨B, 7, none⟩ = some (Value.int .i64 s.ep) := q01.cell 7 rfl
          have c18 : (WD.alloc (.cells #[Value.int .i64 0, Value.int .i64 0, Value.int .i64 0, Value.bool false, Value.bool false, Value.int .i64 0, Value.int .i64 0, Value.int .i64 0, Value.int .i64 0] 23)).cell? ⟨B, 8, none⟩ = some (Value.int .i64 s.ve) := q01.cell 8 rfl
          refine hK.out _ _ ⟨c10, c11, c12, c13, c14, c15, c16, c17, c18, e01, e11⟩ (fun hS => ?_)
          clear hK K
          try simp only [Act.put, List.setIfInBounds_toArray, List.set_cons_zero, List.set_cons_succ]
          refine wpAnyH_ready (rs := [12]) (by kernel_rfl) (by simp) ?_
          refine AllReadyH.cons (o := { dst := some 55, op := Op.call { callee := Callee.value (Operand.func 11), args := #[Operand.tmp 43, Operand.tmp 48, Operand.tmp 53, Operand.tmp 54], argTypes := #[23, 3, 3, 3] }, type := 25, pos := "law.go:52", after := #[{ on := 0, ground := Ground.data }, { on := 5, ground := Ground.data }, { on := 10, ground := Ground.data }, { on := 11, ground := Ground.data }], guard := none }) rfl (fun K hK => ?_) AllReadyH.nil
          go_simp
          refine (CN _ HT1.out).mono ?_
          rintro e v2 ⟨rfl, hb⟩
          have q02 := q01.below hb q01.lt
          have hbw := hb.mono hB1.size
          have hB2 := hB1.trans hbw
          have HT2 := Lib.hid (HT1.out.below hb HT1.out.lt)
          have HS2 := Lib.hid (HS1.out.below hbw)
          have o2 := o1.below hb o1.lt
          have d0 : v2.cell? ⟨WD.heap.size, 0, none⟩ = some (Value.int .i64 0) := o2.cell 0 rfl
          have d1 : v2.cell? ⟨WD.heap.size, 1, none⟩ = some (Value.int .i64 0) := o2.cell 1 rfl
          have d2 : v2.cell? ⟨WD.heap.size, 2, none⟩ = some (Value.int .i64 0) := o2.cell 2 rfl
          have d3 : v2.cell? ⟨WD.heap.size, 3, none⟩ = some (Value.bool false) := o2.cell 3 rfl
          have d4 : v2.cell? ⟨WD.heap.size, 4, none⟩ = some (Value.bool false) := o2.cell 4 rfl
          have d5 : v2.cell? ⟨WD.heap.size, 5, none⟩ = some (Value.int .i64 0) := o2.cell 5 rfl
          have d6 : v2.cell? ⟨WD.heap.size, 6, none⟩ = some (Value.int .i64 0) := o2.cell 6 rfl
          have d7 : v2.cell? ⟨WD.heap.size, 7, none⟩ = some (Value.int .i64 0) := o2.cell 7 rfl
          have d8 : v2.cell? ⟨WD.heap.size, 8, none⟩ = some (Value.int .i64 0) := o2.cell 8 rfl
          have g0 : v2.frozen? ⟨WD.heap.size, 0, none⟩ = false := o2.frozen 0
          have g1 : v2.frozen? ⟨WD.heap.size, 1, none⟩ = false := o2.frozen 1
          have g2 : v2.frozen? ⟨WD.heap.size, 2, none⟩ = false := o2.frozen 2
          have g3 : v2.frozen? ⟨WD.heap.size, 3, none⟩ = false := o2.frozen 3
          have g4 : v2.frozen? ⟨WD.heap.size, 4, none⟩ = false := o2.frozen 4
          have g5 : v2.frozen? ⟨WD.heap.size, 5, none⟩ = false := o2.frozen 5
          have g6 : v2.frozen? ⟨WD.heap.size, 6, none⟩ = false := o2.frozen 6
          have g7 : v2.frozen? ⟨WD.heap.size, 7, none⟩ = false := o2.frozen 7
          have g8 : v2.frozen? ⟨WD.heap.size, 8, none⟩ = false := o2.frozen 8
          have e02 : v2.cell? ⟨bS, off + j * 3, none⟩ = some (.int .i64 x.d) := (hbw.cell (p := ⟨bS, _, none⟩) hbn).trans e01
          have e12 : v2.cell? ⟨bS, off + j * 3 + 1, none⟩ = some (.int .i64 x.o) := (hbw.cell (p := ⟨bS, _, none⟩) hbn).trans e11
          clear hb hbw
          have c20 : v2.cell? ⟨B, 0, none⟩ = some (Value.int .i64 s.st) := q02.cell 0 rfl
          have c21 : v2.cell? ⟨B, 1, none⟩ = some (Value.int .i64 s.ow) := q02.cell 1 rfl
          have c22 : v2.cell? ⟨B, 2, none⟩ = some (Value.int .i64 s.sr) := q02.cell 2 rfl
          have c23 : v2.cell? ⟨B, 3, none⟩ = some (Value.bool s.br) := q02.cell 3 rfl
          have c24 : v2.cell? ⟨B, 4, none⟩ = some (Value.bool s.ma) := q02.cell 4 rfl
          have c25 : v2.cell? ⟨B, 5, none⟩ = some (Value.int .i64 s.us) := q02.cell 5 rfl
          have c26 : v2.cell? ⟨B, 6, none⟩ = some (Value.int .i64 s.ge) := q02.cell 6 rfl
          have c27 : v2.cell? ⟨B, 7, none⟩ = some (Value.int .i64 s.ep) := q02.cell 7 rfl
          have c28 : v2.cell? ⟨B, 8, none⟩ = some (Value.int .i64 s.ve) := q02.cell 8 rfl
          refine hK.out _ _ ⟨c20, c21, c22, c23, c24, c25, c26, c27, c28, e02, e12⟩ (fun hS => ?_)
          clear hK K
          try simp only [Act.put, List.setIfInBounds_toArray, List.set_cons_zero, List.set_cons_succ]
          refine wpAnyH_take (i := 13) (oi := { dst := some 42, op := Op.move (Operand.tmp 55), type := 25, pos := "law.go:52", after := #[{ on := 12, ground := Ground.data }], guard := none }) (v := ?v13_17) rfl (by kernel_rfl) (by kernel_rfl) (by kernel_rfl) (fun _ _ _ h => h) (Or.inl ⟨by rfl, ?hy13_17⟩) hS ?rest13_17
          case hy13_17 =>
            intro w hSw
            (try dsimp only at hSw)
            go_simp
            try with_reducible rfl
          try simp only [Act.put, List.setIfInBounds_toArray, List.set_cons_zero, List.set_cons_succ]
          refine wpAnyH_take (i := 14) (oi := { dst := some 56, op := Op.extract (Operand.tmp 42) 0, type := 23, pos := "law.go:52", after := #[{ on := 13, ground := Ground.data }], guard := none }) (v := ?v14_18) rfl (by kernel_rfl) (by kernel_rfl) (by kernel_rfl) (fun _ _ _ h => h) (Or.inl ⟨by rfl, ?hy14_18⟩) hS ?rest14_18
          case hy14_18 =>
            intro w hSw
            (try dsimp only at hSw)
            go_simp
            try with_reducible rfl
          try simp only [Act.put, List.setIfInBounds_toArray, List.set_cons_zero, List.set_cons_succ]
          refine wpAnyH_take (i := 15) (oi := { dst := some 57, op := Op.extract (Operand.tmp 42) 1, type := 4, pos := "law.go:52", after := #[{ on := 13, ground := Ground.data }, { on := 17, ground := Ground.gcOnly Departure.lateStores }], guard := none }) (v := ?v15_19) rfl (by kernel_rfl) (by kernel_rfl) (by kernel_rfl) (fun _ _ _ h => h) (Or.inl ⟨by rfl, ?hy15_19⟩) hS ?rest15_19
          case hy15_19 =>
            intro w hSw
            (try dsimp only at hSw)
            go_simp
            try with_reducible rfl
          try simp only [Act.put, List.setIfInBounds_toArray, List.set_cons_zero, List.set_cons_succ]
          refine wpAnyH_ready (rs := [17]) (by kernel_rfl) (by simp) ?_
          refine AllReadyH.cons (o := { dst := none, op := Op.store 23 (Operand.tmp 11) (Operand.tmp 56), type := 0, pos := "law.go:52", after := #[{ on := 16, ground := Ground.data }, { on := 14, ground := Ground.data }, { on := 12, ground := Ground.chain }, { on := 0, ground := Ground.phase }, { on := 1, ground := Ground.phase }, { on := 2, ground := Ground.phase }, { on := 3, ground := Ground.phase }, { on := 4, ground := Ground.phase }, { on := 5, ground := Ground.phase }, { on := 6, ground := Ground.phase }, { on := 7, ground := Ground.phase }, { on := 8, ground := Ground.phase }, { on := 9, ground := Ground.phase }, { on := 10, ground := Ground.phase }, { on := 11, ground := Ground.phase }, { on := 12, ground := Ground.phase }, { on := 13, ground := Ground.phase }, { on := 14, ground := Ground.phase }, { on := 15, ground := Ground.textOnly Departure.lateStores }, { on := 16, ground := Ground.phase }], guard := none }) rfl (fun K hK => ?_) AllReadyH.nil
          go_simp
          have RB := row9 o2 (Value.int .i64 t.st) (Value.int .i64 t.ow) (Value.int .i64 t.sr) (Value.bool t.br) (Value.bool t.ma) (Value.int .i64 t.us) (Value.int .i64 t.ge) (Value.int .i64 t.ep) (Value.int .i64 t.ve)
          have hne := Nat.ne_of_lt q00.lt
          have R0 := oth9 q02 hne (Value.int .i64 t.st) (Value.int .i64 t.ow) (Value.int .i64 t.sr) (Value.bool t.br) (Value.bool t.ma) (Value.int .i64 t.us) (Value.int .i64 t.ge) (Value.int .i64 t.ep) (Value.int .i64 t.ve)
          have hbw := below9 (n := w.heap.size) (A := v2) (b := WD.heap.size) (Below.refl _ _) hB0.size (Value.int .i64 t.st) (Value.int .i64 t.ow) (Value.int .i64 t.sr) (Value.bool t.br) (Value.bool t.ma) (Value.int .i64 t.us) (Value.int .i64 t.ge) (Value.int .i64 t.ep) (Value.int .i64 t.ve)
          have HB := hB2.trans hbw
          have HT := Lib.hid (HT2.out.below (below9 (n := WD.heap.size) (A := v2) (b := WD.heap.size) (Below.refl _ _) (Nat.le_refl _) (Value.int .i64 t.st) (Value.int .i64 t.ow) (Value.int .i64 t.sr) (Value.bool t.br) (Value.bool t.ma) (Value.int .i64 t.us) (Value.int .i64 t.ge) (Value.int .i64 t.ep) (Value.int .i64 t.ve)) HT0.out.lt)
          have HS := Lib.hid (HS2.out.below hbw)
          have f0 : (((((((((v2.setCell ⟨WD.heap.size, 0, none⟩ (Value.int .i64 t.st)).setCell ⟨WD.heap.size, 1, none⟩ (Value.int .i64 t.ow)).setCell ⟨WD.heap.size, 2, none⟩ (Value.int .i64 t.sr)).setCell ⟨WD.heap.size, 3, none⟩ (Value.bool t.br)).setCell ⟨WD.heap.size, 4, none⟩ (Value.bool t.ma)).setCell ⟨WD.heap.size, 5, none⟩ (Value.int .i64 t.us)).setCell ⟨WD.heap.size, 6, none⟩ (Value.int .i64 t.ge)).setCell ⟨WD.heap.size, 7, none⟩ (Value.int .i64 t.ep)).setCell ⟨WD.heap.size, 8, none⟩ (Value.int .i64 t.ve)).cell? ⟨bS, off + j * 3, none⟩ = some (.int .i64 x.d) := (hbw.cell (p := ⟨bS, _, none⟩) hbn).trans e02
          have f1 : (((((((((v2.setCell ⟨WD.heap.size, 0, none⟩ (Value.int .i64 t.st)).setCell ⟨WD.heap.size, 1, none⟩ (Value.int .i64 t.ow)).setCell ⟨WD.heap.size, 2, none⟩ (Value.int .i64 t.sr)).setCell ⟨WD.heap.size, 3, none⟩ (Value.bool t.br)).setCell ⟨WD.heap.size, 4, none⟩ (Value.bool t.ma)).setCell ⟨WD.heap.size, 5, none⟩ (Value.int .i64 t.us)).setCell ⟨WD.heap.size, 6, none⟩ (Value.int .i64 t.ge)).setCell ⟨WD.heap.size, 7, none⟩ (Value.int .i64 t.ep)).setCell ⟨WD.heap.size, 8, none⟩ (Value.int .i64 t.ve)).cell? ⟨bS, off + j * 3 + 1, none⟩ = some (.int .i64 x.o) := (hbw.cell (p := ⟨bS, _, none⟩) hbn).trans e12
          clear hbw
          obtain ⟨V, hV⟩ : ∃ V, V = (((((((((v2.setCell ⟨WD.heap.size, 0, none⟩ (Value.int .i64 t.st)).setCell ⟨WD.heap.size, 1, none⟩ (Value.int .i64 t.ow)).setCell ⟨WD.heap.size, 2, none⟩ (Value.int .i64 t.sr)).setCell ⟨WD.heap.size, 3, none⟩ (Value.bool t.br)).setCell ⟨WD.heap.size, 4, none⟩ (Value.bool t.ma)).setCell ⟨WD.heap.size, 5, none⟩ (Value.int .i64 t.us)).setCell ⟨WD.heap.size, 6, none⟩ (Value.int .i64 t.ge)).setCell ⟨WD.heap.size, 7, none⟩ (Value.int .i64 t.ep)).setCell ⟨WD.heap.size, 8, none⟩ (Value.int .i64 t.ve)) := ⟨_, rfl⟩
          rw [← hV] at RB R0 HB HT HS f0 f1 ⊢
          clear hV
          obtain ⟨B5, eB⟩ : ∃ B5, B5 = WD.heap.size := ⟨_, rfl⟩
          rw [← eB] at RB hne ⊢
          clear eB
          have z0 : V.cell? ⟨B, 0, none⟩ = some (Value.int .i64 s.st) := R0.cell 0 rfl
          have z1 : V.cell? ⟨B, 1, none⟩ = some (Value.int .i64 s.ow) := R0.cell 1 rfl
          have z2 : V.cell? ⟨B, 2, none⟩ = some (Value.int .i64 s.sr) := R0.cell 2 rfl
          have z3 : V.cell? ⟨B, 3, none⟩ = some (Value.bool s.br) := R0.cell 3 rfl
          have z4 : V.cell? ⟨B, 4, none⟩ = some (Value.bool s.ma) := R0.cell 4 rfl
          have z5 : V.cell? ⟨B, 5, none⟩ = some (Value.int .i64 s.us) := R0.cell 5 rfl
          have z6 : V.cell? ⟨B, 6, none⟩ = some (Value.int .i64 s.ge) := R0.cell 6 rfl
          have z7 : V.cell? ⟨B, 7, none⟩ = some (Value.int .i64 s.ep) := R0.cell 7 rfl
          have z8 : V.cell? ⟨B, 8, none⟩ = some (Value.int .i64 s.ve) := R0.cell 8 rfl
          refine hK.out _ _ ⟨z0, z1, z2, z3, z4, z5, z6, z7, z8, f0, f1⟩ (fun hS => ?_)
          clear hK K
          try simp only [Act.put, List.setIfInBounds_toArray, List.set_cons_zero, List.set_cons_succ]
          refine wpAnyH_take (i := 18) (oi := { dst := some 12, op := Op.assign (Operand.tmp 57), type := 4, pos := "law.go:52", after := #[{ on := 15, ground := Ground.data }, { on := 17, ground := Ground.chain }, { on := 0, ground := Ground.phase }, { on := 1, ground := Ground.phase }, { on := 2, ground := Ground.phase }, { on := 3, ground := Ground.phase }, { on := 4, ground := Ground.phase }, { on := 5, ground := Ground.phase }, { on := 6, ground := Ground.phase }, { on := 7, ground := Ground.phase }, { on := 8, ground := Ground.phase }, { on := 9, ground := Ground.phase }, { on := 10, ground := Ground.phase }, { on := 11, ground := Ground.phase }, { on := 12, ground := Ground.phase }, { on := 13, ground := Ground.phase }, { on := 14, ground := Ground.phase }, { on := 15, ground := Ground.phase }, { on := 16, ground := Ground.phase }, { on := 17, ground := Ground.phase }], guard := none }) (v := ?v18_20) rfl (by kernel_rfl) (by kernel_rfl) (by kernel_rfl) (fun _ _ _ h => h) (Or.inl ⟨by rfl, ?hy18_20⟩) hS ?rest18_20
          case hy18_20 =>
            intro w hSw
            (try dsimp only at hSw)
            go_simp
            try with_reducible rfl
          try simp only [Act.put, List.setIfInBounds_toArray, List.set_cons_zero, List.set_cons_succ]
          refine wpAnyH_done (by kernel_rfl) ?_ _
          go_wp2
          go_roundw
          case rel => exact ⟨j + 1, s, by omega, by go_num, rfl, hR, by omega, HSR.out, R0, HT, HS, HB⟩
          case measure => simp [intOf]; omega
        | true =>
          have CN := next_is hR.wf et hn
          have RT := nx_rt hR.wf big hn
          have st := run_step hk8 hR HSR.out (by omega) big (fun _ => rfl) hn
          rw [et] at RT st
          have ST := Lib.hid st
          clear et hn big st
          go_wp2_with fail
          have q00 := q0.drew
          have hB0 := hB2.drew
          have HT0 := Lib.hid HT2.out.drew
          have HS0 : Hid (SS wr.drew w.heap.size _ l) := Lib.hid HS2.out
          have e00 : wr.drew.cell? ⟨bS, off + j * 3, none⟩ = some (.int .i64 x.d) := s0
          have e10 : wr.drew.cell? ⟨bS, off + j * 3 + 1, none⟩ = some (.int .i64 x.o) := s1
          clear q0 hB2 HT2 HS2 s0 s1 s2
          have c00 : wr.drew.cell? ⟨B, 0, none⟩ = some (Value.int .i64 s.st) := q00.cell 0 rfl
          have c01 : wr.drew.cell? ⟨B, 1, none⟩ = some (Value.int .i64 s.ow) := q00.cell 1 rfl
          have c02 : wr.drew.cell? ⟨B, 2, none⟩ = some (Value.int .i64 s.sr) := q00.cell 2 rfl
          have c03 : wr.drew.cell? ⟨B, 3, none⟩ = some (Value.bool s.br) := q00.cell 3 rfl
          have c04 : wr.drew.cell? ⟨B, 4, none⟩ = some (Value.bool s.ma) := q00.cell 4 rfl
          have c05 : wr.drew.cell? ⟨B, 5, none⟩ = some (Value.int .i64 s.us) := q00.cell 5 rfl
          have c06 : wr.drew.cell? ⟨B, 6, none⟩ = some (Value.int .i64 s.ge) := q00.cell 6 rfl
          have c07 : wr.drew.cell? ⟨B, 7, none⟩ = some (Value.int .i64 s.ep) := q00.cell 7 rfl
          have c08 : wr.drew.cell? ⟨B, 8, none⟩ = some (Value.int .i64 s.ve) := q00.cell 8 rfl
          refine wp_region_held_drew (S := (fun w' => w'.cell? ⟨B, 0, none⟩ = some (Value.int .i64 s.st) ∧ w'.cell? ⟨B, 1, none⟩ = some (Value.int .i64 s.ow) ∧ w'.cell? ⟨B, 2, none⟩ = some (Value.int .i64 s.sr) ∧ w'.cell? ⟨B, 3, none⟩ = some (Value.bool s.br) ∧ w'.cell? ⟨B, 4, none⟩ = some (Value.bool s.ma) ∧ w'.cell? ⟨B, 5, none⟩ = some (Value.int .i64 s.us) ∧ w'.cell? ⟨B, 6, none⟩ = some (Value.int .i64 s.ge) ∧ w'.cell? ⟨B, 7, none⟩ = some (Value.int .i64 s.ep) ∧ w'.cell? ⟨B, 8, none⟩ = some (Value.int .i64 s.ve) ∧ w'.cell? ⟨bS, off + j * 3, none⟩ = some (.int .i64 x.d) ∧ w'.cell? ⟨bS, off + j * 3 + 1, none⟩ = some (.int .i64 x.o))) (by kernel_rfl) ⟨c00, c01, c02, c03, c04, c05, c06, c07, c08, e00, e10⟩ (fun hS => ?_)
          generalize wr.drew = WD at *
          refine wpAnyH_take (i := 0) (oi := { dst := some 43, op := Op.load 23 (Operand.tmp 7), type := 23, pos := "law.go:52", after := #[], guard := none }) (v := ?v0_21) rfl (by kernel_rfl) (by kernel_rfl) (by kernel_rfl) (fun _ _ _ h => h) (Or.inl ⟨by rfl, ?hy0_21⟩) hS ?rest0_21
          case hy0_21 =>
            intro w hSw
            (try dsimp only at hSw)
            go_simp
            try with_reducible rfl
          try simp only [Act.put, List.setIfInBounds_toArray, List.set_cons_zero, List.set_cons_succ]
          refine wpAnyH_take (i := 1) (oi := { dst := some 44, op := Op.move (Operand.tmp 0), type := 29, pos := "law.go:52", after := #[], guard := none }) (v := ?v1_22) rfl (by kernel_rfl) (by kernel_rfl) (by kernel_rfl) (fun _ _ _ h => h) (Or.inl ⟨by rfl, ?hy1_22⟩) hS ?rest1_22
          case hy1_22 =>
            intro w hSw
            (try dsimp only at hSw)
            go_simp
            try with_reducible rfl
          try simp only [Act.put, List.setIfInBounds_toArray, List.set_cons_zero, List.set_cons_succ]
          refine wpAnyH_take (i := 2) (oi := { dst := some 45, op := Op.move (Operand.tmp 9), type := 3, pos := "law.go:52", after := #[], guard := none }) (v := ?v2_23) rfl (by kernel_rfl) (by kernel_rfl) (by kernel_rfl) (fun _ _ _ h => h) (Or.inl ⟨by rfl, ?hy2_23⟩) hS ?rest2_23
          case hy2_23 =>
            intro w hSw
            (try dsimp only at hSw)
            go_simp
            try with_reducible rfl
          try simp only [Act.put, List.setIfInBounds_toArray, List.set_cons_zero, List.set_cons_succ]
          refine wpAnyH_take (i := 3) (oi := { dst := some 46, op := Op.indexAddr 29 (Operand.tmp 44) (Operand.tmp 45), type := 0, pos := "law.go:52", after := #[{ on := 1, ground := Ground.data }, { on := 2, ground := Ground.data }], guard := none }) (v := ?v3_24) rfl (by kernel_rfl) (by kernel_rfl) (by kernel_rfl) (fun _ _ _ h => h) (Or.inl ⟨by rfl, ?hy3_24⟩) hS ?rest3_24
          case hy3_24 =>
            intro w hSw
            (try dsimp only at hSw)
            go_simp
            try with_reducible rfl
          try simp only [Act.put, List.setIfInBounds_toArray, List.set_cons_zero, List.set_cons_succ]
          refine wpAnyH_take (i := 4) (oi := { dst := some 47, op := Op.fieldAddr 31 (Operand.tmp 46) 0, type := 0, pos := "law.go:52", after := #[{ on := 3, ground := Ground.data }], guard := none }) (v := ?v4_25) rfl (by kernel_rfl) (by kernel_rfl) (by kernel_rfl) (fun _ _ _ h => h) (Or.inl ⟨by rfl, ?hy4_25⟩) hS ?rest4_25
          case hy4_25 =>
            intro w hSw
            (try dsimp only at hSw)
            go_simp
            try with_reducible rfl
          try simp only [Act.put, List.setIfInBounds_toArray, List.set_cons_zero, List.set_cons_succ]
          refine wpAnyH_take (i := 5) (oi := { dst := some 48, op := Op.load 3 (Operand.tmp 47), type := 3, pos := "law.go:52", after := #[{ on := 4, ground := Ground.data }], guard := none }) (v := ?v5_26) rfl (by kernel_rfl) (by kernel_rfl) (by kernel_rfl) (fun _ _ _ h => h) (Or.inl ⟨by rfl, ?hy5_26⟩) hS ?rest5_26
          case hy5_26 =>
            intro w hSw
            (try dsimp only at hSw)
            go_simp
            try with_reducible rfl
          try simp only [Act.put, List.setIfInBounds_toArray, List.set_cons_zero, List.set_cons_succ]
          refine wpAnyH_take (i := 6) (oi := { dst := some 49, op := Op.move (Operand.tmp 0), type := 29, pos := "law.go:52", after := #[], guard := none }) (v := ?v6_27) rfl (by kernel_rfl) (by kernel_rfl) (by kernel_rfl) (fun _ _ _ h => h) (Or.inl ⟨by rfl, ?hy6_27⟩) hS ?rest6_27
          case hy6_27 =>
            intro w hSw
            (try dsimp only at hSw)
            go_simp
            try with_reducible rfl
          try simp only [Act.put, List.setIfInBounds_toArray, List.set_cons_zero, List.set_cons_succ]
          refine wpAnyH_take (i := 7) (oi := { dst := some 50, op := Op.move (Operand.tmp 9), type := 3, pos := "law.go:52", after := #[], guard := none }) (v := ?v7_28) rfl (by kernel_rfl) (by kernel_rfl) (by kernel_rfl) (fun _ _ _ h => h) (Or.inl ⟨by rfl, ?hy7_28⟩) hS ?rest7_28
          case hy7_28 =>
            intro w hSw
            (try dsimp only at hSw)
            go_simp
            try with_reducible rfl
          try simp only [Act.put, List.setIfInBounds_toArray, List.set_cons_zero, List.set_cons_succ]
          refine wpAnyH_take (i := 8) (oi := { dst := some 51, op := Op.indexAddr 29 (Operand.tmp 49) (Operand.tmp 50), type := 0, pos := "law.go:52", after := #[{ on := 6, ground := Ground.data }, { on := 7, ground := Ground.data }], guard := none }) (v := ?v8_29) rfl (by kernel_rfl) (by kernel_rfl) (by kernel_rfl) (fun _ _ _ h => h) (Or.inl ⟨by rfl, ?hy8_29⟩) hS ?rest8_29
          case hy8_29 =>
            intro w hSw
            (try dsimp only at hSw)
            go_simp
            try with_reducible rfl
          try simp only [Act.put, List.setIfInBounds_toArray, List.set_cons_zero, List.set_cons_succ]
          refine wpAnyH_take (i := 9) (oi := { dst := some 52, op := Op.fieldAddr 31 (Operand.tmp 51) 1, type := 0, pos := "law.go:52", after := #[{ on := 8, ground := Ground.data }], guard := none }) (v := ?v9_30) rfl (by kernel_rfl) (by kernel_rfl) (by kernel_rfl) (fun _ _ _ h => h) (Or.inl ⟨by rfl, ?hy9_30⟩) hS ?rest9_30
          case hy9_30 =>
            intro w hSw
            (try dsimp only at hSw)
            go_simp
            try with_reducible rfl
          try simp only [Act.put, List.setIfInBounds_toArray, List.set_cons_zero, List.set_cons_succ]
          refine wpAnyH_take (i := 10) (oi := { dst := some 53, op := Op.load 3 (Operand.tmp 52), type := 3, pos := "law.go:52", after := #[{ on := 9, ground := Ground.data }], guard := none }) (v := ?v10_31) rfl (by kernel_rfl) (by kernel_rfl) (by kernel_rfl) (fun _ _ _ h => h) (Or.inl ⟨by rfl, ?hy10_31⟩) hS ?rest10_31
          case hy10_31 =>
            intro w hSw
            (try dsimp only at hSw)
            go_simp
            try with_reducible rfl
          try simp only [Act.put, List.setIfInBounds_toArray, List.set_cons_zero, List.set_cons_succ]
          refine wpAnyH_take (i := 11) (oi := { dst := some 54, op := Op.move (Operand.tmp 10), type := 3, pos := "law.go:52", after := #[], guard := none }) (v := ?v11_32) rfl (by kernel_rfl) (by kernel_rfl) (by kernel_rfl) (fun _ _ _ h => h) (Or.inl ⟨by rfl, ?hy11_32⟩) hS ?rest11_32
          case hy11_32 =>
            intro w hSw
            (try dsimp only at hSw)
            go_simp
            try with_reducible rfl
          try simp only [Act.put, List.setIfInBounds_toArray, List.set_cons_zero, List.set_cons_succ]
          refine wpAnyH_ready (rs := [12, 16]) (by kernel_rfl) (by simp) ?_
          refine AllReadyH.cons (o := { dst := some 55, op := Op.call { callee := Callee.value (Operand.func 11), args := #[Operand.tmp 43, Operand.tmp 48, Operand.tmp 53, Operand.tmp 54], argTypes := #[23, 3, 3, 3] }, type := 25, pos := "law.go:52", after := #[{ on := 0, ground := Ground.data }, { on := 5, ground := Ground.data }, { on := 10, ground := Ground.data }, { on := 11, ground := Ground.data }], guard := none }) rfl (fun K hK => ?_) ?_
          ·
            go_simp
            refine (CN _ HT0.out).mono ?_
            rintro e v1 ⟨rfl, hb⟩
            have q01 := q00.below hb q00.lt
            have hbw := hb.mono hB0.size
            have hB1 := hB0.trans hbw
            have HT1 := Lib.hid (HT0.out.below hb HT0.out.lt)
            have HS1 := Lib.hid (HS0.out.below hbw)
            have e01 : v1.cell? ⟨bS, off + j * 3, none⟩ = some (.int .i64 x.d) := (hbw.cell (p := ⟨bS, _, none⟩) hbn).trans e00
            have e11 : v1.cell? ⟨bS, off + j * 3 + 1, none⟩ = some (.int .i64 x.o) := (hbw.cell (p := ⟨bS, _, none⟩) hbn).trans e10
            clear hb hbw
            have c10 : v1.cell? ⟨B, 0, none⟩ = some (Value.int .i64 s.st) := q01.cell 0 rfl
            have c11 : v1.cell? ⟨B, 1, none⟩ = some (Value.int .i64 s.ow) := q01.cell 1 rfl
            have c12 : v1.cell? ⟨B, 2, none⟩ = some (Value.int .i64 s.sr) := q01.cell 2 rfl
            have c13 : v1.cell? ⟨B, 3, none⟩ = some (Value.bool s.br) := q01.cell 3 rfl
            have c14 : v1.cell? ⟨B, 4, none⟩ = some (Value.bool s.ma) := q01.cell 4 rfl
            have c15 : v1.cell? ⟨B, 5, none⟩ = some (Value.int .i64 s.us) := q01.cell 5 rfl
            have c16 : v1.cell? ⟨B, 6, none⟩ = some (Value.int .i64 s.ge) := q01.cell 6 rfl
            have c17 : v1.cell? ⟨B, 7, none⟩ = some (Value.int .i64 s.ep) := q01.cell 7 rfl
            have c18 : v1.cell? ⟨B, 8, none⟩ = some (Value.int .i64 s.ve) := q01.cell 8 rfl
            refine hK.out _ _ ⟨c10, c11, c12, c13, c14, c15, c16, c17, c18, e01, e11⟩ (fun hS => ?_)
            clear hK K
            try simp only [Act.put, List.setIfInBounds_toArray, List.set_cons_zero, List.set_cons_succ]
            refine wpAnyH_take (i := 13) (oi := { dst := some 42, op := Op.move (Operand.tmp 55), type := 25, pos := "law.go:52", after := #[{ on := 12, ground := Ground.data }], guard := none }) (v := ?v13_33) rfl (by kernel_rfl) (by kernel_rfl) (by kernel_rfl) (fun _ _ _ h => h) (Or.inl ⟨by rfl, ?hy13_33⟩) hS ?rest13_33
            case hy13_33 =>
              intro w hSw
              (try dsimp only at hSw)
              go_simp
              try with_reducible rfl
            try simp only [Act.put, List.setIfInBounds_toArray, List.set_cons_zero, List.set_cons_succ]
            refine wpAnyH_take (i := 14) (oi := { dst := some 56, op := Op.extract (Operand.tmp 42) 0, type := 23, pos := "law.go:52", after := #[{ on := 13, ground := Ground.data }], guard := none }) (v := ?v14_34) rfl (by kernel_rfl) (by kernel_rfl) (by kernel_rfl) (fun _ _ _ h => h) (Or.inl ⟨by rfl, ?hy14_34⟩) hS ?rest14_34
            case hy14_34 =>
              intro w hSw
              (try dsimp only at hSw)
              go_simp
              try with_reducible rfl
            try simp only [Act.put, List.setIfInBounds_toArray, List.set_cons_zero, List.set_cons_succ]
            refine wpAnyH_take (i := 15) (oi := { dst := some 57, op := Op.extract (Operand.tmp 42) 1, type := 4, pos := "law.go:52", after := #[{ on := 13, ground := Ground.data }, { on := 17, ground := Ground.gcOnly Departure.lateStores }], guard := none }) (v := ?v15_35) rfl (by kernel_rfl) (by kernel_rfl) (by kernel_rfl) (fun _ _ _ h => h) (Or.inl ⟨by rfl, ?hy15_35⟩) hS ?rest15_35
            case hy15_35 =>
              intro w hSw
              (try dsimp only at hSw)
              go_simp
              try with_reducible rfl
            try simp only [Act.put, List.setIfInBounds_toArray, List.set_cons_zero, List.set_cons_succ]
            refine wpAnyH_ready (rs := [16]) (by kernel_rfl) (by simp) ?_
            refine AllReadyH.cons (o := { dst := some 11, op := Op.alloc 23, type := 0, pos := "law.go:52", after := #[], guard := none }) rfl (fun K hK => ?_) AllReadyH.nil
            go_simp
            have o2 := RowAt.new v1 23 #[Value.int .i64 0, Value.int .i64 0, Value.int .i64 0, Value.bool false, Value.bool false, Value.int .i64 0, Value.int .i64 0, Value.int .i64 0, Value.int .i64 0]
            have q02 := q01.alloc (.cells #[Value.int .i64 0, Value.int .i64 0, Value.int .i64 0, Value.bool false, Value.bool false, Value.int .i64 0, Value.int .i64 0, Value.int .i64 0, Value.int .i64 0] 23)
            have hbw := (Below.refl w.heap.size v1).alloc hB1.size (.cells #[Value.int .i64 0, Value.int .i64 0, Value.int .i64 0, Value.bool false, Value.bool false, Value.int .i64 0, Value.int .i64 0, Value.int .i64 0, Value.int .i64 0] 23)
            have hB2 := hB1.trans hbw
            have HT2 := Lib.hid (HT1.out.alloc (.cells #[Value.int .i64 0, Value.int .i64 0, Value.int .i64 0, Value.bool false, Value.bool false, Value.int .i64 0, Value.int .i64 0, Value.int .i64 0, Value.int .i64 0] 23))
            have HS2 := Lib.hid (HS1.out.below hbw)
            have e02 : (v1.alloc (.cells #[Value.int .i64 0, Value.int .i64 0, Value.int .i64 0, Value.bool false, Value.bool false, Value.int .i64 0, Value.int .i64 0, Value.int .i64 0, Value.int .i64 0] 23)).cell? ⟨bS, off + j * 3, none⟩ = some (.int .i64 x.d) := (hbw.cell (p := ⟨bS, _, none⟩) hbn).trans e01
            have e12 : (v1.alloc (.cells #[Value.int .i64 0, Value.int .i64 0, Value.int .i64 0, Value.bool false, Value.bool false, Value.int .i64 0, Value.int .i64 0, Value.int .i64 0, Value.int .i64 0] 23)).cell? ⟨bS, off + j * 3 + 1, none⟩ = some (.int .i64 x.o) := (hbw.cell (p := ⟨bS, _, none⟩) hbn).trans e11
            clear hbw
            have c20 : (v1.alloc (.cells #[Value.int .i64 0, Value.int .i64 0, Value.int .i64 0, Value.bool false, Value.bool false, Value.int .i64 0, Value.int .i64 0, Value.int .i64 0, Value.int .i64 0] 23)).cell? ⟨B, 0, none⟩ = some (Value.int .i64 s.st) := q02.cell 0 rfl
            have c21 : (v1.alloc (.cells #[Value.int .i64 0, Value.int .i64 0, Value.int .i64 0, Value.bool false, Value.bool false, Value.int .i64 0, Value.int .i64 0, Value.int .i64 0, Value.int .i64 0] 23)).cell? ⟨B, 1, none⟩ = some (Value.int .i64 s.ow) := q02.cell 1 rfl
            have c22 : (v1.alloc (.cells #[Value.int .i64 0, Value.int .i64 0, Value.int .i64 0, Value.bool false, Value.bool false, Value.int .i64 0, Value.int .i64 0, Value.int .i64 0, Value.int .i64 0] 23)).cell? ⟨B, 2, none⟩ = some (Value.int .i64 s.sr) := q02.cell 2 rfl
            have c23 : (v1.alloc (.cells #[Value.int .i64 0, Value.int .i64 0, Value.int .i64 0, Value.bool false, Value.bool false, Value.int .i64 0, Value.int .i64 0, Value.int .i64 0, Value.int .i64 0] 23)).cell? ⟨B, 3, none⟩ = some (Value.bool s.br) := q02.cell 3 rfl
            have c24 : (v1.alloc (.cells #[Value.int .i64 0, Value.int .i64 0, Value.int .i64 0, Value.bool false, Value.bool false, Value.int .i64 0, Value.int .i64 0, Value.int .i64 0, Value.int .i64 0] 23)).cell? ⟨B, 4, none⟩ = some (Value.bool s.ma) := q02.cell 4 rfl
            have c25 : (v1.alloc (.cells #[Value.int .i64 0, Value.int .i64 0, Value.int .i64 0, Value.bool false, Value.bool false, Value.int .i64 0, Value.int .i64 0, Value.int .i64 0, Value.int .i64 0] 23)).cell? ⟨B, 5, none⟩ = some (Value.int .i64 s.us) := q02.cell 5 rfl
            have c26 : (v1.alloc (.cells #[Value.int .i64 0, Value.int .i64 0, Value.int .i64 0, Value.bool false, Value.bool false, Value.int .i64 0, Value.int .i64 0, Value.int .i64 0, Value.int .i64 0] 23)).cell? ⟨B, 6, none⟩ = some (Value.int .i64 s.ge) := q02.cell 6 rfl
            have c27 : (v1.alloc (.cells #[Value.int .i64 0, Value.int .i64 0, Value.int .i64 0, Value.bool false, Value.bool false, Value.int .i64 0, Value.int .i64 0, Value.int .i64 0, Value.int .i64 0] 23)).cell? ⟨B, 7, none⟩ = some (Value.int .i64 s.ep) := q02.cell 7 rfl
            have c28 : (v1.alloc (.cells #[Value.int .i64 0, Value.int .i64 0, Value.int .i64 0, Value.bool false, Value.bool false, Value.int .i64 0, Value.int .i64 0, Value.int .i64 0, Value.int .i64 0] 23)).cell? ⟨B, 8, none⟩ = some (Value.int .i64 s.ve) := q02.cell 8 rfl
            refine hK.out _ _ ⟨c20, c21, c22, c23, c24, c25, c26, c27, c28, e02, e12⟩ (fun hS => ?_)
            clear hK K
            try simp only [Act.put, List.setIfInBounds_toArray, List.set_cons_zero, List.set_cons_succ]
            refine wpAnyH_ready (rs := [17]) (by kernel_rfl) (by simp) ?_
            refine AllReadyH.cons (o := { dst := none, op := Op.store 23 (Operand.tmp 11) (Operand.tmp 56), type := 0, pos := "law.go:52", after := #[{ on := 16, ground := Ground.data }, { on := 14, ground := Ground.data }, { on := 12, ground := Ground.chain }, { on := 0, ground := Ground.phase }, { on := 1, ground := Ground.phase }, { on := 2, ground := Ground.phase }, { on := 3, ground := Ground.phase }, { on := 4, ground := Ground.phase }, { on := 5, ground := Ground.phase }, { on := 6, ground := Ground.phase }, { on := 7, ground := Ground.phase }, { on := 8, ground := Ground.phase }, { on := 9, ground := Ground.phase }, { on := 10, ground := Ground.phase }, { on := 11, ground := Ground.phase }, { on := 12, ground := Ground.phase }, { on := 13, ground := Ground.phase }, { on := 14, ground := Ground.phase }, { on := 15, ground := Ground.textOnly Departure.lateStores }, { on := 16, ground := Ground.phase }], guard := none }) rfl (fun K hK => ?_) AllReadyH.nil
            go_simp
            have RB := RowAt.new v1 23 #[Value.int .i64 t.st, Value.int .i64 t.ow, Value.int .i64 t.sr, Value.bool t.br, Value.bool t.ma, Value.int .i64 t.us, Value.int .i64 t.ge, Value.int .i64 t.ep, Value.int .i64 t.ve]
            have R0 := q01.alloc (.cells #[Value.int .i64 t.st, Value.int .i64 t.ow, Value.int .i64 t.sr, Value.bool t.br, Value.bool t.ma, Value.int .i64 t.us, Value.int .i64 t.ge, Value.int .i64 t.ep, Value.int .i64 t.ve] 23)
            have hbw := (Below.refl w.heap.size v1).alloc hB1.size (.cells #[Value.int .i64 t.st, Value.int .i64 t.ow, Value.int .i64 t.sr, Value.bool t.br, Value.bool t.ma, Value.int .i64 t.us, Value.int .i64 t.ge, Value.int .i64 t.ep, Value.int .i64 t.ve] 23)
            have HB := hB1.trans hbw
            have HT := Lib.hid (HT1.out.alloc (.cells #[Value.int .i64 t.st, Value.int .i64 t.ow, Value.int .i64 t.sr, Value.bool t.br, Value.bool t.ma, Value.int .i64 t.us, Value.int .i64 t.ge, Value.int .i64 t.ep, Value.int .i64 t.ve] 23))
            have HS := Lib.hid (HS1.out.below hbw)
            have hne := Nat.ne_of_lt q01.lt
            have f0 : (v1.alloc (.cells #[Value.int .i64 t.st, Value.int .i64 t.ow, Value.int .i64 t.sr, Value.bool t.br, Value.bool t.ma, Value.int .i64 t.us, Value.int .i64 t.ge, Value.int .i64 t.ep, Value.int .i64 t.ve] 23)).cell? ⟨bS, off + j * 3, none⟩ = some (.int .i64 x.d) := (hbw.cell (p := ⟨bS, _, none⟩) hbn).trans e01
            have f1 : (v1.alloc (.cells #[Value.int .i64 t.st, Value.int .i64 t.ow, Value.int .i64 t.sr, Value.bool t.br, Value.bool t.ma, Value.int .i64 t.us, Value.int .i64 t.ge, Value.int .i64 t.ep, Value.int .i64 t.ve] 23)).cell? ⟨bS, off + j * 3 + 1, none⟩ = some (.int .i64 x.o) := (hbw.cell (p := ⟨bS, _, none⟩) hbn).trans e11
            clear hbw
            obtain ⟨V, hV⟩ : ∃ V, V = (v1.alloc (.cells #[Value.int .i64 t.st, Value.int .i64 t.ow, Value.int .i64 t.sr, Value.bool t.br, Value.bool t.ma, Value.int .i64 t.us, Value.int .i64 t.ge, Value.int .i64 t.ep, Value.int .i64 t.ve] 23)) := ⟨_, rfl⟩
            rw [← hV] at RB R0 HB HT HS f0 f1 ⊢
            clear hV
            obtain ⟨B5, eB⟩ : ∃ B5, B5 = v1.heap.size := ⟨_, rfl⟩
            rw [← eB] at RB hne ⊢
            clear eB
            have z0 : V.cell? ⟨B, 0, none⟩ = some (Value.int .i64 s.st) := R0.cell 0 rfl
            have z1 : V.cell? ⟨B, 1, none⟩ = some (Value.int .i64 s.ow) := R0.cell 1 rfl
            have z2 : V.cell? ⟨B, 2, none⟩ = some (Value.int .i64 s.sr) := R0.cell 2 rfl
            have z3 : V.cell? ⟨B, 3, none⟩ = some (Value.bool s.br) := R0.cell 3 rfl
            have z4 : V.cell? ⟨B, 4, none⟩ = some (Value.bool s.ma) := R0.cell 4 rfl
            have z5 : V.cell? ⟨B, 5, none⟩ = some (Value.int .i64 s.us) := R0.cell 5 rfl
            have z6 : V.cell? ⟨B, 6, none⟩ = some (Value.int .i64 s.ge) := R0.cell 6 rfl
            have z7 : V.cell? ⟨B, 7, none⟩ = some (Value.int .i64 s.ep) := R0.cell 7 rfl
            have z8 : V.cell? ⟨B, 8, none⟩ = some (Value.int .i64 s.ve) := R0.cell 8 rfl
            refine hK.out _ _ ⟨z0, z1, z2, z3, z4, z5, z6, z7, z8, f0, f1⟩ (fun hS => ?_)
            clear hK K
            try simp only [Act.put, List.setIfInBounds_toArray, List.set_cons_zero, List.set_cons_succ]
            refine wpAnyH_take (i := 18) (oi := { dst := some 12, op := Op.assign (Operand.tmp 57), type := 4, pos := "law.go:52", after := #[{ on := 15, ground := Ground.data }, { on := 17, ground := Ground.chain }, { on := 0, ground := Ground.phase }, { on := 1, ground := Ground.phase }, { on := 2, ground := Ground.phase }, { on := 3, ground := Ground.phase }, { on := 4, ground := Ground.phase }, { on := 5, ground := Ground.phase }, { on := 6, ground := Ground.phase }, { on := 7, ground := Ground.phase }, { on := 8, ground := Ground.phase }, { on := 9, ground := Ground.phase }, { on := 10, ground := Ground.phase }, { on := 11, ground := Ground.phase }, { on := 12, ground := Ground.phase }, { on := 13, ground := Ground.phase }, { on := 14, ground := Ground.phase }, { on := 15, ground := Ground.phase }, { on := 16, ground := Ground.phase }, { on := 17, ground := Ground.phase }], guard := none }) (v := ?v18_36) rfl (by kernel_rfl) (by kernel_rfl) (by kernel_rfl) (fun _ _ _ h => h) (Or.inl ⟨by rfl, ?hy18_36⟩) hS ?rest18_36
            case hy18_36 =>
              intro w hSw
              (try dsimp only at hSw)
              go_simp
              try with_reducible rfl
            try simp only [Act.put, List.setIfInBounds_toArray, List.set_cons_zero, List.set_cons_succ]
            refine wpAnyH_done (by kernel_rfl) ?_ _
            clear z0 z1 z2 z3 z4 z5 z6 z7 z8 f0 f1
            cases h3 : (t.st == 3) with
            | true =>
              obtain ⟨tst, tow, tsr, tbr, tma, tus, tge, tep, tve⟩ := t
              obtain rfl : tst = 3 := by simpa using h3
              clear h3
              have RB : RowAt V B5 23 #[Value.int .i64 3, Value.int .i64 tow, Value.int .i64 tsr, Value.bool tbr, Value.bool tma, Value.int .i64 tus, Value.int .i64 tge, Value.int .i64 tep, Value.int .i64 tve] := RB
              have tsr0 : 0 ≤ tsr ∧ tsr ≤ 255 := RT.sr
              have tsr1 : tsr < 2 ^ k := ST.out.1
              have TS1 := Lib.hid tsr1
              clear tsr1
              cases h4 : (s.st == 3) with
              | true =>
                have HG : Hid (s.ge = tge) := Lib.hid (ST.out.2.2 (Or.inr (by simpa using h4))).symm
                have u0 : V.cell? ⟨B5, 0, none⟩ = some (Value.int .i64 3) := RB.cell 0 rfl
                have y0 : V.cell? ⟨B, 0, none⟩ = some (Value.int .i64 s.st) := R0.cell 0 rfl
                go_wp2_with fail
                rw [HG.out]
                clear y0
                have u2 : V.cell? ⟨B5, 2, none⟩ = some (Value.int .i64 tsr) := RB.cell 2 rfl
                go_loop [13, 14] (fun m b => ∃ (i : Nat) (y : Int), i ≤ 8 ∧ 0 ≤ y ∧ y ≤ i ∧ Hid (y = pop tsr i) ∧ m = .int .i64 y ∧ b = .int .i64 i) (fun _ b => 8 - (intOf b).toNat)
                case atStart => exact ⟨0, 0, by omega, by omega, by omega, Lib.hid rfl, rfl, rfl⟩
                case round =>
                  obtain ⟨i, y, hi, hy, hy2, hY, rfl, rfl⟩ := hrel
                  by_cases hi8 : i < 8
                  · have hb2 := pcb_bd tsr0 hi8
                    obtain ⟨z, ez⟩ : ∃ z, bits .and .i64 (tsr / 2 ^ i) 1 = z := ⟨_, rfl⟩
                    have hz : 0 ≤ z ∧ z ≤ 1 := by rw [← ez]; exact hb2
                    have HY2 := Lib.hid (show y + z = pop tsr (i + 1) by rw [← ez, hY.out]; rfl)
                    have hz0 := hz.1
                    have hz1 := hz.2
                    have hi0 : (i : Int) < 8 := by omega
                    clear hb2 hz
                    go_wp2
                    go_round
                    case rel => exact ⟨i + 1, y + z, by omega, by omega, by omega, HY2, rfl, by go_num⟩
                    case measure => simp [intOf]; omega
                  · have hi9 : i = 8 := by omega
                    subst hi9
                    have hyk : y ≤ k := by rw [hY.out]; exact pc_le tsr0 hk8 TS1.out
                    by_cases hy1 : 0 < y
                    · have u6 : V.cell? ⟨B5, 6, none⟩ = some (Value.int .i64 tge) := RB.cell 6 rfl
                      have u1 : V.cell? ⟨B5, 1, none⟩ = some (Value.int .i64 tow) := RB.cell 1 rfl
                      have u3 : V.cell? ⟨B5, 3, none⟩ = some (Value.bool tbr) := RB.cell 3 rfl
                      have u4 : V.cell? ⟨B5, 4, none⟩ = some (Value.bool tma) := RB.cell 4 rfl
                      have u5 : V.cell? ⟨B5, 5, none⟩ = some (Value.int .i64 tus) := RB.cell 5 rfl
                      have u7 : V.cell? ⟨B5, 7, none⟩ = some (Value.int .i64 tep) := RB.cell 7 rfl
                      have u8 : V.cell? ⟨B5, 8, none⟩ = some (Value.int .i64 tve) := RB.cell 8 rfl
                      go_wp2_with fail
                      refine (right_yes RT _ HT.out).mono ?_
                      rintro e V2 ⟨rfl, hb⟩
                      replace RB := RB.below hb RB.lt
                      replace R0 := R0.below hb R0.lt
                      have hbw := hb.mono HB.size
                      replace HT := Lib.hid (HT.out.below hb HT.out.lt)
                      replace HS := Lib.hid (HS.out.below hbw)
                      replace HB := HB.trans hbw
                      clear hb hbw u0 u1 u2 u3 u4 u5 u6 u7 u8
                      have k0 : V2.cell? ⟨B5, 0, none⟩ = some (Value.int .i64 3) := RB.cell 0 rfl
                      have k1 : V2.cell? ⟨B5, 1, none⟩ = some (Value.int .i64 tow) := RB.cell 1 rfl
                      have k2 : V2.cell? ⟨B5, 2, none⟩ = some (Value.int .i64 tsr) := RB.cell 2 rfl
                      have k3 : V2.cell? ⟨B5, 3, none⟩ = some (Value.bool tbr) := RB.cell 3 rfl
                      have k4 : V2.cell? ⟨B5, 4, none⟩ = some (Value.bool tma) := RB.cell 4 rfl
                      have k5 : V2.cell? ⟨B5, 5, none⟩ = some (Value.int .i64 tus) := RB.cell 5 rfl
                      have k6 : V2.cell? ⟨B5, 6, none⟩ = some (Value.int .i64 tge) := RB.cell 6 rfl
                      have k7 : V2.cell? ⟨B5, 7, none⟩ = some (Value.int .i64 tep) := RB.cell 7 rfl
                      have k8 : V2.cell? ⟨B5, 8, none⟩ = some (Value.int .i64 tve) := RB.cell 8 rfl
                      go_wp2_with (refine wpList_store_row rfl 23 _ _ rfl _ #[Value.int .i64 3, Value.int .i64 tow, Value.int .i64 tsr, Value.bool tbr, Value.bool tma, Value.int .i64 tus, Value.int .i64 tge, Value.int .i64 tep, Value.int .i64 tve] rfl rfl 23 _ R0 (by kernel_rfl) rfl (by simp [Value.oneCell']) ?_)
                      clear k0 k1 k2 k3 k4 k5 k6 k7 k8
                      have HTE := Lib.hid (HT.out.below (below_setRow (Below.refl B V2) (Nat.le_refl _) #[Value.int .i64 3, Value.int .i64 tow, Value.int .i64 tsr, Value.bool tbr, Value.bool tma, Value.int .i64 tus, Value.int .i64 tge, Value.int .i64 tep, Value.int .i64 tve]) h2B)
                      have HSE := Lib.hid (HS.out.below (below_setRow (Below.refl w.heap.size V2) hle #[Value.int .i64 3, Value.int .i64 tow, Value.int .i64 tsr, Value.bool tbr, Value.bool tma, Value.int .i64 tus, Value.int .i64 tge, Value.int .i64 tep, Value.int .i64 tve]))
                      have HBE := below_setRow HB hle #[Value.int .i64 3, Value.int .i64 tow, Value.int .i64 tsr, Value.bool tbr, Value.bool tma, Value.int .i64 tus, Value.int .i64 tge, Value.int .i64 tep, Value.int .i64 tve]
                      have R9 := R0.set #[Value.int .i64 3, Value.int .i64 tow, Value.int .i64 tsr, Value.bool tbr, Value.bool tma, Value.int .i64 tus, Value.int .i64 tge, Value.int .i64 tep, Value.int .i64 tve]
                      have hge2 : tge ≤ ((j + 1 : Nat) : Int) := by rw [← HG.out]; omega
                      go_roundw
                      case rel => exact ⟨j + 1, ⟨3, tow, tsr, tbr, tma, tus, tge, tep, tve⟩, by omega, by go_num, rfl, RT, hge2, TS1.out, R9, HTE, HSE, HBE⟩
                      case measure => simp [intOf]; omega
                    · have u6 : V.cell? ⟨B5, 6, none⟩ = some (Value.int .i64 tge) := RB.cell 6 rfl
                      have u1 : V.cell? ⟨B5, 1, none⟩ = some (Value.int .i64 tow) := RB.cell 1 rfl
                      have u3 : V.cell? ⟨B5, 3, none⟩ = some (Value.bool tbr) := RB.cell 3 rfl
                      have u4 : V.cell? ⟨B5, 4, none⟩ = some (Value.bool tma) := RB.cell 4 rfl
                      have u5 : V.cell? ⟨B5, 5, none⟩ = some (Value.int .i64 tus) := RB.cell 5 rfl
                      have u7 : V.cell? ⟨B5, 7, none⟩ = some (Value.int .i64 tep) := RB.cell 7 rfl
                      have u8 : V.cell? ⟨B5, 8, none⟩ = some (Value.int .i64 tve) := RB.cell 8 rfl
                      go_wp2_with fail
                      refine (right_yes RT _ HT.out).mono ?_
                      rintro e V2 ⟨rfl, hb⟩
                      replace RB := RB.below hb RB.lt
                      replace R0 := R0.below hb R0.lt
                      have hbw := hb.mono HB.size
                      replace HT := Lib.hid (HT.out.below hb HT.out.lt)
                      replace HS := Lib.hid (HS.out.below hbw)
                      replace HB := HB.trans hbw
                      clear hb hbw u0 u1 u2 u3 u4 u5 u6 u7 u8
                      have k0 : V2.cell? ⟨B5, 0, none⟩ = some (Value.int .i64 3) := RB.cell 0 rfl
                      have k1 : V2.cell? ⟨B5, 1, none⟩ = some (Value.int .i64 tow) := RB.cell 1 rfl
                      have k2 : V2.cell? ⟨B5, 2, none⟩ = some (Value.int .i64 tsr) := RB.cell 2 rfl
                      have k3 : V2.cell? ⟨B5, 3, none⟩ = some (Value.bool tbr) := RB.cell 3 rfl
                      have k4 : V2.cell? ⟨B5, 4, none⟩ = some (Value.bool tma) := RB.cell 4 rfl
                      have k5 : V2.cell? ⟨B5, 5, none⟩ = some (Value.int .i64 tus) := RB.cell 5 rfl
                      have k6 : V2.cell? ⟨B5, 6, none⟩ = some (Value.int .i64 tge) := RB.cell 6 rfl
                      have k7 : V2.cell? ⟨B5, 7, none⟩ = some (Value.int .i64 tep) := RB.cell 7 rfl
                      have k8 : V2.cell? ⟨B5, 8, none⟩ = some (Value.int .i64 tve) := RB.cell 8 rfl
                      go_wp2_with (refine wpList_store_row rfl 23 _ _ rfl _ #[Value.int .i64 3, Value.int .i64 tow, Value.int .i64 tsr, Value.bool tbr, Value.bool tma, Value.int .i64 tus, Value.int .i64 tge, Value.int .i64 tep, Value.int .i64 tve] rfl rfl 23 _ R0 (by kernel_rfl) rfl (by simp [Value.oneCell']) ?_)
                      clear k0 k1 k2 k3 k4 k5 k6 k7 k8
                      have HTE := Lib.hid (HT.out.below (below_setRow (Below.refl B V2) (Nat.le_refl _) #[Value.int .i64 3, Value.int .i64 tow, Value.int .i64 tsr, Value.bool tbr, Value.bool tma, Value.int .i64 tus, Value.int .i64 tge, Value.int .i64 tep, Value.int .i64 tve]) h2B)
                      have HSE := Lib.hid (HS.out.below (below_setRow (Below.refl w.heap.size V2) hle #[Value.int .i64 3, Value.int .i64 tow, Value.int .i64 tsr, Value.bool tbr, Value.bool tma, Value.int .i64 tus, Value.int .i64 tge, Value.int .i64 tep, Value.int .i64 tve]))
                      have HBE := below_setRow HB hle #[Value.int .i64 3, Value.int .i64 tow, Value.int .i64 tsr, Value.bool tbr, Value.bool tma, Value.int .i64 tus, Value.int .i64 tge, Value.int .i64 tep, Value.int .i64 tve]
                      have R9 := R0.set #[Value.int .i64 3, Value.int .i64 tow, Value.int .i64 tsr, Value.bool tbr, Value.bool tma, Value.int .i64 tus, Value.int .i64 tge, Value.int .i64 tep, Value.int .i64 tve]
                      have hge2 : tge ≤ ((j + 1 : Nat) : Int) := by rw [← HG.out]; omega
                      go_roundw
                      case rel => exact ⟨j + 1, ⟨3, tow, tsr, tbr, tma, tus, tge, tep, tve⟩, by omega, by go_num, rfl, RT, hge2, TS1.out, R9, HTE, HSE, HBE⟩
                      case measure => simp [intOf]; omega
              | false =>
                have HG : Hid (s.ge + 1 = tge) := Lib.hid (ST.out.2.1 rfl (by simpa using h4)).symm
                have u0 : V.cell? ⟨B5, 0, none⟩ = some (Value.int .i64 3) := RB.cell 0 rfl
                have y0 : V.cell? ⟨B, 0, none⟩ = some (Value.int .i64 s.st) := R0.cell 0 rfl
                go_wp2_with fail
                rw [HG.out]
                clear y0
                have u2 : V.cell? ⟨B5, 2, none⟩ = some (Value.int .i64 tsr) := RB.cell 2 rfl
                go_loop [13, 14] (fun m b => ∃ (i : Nat) (y : Int), i ≤ 8 ∧ 0 ≤ y ∧ y ≤ i ∧ Hid (y = pop tsr i) ∧ m = .int .i64 y ∧ b = .int .i64 i) (fun _ b => 8 - (intOf b).toNat)
                case atStart => exact ⟨0, 0, by omega, by omega, by omega, Lib.hid rfl, rfl, rfl⟩
                case round =>
                  obtain ⟨i, y, hi, hy, hy2, hY, rfl, rfl⟩ := hrel
                  by_cases hi8 : i < 8
                  · have hb2 := pcb_bd tsr0 hi8
                    obtain ⟨z, ez⟩ : ∃ z, bits .and .i64 (tsr / 2 ^ i) 1 = z := ⟨_, rfl⟩
                    have hz : 0 ≤ z ∧ z ≤ 1 := by rw [← ez]; exact hb2
                    have HY2 := Lib.hid (show y + z = pop tsr (i + 1) by rw [← ez, hY.out]; rfl)
                    have hz0 := hz.1
                    have hz1 := hz.2
                    have hi0 : (i : Int) < 8 := by omega
                    clear hb2 hz
                    go_wp2
                    go_round
                    case rel => exact ⟨i + 1, y + z, by omega, by omega, by omega, HY2, rfl, by go_num⟩
                    case measure => simp [intOf]; omega
                  · have hi9 : i = 8 := by omega
                    subst hi9
                    have hyk : y ≤ k := by rw [hY.out]; exact pc_le tsr0 hk8 TS1.out
                    by_cases hy1 : 0 < y
                    · have u6 : V.cell? ⟨B5, 6, none⟩ = some (Value.int .i64 tge) := RB.cell 6 rfl
                      have u1 : V.cell? ⟨B5, 1, none⟩ = some (Value.int .i64 tow) := RB.cell 1 rfl
                      have u3 : V.cell? ⟨B5, 3, none⟩ = some (Value.bool tbr) := RB.cell 3 rfl
                      have u4 : V.cell? ⟨B5, 4, none⟩ = some (Value.bool tma) := RB.cell 4 rfl
                      have u5 : V.cell? ⟨B5, 5, none⟩ = some (Value.int .i64 tus) := RB.cell 5 rfl
                      have u7 : V.cell? ⟨B5, 7, none⟩ = some (Value.int .i64 tep) := RB.cell 7 rfl
                      have u8 : V.cell? ⟨B5, 8, none⟩ = some (Value.int .i64 tve) := RB.cell 8 rfl
                      go_wp2_with fail
                      refine (right_yes RT _ HT.out).mono ?_
                      rintro e V2 ⟨rfl, hb⟩
                      replace RB := RB.below hb RB.lt
                      replace R0 := R0.below hb R0.lt
                      have hbw := hb.mono HB.size
                      replace HT := Lib.hid (HT.out.below hb HT.out.lt)
                      replace HS := Lib.hid (HS.out.below hbw)
                      replace HB := HB.trans hbw
                      clear hb hbw u0 u1 u2 u3 u4 u5 u6 u7 u8
                      have k0 : V2.cell? ⟨B5, 0, none⟩ = some (Value.int .i64 3) := RB.cell 0 rfl
                      have k1 : V2.cell? ⟨B5, 1, none⟩ = some (Value.int .i64 tow) := RB.cell 1 rfl
                      have k2 : V2.cell? ⟨B5, 2, none⟩ = some (Value.int .i64 tsr) := RB.cell 2 rfl
                      have k3 : V2.cell? ⟨B5, 3, none⟩ = some (Value.bool tbr) := RB.cell 3 rfl
                      have k4 : V2.cell? ⟨B5, 4, none⟩ = some (Value.bool tma) := RB.cell 4 rfl
                      have k5 : V2.cell? ⟨B5, 5, none⟩ = some (Value.int .i64 tus) := RB.cell 5 rfl
                      have k6 : V2.cell? ⟨B5, 6, none⟩ = some (Value.int .i64 tge) := RB.cell 6 rfl
                      have k7 : V2.cell? ⟨B5, 7, none⟩ = some (Value.int .i64 tep) := RB.cell 7 rfl
                      have k8 : V2.cell? ⟨B5, 8, none⟩ = some (Value.int .i64 tve) := RB.cell 8 rfl
                      go_wp2_with (refine wpList_store_row rfl 23 _ _ rfl _ #[Value.int .i64 3, Value.int .i64 tow, Value.int .i64 tsr, Value.bool tbr, Value.bool tma, Value.int .i64 tus, Value.int .i64 tge, Value.int .i64 tep, Value.int .i64 tve] rfl rfl 23 _ R0 (by kernel_rfl) rfl (by simp [Value.oneCell']) ?_)
                      clear k0 k1 k2 k3 k4 k5 k6 k7 k8
                      have HTE := Lib.hid (HT.out.below (below_setRow (Below.refl B V2) (Nat.le_refl _) #[Value.int .i64 3, Value.int .i64 tow, Value.int .i64 tsr, Value.bool tbr, Value.bool tma, Value.int .i64 tus, Value.int .i64 tge, Value.int .i64 tep, Value.int .i64 tve]) h2B)
                      have HSE := Lib.hid (HS.out.below (below_setRow (Below.refl w.heap.size V2) hle #[Value.int .i64 3, Value.int .i64 tow, Value.int .i64 tsr, Value.bool tbr, Value.bool tma, Value.int .i64 tus, Value.int .i64 tge, Value.int .i64 tep, Value.int .i64 tve]))
                      have HBE := below_setRow HB hle #[Value.int .i64 3, Value.int .i64 tow, Value.int .i64 tsr, Value.bool tbr, Value.bool tma, Value.int .i64 tus, Value.int .i64 tge, Value.int .i64 tep, Value.int .i64 tve]
                      have R9 := R0.set #[Value.int .i64 3, Value.int .i64 tow, Value.int .i64 tsr, Value.bool tbr, Value.bool tma, Value.int .i64 tus, Value.int .i64 tge, Value.int .i64 tep, Value.int .i64 tve]
                      have hge2 : tge ≤ ((j + 1 : Nat) : Int) := by rw [← HG.out]; omega
                      go_roundw
                      case rel => exact ⟨j + 1, ⟨3, tow, tsr, tbr, tma, tus, tge, tep, tve⟩, by omega, by go_num, rfl, RT, hge2, TS1.out, R9, HTE, HSE, HBE⟩
                      case measure => simp [intOf]; omega
                    · have u6 : V.cell? ⟨B5, 6, none⟩ = some (Value.int .i64 tge) := RB.cell 6 rfl
                      have u1 : V.cell? ⟨B5, 1, none⟩ = some (Value.int .i64 tow) := RB.cell 1 rfl
                      have u3 : V.cell? ⟨B5, 3, none⟩ = some (Value.bool tbr) := RB.cell 3 rfl
                      have u4 : V.cell? ⟨B5, 4, none⟩ = some (Value.bool tma) := RB.cell 4 rfl
                      have u5 : V.cell? ⟨B5, 5, none⟩ = some (Value.int .i64 tus) := RB.cell 5 rfl
                      have u7 : V.cell? ⟨B5, 7, none⟩ = some (Value.int .i64 tep) := RB.cell 7 rfl
                      have u8 : V.cell? ⟨B5, 8, none⟩ = some (Value.int .i64 tve) := RB.cell 8 rfl
                      go_wp2_with fail
                      refine (right_yes RT _ HT.out).mono ?_
                      rintro e V2 ⟨rfl, hb⟩
                      replace RB := RB.below hb RB.lt
                      replace R0 := R0.below hb R0.lt
                      have hbw := hb.mono HB.size
                      replace HT := Lib.hid (HT.out.below hb HT.out.lt)
                      replace HS := Lib.hid (HS.out.below hbw)
                      replace HB := HB.trans hbw
                      clear hb hbw u0 u1 u2 u3 u4 u5 u6 u7 u8
                      have k0 : V2.cell? ⟨B5, 0, none⟩ = some (Value.int .i64 3) := RB.cell 0 rfl
                      have k1 : V2.cell? ⟨B5, 1, none⟩ = some (Value.int .i64 tow) := RB.cell 1 rfl
                      have k2 : V2.cell? ⟨B5, 2, none⟩ = some (Value.int .i64 tsr) := RB.cell 2 rfl
                      have k3 : V2.cell? ⟨B5, 3, none⟩ = some (Value.bool tbr) := RB.cell 3 rfl
                      have k4 : V2.cell? ⟨B5, 4, none⟩ = some (Value.bool tma) := RB.cell 4 rfl
                      have k5 : V2.cell? ⟨B5, 5, none⟩ = some (Value.int .i64 tus) := RB.cell 5 rfl
                      have k6 : V2.cell? ⟨B5, 6, none⟩ = some (Value.int .i64 tge) := RB.cell 6 rfl
                      have k7 : V2.cell? ⟨B5, 7, none⟩ = some (Value.int .i64 tep) := RB.cell 7 rfl
                      have k8 : V2.cell? ⟨B5, 8, none⟩ = some (Value.int .i64 tve) := RB.cell 8 rfl
                      go_wp2_with (refine wpList_store_row rfl 23 _ _ rfl _ #[Value.int .i64 3, Value.int .i64 tow, Value.int .i64 tsr, Value.bool tbr, Value.bool tma, Value.int .i64 tus, Value.int .i64 tge, Value.int .i64 tep, Value.int .i64 tve] rfl rfl 23 _ R0 (by kernel_rfl) rfl (by simp [Value.oneCell']) ?_)
                      clear k0 k1 k2 k3 k4 k5 k6 k7 k8
                      have HTE := Lib.hid (HT.out.below (below_setRow (Below.refl B V2) (Nat.le_refl _) #[Value.int .i64 3, Value.int .i64 tow, Value.int .i64 tsr, Value.bool tbr, Value.bool tma, Value.int .i64 tus, Value.int .i64 tge, Value.int .i64 tep, Value.int .i64 tve]) h2B)
                      have HSE := Lib.hid (HS.out.below (below_setRow (Below.refl w.heap.size V2) hle #[Value.int .i64 3, Value.int .i64 tow, Value.int .i64 tsr, Value.bool tbr, Value.bool tma, Value.int .i64 tus, Value.int .i64 tge, Value.int .i64 tep, Value.int .i64 tve]))
                      have HBE := below_setRow HB hle #[Value.int .i64 3, Value.int .i64 tow, Value.int .i64 tsr, Value.bool tbr, Value.bool tma, Value.int .i64 tus, Value.int .i64 tge, Value.int .i64 tep, Value.int .i64 tve]
                      have R9 := R0.set #[Value.int .i64 3, Value.int .i64 tow, Value.int .i64 tsr, Value.bool tbr, Value.bool tma, Value.int .i64 tus, Value.int .i64 tge, Value.int .i64 tep, Value.int .i64 tve]
                      have hge2 : tge ≤ ((j + 1 : Nat) : Int) := by rw [← HG.out]; omega
                      go_roundw
                      case rel => exact ⟨j + 1, ⟨3, tow, tsr, tbr, tma, tus, tge, tep, tve⟩, by omega, by go_num, rfl, RT, hge2, TS1.out, R9, HTE, HSE, HBE⟩
                      case measure => simp [intOf]; omega
            | false =>
              have HG := Lib.hid (ST.out.2.2 (Or.inl (by simpa using h3))).symm
              have u0 : V.cell? ⟨B5, 0, none⟩ = some (Value.int .i64 t.st) := RB.cell 0 rfl
              have y0 : V.cell? ⟨B, 0, none⟩ = some (Value.int .i64 s.st) := R0.cell 0 rfl
              go_wp2_with fail
              rw [HG.out]
              clear y0
              have u2 : V.cell? ⟨B5, 2, none⟩ = some (Value.int .i64 t.sr) := RB.cell 2 rfl
              go_loop [13, 14] (fun m b => ∃ (i : Nat) (y : Int), i ≤ 8 ∧ 0 ≤ y ∧ y ≤ i ∧ Hid (y = pop t.sr i) ∧ m = .int .i64 y ∧ b = .int .i64 i) (fun _ b => 8 - (intOf b).toNat)
              case atStart => exact ⟨0, 0, by omega, by omega, by omega, Lib.hid rfl, rfl, rfl⟩
              case round =>
                obtain ⟨i, y, hi, hy, hy2, hY, rfl, rfl⟩ := hrel
                by_cases hi8 : i < 8
                · have hb2 := pcb_bd RT.sr hi8
                  obtain ⟨z, ez⟩ : ∃ z, bits .and .i64 (t.sr / 2 ^ i) 1 = z := ⟨_, rfl⟩
                  have hz : 0 ≤ z ∧ z ≤ 1 := by rw [← ez]; exact hb2
                  have HY2 := Lib.hid (show y + z = pop t.sr (i + 1) by rw [← ez, hY.out]; rfl)
                  have hz0 := hz.1
                  have hz1 := hz.2
                  have hi0 : (i : Int) < 8 := by omega
                  clear hb2 hz
                  go_wp2
                  go_round
                  case rel => exact ⟨i + 1, y + z, by omega, by omega, by omega, HY2, rfl, by go_num⟩
                  case measure => simp [intOf]; omega
                · have hi9 : i = 8 := by omega
                  subst hi9
                  have hyk : y ≤ k := by rw [hY.out]; exact pc_le RT.sr hk8 ST.out.1
                  have hy0 : ¬ 0 < y := by
                    have z0 : t.sr = 0 := by
                      have := RT.hsr
                      have q := RT.sr
                      have h3b : ¬ t.st = 3 := by simpa using h3
                      omega
                    rw [hY.out, z0, pc0]
                    omega
                  have u6 : V.cell? ⟨B5, 6, none⟩ = some (Value.int .i64 t.ge) := RB.cell 6 rfl
                  have u1 : V.cell? ⟨B5, 1, none⟩ = some (Value.int .i64 t.ow) := RB.cell 1 rfl
                  have u3 : V.cell? ⟨B5, 3, none⟩ = some (Value.bool t.br) := RB.cell 3 rfl
                  have u4 : V.cell? ⟨B5, 4, none⟩ = some (Value.bool t.ma) := RB.cell 4 rfl
                  have u5 : V.cell? ⟨B5, 5, none⟩ = some (Value.int .i64 t.us) := RB.cell 5 rfl
                  have u7 : V.cell? ⟨B5, 7, none⟩ = some (Value.int .i64 t.ep) := RB.cell 7 rfl
                  have u8 : V.cell? ⟨B5, 8, none⟩ = some (Value.int .i64 t.ve) := RB.cell 8 rfl
                  go_wp2_with fail
                  refine (right_yes RT _ HT.out).mono ?_
                  rintro e V2 ⟨rfl, hb⟩
                  replace RB := RB.below hb RB.lt
                  replace R0 := R0.below hb R0.lt
                  have hbw := hb.mono HB.size
                  replace HT := Lib.hid (HT.out.below hb HT.out.lt)
                  replace HS := Lib.hid (HS.out.below hbw)
                  replace HB := HB.trans hbw
                  clear hb hbw u0 u1 u2 u3 u4 u5 u6 u7 u8
                  have k0 : V2.cell? ⟨B5, 0, none⟩ = some (Value.int .i64 t.st) := RB.cell 0 rfl
                  have k1 : V2.cell? ⟨B5, 1, none⟩ = some (Value.int .i64 t.ow) := RB.cell 1 rfl
                  have k2 : V2.cell? ⟨B5, 2, none⟩ = some (Value.int .i64 t.sr) := RB.cell 2 rfl
                  have k3 : V2.cell? ⟨B5, 3, none⟩ = some (Value.bool t.br) := RB.cell 3 rfl
                  have k4 : V2.cell? ⟨B5, 4, none⟩ = some (Value.bool t.ma) := RB.cell 4 rfl
                  have k5 : V2.cell? ⟨B5, 5, none⟩ = some (Value.int .i64 t.us) := RB.cell 5 rfl
                  have k6 : V2.cell? ⟨B5, 6, none⟩ = some (Value.int .i64 t.ge) := RB.cell 6 rfl
                  have k7 : V2.cell? ⟨B5, 7, none⟩ = some (Value.int .i64 t.ep) := RB.cell 7 rfl
                  have k8 : V2.cell? ⟨B5, 8, none⟩ = some (Value.int .i64 t.ve) := RB.cell 8 rfl
                  go_wp2_with (refine wpList_store_row rfl 23 _ _ rfl _ #[Value.int .i64 t.st, Value.int .i64 t.ow, Value.int .i64 t.sr, Value.bool t.br, Value.bool t.ma, Value.int .i64 t.us, Value.int .i64 t.ge, Value.int .i64 t.ep, Value.int .i64 t.ve] rfl rfl 23 _ R0 (by kernel_rfl) rfl (by simp [Value.oneCell']) ?_)
                  clear k0 k1 k2 k3 k4 k5 k6 k7 k8
                  have HTE := Lib.hid (HT.out.below (below_setRow (Below.refl B V2) (Nat.le_refl _) #[Value.int .i64 t.st, Value.int .i64 t.ow, Value.int .i64 t.sr, Value.bool t.br, Value.bool t.ma, Value.int .i64 t.us, Value.int .i64 t.ge, Value.int .i64 t.ep, Value.int .i64 t.ve]) h2B)
                  have HSE := Lib.hid (HS.out.below (below_setRow (Below.refl w.heap.size V2) hle #[Value.int .i64 t.st, Value.int .i64 t.ow, Value.int .i64 t.sr, Value.bool t.br, Value.bool t.ma, Value.int .i64 t.us, Value.int .i64 t.ge, Value.int .i64 t.ep, Value.int .i64 t.ve]))
                  have HBE := below_setRow HB hle #[Value.int .i64 t.st, Value.int .i64 t.ow, Value.int .i64 t.sr, Value.bool t.br, Value.bool t.ma, Value.int .i64 t.us, Value.int .i64 t.ge, Value.int .i64 t.ep, Value.int .i64 t.ve]
                  have R9 := R0.set #[Value.int .i64 t.st, Value.int .i64 t.ow, Value.int .i64 t.sr, Value.bool t.br, Value.bool t.ma, Value.int .i64 t.us, Value.int .i64 t.ge, Value.int .i64 t.ep, Value.int .i64 t.ve]
                  have hge2 : t.ge ≤ ((j + 1 : Nat) : Int) := by rw [← HG.out]; omega
                  go_roundw
                  case rel => exact ⟨j + 1, t, by omega, by go_num, rfl, RT, hge2, ST.out.1, R9, HTE, HSE, HBE⟩
                  case measure => simp [intOf]; omega
          refine AllReadyH.cons (o := { dst := some 11, op := Op.alloc 23, type := 0, pos := "law.go:52", after := #[], guard := none }) rfl (fun K hK => ?_) AllReadyH.nil
          go_simp
          have o1 := RowAt.new WD 23 #[Value.int .i64 0, Value.int .i64 0, Value.int .i64 0, Value.bool false, Value.bool false, Value.int .i64 0, Value.int .i64 0, Value.int .i64 0, Value.int .i64 0]
          have q01 := q00.alloc (.cells #[Value.int .i64 0, Value.int .i64 0, Value.int .i64 0, Value.bool false, Value.bool false, Value.int .i64 0, Value.int .i64 0, Value.int .i64 0, Value.int .i64 0] 23)
          have hbw := (Below.refl w.heap.size WD).alloc hB0.size (.cells #[Value.int .i64 0, Value.int .i64 0, Value.int .i64 0, Value.bool false, Value.bool false, Value.int .i64 0, Value.int .i64 0, Value.int .i64 0, Value.int .i64 0] 23)
          have hB1 := hB0.trans hbw
          have HT1 := Lib.hid (HT0.out.alloc (.cells #[Value.int .i64 0, Value.int .i64 0, Value.int .i64 0, Value.bool false, Value.bool false, Value.int .i64 0, Value.int .i64 0, Value.int .i64 0, Value.int .i64 0] 23))
          have HS1 := Lib.hid (HS0.out.below hbw)
          have e01 : (WD.alloc (.cells #[Value.int .i64 0, Value.int .i64 0, Value.int .i64 0, Value.bool false, Value.bool false, Value.int .i64 0, Value.int .i64 0, Value.int .i64 0, Value.int .i64 0] 23)).cell? ⟨bS, off + j * 3, none⟩ = some (.int .i64 x.d) := (hbw.cell (p := ⟨bS, _, none⟩) hbn).trans e00
          have e11 : (WD.alloc (.cells #[Value.int .i64 0, Value.int .i64 0, Value.int .i64 0, Value.bool false, Value.bool false, Value.int .i64 0, Value.int .i64 0, Value.int .i64 0, Value.int .i64 0] 23)).cell? ⟨bS, off + j * 3 + 1, none⟩ = some (.int .i64 x.o) := (hbw.cell (p := ⟨bS, _, none⟩) hbn).trans e10
          clear hbw
          have c10 : (WD.alloc (.cells #[Value.int .i64 0, Value.int .i64 0, Value.int .i64 0, Value.bool false, Value.bool false, Value.int .i64 0, Value.int .i64 0, Value.int .i64 0, Value.int .i64 0] 23)).cell? ⟨B, 0, none⟩ = some (Value.int .i64 s.st) := q01.cell 0 rfl
          have c11 : (WD.alloc (.cells #[Value.int .i64 0, Value.int .i64 0, Value.int .i64 0, Value.bool false, Value.bool false, Value.int .i64 0, Value.int .i64 0, Value.int .i64 0, Value.int .i64 0] 23)).cell? ⟨B, 1, none⟩ = some (Value.int .i64 s.ow) := q01.cell 1 rfl
          have c12 : (WD.alloc (.cells #[Value.int .i64 0, Value.int .i64 0, Value.int .i64 0, Value.bool false, Value.bool false, Value.int .i64 0, Value.int .i64 0, Value.int .i64 0, Value.int .i64 0] 23)).cell? ⟨B, 2, none⟩ = some (Value.int .i64 s.sr) := q01.cell 2 rfl
          have c13 : (WD.alloc (.cells #[Value.int .i64 0, Value.int .i64 0, Value.int .i64 0, Value.bool false, Value.bool false, Value.int .i64 0, Value.int .i64 0, Value.int .i64 0, Value.int .i64 0] 23)).cell? ⟨B, 3, none⟩ = some (Value.bool s.br) := q01.cell 3 rfl
          have c14 : (WD.alloc (.cells #[Value.int .i64 0, Value.int .i64 0, Value.int .i64 0, Value.bool false, Value.bool false, Value.int .i64 0, Value.int .i64 0, Value.int .i64 0, Value.int .i64 0] 23)).cell? ⟨B, 4, none⟩ = some (Value.bool s.ma) := q01.cell 4 rfl
          have c15 : (WD.alloc (.cells #[Value.int .i64 0, Value.int .i64 0, Value.int .i64 0, Value.bool false, Value.bool false, Value.int .i64 0, Value.int .i64 0, Value.int .i64 0, Value.int .i64 0] 23)).cell? ⟨B, 5, none⟩ = some (Value.int .i64 s.us) := q01.cell 5 rfl
          have c16 : (WD.alloc (.cells #[Value.int .i64 0, Value.int .i64 0, Value.int .i64 0, Value.bool false, Value.bool false, Value.int .i64 0, Value.int .i64 0, Value.int .i64 0, Value.int .i64 0] 23)).cell? ⟨B, 6, none⟩ = some (Value.int .i64 s.ge) := q01.cell 6 rfl
          have c17 : (WD.alloc (.cells #[Value.int .i64 0, Value.int .i64 0, Value.int .i64 0, Value.bool false, Value.bool false, Value.int .i64 0, Value.int .i64 0, Value.int .i64 0, Value.int .i64 0] 23)).cell? ⟨B, 7, none⟩ = some (Value.int .i64 s.ep) := q01.cell 7 rfl
          have c18 : (WD.alloc (.cells #[Value.int .i64 0, Value.int .i64 0, Value.int .i64 0, Value.bool false, Value.bool false, Value.int .i64 0, Value.int .i64 0, Value.int .i64 0, Value.int .i64 0] 23)).cell? ⟨B, 8, none⟩ = some (Value.int .i64 s.ve) := q01.cell 8 rfl
          refine hK.out _ _ ⟨c10, c11, c12, c13, c14, c15, c16, c17, c18, e01, e11⟩ (fun hS => ?_)
          clear hK K
          try simp only [Act.put, List.setIfInBounds_toArray, List.set_cons_zero, List.set_cons_succ]
          refine wpAnyH_ready (rs := [12]) (by kernel_rfl) (by simp) ?_
          refine AllReadyH.cons (o := { dst := some 55, op := Op.call { callee := Callee.value (Operand.func 11), args := #[Operand.tmp 43, Operand.tmp 48, Operand.tmp 53, Operand.tmp 54], argTypes := #[23, 3, 3, 3] }, type := 25, pos := "law.go:52", after := #[{ on := 0, ground := Ground.data }, { on := 5, ground := Ground.data }, { on := 10, ground := Ground.data }, { on := 11, ground := Ground.data }], guard := none }) rfl (fun K hK => ?_) AllReadyH.nil
          go_simp
          refine (CN _ HT1.out).mono ?_
          rintro e v2 ⟨rfl, hb⟩
          have q02 := q01.below hb q01.lt
          have hbw := hb.mono hB1.size
          have hB2 := hB1.trans hbw
          have HT2 := Lib.hid (HT1.out.below hb HT1.out.lt)
          have HS2 := Lib.hid (HS1.out.below hbw)
          have o2 := o1.below hb o1.lt
          have d0 : v2.cell? ⟨WD.heap.size, 0, none⟩ = some (Value.int .i64 0) := o2.cell 0 rfl
          have d1 : v2.cell? ⟨WD.heap.size, 1, none⟩ = some (Value.int .i64 0) := o2.cell 1 rfl
          have d2 : v2.cell? ⟨WD.heap.size, 2, none⟩ = some (Value.int .i64 0) := o2.cell 2 rfl
          have d3 : v2.cell? ⟨WD.heap.size, 3, none⟩ = some (Value.bool false) := o2.cell 3 rfl
          have d4 : v2.cell? ⟨WD.heap.size, 4, none⟩ = some (Value.bool false) := o2.cell 4 rfl
          have d5 : v2.cell? ⟨WD.heap.size, 5, none⟩ = some (Value.int .i64 0) := o2.cell 5 rfl
          have d6 : v2.cell? ⟨WD.heap.size, 6, none⟩ = some (Value.int .i64 0) := o2.cell 6 rfl
          have d7 : v2.cell? ⟨WD.heap.size, 7, none⟩ = some (Value.int .i64 0) := o2.cell 7 rfl
          have d8 : v2.cell? ⟨WD.heap.size, 8, none⟩ = some (Value.int .i64 0) := o2.cell 8 rfl
          have g0 : v2.frozen? ⟨WD.heap.size, 0, none⟩ = false := o2.frozen 0
          have g1 : v2.frozen? ⟨WD.heap.size, 1, none⟩ = false := o2.frozen 1
          have g2 : v2.frozen? ⟨WD.heap.size, 2, none⟩ = false := o2.frozen 2
          have g3 : v2.frozen? ⟨WD.heap.size, 3, none⟩ = false := o2.frozen 3
          have g4 : v2.frozen? ⟨WD.heap.size, 4, none⟩ = false := o2.frozen 4
          have g5 : v2.frozen? ⟨WD.heap.size, 5, none⟩ = false := o2.frozen 5
          have g6 : v2.frozen? ⟨WD.heap.size, 6, none⟩ = false := o2.frozen 6
          have g7 : v2.frozen? ⟨WD.heap.size, 7, none⟩ = false := o2.frozen 7
          have g8 : v2.frozen? ⟨WD.heap.size, 8, none⟩ = false := o2.frozen 8
          have e02 : v2.cell? ⟨bS, off + j * 3, none⟩ = some (.int .i64 x.d) := (hbw.cell (p := ⟨bS, _, none⟩) hbn).trans e01
          have e12 : v2.cell? ⟨bS, off + j * 3 + 1, none⟩ = some (.int .i64 x.o) := (hbw.cell (p := ⟨bS, _, none⟩) hbn).trans e11
          clear hb hbw
          have c20 : v2.cell? ⟨B, 0, none⟩ = some (Value.int .i64 s.st) := q02.cell 0 rfl
          have c21 : v2.cell? ⟨B, 1, none⟩ = some (Value.int .i64 s.ow) := q02.cell 1 rfl
          have c22 : v2.cell? ⟨B, 2, none⟩ = some (Value.int .i64 s.sr) := q02.cell 2 rfl
          have c23 : v2.cell? ⟨B, 3, none⟩ = some (Value.bool s.br) := q02.cell 3 rfl
          have c24 : v2.cell? ⟨B, 4, none⟩ = some (Value.bool s.ma) := q02.cell 4 rfl
          have c25 : v2.cell? ⟨B, 5, none⟩ = some (Value.int .i64 s.us) := q02.cell 5 rfl
          have c26 : v2.cell? ⟨B, 6, none⟩ = some (Value.int .i64 s.ge) := q02.cell 6 rfl
          have c27 : v2.cell? ⟨B, 7, none⟩ = some (Value.int .i64 s.ep) := q02.cell 7 rfl
          have c28 : v2.cell? ⟨B, 8, none⟩ = some (Value.int .i64 s.ve) := q02.cell 8 rfl
          refine hK.out _ _ ⟨c20, c21, c22, c23, c24, c25, c26, c27, c28, e02, e12⟩ (fun hS => ?_)
          clear hK K
          try simp only [Act.put, List.setIfInBounds_toArray, List.set_cons_zero, List.set_cons_succ]
          refine wpAnyH_take (i := 13) (oi := { dst := some 42, op := Op.move (Operand.tmp 55), type := 25, pos := "law.go:52", after := #[{ on := 12, ground := Ground.data }], guard := none }) (v := ?v13_37) rfl (by kernel_rfl) (by kernel_rfl) (by kernel_rfl) (fun _ _ _ h => h) (Or.inl ⟨by rfl, ?hy13_37⟩) hS ?rest13_37
          case hy13_37 =>
            intro w hSw
            (try dsimp only at hSw)
            go_simp
            try with_reducible rfl
          try simp only [Act.put, List.setIfInBounds_toArray, List.set_cons_zero, List.set_cons_succ]
          refine wpAnyH_take (i := 14) (oi := { dst := some 56, op := Op.extract (Operand.tmp 42) 0, type := 23, pos := "law.go:52", after := #[{ on := 13, ground := Ground.data }], guard := none }) (v := ?v14_38) rfl (by kernel_rfl) (by kernel_rfl) (by kernel_rfl) (fun _ _ _ h => h) (Or.inl ⟨by rfl, ?hy14_38⟩) hS ?rest14_38
          case hy14_38 =>
            intro w hSw
            (try dsimp only at hSw)
            go_simp
            try with_reducible rfl
          try simp only [Act.put, List.setIfInBounds_toArray, List.set_cons_zero, List.set_cons_succ]
          refine wpAnyH_take (i := 15) (oi := { dst := some 57, op := Op.extract (Operand.tmp 42) 1, type := 4, pos := "law.go:52", after := #[{ on := 13, ground := Ground.data }, { on := 17, ground := Ground.gcOnly Departure.lateStores }], guard := none }) (v := ?v15_39) rfl (by kernel_rfl) (by kernel_rfl) (by kernel_rfl) (fun _ _ _ h => h) (Or.inl ⟨by rfl, ?hy15_39⟩) hS ?rest15_39
          case hy15_39 =>
            intro w hSw
            (try dsimp only at hSw)
            go_simp
            try with_reducible rfl
          try simp only [Act.put, List.setIfInBounds_toArray, List.set_cons_zero, List.set_cons_succ]
          refine wpAnyH_ready (rs := [17]) (by kernel_rfl) (by simp) ?_
          refine AllReadyH.cons (o := { dst := none, op := Op.store 23 (Operand.tmp 11) (Operand.tmp 56), type := 0, pos := "law.go:52", after := #[{ on := 16, ground := Ground.data }, { on := 14, ground := Ground.data }, { on := 12, ground := Ground.chain }, { on := 0, ground := Ground.phase }, { on := 1, ground := Ground.phase }, { on := 2, ground := Ground.phase }, { on := 3, ground := Ground.phase }, { on := 4, ground := Ground.phase }, { on := 5, ground := Ground.phase }, { on := 6, ground := Ground.phase }, { on := 7, ground := Ground.phase }, { on := 8, ground := Ground.phase }, { on := 9, ground := Ground.phase }, { on := 10, ground := Ground.phase }, { on := 11, ground := Ground.phase }, { on := 12, ground := Ground.phase }, { on := 13, ground := Ground.phase }, { on := 14, ground := Ground.phase }, { on := 15, ground := Ground.textOnly Departure.lateStores }, { on := 16, ground := Ground.phase }], guard := none }) rfl (fun K hK => ?_) AllReadyH.nil
          go_simp
          have RB := row9 o2 (Value.int .i64 t.st) (Value.int .i64 t.ow) (Value.int .i64 t.sr) (Value.bool t.br) (Value.bool t.ma) (Value.int .i64 t.us) (Value.int .i64 t.ge) (Value.int .i64 t.ep) (Value.int .i64 t.ve)
          have hne := Nat.ne_of_lt q00.lt
          have R0 := oth9 q02 hne (Value.int .i64 t.st) (Value.int .i64 t.ow) (Value.int .i64 t.sr) (Value.bool t.br) (Value.bool t.ma) (Value.int .i64 t.us) (Value.int .i64 t.ge) (Value.int .i64 t.ep) (Value.int .i64 t.ve)
          have hbw := below9 (n := w.heap.size) (A := v2) (b := WD.heap.size) (Below.refl _ _) hB0.size (Value.int .i64 t.st) (Value.int .i64 t.ow) (Value.int .i64 t.sr) (Value.bool t.br) (Value.bool t.ma) (Value.int .i64 t.us) (Value.int .i64 t.ge) (Value.int .i64 t.ep) (Value.int .i64 t.ve)
          have HB := hB2.trans hbw
          have HT := Lib.hid (HT2.out.below (below9 (n := WD.heap.size) (A := v2) (b := WD.heap.size) (Below.refl _ _) (Nat.le_refl _) (Value.int .i64 t.st) (Value.int .i64 t.ow) (Value.int .i64 t.sr) (Value.bool t.br) (Value.bool t.ma) (Value.int .i64 t.us) (Value.int .i64 t.ge) (Value.int .i64 t.ep) (Value.int .i64 t.ve)) HT0.out.lt)
          have HS := Lib.hid (HS2.out.below hbw)
          have f0 : (((((((((v2.setCell ⟨WD.heap.size, 0, none⟩ (Value.int .i64 t.st)).setCell ⟨WD.heap.size, 1, none⟩ (Value.int .i64 t.ow)).setCell ⟨WD.heap.size, 2, none⟩ (Value.int .i64 t.sr)).setCell ⟨WD.heap.size, 3, none⟩ (Value.bool t.br)).setCell ⟨WD.heap.size, 4, none⟩ (Value.bool t.ma)).setCell ⟨WD.heap.size, 5, none⟩ (Value.int .i64 t.us)).setCell ⟨WD.heap.size, 6, none⟩ (Value.int .i64 t.ge)).setCell ⟨WD.heap.size, 7, none⟩ (Value.int .i64 t.ep)).setCell ⟨WD.heap.size, 8, none⟩ (Value.int .i64 t.ve)).cell? ⟨bS, off + j * 3, none⟩ = some (.int .i64 x.d) := (hbw.cell (p := ⟨bS, _, none⟩) hbn).trans e02
          have f1 : (((((((((v2.setCell ⟨WD.heap.size, 0, none⟩ (Value.int .i64 t.st)).setCell ⟨WD.heap.size, 1, none⟩ (Value.int .i64 t.ow)).setCell ⟨WD.heap.size, 2, none⟩ (Value.int .i64 t.sr)).setCell ⟨WD.heap.size, 3, none⟩ (Value.bool t.br)).setCell ⟨WD.heap.size, 4, none⟩ (Value.bool t.ma)).setCell ⟨WD.heap.size, 5, none⟩ (Value.int .i64 t.us)).setCell ⟨WD.heap.size, 6, none⟩ (Value.int .i64 t.ge)).setCell ⟨WD.heap.size, 7, none⟩ (Value.int .i64 t.ep)).setCell ⟨WD.heap.size, 8, none⟩ (Value.int .i64 t.ve)).cell? ⟨bS, off + j * 3 + 1, none⟩ = some (.int .i64 x.o) := (hbw.cell (p := ⟨bS, _, none⟩) hbn).trans e12
          clear hbw
          obtain ⟨V, hV⟩ : ∃ V, V = (((((((((v2.setCell ⟨WD.heap.size, 0, none⟩ (Value.int .i64 t.st)).setCell ⟨WD.heap.size, 1, none⟩ (Value.int .i64 t.ow)).setCell ⟨WD.heap.size, 2, none⟩ (Value.int .i64 t.sr)).setCell ⟨WD.heap.size, 3, none⟩ (Value.bool t.br)).setCell ⟨WD.heap.size, 4, none⟩ (Value.bool t.ma)).setCell ⟨WD.heap.size, 5, none⟩ (Value.int .i64 t.us)).setCell ⟨WD.heap.size, 6, none⟩ (Value.int .i64 t.ge)).setCell ⟨WD.heap.size, 7, none⟩ (Value.int .i64 t.ep)).setCell ⟨WD.heap.size, 8, none⟩ (Value.int .i64 t.ve)) := ⟨_, rfl⟩
          rw [← hV] at RB R0 HB HT HS f0 f1 ⊢
          clear hV
          obtain ⟨B5, eB⟩ : ∃ B5, B5 = WD.heap.size := ⟨_, rfl⟩
          rw [← eB] at RB hne ⊢
          clear eB
          have z0 : V.cell? ⟨B, 0, none⟩ = some (Value.int .i64 s.st) := R0.cell 0 rfl
          have z1 : V.cell? ⟨B, 1, none⟩ = some (Value.int .i64 s.ow) := R0.cell 1 rfl
          have z2 : V.cell? ⟨B, 2, none⟩ = some (Value.int .i64 s.sr) := R0.cell 2 rfl
          have z3 : V.cell? ⟨B, 3, none⟩ = some (Value.bool s.br) := R0.cell 3 rfl
          have z4 : V.cell? ⟨B, 4, none⟩ = some (Value.bool s.ma) := R0.cell 4 rfl
          have z5 : V.cell? ⟨B, 5, none⟩ = some (Value.int .i64 s.us) := R0.cell 5 rfl
          have z6 : V.cell? ⟨B, 6, none⟩ = some (Value.int .i64 s.ge) := R0.cell 6 rfl
          have z7 : V.cell? ⟨B, 7, none⟩ = some (Value.int .i64 s.ep) := R0.cell 7 rfl
          have z8 : V.cell? ⟨B, 8, none⟩ = some (Value.int .i64 s.ve) := R0.cell 8 rfl
          refine hK.out _ _ ⟨z0, z1, z2, z3, z4, z5, z6, z7, z8, f0, f1⟩ (fun hS => ?_)
          clear hK K
          try simp only [Act.put, List.setIfInBounds_toArray, List.set_cons_zero, List.set_cons_succ]
          refine wpAnyH_take (i := 18) (oi := { dst := some 12, op := Op.assign (Operand.tmp 57), type := 4, pos := "law.go:52", after := #[{ on := 15, ground := Ground.data }, { on := 17, ground := Ground.chain }, { on := 0, ground := Ground.phase }, { on := 1, ground := Ground.phase }, { on := 2, ground := Ground.phase }, { on := 3, ground := Ground.phase }, { on := 4, ground := Ground.phase }, { on := 5, ground := Ground.phase }, { on := 6, ground := Ground.phase }, { on := 7, ground := Ground.phase }, { on := 8, ground := Ground.phase }, { on := 9, ground := Ground.phase }, { on := 10, ground := Ground.phase }, { on := 11, ground := Ground.phase }, { on := 12, ground := Ground.phase }, { on := 13, ground := Ground.phase }, { on := 14, ground := Ground.phase }, { on := 15, ground := Ground.phase }, { on := 16, ground := Ground.phase }, { on := 17, ground := Ground.phase }], guard := none }) (v := ?v18_40) rfl (by kernel_rfl) (by kernel_rfl) (by kernel_rfl) (fun _ _ _ h => h) (Or.inl ⟨by rfl, ?hy18_40⟩) hS ?rest18_40
          case hy18_40 =>
            intro w hSw
            (try dsimp only at hSw)
            go_simp
            try with_reducible rfl
          try simp only [Act.put, List.setIfInBounds_toArray, List.set_cons_zero, List.set_cons_succ]
          refine wpAnyH_done (by kernel_rfl) ?_ _
          clear z0 z1 z2 z3 z4 z5 z6 z7 z8 f0 f1
          cases h3 : (t.st == 3) with
          | true =>
            obtain ⟨tst, tow, tsr, tbr, tma, tus, tge, tep, tve⟩ := t
            obtain rfl : tst = 3 := by simpa using h3
            clear h3
            have RB : RowAt V B5 23 #[Value.int .i64 3, Value.int .i64 tow, Value.int .i64 tsr, Value.bool tbr, Value.bool tma, Value.int .i64 tus, Value.int .i64 tge, Value.int .i64 tep, Value.int .i64 tve] := RB
            have tsr0 : 0 ≤ tsr ∧ tsr ≤ 255 := RT.sr
            have tsr1 : tsr < 2 ^ k := ST.out.1
            have TS1 := Lib.hid tsr1
            clear tsr1
            cases h4 : (s.st == 3) with
            | true =>
              have HG : Hid (s.ge = tge) := Lib.hid (ST.out.2.2 (Or.inr (by simpa using h4))).symm
              have u0 : V.cell? ⟨B5, 0, none⟩ = some (Value.int .i64 3) := RB.cell 0 rfl
              have y0 : V.cell? ⟨B, 0, none⟩ = some (Value.int .i64 s.st) := R0.cell 0 rfl
              go_wp2_with fail
              rw [HG.out]
              clear y0
              have u2 : V.cell? ⟨B5, 2, none⟩ = some (Value.int .i64 tsr) := RB.cell 2 rfl
              go_loop [13, 14] (fun m b => ∃ (i : Nat) (y : Int), i ≤ 8 ∧ 0 ≤ y ∧ y ≤ i ∧ Hid (y = pop tsr i) ∧ m = .int .i64 y ∧ b = .int .i64 i) (fun _ b => 8 - (intOf b).toNat)
              case atStart => exact ⟨0, 0, by omega, by omega, by omega, Lib.hid rfl, rfl, rfl⟩
              case round =>
                obtain ⟨i, y, hi, hy, hy2, hY, rfl, rfl⟩ := hrel
                by_cases hi8 : i < 8
                · have hb2 := pcb_bd tsr0 hi8
                  obtain ⟨z, ez⟩ : ∃ z, bits .and .i64 (tsr / 2 ^ i) 1 = z := ⟨_, rfl⟩
                  have hz : 0 ≤ z ∧ z ≤ 1 := by rw [← ez]; exact hb2
                  have HY2 := Lib.hid (show y + z = pop tsr (i + 1) by rw [← ez, hY.out]; rfl)
                  have hz0 := hz.1
                  have hz1 := hz.2
                  have hi0 : (i : Int) < 8 := by omega
                  clear hb2 hz
                  go_wp2
                  go_round
                  case rel => exact ⟨i + 1, y + z, by omega, by omega, by omega, HY2, rfl, by go_num⟩
                  case measure => simp [intOf]; omega
                · have hi9 : i = 8 := by omega
                  subst hi9
                  have hyk : y ≤ k := by rw [hY.out]; exact pc_le tsr0 hk8 TS1.out
                  by_cases hy1 : 0 < y
                  · have u6 : V.cell? ⟨B5, 6, none⟩ = some (Value.int .i64 tge) := RB.cell 6 rfl
                    have u1 : V.cell? ⟨B5, 1, none⟩ = some (Value.int .i64 tow) := RB.cell 1 rfl
                    have u3 : V.cell? ⟨B5, 3, none⟩ = some (Value.bool tbr) := RB.cell 3 rfl
                    have u4 : V.cell? ⟨B5, 4, none⟩ = some (Value.bool tma) := RB.cell 4 rfl
                    have u5 : V.cell? ⟨B5, 5, none⟩ = some (Value.int .i64 tus) := RB.cell 5 rfl
                    have u7 : V.cell? ⟨B5, 7, none⟩ = some (Value.int .i64 tep) := RB.cell 7 rfl
                    have u8 : V.cell? ⟨B5, 8, none⟩ = some (Value.int .i64 tve) := RB.cell 8 rfl
                    go_wp2_with fail
                    refine (right_yes RT _ HT.out).mono ?_
                    rintro e V2 ⟨rfl, hb⟩
                    replace RB := RB.below hb RB.lt
                    replace R0 := R0.below hb R0.lt
                    have hbw := hb.mono HB.size
                    replace HT := Lib.hid (HT.out.below hb HT.out.lt)
                    replace HS := Lib.hid (HS.out.below hbw)
                    replace HB := HB.trans hbw
                    clear hb hbw u0 u1 u2 u3 u4 u5 u6 u7 u8
                    have k0 : V2.cell? ⟨B5, 0, none⟩ = some (Value.int .i64 3) := RB.cell 0 rfl
                    have k1 : V2.cell? ⟨B5, 1, none⟩ = some (Value.int .i64 tow) := RB.cell 1 rfl
                    have k2 : V2.cell? ⟨B5, 2, none⟩ = some (Value.int .i64 tsr) := RB.cell 2 rfl
                    have k3 : V2.cell? ⟨B5, 3, none⟩ = some (Value.bool tbr) := RB.cell 3 rfl
                    have k4 : V2.cell? ⟨B5, 4, none⟩ = some (Value.bool tma) := RB.cell 4 rfl
                    have k5 : V2.cell? ⟨B5, 5, none⟩ = some (Value.int .i64 tus) := RB.cell 5 rfl
                    have k6 : V2.cell? ⟨B5, 6, none⟩ = some (Value.int .i64 tge) := RB.cell 6 rfl
                    have k7 : V2.cell? ⟨B5, 7, none⟩ = some (Value.int .i64 tep) := RB.cell 7 rfl
                    have k8 : V2.cell? ⟨B5, 8, none⟩ = some (Value.int .i64 tve) := RB.cell 8 rfl
                    go_wp2_with (refine wpList_store_row rfl 23 _ _ rfl _ #[Value.int .i64 3, Value.int .i64 tow, Value.int .i64 tsr, Value.bool tbr, Value.bool tma, Value.int .i64 tus, Value.int .i64 tge, Value.int .i64 tep, Value.int .i64 tve] rfl rfl 23 _ R0 (by kernel_rfl) rfl (by simp [Value.oneCell']) ?_)
                    clear k0 k1 k2 k3 k4 k5 k6 k7 k8
                    have HTE := Lib.hid (HT.out.below (below_setRow (Below.refl B V2) (Nat.le_refl _) #[Value.int .i64 3, Value.int .i64 tow, Value.int .i64 tsr, Value.bool tbr, Value.bool tma, Value.int .i64 tus, Value.int .i64 tge, Value.int .i64 tep, Value.int .i64 tve]) h2B)
                    have HSE := Lib.hid (HS.out.below (below_setRow (Below.refl w.heap.size V2) hle #[Value.int .i64 3, Value.int .i64 tow, Value.int .i64 tsr, Value.bool tbr, Value.bool tma, Value.int .i64 tus, Value.int .i64 tge, Value.int .i64 tep, Value.int .i64 tve]))
                    have HBE := below_setRow HB hle #[Value.int .i64 3, Value.int .i64 tow, Value.int .i64 tsr, Value.bool tbr, Value.bool tma, Value.int .i64 tus, Value.int .i64 tge, Value.int .i64 tep, Value.int .i64 tve]
                    have R9 := R0.set #[Value.int .i64 3, Value.int .i64 tow, Value.int .i64 tsr, Value.bool tbr, Value.bool tma, Value.int .i64 tus, Value.int .i64 tge, Value.int .i64 tep, Value.int .i64 tve]
                    have hge2 : tge ≤ ((j + 1 : Nat) : Int) := by rw [← HG.out]; omega
                    go_roundw
                    case rel => exact ⟨j + 1, ⟨3, tow, tsr, tbr, tma, tus, tge, tep, tve⟩, by omega, by go_num, rfl, RT, hge2, TS1.out, R9, HTE, HSE, HBE⟩
                    case measure => simp [intOf]; omega
                  · have u6 : V.cell? ⟨B5, 6, none⟩ = some (Value.int .i64 tge) := RB.cell 6 rfl
                    have u1 : V.cell? ⟨B5, 1, none⟩ = some (Value.int .i64 tow) := RB.cell 1 rfl
                    have u3 : V.cell? ⟨B5, 3, none⟩ = some (Value.bool tbr) := RB.cell 3 rfl
                    have u4 : V.cell? ⟨B5, 4, none⟩ = some (Value.bool tma) := RB.cell 4 rfl
                    have u5 : V.cell? ⟨B5, 5, none⟩ = some (Value.int .i64 tus) := RB.cell 5 rfl
                    have u7 : V.cell? ⟨B5, 7, none⟩ = some (Value.int .i64 tep) := RB.cell 7 rfl
                    have u8 : V.cell? ⟨B5, 8, none⟩ = some (Value.int .i64 tve) := RB.cell 8 rfl
                    go_wp2_with fail
                    refine (right_yes RT _ HT.out).mono ?_
                    rintro e V2 ⟨rfl, hb⟩
                    replace RB := RB.below hb RB.lt
                    replace R0 := R0.below hb R0.lt
                    have hbw := hb.mono HB.size
                    replace HT := Lib.hid (HT.out.below hb HT.out.lt)
                    replace HS := Lib.hid (HS.out.below hbw)
                    replace HB := HB.trans hbw
                    clear hb hbw u0 u1 u2 u3 u4 u5 u6 u7 u8
                    have k0 : V2.cell? ⟨B5, 0, none⟩ = some (Value.int .i64 3) := RB.cell 0 rfl
                    have k1 : V2.cell? ⟨B5, 1, none⟩ = some (Value.int .i64 tow) := RB.cell 1 rfl
                    have k2 : V2.cell? ⟨B5, 2, none⟩ = some (Value.int .i64 tsr) := RB.cell 2 rfl
                    have k3 : V2.cell? ⟨B5, 3, none⟩ = some (Value.bool tbr) := RB.cell 3 rfl
                    have k4 : V2.cell? ⟨B5, 4, none⟩ = some (Value.bool tma) := RB.cell 4 rfl
                    have k5 : V2.cell? ⟨B5, 5, none⟩ = some (Value.int .i64 tus) := RB.cell 5 rfl
                    have k6 : V2.cell? ⟨B5, 6, none⟩ = some (Value.int .i64 tge) := RB.cell 6 rfl
                    have k7 : V2.cell? ⟨B5, 7, none⟩ = some (Value.int .i64 tep) := RB.cell 7 rfl
                    have k8 : V2.cell? ⟨B5, 8, none⟩ = some (Value.int .i64 tve) := RB.cell 8 rfl
                    go_wp2_with (refine wpList_store_row rfl 23 _ _ rfl _ #[Value.int .i64 3, Value.int .i64 tow, Value.int .i64 tsr, Value.bool tbr, Value.bool tma, Value.int .i64 tus, Value.int .i64 tge, Value.int .i64 tep, Value.int .i64 tve] rfl rfl 23 _ R0 (by kernel_rfl) rfl (by simp [Value.oneCell']) ?_)
                    clear k0 k1 k2 k3 k4 k5 k6 k7 k8
                    have HTE := Lib.hid (HT.out.below (below_setRow (Below.refl B V2) (Nat.le_refl _) #[Value.int .i64 3, Value.int .i64 tow, Value.int .i64 tsr, Value.bool tbr, Value.bool tma, Value.int .i64 tus, Value.int .i64 tge, Value.int .i64 tep, Value.int .i64 tve]) h2B)
                    have HSE := Lib.hid (HS.out.below (below_setRow (Below.refl w.heap.size V2) hle #[Value.int .i64 3, Value.int .i64 tow, Value.int .i64 tsr, Value.bool tbr, Value.bool tma, Value.int .i64 tus, Value.int .i64 tge, Value.int .i64 tep, Value.int .i64 tve]))
                    have HBE := below_setRow HB hle #[Value.int .i64 3, Value.int .i64 tow, Value.int .i64 tsr, Value.bool tbr, Value.bool tma, Value.int .i64 tus, Value.int .i64 tge, Value.int .i64 tep, Value.int .i64 tve]
                    have R9 := R0.set #[Value.int .i64 3, Value.int .i64 tow, Value.int .i64 tsr, Value.bool tbr, Value.bool tma, Value.int .i64 tus, Value.int .i64 tge, Value.int .i64 tep, Value.int .i64 tve]
                    have hge2 : tge ≤ ((j + 1 : Nat) : Int) := by rw [← HG.out]; omega
                    go_roundw
                    case rel => exact ⟨j + 1, ⟨3, tow, tsr, tbr, tma, tus, tge, tep, tve⟩, by omega, by go_num, rfl, RT, hge2, TS1.out, R9, HTE, HSE, HBE⟩
                    case measure => simp [intOf]; omega
            | false =>
              have HG : Hid (s.ge + 1 = tge) := Lib.hid (ST.out.2.1 rfl (by simpa using h4)).symm
              have u0 : V.cell? ⟨B5, 0, none⟩ = some (Value.int .i64 3) := RB.cell 0 rfl
              have y0 : V.cell? ⟨B, 0, none⟩ = some (Value.int .i64 s.st) := R0.cell 0 rfl
              go_wp2_with fail
              rw [HG.out]
              clear y0
              have u2 : V.cell? ⟨B5, 2, none⟩ = some (Value.int .i64 tsr) := RB.cell 2 rfl
              go_loop [13, 14] (fun m b => ∃ (i : Nat) (y : Int), i ≤ 8 ∧ 0 ≤ y ∧ y ≤ i ∧ Hid (y = pop tsr i) ∧ m = .int .i64 y ∧ b = .int .i64 i) (fun _ b => 8 - (intOf b).toNat)
              case atStart => exact ⟨0, 0, by omega, by omega, by omega, Lib.hid rfl, rfl, rfl⟩
              case round =>
                obtain ⟨i, y, hi, hy, hy2, hY, rfl, rfl⟩ := hrel
                by_cases hi8 : i < 8
                · have hb2 := pcb_bd tsr0 hi8
                  obtain ⟨z, ez⟩ : ∃ z, bits .and .i64 (tsr / 2 ^ i) 1 = z := ⟨_, rfl⟩
                  have hz : 0 ≤ z ∧ z ≤ 1 := by rw [← ez]; exact hb2
                  have HY2 := Lib.hid (show y + z = pop tsr (i + 1) by rw [← ez, hY.out]; rfl)
                  have hz0 := hz.1
                  have hz1 := hz.2
                  have hi0 : (i : Int) < 8 := by omega
                  clear hb2 hz
                  go_wp2
                  go_round
                  case rel => exact ⟨i + 1, y + z, by omega, by omega, by omega, HY2, rfl, by go_num⟩
                  case measure => simp [intOf]; omega
                · have hi9 : i = 8 := by omega
                  subst hi9
                  have hyk : y ≤ k := by rw [hY.out]; exact pc_le tsr0 hk8 TS1.out
                  by_cases hy1 : 0 < y
                  · have u6 : V.cell? ⟨B5, 6, none⟩ = some (Value.int .i64 tge) := RB.cell 6 rfl
                    have u1 : V.cell? ⟨B5, 1, none⟩ = some (Value.int .i64 tow) := RB.cell 1 rfl
                    have u3 : V.cell? ⟨B5, 3, none⟩ = some (Value.bool tbr) := RB.cell 3 rfl
                    have u4 : V.cell? ⟨B5, 4, none⟩ = some (Value.bool tma) := RB.cell 4 rfl
                    have u5 : V.cell? ⟨B5, 5, none⟩ = some (Value.int .i64 tus) := RB.cell 5 rfl
                    have u7 : V.cell? ⟨B5, 7, none⟩ = some (Value.int .i64 tep) := RB.cell 7 rfl
                    have u8 : V.cell? ⟨B5, 8, none⟩ = some (Value.int .i64 tve) := RB.cell 8 rfl
                    go_wp2_with fail
                    refine (right_yes RT _ HT.out).mono ?_
                    rintro e V2 ⟨rfl, hb⟩
                    replace RB := RB.below hb RB.lt
                    replace R0 := R0.below hb R0.lt
                    have hbw := hb.mono HB.size
                    replace HT := Lib.hid (HT.out.below hb HT.out.lt)
                    replace HS := Lib.hid (HS.out.below hbw)
                    replace HB := HB.trans hbw
                    clear hb hbw u0 u1 u2 u3 u4 u5 u6 u7 u8
                    have k0 : V2.cell? ⟨B5, 0, none⟩ = some (Value.int .i64 3) := RB.cell 0 rfl
                    have k1 : V2.cell? ⟨B5, 1, none⟩ = some (Value.int .i64 tow) := RB.cell 1 rfl
                    have k2 : V2.cell? ⟨B5, 2, none⟩ = some (Value.int .i64 tsr) := RB.cell 2 rfl
                    have k3 : V2.cell? ⟨B5, 3, none⟩ = some (Value.bool tbr) := RB.cell 3 rfl
                    have k4 : V2.cell? ⟨B5, 4, none⟩ = some (Value.bool tma) := RB.cell 4 rfl
                    have k5 : V2.cell? ⟨B5, 5, none⟩ = some (Value.int .i64 tus) := RB.cell 5 rfl
                    have k6 : V2.cell? ⟨B5, 6, none⟩ = some (Value.int .i64 tge) := RB.cell 6 rfl
                    have k7 : V2.cell? ⟨B5, 7, none⟩ = some (Value.int .i64 tep) := RB.cell 7 rfl
                    have k8 : V2.cell? ⟨B5, 8, none⟩ = some (Value.int .i64 tve) := RB.cell 8 rfl
                    go_wp2_with (refine wpList_store_row rfl 23 _ _ rfl _ #[Value.int .i64 3, Value.int .i64 tow, Value.int .i64 tsr, Value.bool tbr, Value.bool tma, Value.int .i64 tus, Value.int .i64 tge, Value.int .i64 tep, Value.int .i64 tve] rfl rfl 23 _ R0 (by kernel_rfl) rfl (by simp [Value.oneCell']) ?_)
                    clear k0 k1 k2 k3 k4 k5 k6 k7 k8
                    have HTE := Lib.hid (HT.out.below (below_setRow (Below.refl B V2) (Nat.le_refl _) #[Value.int .i64 3, Value.int .i64 tow, Value.int .i64 tsr, Value.bool tbr, Value.bool tma, Value.int .i64 tus, Value.int .i64 tge, Value.int .i64 tep, Value.int .i64 tve]) h2B)
                    have HSE := Lib.hid (HS.out.below (below_setRow (Below.refl w.heap.size V2) hle #[Value.int .i64 3, Value.int .i64 tow, Value.int .i64 tsr, Value.bool tbr, Value.bool tma, Value.int .i64 tus, Value.int .i64 tge, Value.int .i64 tep, Value.int .i64 tve]))
                    have HBE := below_setRow HB hle #[Value.int .i64 3, Value.int .i64 tow, Value.int .i64 tsr, Value.bool tbr, Value.bool tma, Value.int .i64 tus, Value.int .i64 tge, Value.int .i64 tep, Value.int .i64 tve]
                    have R9 := R0.set #[Value.int .i64 3, Value.int .i64 tow, Value.int .i64 tsr, Value.bool tbr, Value.bool tma, Value.int .i64 tus, Value.int .i64 tge, Value.int .i64 tep, Value.int .i64 tve]
                    have hge2 : tge ≤ ((j + 1 : Nat) : Int) := by rw [← HG.out]; omega
                    go_roundw
                    case rel => exact ⟨j + 1, ⟨3, tow, tsr, tbr, tma, tus, tge, tep, tve⟩, by omega, by go_num, rfl, RT, hge2, TS1.out, R9, HTE, HSE, HBE⟩
                    case measure => simp [intOf]; omega
                  · have u6 : V.cell? ⟨B5, 6, none⟩ = some (Value.int .i64 tge) := RB.cell 6 rfl
                    have u1 : V.cell? ⟨B5, 1, none⟩ = some (Value.int .i64 tow) := RB.cell 1 rfl
                    have u3 : V.cell? ⟨B5, 3, none⟩ = some (Value.bool tbr) := RB.cell 3 rfl
                    have u4 : V.cell? ⟨B5, 4, none⟩ = some (Value.bool tma) := RB.cell 4 rfl
                    have u5 : V.cell? ⟨B5, 5, none⟩ = some (Value.int .i64 tus) := RB.cell 5 rfl
                    have u7 : V.cell? ⟨B5, 7, none⟩ = some (Value.int .i64 tep) := RB.cell 7 rfl
                    have u8 : V.cell? ⟨B5, 8, none⟩ = some (Value.int .i64 tve) := RB.cell 8 rfl
                    go_wp2_with fail
                    refine (right_yes RT _ HT.out).mono ?_
                    rintro e V2 ⟨rfl, hb⟩
                    replace RB := RB.below hb RB.lt
                    replace R0 := R0.below hb R0.lt
                    have hbw := hb.mono HB.size
                    replace HT := Lib.hid (HT.out.below hb HT.out.lt)
                    replace HS := Lib.hid (HS.out.below hbw)
                    replace HB := HB.trans hbw
                    clear hb hbw u0 u1 u2 u3 u4 u5 u6 u7 u8
                    have k0 : V2.cell? ⟨B5, 0, none⟩ = some (Value.int .i64 3) := RB.cell 0 rfl
                    have k1 : V2.cell? ⟨B5, 1, none⟩ = some (Value.int .i64 tow) := RB.cell 1 rfl
                    have k2 : V2.cell? ⟨B5, 2, none⟩ = some (Value.int .i64 tsr) := RB.cell 2 rfl
                    have k3 : V2.cell? ⟨B5, 3, none⟩ = some (Value.bool tbr) := RB.cell 3 rfl
                    have k4 : V2.cell? ⟨B5, 4, none⟩ = some (Value.bool tma) := RB.cell 4 rfl
                    have k5 : V2.cell? ⟨B5, 5, none⟩ = some (Value.int .i64 tus) := RB.cell 5 rfl
                    have k6 : V2.cell? ⟨B5, 6, none⟩ = some (Value.int .i64 tge) := RB.cell 6 rfl
                    have k7 : V2.cell? ⟨B5, 7, none⟩ = some (Value.int .i64 tep) := RB.cell 7 rfl
                    have k8 : V2.cell? ⟨B5, 8, none⟩ = some (Value.int .i64 tve) := RB.cell 8 rfl
                    go_wp2_with (refine wpList_store_row rfl 23 _ _ rfl _ #[Value.int .i64 3, Value.int .i64 tow, Value.int .i64 tsr, Value.bool tbr, Value.bool tma, Value.int .i64 tus, Value.int .i64 tge, Value.int .i64 tep, Value.int .i64 tve] rfl rfl 23 _ R0 (by kernel_rfl) rfl (by simp [Value.oneCell']) ?_)
                    clear k0 k1 k2 k3 k4 k5 k6 k7 k8
                    have HTE := Lib.hid (HT.out.below (below_setRow (Below.refl B V2) (Nat.le_refl _) #[Value.int .i64 3, Value.int .i64 tow, Value.int .i64 tsr, Value.bool tbr, Value.bool tma, Value.int .i64 tus, Value.int .i64 tge, Value.int .i64 tep, Value.int .i64 tve]) h2B)
                    have HSE := Lib.hid (HS.out.below (below_setRow (Below.refl w.heap.size V2) hle #[Value.int .i64 3, Value.int .i64 tow, Value.int .i64 tsr, Value.bool tbr, Value.bool tma, Value.int .i64 tus, Value.int .i64 tge, Value.int .i64 tep, Value.int .i64 tve]))
                    have HBE := below_setRow HB hle #[Value.int .i64 3, Value.int .i64 tow, Value.int .i64 tsr, Value.bool tbr, Value.bool tma, Value.int .i64 tus, Value.int .i64 tge, Value.int .i64 tep, Value.int .i64 tve]
                    have R9 := R0.set #[Value.int .i64 3, Value.int .i64 tow, Value.int .i64 tsr, Value.bool tbr, Value.bool tma, Value.int .i64 tus, Value.int .i64 tge, Value.int .i64 tep, Value.int .i64 tve]
                    have hge2 : tge ≤ ((j + 1 : Nat) : Int) := by rw [← HG.out]; omega
                    go_roundw
                    case rel => exact ⟨j + 1, ⟨3, tow, tsr, tbr, tma, tus, tge, tep, tve⟩, by omega, by go_num, rfl, RT, hge2, TS1.out, R9, HTE, HSE, HBE⟩
                    case measure => simp [intOf]; omega
          | false =>
            have HG := Lib.hid (ST.out.2.2 (Or.inl (by simpa using h3))).symm
            have u0 : V.cell? ⟨B5, 0, none⟩ = some (Value.int .i64 t.st) := RB.cell 0 rfl
            have y0 : V.cell? ⟨B, 0, none⟩ = some (Value.int .i64 s.st) := R0.cell 0 rfl
            go_wp2_with fail
            rw [HG.out]
            clear y0
            have u2 : V.cell? ⟨B5, 2, none⟩ = some (Value.int .i64 t.sr) := RB.cell 2 rfl
            go_loop [13, 14] (fun m b => ∃ (i : Nat) (y : Int), i ≤ 8 ∧ 0 ≤ y ∧ y ≤ i ∧ Hid (y = pop t.sr i) ∧ m = .int .i64 y ∧ b = .int .i64 i) (fun _ b => 8 - (intOf b).toNat)
            case atStart => exact ⟨0, 0, by omega, by omega, by omega, Lib.hid rfl, rfl, rfl⟩
            case round =>
              obtain ⟨i, y, hi, hy, hy2, hY, rfl, rfl⟩ := hrel
              by_cases hi8 : i < 8
              · have hb2 := pcb_bd RT.sr hi8
                obtain ⟨z, ez⟩ : ∃ z, bits .and .i64 (t.sr / 2 ^ i) 1 = z := ⟨_, rfl⟩
                have hz : 0 ≤ z ∧ z ≤ 1 := by rw [← ez]; exact hb2
                have HY2 := Lib.hid (show y + z = pop t.sr (i + 1) by rw [← ez, hY.out]; rfl)
                have hz0 := hz.1
                have hz1 := hz.2
                have hi0 : (i : Int) < 8 := by omega
                clear hb2 hz
                go_wp2
                go_round
                case rel => exact ⟨i + 1, y + z, by omega, by omega, by omega, HY2, rfl, by go_num⟩
                case measure => simp [intOf]; omega
              · have hi9 : i = 8 := by omega
                subst hi9
                have hyk : y ≤ k := by rw [hY.out]; exact pc_le RT.sr hk8 ST.out.1
                have hy0 : ¬ 0 < y := by
                  have z0 : t.sr = 0 := by
                    have := RT.hsr
                    have q := RT.sr
                    have h3b : ¬ t.st = 3 := by simpa using h3
                    omega
                  rw [hY.out, z0, pc0]
                  omega
                have u6 : V.cell? ⟨B5, 6, none⟩ = some (Value.int .i64 t.ge) := RB.cell 6 rfl
                have u1 : V.cell? ⟨B5, 1, none⟩ = some (Value.int .i64 t.ow) := RB.cell 1 rfl
                have u3 : V.cell? ⟨B5, 3, none⟩ = some (Value.bool t.br) := RB.cell 3 rfl
                have u4 : V.cell? ⟨B5, 4, none⟩ = some (Value.bool t.ma) := RB.cell 4 rfl
                have u5 : V.cell? ⟨B5, 5, none⟩ = some (Value.int .i64 t.us) := RB.cell 5 rfl
                have u7 : V.cell? ⟨B5, 7, none⟩ = some (Value.int .i64 t.ep) := RB.cell 7 rfl
                have u8 : V.cell? ⟨B5, 8, none⟩ = some (Value.int .i64 t.ve) := RB.cell 8 rfl
                go_wp2_with fail
                refine (right_yes RT _ HT.out).mono ?_
                rintro e V2 ⟨rfl, hb⟩
                replace RB := RB.below hb RB.lt
                replace R0 := R0.below hb R0.lt
                have hbw := hb.mono HB.size
                replace HT := Lib.hid (HT.out.below hb HT.out.lt)
                replace HS := Lib.hid (HS.out.below hbw)
                replace HB := HB.trans hbw
                clear hb hbw u0 u1 u2 u3 u4 u5 u6 u7 u8
                have k0 : V2.cell? ⟨B5, 0, none⟩ = some (Value.int .i64 t.st) := RB.cell 0 rfl
                have k1 : V2.cell? ⟨B5, 1, none⟩ = some (Value.int .i64 t.ow) := RB.cell 1 rfl
                have k2 : V2.cell? ⟨B5, 2, none⟩ = some (Value.int .i64 t.sr) := RB.cell 2 rfl
                have k3 : V2.cell? ⟨B5, 3, none⟩ = some (Value.bool t.br) := RB.cell 3 rfl
                have k4 : V2.cell? ⟨B5, 4, none⟩ = some (Value.bool t.ma) := RB.cell 4 rfl
                have k5 : V2.cell? ⟨B5, 5, none⟩ = some (Value.int .i64 t.us) := RB.cell 5 rfl
                have k6 : V2.cell? ⟨B5, 6, none⟩ = some (Value.int .i64 t.ge) := RB.cell 6 rfl
                have k7 : V2.cell? ⟨B5, 7, none⟩ = some (Value.int .i64 t.ep) := RB.cell 7 rfl
                have k8 : V2.cell? ⟨B5, 8, none⟩ = some (Value.int .i64 t.ve) := RB.cell 8 rfl
                go_wp2_with (refine wpList_store_row rfl 23 _ _ rfl _ #[Value.int .i64 t.st, Value.int .i64 t.ow, Value.int .i64 t.sr, Value.bool t.br, Value.bool t.ma, Value.int .i64 t.us, Value.int .i64 t.ge, Value.int .i64 t.ep, Value.int .i64 t.ve] rfl rfl 23 _ R0 (by kernel_rfl) rfl (by simp [Value.oneCell']) ?_)
                clear k0 k1 k2 k3 k4 k5 k6 k7 k8
                have HTE := Lib.hid (HT.out.below (below_setRow (Below.refl B V2) (Nat.le_refl _) #[Value.int .i64 t.st, Value.int .i64 t.ow, Value.int .i64 t.sr, Value.bool t.br, Value.bool t.ma, Value.int .i64 t.us, Value.int .i64 t.ge, Value.int .i64 t.ep, Value.int .i64 t.ve]) h2B)
                have HSE := Lib.hid (HS.out.below (below_setRow (Below.refl w.heap.size V2) hle #[Value.int .i64 t.st, Value.int .i64 t.ow, Value.int .i64 t.sr, Value.bool t.br, Value.bool t.ma, Value.int .i64 t.us, Value.int .i64 t.ge, Value.int .i64 t.ep, Value.int .i64 t.ve]))
                have HBE := below_setRow HB hle #[Value.int .i64 t.st, Value.int .i64 t.ow, Value.int .i64 t.sr, Value.bool t.br, Value.bool t.ma, Value.int .i64 t.us, Value.int .i64 t.ge, Value.int .i64 t.ep, Value.int .i64 t.ve]
                have R9 := R0.set #[Value.int .i64 t.st, Value.int .i64 t.ow, Value.int .i64 t.sr, Value.bool t.br, Value.bool t.ma, Value.int .i64 t.us, Value.int .i64 t.ge, Value.int .i64 t.ep, Value.int .i64 t.ve]
                have hge2 : t.ge ≤ ((j + 1 : Nat) : Int) := by rw [← HG.out]; omega
                go_roundw
                case rel => exact ⟨j + 1, t, by omega, by go_num, rfl, RT, hge2, ST.out.1, R9, HTE, HSE, HBE⟩
                case measure => simp [intOf]; omega
      · have hq : (x.d == 14) = false := by simpa using hd
        have big : Big x.m := hxm
        obtain ⟨t, et⟩ : ∃ t, nxS s x.d x.o x.m = t := ⟨_, rfl⟩
        cases hn : nxB s x.d x.o x.m with
        | false =>
          have CN := next_is hR.wf et hn
          clear et hn big
          go_wp2_with fail
          have q00 := q0.drew
          have hB0 := hB2.drew
          have HT0 := Lib.hid HT2.out.drew
          have HS0 : Hid (SS wr.drew w.heap.size _ l) := Lib.hid HS2.out
          have e00 : wr.drew.cell? ⟨bS, off + j * 3, none⟩ = some (.int .i64 x.d) := s0
          have e10 : wr.drew.cell? ⟨bS, off + j * 3 + 1, none⟩ = some (.int .i64 x.o) := s1
          clear q0 hB2 HT2 HS2 s0 s1 s2
          have c00 : wr.drew.cell? ⟨B, 0, none⟩ = some (Value.int .i64 s.st) := q00.cell 0 rfl
          have c01 : wr.drew.cell? ⟨B, 1, none⟩ = some (Value.int .i64 s.ow) := q00.cell 1 rfl
          have c02 : wr.drew.cell? ⟨B, 2, none⟩ = some (Value.int .i64 s.sr) := q00.cell 2 rfl
          have c03 : wr.drew.cell? ⟨B, 3, none⟩ = some (Value.bool s.br) := q00.cell 3 rfl
          have c04 : wr.drew.cell? ⟨B, 4, none⟩ = some (Value.bool s.ma) := q00.cell 4 rfl
          have c05 : wr.drew.cell? ⟨B, 5, none⟩ = some (Value.int .i64 s.us) := q00.cell 5 rfl
          have c06 : wr.drew.cell? ⟨B, 6, none⟩ = some (Value.int .i64 s.ge) := q00.cell 6 rfl
          have c07 : wr.drew.cell? ⟨B, 7, none⟩ = some (Value.int .i64 s.ep) := q00.cell 7 rfl
          have c08 : wr.drew.cell? ⟨B, 8, none⟩ = some (Value.int .i64 s.ve) := q00.cell 8 rfl
          refine wp_region_held_drew (S := (fun w' => w'.cell? ⟨B, 0, none⟩ = some (Value.int .i64 s.st) ∧ w'.cell? ⟨B, 1, none⟩ = some (Value.int .i64 s.ow) ∧ w'.cell? ⟨B, 2, none⟩ = some (Value.int .i64 s.sr) ∧ w'.cell? ⟨B, 3, none⟩ = some (Value.bool s.br) ∧ w'.cell? ⟨B, 4, none⟩ = some (Value.bool s.ma) ∧ w'.cell? ⟨B, 5, none⟩ = some (Value.int .i64 s.us) ∧ w'.cell? ⟨B, 6, none⟩ = some (Value.int .i64 s.ge) ∧ w'.cell? ⟨B, 7, none⟩ = some (Value.int .i64 s.ep) ∧ w'.cell? ⟨B, 8, none⟩ = some (Value.int .i64 s.ve) ∧ w'.cell? ⟨bS, off + j * 3, none⟩ = some (.int .i64 x.d) ∧ w'.cell? ⟨bS, off + j * 3 + 1, none⟩ = some (.int .i64 x.o))) (by kernel_rfl) ⟨c00, c01, c02, c03, c04, c05, c06, c07, c08, e00, e10⟩ (fun hS => ?_)
          generalize wr.drew = WD at *
          refine wpAnyH_take (i := 0) (oi := { dst := some 43, op := Op.load 23 (Operand.tmp 7), type := 23, pos := "law.go:52", after := #[], guard := none }) (v := ?v0_41) rfl (by kernel_rfl) (by kernel_rfl) (by kernel_rfl) (fun _ _ _ h => h) (Or.inl ⟨by rfl, ?hy0_41⟩) hS ?rest0_41
          case hy0_41 =>
            intro w hSw
            (try dsimp only at hSw)
            go_simp
            try with_reducible rfl
          try simp only [Act.put, List.setIfInBounds_toArray, List.set_cons_zero, List.set_cons_succ]
          refine wpAnyH_take (i := 1) (oi := { dst := some 44, op := Op.move (Operand.tmp 0), type := 29, pos := "law.go:52", after := #[], guard := none }) (v := ?v1_42) rfl (by kernel_rfl) (by kernel_rfl) (by kernel_rfl) (fun _ _ _ h => h) (Or.inl ⟨by rfl, ?hy1_42⟩) hS ?rest1_42
          case hy1_42 =>
            intro w hSw
            (try dsimp only at hSw)
            go_simp
            try with_reducible rfl
          try simp only [Act.put, List.setIfInBounds_toArray, List.set_cons_zero, List.set_cons_succ]
          refine wpAnyH_take (i := 2) (oi := { dst := some 45, op := Op.move (Operand.tmp 9), type := 3, pos := "law.go:52", after := #[], guard := none }) (v := ?v2_43) rfl (by kernel_rfl) (by kernel_rfl) (by kernel_rfl) (fun _ _ _ h => h) (Or.inl ⟨by rfl, ?hy2_43⟩) hS ?rest2_43
          case hy2_43 =>
            intro w hSw
            (try dsimp only at hSw)
            go_simp
            try with_reducible rfl
          try simp only [Act.put, List.setIfInBounds_toArray, List.set_cons_zero, List.set_cons_succ]
          refine wpAnyH_take (i := 3) (oi := { dst := some 46, op := Op.indexAddr 29 (Operand.tmp 44) (Operand.tmp 45), type := 0, pos := "law.go:52", after := #[{ on := 1, ground := Ground.data }, { on := 2, ground := Ground.data }], guard := none }) (v := ?v3_44) rfl (by kernel_rfl) (by kernel_rfl) (by kernel_rfl) (fun _ _ _ h => h) (Or.inl ⟨by rfl, ?hy3_44⟩) hS ?rest3_44
          case hy3_44 =>
            intro w hSw
            (try dsimp only at hSw)
            go_simp
            try with_reducible rfl
          try simp only [Act.put, List.setIfInBounds_toArray, List.set_cons_zero, List.set_cons_succ]
          refine wpAnyH_take (i := 4) (oi := { dst := some 47, op := Op.fieldAddr 31 (Operand.tmp 46) 0, type := 0, pos := "law.go:52", after := #[{ on := 3, ground := Ground.data }], guard := none }) (v := ?v4_45) rfl (by kernel_rfl) (by kernel_rfl) (by kernel_rfl) (fun _ _ _ h => h) (Or.inl ⟨by rfl, ?hy4_45⟩) hS ?rest4_45
          case hy4_45 =>
            intro w hSw
            (try dsimp only at hSw)
            go_simp
            try with_reducible rfl
          try simp only [Act.put, List.setIfInBounds_toArray, List.set_cons_zero, List.set_cons_succ]
          refine wpAnyH_take (i := 5) (oi := { dst := some 48, op := Op.load 3 (Operand.tmp 47), type := 3, pos := "law.go:52", after := #[{ on := 4, ground := Ground.data }], guard := none }) (v := ?v5_46) rfl (by kernel_rfl) (by kernel_rfl) (by kernel_rfl) (fun _ _ _ h => h) (Or.inl ⟨by rfl, ?hy5_46⟩) hS ?rest5_46
          case hy5_46 =>
            intro w hSw
            (try dsimp only at hSw)
            go_simp
            try with_reducible rfl
          try simp only [Act.put, List.setIfInBounds_toArray, List.set_cons_zero, List.set_cons_succ]
          refine wpAnyH_take (i := 6) (oi := { dst := some 49, op := Op.move (Operand.tmp 0), type := 29, pos := "law.go:52", after := #[], guard := none }) (v := ?v6_47) rfl (by kernel_rfl) (by kernel_rfl) (by kernel_rfl) (fun _ _ _ h => h) (Or.inl ⟨by rfl, ?hy6_47⟩) hS ?rest6_47
          case hy6_47 =>
            intro w hSw
            (try dsimp only at hSw)
            go_simp
            try with_reducible rfl
          try simp only [Act.put, List.setIfInBounds_toArray, List.set_cons_zero, List.set_cons_succ]
          refine wpAnyH_take (i := 7) (oi := { dst := some 50, op := Op.move (Operand.tmp 9), type := 3, pos := "law.go:52", after := #[], guard := none }) (v := ?v7_48) rfl (by kernel_rfl) (by kernel_rfl) (by kernel_rfl) (fun _ _ _ h => h) (Or.inl ⟨by rfl, ?hy7_48⟩) hS ?rest7_48
          case hy7_48 =>
            intro w hSw
            (try dsimp only at hSw)
            go_simp
            try with_reducible rfl
          try simp only [Act.put, List.setIfInBounds_toArray, List.set_cons_zero, List.set_cons_succ]
          refine wpAnyH_take (i := 8) (oi := { dst := some 51, op := Op.indexAddr 29 (Operand.tmp 49) (Operand.tmp 50), type := 0, pos := "law.go:52", after := #[{ on := 6, ground := Ground.data }, { on := 7, ground := Ground.data }], guard := none }) (v := ?v8_49) rfl (by kernel_rfl) (by kernel_rfl) (by kernel_rfl) (fun _ _ _ h => h) (Or.inl ⟨by rfl, ?hy8_49⟩) hS ?rest8_49
          case hy8_49 =>
            intro w hSw
            (try dsimp only at hSw)
            go_simp
            try with_reducible rfl
          try simp only [Act.put, List.setIfInBounds_toArray, List.set_cons_zero, List.set_cons_succ]
          refine wpAnyH_take (i := 9) (oi := { dst := some 52, op := Op.fieldAddr 31 (Operand.tmp 51) 1, type := 0, pos := "law.go:52", after := #[{ on := 8, ground := Ground.data }], guard := none }) (v := ?v9_50) rfl (by kernel_rfl) (by kernel_rfl) (by kernel_rfl) (fun _ _ _ h => h) (Or.inl ⟨by rfl, ?hy9_50⟩) hS ?rest9_50
          case hy9_50 =>
            intro w hSw
            (try dsimp only at hSw)
            go_simp
            try with_reducible rfl
          try simp only [Act.put, List.setIfInBounds_toArray, List.set_cons_zero, List.set_cons_succ]
          refine wpAnyH_take (i := 10) (oi := { dst := some 53, op := Op.load 3 (Operand.tmp 52), type := 3, pos := "law.go:52", after := #[{ on := 9, ground := Ground.data }], guard := none }) (v := ?v10_51) rfl (by kernel_rfl) (by kernel_rfl) (by kernel_rfl) (fun _ _ _ h => h) (Or.inl ⟨by rfl, ?hy10_51⟩) hS ?rest10_51
          case hy10_51 =>
            intro w hSw
            (try dsimp only at hSw)
            go_simp
            try with_reducible rfl
          try simp only [Act.put, List.setIfInBounds_toArray, List.set_cons_zero, List.set_cons_succ]
          refine wpAnyH_take (i := 11) (oi := { dst := some 54, op := Op.move (Operand.tmp 10), type := 3, pos := "law.go:52", after := #[], guard := none }) (v := ?v11_52) rfl (by kernel_rfl) (by kernel_rfl) (by kernel_rfl) (fun _ _ _ h => h) (Or.inl ⟨by rfl, ?hy11_52⟩) hS ?rest11_52
          case hy11_52 =>
            intro w hSw
            (try dsimp only at hSw)
            go_simp
            try with_reducible rfl
          try simp only [Act.put, List.setIfInBounds_toArray, List.set_cons_zero, List.set_cons_succ]
          refine wpAnyH_ready (rs := [12, 16]) (by kernel_rfl) (by simp) ?_
          refine AllReadyH.cons (o := { dst := some 55, op := Op.call { callee := Callee.value (Operand.func 11), args := #[Operand.tmp 43, Operand.tmp 48, Operand.tmp 53, Operand.tmp 54], argTypes := #[23, 3, 3, 3] }, type := 25, pos := "law.go:52", after := #[{ on := 0, ground := Ground.data }, { on := 5, ground := Ground.data }, { on := 10, ground := Ground.data }, { on := 11, ground := Ground.data }], guard := none }) rfl (fun K hK => ?_) ?_
          ·
            go_simp
            refine (CN _ HT0.out).mono ?_
            rintro e v1 ⟨rfl, hb⟩
            have q01 := q00.below hb q00.lt
            have hbw := hb.mono hB0.size
            have hB1 := hB0.trans hbw
            have HT1 := Lib.hid (HT0.out.below hb HT0.out.lt)
            have HS1 := Lib.hid (HS0.out.below hbw)
            have e01 : v1.cell? ⟨bS, off + j * 3, none⟩ = some (.int .i64 x.d) := (hbw.cell (p := ⟨bS, _, none⟩) hbn).trans e00
            have e11 : v1.cell? ⟨bS, off + j * 3 + 1, none⟩ = some (.int .i64 x.o) := (hbw.cell (p := ⟨bS, _, none⟩) hbn).trans e10
            clear hb hbw
            have c10 : v1.cell? ⟨B, 0, none⟩ = some (Value.int .i64 s.st) := q01.cell 0 rfl
            have c11 : v1.cell? ⟨B, 1, none⟩ = some (Value.int .i64 s.ow) := q01.cell 1 rfl
            have c12 : v1.cell? ⟨B, 2, none⟩ = some (Value.int .i64 s.sr) := q01.cell 2 rfl
            have c13 : v1.cell? ⟨B, 3, none⟩ = some (Value.bool s.br) := q01.cell 3 rfl
            have c14 : v1.cell? ⟨B, 4, none⟩ = some (Value.bool s.ma) := q01.cell 4 rfl
            have c15 : v1.cell? ⟨B, 5, none⟩ = some (Value.int .i64 s.us) := q01.cell 5 rfl
            have c16 : v1.cell? ⟨B, 6, none⟩ = some (Value.int .i64 s.ge) := q01.cell 6 rfl
            have c17 : v1.cell? ⟨B, 7, none⟩ = some (Value.int .i64 s.ep) := q01.cell 7 rfl
            have c18 : v1.cell? ⟨B, 8, none⟩ = some (Value.int .i64 s.ve) := q01.cell 8 rfl
            refine hK.out _ _ ⟨c10, c11, c12, c13, c14, c15, c16, c17, c18, e01, e11⟩ (fun hS => ?_)
            clear hK K
            try simp only [Act.put, List.setIfInBounds_toArray, List.set_cons_zero, List.set_cons_succ]
            refine wpAnyH_take (i := 13) (oi := { dst := some 42, op := Op.move (Operand.tmp 55), type := 25, pos := "law.go:52", after := #[{ on := 12, ground := Ground.data }], guard := none }) (v := ?v13_53) rfl (by kernel_rfl) (by kernel_rfl) (by kernel_rfl) (fun _ _ _ h => h) (Or.inl ⟨by rfl, ?hy13_53⟩) hS ?rest13_53
            case hy13_53 =>
              intro w hSw
              (try dsimp only at hSw)
              go_simp
              try with_reducible rfl
            try simp only [Act.put, List.setIfInBounds_toArray, List.set_cons_zero, List.set_cons_succ]
            refine wpAnyH_take (i := 14) (oi := { dst := some 56, op := Op.extract (Operand.tmp 42) 0, type := 23, pos := "law.go:52", after := #[{ on := 13, ground := Ground.data }], guard := none }) (v := ?v14_54) rfl (by kernel_rfl) (by kernel_rfl) (by kernel_rfl) (fun _ _ _ h => h) (Or.inl ⟨by rfl, ?hy14_54⟩) hS ?rest14_54
            case hy14_54 =>
              intro w hSw
              (try dsimp only at hSw)
              go_simp
              try with_reducible rfl
            try simp only [Act.put, List.setIfInBounds_toArray, List.set_cons_zero, List.set_cons_succ]
            refine wpAnyH_take (i := 15) (oi := { dst := some 57, op := Op.extract (Operand.tmp 42) 1, type := 4, pos := "law.go:52", after := #[{ on := 13, ground := Ground.data }, { on := 17, ground := Ground.gcOnly Departure.lateStores }], guard := none }) (v := ?v15_55) rfl (by kernel_rfl) (by kernel_rfl) (by kernel_rfl) (fun _ _ _ h => h) (Or.inl ⟨by rfl, ?hy15_55⟩) hS ?rest15_55
            case hy15_55 =>
              intro w hSw
              (try dsimp only at hSw)
              go_simp
              try with_reducible rfl
            try simp only [Act.put, List.setIfInBounds_toArray, List.set_cons_zero, List.set_cons_succ]
            refine wpAnyH_ready (rs := [16]) (by kernel_rfl) (by simp) ?_
            refine AllReadyH.cons (o := { dst := some 11, op := Op.alloc 23, type := 0, pos := "law.go:52", after := #[], guard := none }) rfl (fun K hK => ?_) AllReadyH.nil
            go_simp
            have o2 := RowAt.new v1 23 #[Value.int .i64 0, Value.int .i64 0, Value.int .i64 0, Value.bool false, Value.bool false, Value.int .i64 0, Value.int .i64 0, Value.int .i64 0, Value.int .i64 0]
            have q02 := q01.alloc (.cells #[Value.int .i64 0, Value.int .i64 0, Value.int .i64 0, Value.bool false, Value.bool false, Value.int .i64 0, Value.int .i64 0, Value.int .i64 0, Value.int .i64 0] 23)
            have hbw := (Below.refl w.heap.size v1).alloc hB1.size (.cells #[Value.int .i64 0, Value.int .i64 0, Value.int .i64 0, Value.bool false, Value.bool false, Value.int .i64 0, Value.int .i64 0, Value.int .i64 0, Value.int .i64 0] 23)
            have hB2 := hB1.trans hbw
            have HT2 := Lib.hid (HT1.out.alloc (.cells #[Value.int .i64 0, Value.int .i64 0, Value.int .i64 0, Value.bool false, Value.bool false, Value.int .i64 0, Value.int .i64 0, Value.int .i64 0, Value.int .i64 0] 23))
            have HS2 := Lib.hid (HS1.out.below hbw)
            have e02 : (v1.alloc (.cells #[Value.int .i64 0, Value.int .i64 0, Value.int .i64 0, Value.bool false, Value.bool false, Value.int .i64 0, Value.int .i64 0, Value.int .i64 0, Value.int .i64 0] 23)).cell? ⟨bS, off + j * 3, none⟩ = some (.int .i64 x.d) := (hbw.cell (p := ⟨bS, _, none⟩) hbn).trans e01
            have e12 : (v1.alloc (.cells #[Value.int .i64 0, Value.int .i64 0, Value.int .i64 0, Value.bool false, Value.bool false, Value.int .i64 0, Value.int .i64 0, Value.int .i64 0, Value.int .i64 0] 23)).cell? ⟨bS, off + j * 3 + 1, none⟩ = some (.int .i64 x.o) := (hbw.cell (p := ⟨bS, _, none⟩) hbn).trans e11
            clear hbw
            have c20 : (v1.alloc (.cells #[Value.int .i64 0, Value.int .i64 0, Value.int .i64 0, Value.bool false, Value.bool false, Value.int .i64 0, Value.int .i64 0, Value.int .i64 0, Value.int .i64 0] 23)).cell? ⟨B, 0, none⟩ = some (Value.int .i64 s.st) := q02.cell 0 rfl
            have c21 : (v1.alloc (.cells #[Value.int .i64 0, Value.int .i64 0, Value.int .i64 0, Value.bool false, Value.bool false, Value.int .i64 0, Value.int .i64 0, Value.int .i64 0, Value.int .i64 0] 23)).cell? ⟨B, 1, none⟩ = some (Value.int .i64 s.ow) := q02.cell 1 rfl
            have c22 : (v1.alloc (.cells #[Value.int .i64 0, Value.int .i64 0, Value.int .i64 0, Value.bool false, Value.bool false, Value.int .i64 0, Value.int .i64 0, Value.int .i64 0, Value.int .i64 0] 23)).cell? ⟨B, 2, none⟩ = some (Value.int .i64 s.sr) := q02.cell 2 rfl
            have c23 : (v1.alloc (.cells #[Value.int .i64 0, Value.int .i64 0, Value.int .i64 0, Value.bool false, Value.bool false, Value.int .i64 0, Value.int .i64 0, Value.int .i64 0, Value.int .i64 0] 23)).cell? ⟨B, 3, none⟩ = some (Value.bool s.br) := q02.cell 3 rfl
            have c24 : (v1.alloc (.cells #[Value.int .i64 0, Value.int .i64 0, Value.int .i64 0, Value.bool false, Value.bool false, Value.int .i64 0, Value.int .i64 0, Value.int .i64 0, Value.int .i64 0] 23)).cell? ⟨B, 4, none⟩ = some (Value.bool s.ma) := q02.cell 4 rfl
            have c25 : (v1.alloc (.cells #[Value.int .i64 0, Value.int .i64 0, Value.int .i64 0, Value.bool false, Value.bool false, Value.int .i64 0, Value.int .i64 0, Value.int .i64 0, Value.int .i64 0] 23)).cell? ⟨B, 5, none⟩ = some (Value.int .i64 s.us) := q02.cell 5 rfl
            have c26 : (v1.alloc (.cells #[Value.int .i64 0, Value.int .i64 0, Value.int .i64 0, Value.bool false, Value.bool false, Value.int .i64 0, Value.int .i64 0, Value.int .i64 0, Value.int .i64 0] 23)).cell? ⟨B, 6, none⟩ = some (Value.int .i64 s.ge) := q02.cell 6 rfl
            have c27 : (v1.alloc (.cells #[Value.int .i64 0, Value.int .i64 0, Value.int .i64 0, Value.bool false, Value.bool false, Value.int .i64 0, Value.int .i64 0, Value.int .i64 0, Value.int .i64 0] 23)).cell? ⟨B, 7, none⟩ = some (Value.int .i64 s.ep) := q02.cell 7 rfl
            have c28 : (v1.alloc (.cells #[Value.int .i64 0, Value.int .i64 0, Value.int .i64 0, Value.bool false, Value.bool false, Value.int .i64 0, Value.int .i64 0, Value.int .i64 0, Value.int .i64 0] 23)).cell? ⟨B, 8, none⟩ = some (Value.int .i64 s.ve) := q02.cell 8 rfl
            refine hK.out _ _ ⟨c20, c21, c22, c23, c24, c25, c26, c27, c28, e02, e12⟩ (fun hS => ?_)
            clear hK K
            try simp only [Act.put, List.setIfInBounds_toArray, List.set_cons_zero, List.set_cons_succ]
            refine wpAnyH_ready (rs := [17]) (by kernel_rfl) (by simp) ?_
            refine AllReadyH.cons (o := { dst := none, op := Op.store 23 (Operand.tmp 11) (Operand.tmp 56), type := 0, pos := "law.go:52", after := #[{ on := 16, ground := Ground.data }, { on := 14, ground := Ground.data }, { on := 12, ground := Ground.chain }, { on := 0, ground := Ground.phase }, { on := 1, ground := Ground.phase }, { on := 2, ground := Ground.phase }, { on := 3, ground := Ground.phase }, { on := 4, ground := Ground.phase }, { on := 5, ground := Ground.phase }, { on := 6, ground := Ground.phase }, { on := 7, ground := Ground.phase }, { on := 8, ground := Ground.phase }, { on := 9, ground := Ground.phase }, { on := 10, ground := Ground.phase }, { on := 11, ground := Ground.phase }, { on := 12, ground := Ground.phase }, { on := 13, ground := Ground.phase }, { on := 14, ground := Ground.phase }, { on := 15, ground := Ground.textOnly Departure.lateStores }, { on := 16, ground := Ground.phase }], guard := none }) rfl (fun K hK => ?_) AllReadyH.nil
            go_simp
            have RB := RowAt.new v1 23 #[Value.int .i64 t.st, Value.int .i64 t.ow, Value.int .i64 t.sr, Value.bool t.br, Value.bool t.ma, Value.int .i64 t.us, Value.int .i64 t.ge, Value.int .i64 t.ep, Value.int .i64 t.ve]
            have R0 := q01.alloc (.cells #[Value.int .i64 t.st, Value.int .i64 t.ow, Value.int .i64 t.sr, Value.bool t.br, Value.bool t.ma, Value.int .i64 t.us, Value.int .i64 t.ge, Value.int .i64 t.ep, Value.int .i64 t.ve] 23)
            have hbw := (Below.refl w.heap.size v1).alloc hB1.size (.cells #[Value.int .i64 t.st, Value.int .i64 t.ow, Value.int .i64 t.sr, Value.bool t.br, Value.bool t.ma, Value.int .i64 t.us, Value.int .i64 t.ge, Value.int .i64 t.ep, Value.int .i64 t.ve] 23)
            have HB := hB1.trans hbw
            have HT := Lib.hid (HT1.out.alloc (.cells #[Value.int .i64 t.st, Value.int .i64 t.ow, Value.int .i64 t.sr, Value.bool t.br, Value.bool t.ma, Value.int .i64 t.us, Value.int .i64 t.ge, Value.int .i64 t.ep, Value.int .i64 t.ve] 23))
            have HS := Lib.hid (HS1.out.below hbw)
            have hne := Nat.ne_of_lt q01.lt
            have f0 : (v1.alloc (.cells #[Value.int .i64 t.st, Value.int .i64 t.ow, Value.int .i64 t.sr, Value.bool t.br, Value.bool t.ma, Value.int .i64 t.us, Value.int .i64 t.ge, Value.int .i64 t.ep, Value.int .i64 t.ve] 23)).cell? ⟨bS, off + j * 3, none⟩ = some (.int .i64 x.d) := (hbw.cell (p := ⟨bS, _, none⟩) hbn).trans e01
            have f1 : (v1.alloc (.cells #[Value.int .i64 t.st, Value.int .i64 t.ow, Value.int .i64 t.sr, Value.bool t.br, Value.bool t.ma, Value.int .i64 t.us, Value.int .i64 t.ge, Value.int .i64 t.ep, Value.int .i64 t.ve] 23)).cell? ⟨bS, off + j * 3 + 1, none⟩ = some (.int .i64 x.o) := (hbw.cell (p := ⟨bS, _, none⟩) hbn).trans e11
            clear hbw
            obtain ⟨V, hV⟩ : ∃ V, V = (v1.alloc (.cells #[Value.int .i64 t.st, Value.int .i64 t.ow, Value.int .i64 t.sr, Value.bool t.br, Value.bool t.ma, Value.int .i64 t.us, Value.int .i64 t.ge, Value.int .i64 t.ep, Value.int .i64 t.ve] 23)) := ⟨_, rfl⟩
            rw [← hV] at RB R0 HB HT HS f0 f1 ⊢
            clear hV
            obtain ⟨B5, eB⟩ : ∃ B5, B5 = v1.heap.size := ⟨_, rfl⟩
            rw [← eB] at RB hne ⊢
            clear eB
            have z0 : V.cell? ⟨B, 0, none⟩ = some (Value.int .i64 s.st) := R0.cell 0 rfl
            have z1 : V.cell? ⟨B, 1, none⟩ = some (Value.int .i64 s.ow) := R0.cell 1 rfl
            have z2 : V.cell? ⟨B, 2, none⟩ = some (Value.int .i64 s.sr) := R0.cell 2 rfl
            have z3 : V.cell? ⟨B, 3, none⟩ = some (Value.bool s.br) := R0.cell 3 rfl
            have z4 : V.cell? ⟨B, 4, none⟩ = some (Value.bool s.ma) := R0.cell 4 rfl
            have z5 : V.cell? ⟨B, 5, none⟩ = some (Value.int .i64 s.us) := R0.cell 5 rfl
            have z6 : V.cell? ⟨B, 6, none⟩ = some (Value.int .i64 s.ge) := R0.cell 6 rfl
            have z7 : V.cell? ⟨B, 7, none⟩ = some (Value.int .i64 s.ep) := R0.cell 7 rfl
            have z8 : V.cell? ⟨B, 8, none⟩ = some (Value.int .i64 s.ve) := R0.cell 8 rfl
            refine hK.out _ _ ⟨z0, z1, z2, z3, z4, z5, z6, z7, z8, f0, f1⟩ (fun hS => ?_)
            clear hK K
            try simp only [Act.put, List.setIfInBounds_toArray, List.set_cons_zero, List.set_cons_succ]
            refine wpAnyH_take (i := 18) (oi := { dst := some 12, op := Op.assign (Operand.tmp 57), type := 4, pos := "law.go:52", after := #[{ on := 15, ground := Ground.data }, { on := 17, ground := Ground.chain }, { on := 0, ground := Ground.phase }, { on := 1, ground := Ground.phase }, { on := 2, ground := Ground.phase }, { on := 3, ground := Ground.phase }, { on := 4, ground := Ground.phase }, { on := 5, ground := Ground.phase }, { on := 6, ground := Ground.phase }, { on := 7, ground := Ground.phase }, { on := 8, ground := Ground.phase }, { on := 9, ground := Ground.phase }, { on := 10, ground := Ground.phase }, { on := 11, ground := Ground.phase }, { on := 12, ground := Ground.phase }, { on := 13, ground := Ground.phase }, { on := 14, ground := Ground.phase }, { on := 15, ground := Ground.phase }, { on := 16, ground := Ground.phase }, { on := 17, ground := Ground.phase }], guard := none }) (v := ?v18_56) rfl (by kernel_rfl) (by kernel_rfl) (by kernel_rfl) (fun _ _ _ h => h) (Or.inl ⟨by rfl, ?hy18_56⟩) hS ?rest18_56
            case hy18_56 =>
              intro w hSw
              (try dsimp only at hSw)
              go_simp
              try with_reducible rfl
            try simp only [Act.put, List.setIfInBounds_toArray, List.set_cons_zero, List.set_cons_succ]
            refine wpAnyH_done (by kernel_rfl) ?_ _
            go_wp2
            go_roundw
            case rel => exact ⟨j + 1, s, by omega, by go_num, rfl, hR, by omega, HSR.out, R0, HT, HS, HB⟩
            case measure => simp [intOf]; omega
          refine AllReadyH.cons (o := { dst := some 11, op := Op.alloc 23, type := 0, pos := "law.go:52", after := #[], guard := none }) rfl (fun K hK => ?_) AllReadyH.nil
          go_simp
          have o1 := RowAt.new WD 23 #[Value.int .i64 0, Value.int .i64 0, Value.int .i64 0, Value.bool false, Value.bool false, Value.int .i64 0, Value.int .i64 0, Value.int .i64 0, Value.int .i64 0]
          have q01 := q00.alloc (.cells #[Value.int .i64 0, Value.int .i64 0, Value.int .i64 0, Value.bool false, Value.bool false, Value.int .i64 0, Value.int .i64 0, Value.int .i64 0, Value.int .i64 0] 23)
          have hbw := (Below.refl w.heap.size WD).alloc hB0.size (.cells #[Value.int .i64 0, Value.int .i64 0, Value.int .i64 0, Value.bool false, Value.bool false, Value.int .i64 0, Value.int .i64 0, Value.int .i64 0, Value.int .i64 0] 23)
          have hB1 := hB0.trans hbw
          have HT1 := Lib.hid (HT0.out.alloc (.cells #[Value.int .i64 0, Value.int .i64 0, Value.int .i64 0, Value.bool false, Value.bool false, Value.int .i64 0, Value.int .i64 0, Value.int .i64 0, Value.int .i64 0] 23))
          have HS1 := Lib.hid (HS0.out.below hbw)
          have e01 : (WD.alloc (.cells #[Value.int .i64 0, Value.int .i64 0, Value.int .i64 0, Value.bool false, Value.bool false, Value.int .i64 0, Value.int .i64 0, Value.int .i64 0, Value.int .i64 0] 23)).cell? ⟨bS, off + j * 3, none⟩ = some (.int .i64 x.d) := (hbw.cell (p := ⟨bS, _, none⟩) hbn).trans e00
          have e11 : (WD.alloc (.cells #[Value.int .i64 0, Value.int .i64 0, Value.int .i64 0, Value.bool false, Value.bool false, Value.int .i64 0, Value.int .i64 0, Value.int .i64 0, Value.int .i64 0] 23)).cell? ⟨bS, off + j * 3 + 1, none⟩ = some (.int .i64 x.o) := (hbw.cell (p := ⟨bS, _, none⟩) hbn).trans e10
          clear hbw
          have c10 : (WD.alloc (.cells #[Value.int .i64 0, Value.int .i64 0, Value.int .i64 0, Value.bool false, Value.bool false, Value.int .i64 0, Value.int .i64 0, Value.int .i64 0, Value.int .i64 0] 23)).cell? ⟨B, 0, none⟩ = some (Value.int .i64 s.st) := q01.cell 0 rfl
          have c11 : (WD.alloc (.cells #[Value.int .i64 0, Value.int .i64 0, Value.int .i64 0, Value.bool false, Value.bool false, Value.int .i64 0, Value.int .i64 0, Value.int .i64 0, Value.int .i64 0] 23)).cell? ⟨B, 1, none⟩ = some (Value.int .i64 s.ow) := q01.cell 1 rfl
          have c12 : (WD.alloc (.cells #[Value.int .i64 0, Value.int .i64 0, Value.int .i64 0, Value.bool false, Value.bool false, Value.int .i64 0, Value.int .i64 0, Value.int .i64 0, Value.int .i64 0] 23)).cell? ⟨B, 2, none⟩ = some (Value.int .i64 s.sr) := q01.cell 2 rfl
          have c13 : (WD.alloc (.cells #[Value.int .i64 0, Value.int .i64 0, Value.int .i64 0, Value.bool false, Value.bool false, Value.int .i64 0, Value.int .i64 0, Value.int .i64 0, Value.int .i64 0] 23)).cell? ⟨B, 3, none⟩ = some (Value.bool s.br) := q01.cell 3 rfl
          have c14 : (WD.alloc (.cells #[Value.int .i64 0, Value.int .i64 0, Value.int .i64 0, Value.bool false, Value.bool false, Value.int .i64 0, Value.int .i64 0, Value.int .i64 0, Value.int .i64 0] 23)).cell? ⟨B, 4, none⟩ = some (Value.bool s.ma) := q01.cell 4 rfl
          have c15 : (WD.alloc (.cells #[Value.int .i64 0, Value.int .i64 0, Value.int .i64 0, Value.bool false, Value.bool false, Value.int .i64 0, Value.int .i64 0, Value.int .i64 0, Value.int .i64 0] 23)).cell? ⟨B, 5, none⟩ = some (Value.int .i64 s.us) := q01.cell 5 rfl
          have c16 : (WD.alloc (.cells #[Value.int .i64 0, Value.int .i64 0, Value.int .i64 0, Value.bool false, Value.bool false, Value.int .i64 0, Value.int .i64 0, Value.int .i64 0, Value.int .i64 0] 23)).cell? ⟨B, 6, none⟩ = some (Value.int .i64 s.ge) := q01.cell 6 rfl
          have c17 : (WD.alloc (.cells #[Value.int .i64 0, Value.int .i64 0, Value.int .i64 0, Value.bool false, Value.bool false, Value.int .i64 0, Value.int .i64 0, Value.int .i64 0, Value.int .i64 0] 23)).cell? ⟨B, 7, none⟩ = some (Value.int .i64 s.ep) := q01.cell 7 rfl
          have c18 : (WD.alloc (.cells #[Value.int .i64 0, Value.int .i64 0, Value.int .i64 0, Value.bool false, Value.bool false, Value.int .i64 0, Value.int .i64 0, Value.int .i64 0, Value.int .i64 0] 23)).cell? ⟨B, 8, none⟩ = some (Value.int .i64 s.ve) := q01.cell 8 rfl
          refine hK.out _ _ ⟨c10, c11, c12, c13, c14, c15, c16, c17, c18, e01, e11⟩ (fun hS => ?_)
          clear hK K
          try simp only [Act.put, List.setIfInBounds_toArray, List.set_cons_zero, List.set_cons_succ]
          refine wpAnyH_ready (rs := [12]) (by kernel_rfl) (by simp) ?_
          refine AllReadyH.cons (o := { dst := some 55, op := Op.call { callee := Callee.value (Operand.func 11), args := #[Operand.tmp 43, Operand.tmp 48, Operand.tmp 53, Operand.tmp 54], argTypes := #[23, 3, 3, 3] }, type := 25, pos := "law.go:52", after := #[{ on := 0, ground := Ground.data }, { on := 5, ground := Ground.data }, { on := 10, ground := Ground.data }, { on := 11, ground := Ground.data }], guard := none }) rfl (fun K hK => ?_) AllReadyH.nil
          go_simp
          refine (CN _ HT1.out).mono ?_
          rintro e v2 ⟨rfl, hb⟩
          have q02 := q01.below hb q01.lt
          have hbw := hb.mono hB1.size
          have hB2 := hB1.trans hbw
          have HT2 := Lib.hid (HT1.out.below hb HT1.out.lt)
          have HS2 := Lib.hid (HS1.out.below hbw)
          have o2 := o1.below hb o1.lt
          have d0 : v2.cell? ⟨WD.heap.size, 0, none⟩ = some (Value.int .i64 0) := o2.cell 0 rfl
          have d1 : v2.cell? ⟨WD.heap.size, 1, none⟩ = some (Value.int .i64 0) := o2.cell 1 rfl
          have d2 : v2.cell? ⟨WD.heap.size, 2, none⟩ = some (Value.int .i64 0) := o2.cell 2 rfl
          have d3 : v2.cell? ⟨WD.heap.size, 3, none⟩ = some (Value.bool false) := o2.cell 3 rfl
          have d4 : v2.cell? ⟨WD.heap.size, 4, none⟩ = some (Value.bool false) := o2.cell 4 rfl
          have d5 : v2.cell? ⟨WD.heap.size, 5, none⟩ = some (Value.int .i64 0) := o2.cell 5 rfl
          have d6 : v2.cell? ⟨WD.heap.size, 6, none⟩ = some (Value.int .i64 0) := o2.cell 6 rfl
          have d7 : v2.cell? ⟨WD.heap.size, 7, none⟩ = some (Value.int .i64 0) := o2.cell 7 rfl
          have d8 : v2.cell? ⟨WD.heap.size, 8, none⟩ = some (Value.int .i64 0) := o2.cell 8 rfl
          have g0 : v2.frozen? ⟨WD.heap.size, 0, none⟩ = false := o2.frozen 0
          have g1 : v2.frozen? ⟨WD.heap.size, 1, none⟩ = false := o2.frozen 1
          have g2 : v2.frozen? ⟨WD.heap.size, 2, none⟩ = false := o2.frozen 2
          have g3 : v2.frozen? ⟨WD.heap.size, 3, none⟩ = false := o2.frozen 3
          have g4 : v2.frozen? ⟨WD.heap.size, 4, none⟩ = false := o2.frozen 4
          have g5 : v2.frozen? ⟨WD.heap.size, 5, none⟩ = false := o2.frozen 5
          have g6 : v2.frozen? ⟨WD.heap.size, 6, none⟩ = false := o2.frozen 6
          have g7 : v2.frozen? ⟨WD.heap.size, 7, none⟩ = false := o2.frozen 7
          have g8 : v2.frozen? ⟨WD.heap.size, 8, none⟩ = false := o2.frozen 8
          have e02 : v2.cell? ⟨bS, off + j * 3, none⟩ = some (.int .i64 x.d) := (hbw.cell (p := ⟨bS, _, none⟩) hbn).trans e01
          have e12 : v2.cell? ⟨bS, off + j * 3 + 1, none⟩ = some (.int .i64 x.o) := (hbw.cell (p := ⟨bS, _, none⟩) hbn).trans e11
          clear hb hbw
          have c20 : v2.cell? ⟨B, 0, none⟩ = some (Value.int .i64 s.st) := q02.cell 0 rfl
          have c21 : v2.cell? ⟨B, 1, none⟩ = some (Value.int .i64 s.ow) := q02.cell 1 rfl
          have c22 : v2.cell? ⟨B, 2, none⟩ = some (Value.int .i64 s.sr) := q02.cell 2 rfl
          have c23 : v2.cell? ⟨B, 3, none⟩ = some (Value.bool s.br) := q02.cell 3 rfl
          have c24 : v2.cell? ⟨B, 4, none⟩ = some (Value.bool s.ma) := q02.cell 4 rfl
          have c25 : v2.cell? ⟨B, 5, none⟩ = some (Value.int .i64 s.us) := q02.cell 5 rfl
          have c26 : v2.cell? ⟨B, 6, none⟩ = some (Value.int .i64 s.ge) := q02.cell 6 rfl
          have c27 : v2.cell? ⟨B, 7, none⟩ = some (Value.int .i64 s.ep) := q02.cell 7 rfl
          have c28 : v2.cell? ⟨B, 8, none⟩ = some (Value.int .i64 s.ve) := q02.cell 8 rfl
          refine hK.out _ _ ⟨c20, c21, c22, c23, c24, c25, c26, c27, c28, e02, e12⟩ (fun hS => ?_)
          clear hK K
          try simp only [Act.put, List.setIfInBounds_toArray, List.set_cons_zero, List.set_cons_succ]
          refine wpAnyH_take (i := 13) (oi := { dst := some 42, op := Op.move (Operand.tmp 55), type := 25, pos := "law.go:52", after := #[{ on := 12, ground := Ground.data }], guard := none }) (v := ?v13_57) rfl (by kernel_rfl) (by kernel_rfl) (by kernel_rfl) (fun _ _ _ h => h) (Or.inl ⟨by rfl, ?hy13_57⟩) hS ?rest13_57
          case hy13_57 =>
            intro w hSw
            (try dsimp only at hSw)
            go_simp
            try with_reducible rfl
          try simp only [Act.put, List.setIfInBounds_toArray, List.set_cons_zero, List.set_cons_succ]
          refine wpAnyH_take (i := 14) (oi := { dst := some 56, op := Op.extract (Operand.tmp 42) 0, type := 23, pos := "law.go:52", after := #[{ on := 13, ground := Ground.data }], guard := none }) (v := ?v14_58) rfl (by kernel_rfl) (by kernel_rfl) (by kernel_rfl) (fun _ _ _ h => h) (Or.inl ⟨by rfl, ?hy14_58⟩) hS ?rest14_58
          case hy14_58 =>
            intro w hSw
            (try dsimp only at hSw)
            go_simp
            try with_reducible rfl
          try simp only [Act.put, List.setIfInBounds_toArray, List.set_cons_zero, List.set_cons_succ]
          refine wpAnyH_take (i := 15) (oi := { dst := some 57, op := Op.extract (Operand.tmp 42) 1, type := 4, pos := "law.go:52", after := #[{ on := 13, ground := Ground.data }, { on := 17, ground := Ground.gcOnly Departure.lateStores }], guard := none }) (v := ?v15_59) rfl (by kernel_rfl) (by kernel_rfl) (by kernel_rfl) (fun _ _ _ h => h) (Or.inl ⟨by rfl, ?hy15_59⟩) hS ?rest15_59
          case hy15_59 =>
            intro w hSw
            (try dsimp only at hSw)
            go_simp
            try with_reducible rfl
          try simp only [Act.put, List.setIfInBounds_toArray, List.set_cons_zero, List.set_cons_succ]
          refine wpAnyH_ready (rs := [17]) (by kernel_rfl) (by simp) ?_
          refine AllReadyH.cons (o := { dst := none, op := Op.store 23 (Operand.tmp 11) (Operand.tmp 56), type := 0, pos := "law.go:52", after := #[{ on := 16, ground := Ground.data }, { on := 14, ground := Ground.data }, { on := 12, ground := Ground.chain }, { on := 0, ground := Ground.phase }, { on := 1, ground := Ground.phase }, { on := 2, ground := Ground.phase }, { on := 3, ground := Ground.phase }, { on := 4, ground := Ground.phase }, { on := 5, ground := Ground.phase }, { on := 6, ground := Ground.phase }, { on := 7, ground := Ground.phase }, { on := 8, ground := Ground.phase }, { on := 9, ground := Ground.phase }, { on := 10, ground := Ground.phase }, { on := 11, ground := Ground.phase }, { on := 12, ground := Ground.phase }, { on := 13, ground := Ground.phase }, { on := 14, ground := Ground.phase }, { on := 15, ground := Ground.textOnly Departure.lateStores }, { on := 16, ground := Ground.phase }], guard := none }) rfl (fun K hK => ?_) AllReadyH.nil
          go_simp
          have RB := row9 o2 (Value.int .i64 t.st) (Value.int .i64 t.ow) (Value.int .i64 t.sr) (Value.bool t.br) (Value.bool t.ma) (Value.int .i64 t.us) (Value.int .i64 t.ge) (Value.int .i64 t.ep) (Value.int .i64 t.ve)
          have hne := Nat.ne_of_lt q00.lt
          have R0 := oth9 q02 hne (Value.int .i64 t.st) (Value.int .i64 t.ow) (Value.int .i64 t.sr) (Value.bool t.br) (Value.bool t.ma) (Value.int .i64 t.us) (Value.int .i64 t.ge) (Value.int .i64 t.ep) (Value.int .i64 t.ve)
          have hbw := below9 (n := w.heap.size) (A := v2) (b := WD.heap.size) (Below.refl _ _) hB0.size (Value.int .i64 t.st) (Value.int .i64 t.ow) (Value.int .i64 t.sr) (Value.bool t.br) (Value.bool t.ma) (Value.int .i64 t.us) (Value.int .i64 t.ge) (Value.int .i64 t.ep) (Value.int .i64 t.ve)
          have HB := hB2.trans hbw
          have HT := Lib.hid (HT2.out.below (below9 (n := WD.heap.size) (A := v2) (b := WD.heap.size) (Below.refl _ _) (Nat.le_refl _) (Value.int .i64 t.st) (Value.int .i64 t.ow) (Value.int .i64 t.sr) (Value.bool t.br) (Value.bool t.ma) (Value.int .i64 t.us) (Value.int .i64 t.ge) (Value.int .i64 t.ep) (Value.int .i64 t.ve)) HT0.out.lt)
          have HS := Lib.hid (HS2.out.below hbw)
          have f0 : (((((((((v2.setCell ⟨WD.heap.size, 0, none⟩ (Value.int .i64 t.st)).setCell ⟨WD.heap.size, 1, none⟩ (Value.int .i64 t.ow)).setCell ⟨WD.heap.size, 2, none⟩ (Value.int .i64 t.sr)).setCell ⟨WD.heap.size, 3, none⟩ (Value.bool t.br)).setCell ⟨WD.heap.size, 4, none⟩ (Value.bool t.ma)).setCell ⟨WD.heap.size, 5, none⟩ (Value.int .i64 t.us)).setCell ⟨WD.heap.size, 6, none⟩ (Value.int .i64 t.ge)).setCell ⟨WD.heap.size, 7, none⟩ (Value.int .i64 t.ep)).setCell ⟨WD.heap.size, 8, none⟩ (Value.int .i64 t.ve)).cell? ⟨bS, off + j * 3, none⟩ = some (.int .i64 x.d) := (hbw.cell (p := ⟨bS, _, none⟩) hbn).trans e02
          have f1 : (((((((((v2.setCell ⟨WD.heap.size, 0, none⟩ (Value.int .i64 t.st)).setCell ⟨WD.heap.size, 1, none⟩ (Value.int .i64 t.ow)).setCell ⟨WD.heap.size, 2, none⟩ (Value.int .i64 t.sr)).setCell ⟨WD.heap.size, 3, none⟩ (Value.bool t.br)).setCell ⟨WD.heap.size, 4, none⟩ (Value.bool t.ma)).setCell ⟨WD.heap.size, 5, none⟩ (Value.int .i64 t.us)).setCell ⟨WD.heap.size, 6, none⟩ (Value.int .i64 t.ge)).setCell ⟨WD.heap.size, 7, none⟩ (Value.int .i64 t.ep)).setCell ⟨WD.heap.size, 8, none⟩ (Value.int .i64 t.ve)).cell? ⟨bS, off + j * 3 + 1, none⟩ = some (.int .i64 x.o) := (hbw.cell (p := ⟨bS, _, none⟩) hbn).trans e12
          clear hbw
          obtain ⟨V, hV⟩ : ∃ V, V = (((((((((v2.setCell ⟨WD.heap.size, 0, none⟩ (Value.int .i64 t.st)).setCell ⟨WD.heap.size, 1, none⟩ (Value.int .i64 t.ow)).setCell ⟨WD.heap.size, 2, none⟩ (Value.int .i64 t.sr)).setCell ⟨WD.heap.size, 3, none⟩ (Value.bool t.br)).setCell ⟨WD.heap.size, 4, none⟩ (Value.bool t.ma)).setCell ⟨WD.heap.size, 5, none⟩ (Value.int .i64 t.us)).setCell ⟨WD.heap.size, 6, none⟩ (Value.int .i64 t.ge)).setCell ⟨WD.heap.size, 7, none⟩ (Value.int .i64 t.ep)).setCell ⟨WD.heap.size, 8, none⟩ (Value.int .i64 t.ve)) := ⟨_, rfl⟩
          rw [← hV] at RB R0 HB HT HS f0 f1 ⊢
          clear hV
          obtain ⟨B5, eB⟩ : ∃ B5, B5 = WD.heap.size := ⟨_, rfl⟩
          rw [← eB] at RB hne ⊢
          clear eB
          have z0 : V.cell? ⟨B, 0, none⟩ = some (Value.int .i64 s.st) := R0.cell 0 rfl
          have z1 : V.cell? ⟨B, 1, none⟩ = some (Value.int .i64 s.ow) := R0.cell 1 rfl
          have z2 : V.cell? ⟨B, 2, none⟩ = some (Value.int .i64 s.sr) := R0.cell 2 rfl
          have z3 : V.cell? ⟨B, 3, none⟩ = some (Value.bool s.br) := R0.cell 3 rfl
          have z4 : V.cell? ⟨B, 4, none⟩ = some (Value.bool s.ma) := R0.cell 4 rfl
          have z5 : V.cell? ⟨B, 5, none⟩ = some (Value.int .i64 s.us) := R0.cell 5 rfl
          have z6 : V.cell? ⟨B, 6, none⟩ = some (Value.int .i64 s.ge) := R0.cell 6 rfl
          have z7 : V.cell? ⟨B, 7, none⟩ = some (Value.int .i64 s.ep) := R0.cell 7 rfl
          have z8 : V.cell? ⟨B, 8, none⟩ = some (Value.int .i64 s.ve) := R0.cell 8 rfl
          refine hK.out _ _ ⟨z0, z1, z2, z3, z4, z5, z6, z7, z8, f0, f1⟩ (fun hS => ?_)
          clear hK K
          try simp only [Act.put, List.setIfInBounds_toArray, List.set_cons_zero, List.set_cons_succ]
          refine wpAnyH_take (i := 18) (oi := { dst := some 12, op := Op.assign (Operand.tmp 57), type := 4, pos := "law.go:52", after := #[{ on := 15, ground := Ground.data }, { on := 17, ground := Ground.chain }, { on := 0, ground := Ground.phase }, { on := 1, ground := Ground.phase }, { on := 2, ground := Ground.phase }, { on := 3, ground := Ground.phase }, { on := 4, ground := Ground.phase }, { on := 5, ground := Ground.phase }, { on := 6, ground := Ground.phase }, { on := 7, ground := Ground.phase }, { on := 8, ground := Ground.phase }, { on := 9, ground := Ground.phase }, { on := 10, ground := Ground.phase }, { on := 11, ground := Ground.phase }, { on := 12, ground := Ground.phase }, { on := 13, ground := Ground.phase }, { on := 14, ground := Ground.phase }, { on := 15, ground := Ground.phase }, { on := 16, ground := Ground.phase }, { on := 17, ground := Ground.phase }], guard := none }) (v := ?v18_60) rfl (by kernel_rfl) (by kernel_rfl) (by kernel_rfl) (fun _ _ _ h => h) (Or.inl ⟨by rfl, ?hy18_60⟩) hS ?rest18_60
          case hy18_60 =>
            intro w hSw
            (try dsimp only at hSw)
            go_simp
            try with_reducible rfl
          try simp only [Act.put, List.setIfInBounds_toArray, List.set_cons_zero, List.set_cons_succ]
          refine wpAnyH_done (by kernel_rfl) ?_ _
          go_wp2
          go_roundw
          case rel => exact ⟨j + 1, s, by omega, by go_num, rfl, hR, by omega, HSR.out, R0, HT, HS, HB⟩
          case measure => simp [intOf]; omega
        | true =>
          have CN := next_is hR.wf et hn
          have RT := nx_rt hR.wf big hn
          have st := run_step hk8 hR HSR.out (by omega) big (fun h => absurd h hd) hn
          rw [et] at RT st
          have ST := Lib.hid st
          clear et hn big st
          go_wp2_with fail
          have q00 := q0.drew
          have hB0 := hB2.drew
          have HT0 := Lib.hid HT2.out.drew
          have HS0 : Hid (SS wr.drew w.heap.size _ l) := Lib.hid HS2.out
          have e00 : wr.drew.cell? ⟨bS, off + j * 3, none⟩ = some (.int .i64 x.d) := s0
          have e10 : wr.drew.cell? ⟨bS, off + j * 3 + 1, none⟩ = some (.int .i64 x.o) := s1
          clear q0 hB2 HT2 HS2 s0 s1 s2
          have c00 : wr.drew.cell? ⟨B, 0, none⟩ = some (Value.int .i64 s.st) := q00.cell 0 rfl
          have c01 : wr.drew.cell? ⟨B, 1, none⟩ = some (Value.int .i64 s.ow) := q00.cell 1 rfl
          have c02 : wr.drew.cell? ⟨B, 2, none⟩ = some (Value.int .i64 s.sr) := q00.cell 2 rfl
          have c03 : wr.drew.cell? ⟨B, 3, none⟩ = some (Value.bool s.br) := q00.cell 3 rfl
          have c04 : wr.drew.cell? ⟨B, 4, none⟩ = some (Value.bool s.ma) := q00.cell 4 rfl
          have c05 : wr.drew.cell? ⟨B, 5, none⟩ = some (Value.int .i64 s.us) := q00.cell 5 rfl
          have c06 : wr.drew.cell? ⟨B, 6, none⟩ = some (Value.int .i64 s.ge) := q00.cell 6 rfl
          have c07 : wr.drew.cell? ⟨B, 7, none⟩ = some (Value.int .i64 s.ep) := q00.cell 7 rfl
          have c08 : wr.drew.cell? ⟨B, 8, none⟩ = some (Value.int .i64 s.ve) := q00.cell 8 rfl
          refine wp_region_held_drew (S := (fun w' => w'.cell? ⟨B, 0, none⟩ = some (Value.int .i64 s.st) ∧ w'.cell? ⟨B, 1, none⟩ = some (Value.int .i64 s.ow) ∧ w'.cell? ⟨B, 2, none⟩ = some (Value.int .i64 s.sr) ∧ w'.cell? ⟨B, 3, none⟩ = some (Value.bool s.br) ∧ w'.cell? ⟨B, 4, none⟩ = some (Value.bool s.ma) ∧ w'.cell? ⟨B, 5, none⟩ = some (Value.int .i64 s.us) ∧ w'.cell? ⟨B, 6, none⟩ = some (Value.int .i64 s.ge) ∧ w'.cell? ⟨B, 7, none⟩ = some (Value.int .i64 s.ep) ∧ w'.cell? ⟨B, 8, none⟩ = some (Value.int .i64 s.ve) ∧ w'.cell? ⟨bS, off + j * 3, none⟩ = some (.int .i64 x.d) ∧ w'.cell? ⟨bS, off + j * 3 + 1, none⟩ = some (.int .i64 x.o))) (by kernel_rfl) ⟨c00, c01, c02, c03, c04, c05, c06, c07, c08, e00, e10⟩ (fun hS => ?_)
          generalize wr.drew = WD at *
          refine wpAnyH_take (i := 0) (oi := { dst := some 43, op := Op.load 23 (Operand.tmp 7), type := 23, pos := "law.go:52", after := #[], guard := none }) (v := ?v0_61) rfl (by kernel_rfl) (by kernel_rfl) (by kernel_rfl) (fun _ _ _ h => h) (Or.inl ⟨by rfl, ?hy0_61⟩) hS ?rest0_61
          case hy0_61 =>
            intro w hSw
            (try dsimp only at hSw)
            go_simp
            try with_reducible rfl
          try simp only [Act.put, List.setIfInBounds_toArray, List.set_cons_zero, List.set_cons_succ]
          refine wpAnyH_take (i := 1) (oi := { dst := some 44, op := Op.move (Operand.tmp 0), type := 29, pos := "law.go:52", after := #[], guard := none }) (v := ?v1_62) rfl (by kernel_rfl) (by kernel_rfl) (by kernel_rfl) (fun _ _ _ h => h) (Or.inl ⟨by rfl, ?hy1_62⟩) hS ?rest1_62
          case hy1_62 =>
            intro w hSw
            (try dsimp only at hSw)
            go_simp
            try with_reducible rfl
          try simp only [Act.put, List.setIfInBounds_toArray, List.set_cons_zero, List.set_cons_succ]
          refine wpAnyH_take (i := 2) (oi := { dst := some 45, op := Op.move (Operand.tmp 9), type := 3, pos := "law.go:52", after := #[], guard := none }) (v := ?v2_63) rfl (by kernel_rfl) (by kernel_rfl) (by kernel_rfl) (fun _ _ _ h => h) (Or.inl ⟨by rfl, ?hy2_63⟩) hS ?rest2_63
          case hy2_63 =>
            intro w hSw
            (try dsimp only at hSw)
            go_simp
            try with_reducible rfl
          try simp only [Act.put, List.setIfInBounds_toArray, List.set_cons_zero, List.set_cons_succ]
          refine wpAnyH_take (i := 3) (oi := { dst := some 46, op := Op.indexAddr 29 (Operand.tmp 44) (Operand.tmp 45), type := 0, pos := "law.go:52", after := #[{ on := 1, ground := Ground.data }, { on := 2, ground := Ground.data }], guard := none }) (v := ?v3_64) rfl (by kernel_rfl) (by kernel_rfl) (by kernel_rfl) (fun _ _ _ h => h) (Or.inl ⟨by rfl, ?hy3_64⟩) hS ?rest3_64
          case hy3_64 =>
            intro w hSw
            (try dsimp only at hSw)
            go_simp
            try with_reducible rfl
          try simp only [Act.put, List.setIfInBounds_toArray, List.set_cons_zero, List.set_cons_succ]
          refine wpAnyH_take (i := 4) (oi := { dst := some 47, op := Op.fieldAddr 31 (Operand.tmp 46) 0, type := 0, pos := "law.go:52", after := #[{ on := 3, ground := Ground.data }], guard := none }) (v := ?v4_65) rfl (by kernel_rfl) (by kernel_rfl) (by kernel_rfl) (fun _ _ _ h => h) (Or.inl ⟨by rfl, ?hy4_65⟩) hS ?rest4_65
          case hy4_65 =>
            intro w hSw
            (try dsimp only at hSw)
            go_simp
            try with_reducible rfl
          try simp only [Act.put, List.setIfInBounds_toArray, List.set_cons_zero, List.set_cons_succ]
          refine wpAnyH_take (i := 5) (oi := { dst := some 48, op := Op.load 3 (Operand.tmp 47), type := 3, pos := "law.go:52", after := #[{ on := 4, ground := Ground.data }], guard := none }) (v := ?v5_66) rfl (by kernel_rfl) (by kernel_rfl) (by kernel_rfl) (fun _ _ _ h => h) (Or.inl ⟨by rfl, ?hy5_66⟩) hS ?rest5_66
          case hy5_66 =>
            intro w hSw
            (try dsimp only at hSw)
            go_simp
            try with_reducible rfl
          try simp only [Act.put, List.setIfInBounds_toArray, List.set_cons_zero, List.set_cons_succ]
          refine wpAnyH_take (i := 6) (oi := { dst := some 49, op := Op.move (Operand.tmp 0), type := 29, pos := "law.go:52", after := #[], guard := none }) (v := ?v6_67) rfl (by kernel_rfl) (by kernel_rfl) (by kernel_rfl) (fun _ _ _ h => h) (Or.inl ⟨by rfl, ?hy6_67⟩) hS ?rest6_67
          case hy6_67 =>
            intro w hSw
            (try dsimp only at hSw)
            go_simp
            try with_reducible rfl
          try simp only [Act.put, List.setIfInBounds_toArray, List.set_cons_zero, List.set_cons_succ]
          refine wpAnyH_take (i := 7) (oi := { dst := some 50, op := Op.move (Operand.tmp 9), type := 3, pos := "law.go:52", after := #[], guard := none }) (v := ?v7_68) rfl (by kernel_rfl) (by kernel_rfl) (by kernel_rfl) (fun _ _ _ h => h) (Or.inl ⟨by rfl, ?hy7_68⟩) hS ?rest7_68
          case hy7_68 =>
            intro w hSw
            (try dsimp only at hSw)
            go_simp
            try with_reducible rfl
          try simp only [Act.put, List.setIfInBounds_toArray, List.set_cons_zero, List.set_cons_succ]
          refine wpAnyH_take (i := 8) (oi := { dst := some 51, op := Op.indexAddr 29 (Operand.tmp 49) (Operand.tmp 50), type := 0, pos := "law.go:52", after := #[{ on := 6, ground := Ground.data }, { on := 7, ground := Ground.data }], guard := none }) (v := ?v8_69) rfl (by kernel_rfl) (by kernel_rfl) (by kernel_rfl) (fun _ _ _ h => h) (Or.inl ⟨by rfl, ?hy8_69⟩) hS ?rest8_69
          case hy8_69 =>
            intro w hSw
            (try dsimp only at hSw)
            go_simp
            try with_reducible rfl
          try simp only [Act.put, List.setIfInBounds_toArray, List.set_cons_zero, List.set_cons_succ]
          refine wpAnyH_take (i := 9) (oi := { dst := some 52, op := Op.fieldAddr 31 (Operand.tmp 51) 1, type := 0, pos := "law.go:52", after := #[{ on := 8, ground := Ground.data }], guard := none }) (v := ?v9_70) rfl (by kernel_rfl) (by kernel_rfl) (by kernel_rfl) (fun _ _ _ h => h) (Or.inl ⟨by rfl, ?hy9_70⟩) hS ?rest9_70
          case hy9_70 =>
            intro w hSw
            (try dsimp only at hSw)
            go_simp
            try with_reducible rfl
          try simp only [Act.put, List.setIfInBounds_toArray, List.set_cons_zero, List.set_cons_succ]
          refine wpAnyH_take (i := 10) (oi := { dst := some 53, op := Op.load 3 (Operand.tmp 52), type := 3, pos := "law.go:52", after := #[{ on := 9, ground := Ground.data }], guard := none }) (v := ?v10_71) rfl (by kernel_rfl) (by kernel_rfl) (by kernel_rfl) (fun _ _ _ h => h) (Or.inl ⟨by rfl, ?hy10_71⟩) hS ?rest10_71
          case hy10_71 =>
            intro w hSw
            (try dsimp only at hSw)
            go_simp
            try with_reducible rfl
          try simp only [Act.put, List.setIfInBounds_toArray, List.set_cons_zero, List.set_cons_succ]
          refine wpAnyH_take (i := 11) (oi := { dst := some 54, op := Op.move (Operand.tmp 10), type := 3, pos := "law.go:52", after := #[], guard := none }) (v := ?v11_72) rfl (by kernel_rfl) (by kernel_rfl) (by kernel_rfl) (fun _ _ _ h => h) (Or.inl ⟨by rfl, ?hy11_72⟩) hS ?rest11_72
          case hy11_72 =>
            intro w hSw
            (try dsimp only at hSw)
            go_simp
            try with_reducible rfl
          try simp only [Act.put, List.setIfInBounds_toArray, List.set_cons_zero, List.set_cons_succ]
          refine wpAnyH_ready (rs := [12, 16]) (by kernel_rfl) (by simp) ?_
          refine AllReadyH.cons (o := { dst := some 55, op := Op.call { callee := Callee.value (Operand.func 11), args := #[Operand.tmp 43, Operand.tmp 48, Operand.tmp 53, Operand.tmp 54], argTypes := #[23, 3, 3, 3] }, type := 25, pos := "law.go:52", after := #[{ on := 0, ground := Ground.data }, { on := 5, ground := Ground.data }, { on := 10, ground := Ground.data }, { on := 11, ground := Ground.data }], guard := none }) rfl (fun K hK => ?_) ?_
          ·
            go_simp
            refine (CN _ HT0.out).mono ?_
            rintro e v1 ⟨rfl, hb⟩
            have q01 := q00.below hb q00.lt
            have hbw := hb.mono hB0.size
            have hB1 := hB0.trans hbw
            have HT1 := Lib.hid (HT0.out.below hb HT0.out.lt)
            have HS1 := Lib.hid (HS0.out.below hbw)
            have e01 : v1.cell? ⟨bS, off + j * 3, none⟩ = some (.int .i64 x.d) := (hbw.cell (p := ⟨bS, _, none⟩) hbn).trans e00
            have e11 : v1.cell? ⟨bS, off + j * 3 + 1, none⟩ = some (.int .i64 x.o) := (hbw.cell (p := ⟨bS, _, none⟩) hbn).trans e10
            clear hb hbw
            have c10 : v1.cell? ⟨B, 0, none⟩ = some (Value.int .i64 s.st) := q01.cell 0 rfl
            have c11 : v1.cell? ⟨B, 1, none⟩ = some (Value.int .i64 s.ow) := q01.cell 1 rfl
            have c12 : v1.cell? ⟨B, 2, none⟩ = some (Value.int .i64 s.sr) := q01.cell 2 rfl
            have c13 : v1.cell? ⟨B, 3, none⟩ = some (Value.bool s.br) := q01.cell 3 rfl
            have c14 : v1.cell? ⟨B, 4, none⟩ = some (Value.bool s.ma) := q01.cell 4 rfl
            have c15 : v1.cell? ⟨B, 5, none⟩ = some (Value.int .i64 s.us) := q01.cell 5 rfl
            have c16 : v1.cell? ⟨B, 6, none⟩ = some (Value.int .i64 s.ge) := q01.cell 6 rfl
            have c17 : v1.cell? ⟨B, 7, none⟩ = some (Value.int .i64 s.ep) := q01.cell 7 rfl
            have c18 : v1.cell? ⟨B, 8, none⟩ = some (Value.int .i64 s.ve) := q01.cell 8 rfl
            refine hK.out _ _ ⟨c10, c11, c12, c13, c14, c15, c16, c17, c18, e01, e11⟩ (fun hS => ?_)
            clear hK K
            try simp only [Act.put, List.setIfInBounds_toArray, List.set_cons_zero, List.set_cons_succ]
            refine wpAnyH_take (i := 13) (oi := { dst := some 42, op := Op.move (Operand.tmp 55), type := 25, pos := "law.go:52", after := #[{ on := 12, ground := Ground.data }], guard := none }) (v := ?v13_73) rfl (by kernel_rfl) (by kernel_rfl) (by kernel_rfl) (fun _ _ _ h => h) (Or.inl ⟨by rfl, ?hy13_73⟩) hS ?rest13_73
            case hy13_73 =>
              intro w hSw
              (try dsimp only at hSw)
              go_simp
              try with_reducible rfl
            try simp only [Act.put, List.setIfInBounds_toArray, List.set_cons_zero, List.set_cons_succ]
            refine wpAnyH_take (i := 14) (oi := { dst := some 56, op := Op.extract (Operand.tmp 42) 0, type := 23, pos := "law.go:52", after := #[{ on := 13, ground := Ground.data }], guard := none }) (v := ?v14_74) rfl (by kernel_rfl) (by kernel_rfl) (by kernel_rfl) (fun _ _ _ h => h) (Or.inl ⟨by rfl, ?hy14_74⟩) hS ?rest14_74
            case hy14_74 =>
              intro w hSw
              (try dsimp only at hSw)
              go_simp
              try with_reducible rfl
            try simp only [Act.put, List.setIfInBounds_toArray, List.set_cons_zero, List.set_cons_succ]
            refine wpAnyH_take (i := 15) (oi := { dst := some 57, op := Op.extract (Operand.tmp 42) 1, type := 4, pos := "law.go:52", after := #[{ on := 13, ground := Ground.data }, { on := 17, ground := Ground.gcOnly Departure.lateStores }], guard := none }) (v := ?v15_75) rfl (by kernel_rfl) (by kernel_rfl) (by kernel_rfl) (fun _ _ _ h => h) (Or.inl ⟨by rfl, ?hy15_75⟩) hS ?rest15_75
            case hy15_75 =>
              intro w hSw
              (try dsimp only at hSw)
              go_simp
              try with_reducible rfl
            try simp only [Act.put, List.setIfInBounds_toArray, List.set_cons_zero, List.set_cons_succ]
            refine wpAnyH_ready (rs := [16]) (by kernel_rfl) (by simp) ?_
            refine AllReadyH.cons (o := { dst := some 11, op := Op.alloc 23, type := 0, pos := "law.go:52", after := #[], guard := none }) rfl (fun K hK => ?_) AllReadyH.nil
            go_simp
            have o2 := RowAt.new v1 23 #[Value.int .i64 0, Value.int .i64 0, Value.int .i64 0, Value.bool false, Value.bool false, Value.int .i64 0, Value.int .i64 0, Value.int .i64 0, Value.int .i64 0]
            have q02 := q01.alloc (.cells #[Value.int .i64 0, Value.int .i64 0, Value.int .i64 0, Value.bool false, Value.bool false, Value.int .i64 0, Value.int .i64 0, Value.int .i64 0, Value.int .i64 0] 23)
            have hbw := (Below.refl w.heap.size v1).alloc hB1.size (.cells #[Value.int .i64 0, Value.int .i64 0, Value.int .i64 0, Value.bool false, Value.bool false, Value.int .i64 0, Value.int .i64 0, Value.int .i64 0, Value.int .i64 0] 23)
            have hB2 := hB1.trans hbw
            have HT2 := Lib.hid (HT1.out.alloc (.cells #[Value.int .i64 0, Value.int .i64 0, Value.int .i64 0, Value.bool false, Value.bool false, Value.int .i64 0, Value.int .i64 0, Value.int .i64 0, Value.int .i64 0] 23))
            have HS2 := Lib.hid (HS1.out.below hbw)
            have e02 : (v1.alloc (.cells #[Value.int .i64 0, Value.int .i64 0, Value.int .i64 0, Value.bool false, Value.bool false, Value.int .i64 0, Value.int .i64 0, Value.int .i64 0, Value.int .i64 0] 23)).cell? ⟨bS, off + j * 3, none⟩ = some (.int .i64 x.d) := (hbw.cell (p := ⟨bS, _, none⟩) hbn).trans e01
            have e12 : (v1.alloc (.cells #[Value.int .i64 0, Value.int .i64 0, Value.int .i64 0, Value.bool false, Value.bool false, Value.int .i64 0, Value.int .i64 0, Value.int .i64 0, Value.int .i64 0] 23)).cell? ⟨bS, off + j * 3 + 1, none⟩ = some (.int .i64 x.o) := (hbw.cell (p := ⟨bS, _, none⟩) hbn).trans e11
            clear hbw
            have c20 : (v1.alloc (.cells #[Value.int .i64 0, Value.int .i64 0, Value.int .i64 0, Value.bool false, Value.bool false, Value.int .i64 0, Value.int .i64 0, Value.int .i64 0, Value.int .i64 0] 23)).cell? ⟨B, 0, none⟩ = some (Value.int .i64 s.st) := q02.cell 0 rfl
            have c21 : (v1.alloc (.cells #[Value.int .i64 0, Value.int .i64 0, Value.int .i64 0, Value.bool false, Value.bool false, Value.int .i64 0, Value.int .i64 0, Value.int .i64 0, Value.int .i64 0] 23)).cell? ⟨B, 1, none⟩ = some (Value.int .i64 s.ow) := q02.cell 1 rfl
            have c22 : (v1.alloc (.cells #[Value.int .i64 0, Value.int .i64 0, Value.int .i64 0, Value.bool false, Value.bool false, Value.int .i64 0, Value.int .i64 0, Value.int .i64 0, Value.int .i64 0] 23)).cell? ⟨B, 2, none⟩ = some (Value.int .i64 s.sr) := q02.cell 2 rfl
            have c23 : (v1.alloc (.cells #[Value.int .i64 0, Value.int .i64 0, Value.int .i64 0, Value.bool false, Value.bool false, Value.int .i64 0, Value.int .i64 0, Value.int .i64 0, Value.int .i64 0] 23)).cell? ⟨B, 3, none⟩ = some (Value.bool s.br) := q02.cell 3 rfl
            have c24 : (v1.alloc (.cells #[Value.int .i64 0, Value.int .i64 0, Value.int .i64 0, Value.bool false, Value.bool false, Value.int .i64 0, Value.int .i64 0, Value.int .i64 0, Value.int .i64 0] 23)).cell? ⟨B, 4, none⟩ = some (Value.bool s.ma) := q02.cell 4 rfl
            have c25 : (v1.alloc (.cells #[Value.int .i64 0, Value.int .i64 0, Value.int .i64 0, Value.bool false, Value.bool false, Value.int .i64 0, Value.int .i64 0, Value.int .i64 0, Value.int .i64 0] 23)).cell? ⟨B, 5, none⟩ = some (Value.int .i64 s.us) := q02.cell 5 rfl
            have c26 : (v1.alloc (.cells #[Value.int .i64 0, Value.int .i64 0, Value.int .i64 0, Value.bool false, Value.bool false, Value.int .i64 0, Value.int .i64 0, Value.int .i64 0, Value.int .i64 0] 23)).cell? ⟨B, 6, none⟩ = some (Value.int .i64 s.ge) := q02.cell 6 rfl
            have c27 : (v1.alloc (.cells #[Value.int .i64 0, Value.int .i64 0, Value.int .i64 0, Value.bool false, Value.bool false, Value.int .i64 0, Value.int .i64 0, Value.int .i64 0, Value.int .i64 0] 23)).cell? ⟨B, 7, none⟩ = some (Value.int .i64 s.ep) := q02.cell 7 rfl
            have c28 : (v1.alloc (.cells #[Value.int .i64 0, Value.int .i64 0, Value.int .i64 0, Value.bool false, Value.bool false, Value.int .i64 0, Value.int .i64 0, Value.int .i64 0, Value.int .i64 0] 23)).cell? ⟨B, 8, none⟩ = some (Value.int .i64 s.ve) := q02.cell 8 rfl
            refine hK.out _ _ ⟨c20, c21, c22, c23, c24, c25, c26, c27, c28, e02, e12⟩ (fun hS => ?_)
            clear hK K
            try simp only [Act.put, List.setIfInBounds_toArray, List.set_cons_zero, List.set_cons_succ]
            refine wpAnyH_ready (rs := [17]) (by kernel_rfl) (by simp) ?_
            refine AllReadyH.cons (o := { dst := none, op := Op.store 23 (Operand.tmp 11) (Operand.tmp 56), type := 0, pos := "law.go:52", after := #[{ on := 16, ground := Ground.data }, { on := 14, ground := Ground.data }, { on := 12, ground := Ground.chain }, { on := 0, ground := Ground.phase }, { on := 1, ground := Ground.phase }, { on := 2, ground := Ground.phase }, { on := 3, ground := Ground.phase }, { on := 4, ground := Ground.phase }, { on := 5, ground := Ground.phase }, { on := 6, ground := Ground.phase }, { on := 7, ground := Ground.phase }, { on := 8, ground := Ground.phase }, { on := 9, ground := Ground.phase }, { on := 10, ground := Ground.phase }, { on := 11, ground := Ground.phase }, { on := 12, ground := Ground.phase }, { on := 13, ground := Ground.phase }, { on := 14, ground := Ground.phase }, { on := 15, ground := Ground.textOnly Departure.lateStores }, { on := 16, ground := Ground.phase }], guard := none }) rfl (fun K hK => ?_) AllReadyH.nil
            go_simp
            have RB := RowAt.new v1 23 #[Value.int .i64 t.st, Value.int .i64 t.ow, Value.int .i64 t.sr, Value.bool t.br, Value.bool t.ma, Value.int .i64 t.us, Value.int .i64 t.ge, Value.int .i64 t.ep, Value.int .i64 t.ve]
            have R0 := q01.alloc (.cells #[Value.int .i64 t.st, Value.int .i64 t.ow, Value.int .i64 t.sr, Value.bool t.br, Value.bool t.ma, Value.int .i64 t.us, Value.int .i64 t.ge, Value.int .i64 t.ep, Value.int .i64 t.ve] 23)
            have hbw := (Below.refl w.heap.size v1).alloc hB1.size (.cells #[Value.int .i64 t.st, Value.int .i64 t.ow, Value.int .i64 t.sr, Value.bool t.br, Value.bool t.ma, Value.int .i64 t.us, Value.int .i64 t.ge, Value.int .i64 t.ep, Value.int .i64 t.ve] 23)
            have HB := hB1.trans hbw
            have HT := Lib.hid (HT1.out.alloc (.cells #[Value.int .i64 t.st, Value.int .i64 t.ow, Value.int .i64 t.sr, Value.bool t.br, Value.bool t.ma, Value.int .i64 t.us, Value.int .i64 t.ge, Value.int .i64 t.ep, Value.int .i64 t.ve] 23))
            have HS := Lib.hid (HS1.out.below hbw)
            have hne := Nat.ne_of_lt q01.lt
            have f0 : (v1.alloc (.cells #[Value.int .i64 t.st, Value.int .i64 t.ow, Value.int .i64 t.sr, Value.bool t.br, Value.bool t.ma, Value.int .i64 t.us, Value.int .i64 t.ge, Value.int .i64 t.ep, Value.int .i64 t.ve] 23)).cell? ⟨bS, off + j * 3, none⟩ = some (.int .i64 x.d) := (hbw.cell (p := ⟨bS, _, none⟩) hbn).trans e01
            have f1 : (v1.alloc (.cells #[Value.int .i64 t.st, Value.int .i64 t.ow, Value.int .i64 t.sr, Value.bool t.br, Value.bool t.ma, Value.int .i64 t.us, Value.int .i64 t.ge, Value.int .i64 t.ep, Value.int .i64 t.ve] 23)).cell? ⟨bS, off + j * 3 + 1, none⟩ = some (.int .i64 x.o) := (hbw.cell (p := ⟨bS, _, none⟩) hbn).trans e11
            clear hbw
            obtain ⟨V, hV⟩ : ∃ V, V = (v1.alloc (.cells #[Value.int .i64 t.st, Value.int .i64 t.ow, Value.int .i64 t.sr, Value.bool t.br, Value.bool t.ma, Value.int .i64 t.us, Value.int .i64 t.ge, Value.int .i64 t.ep, Value.int .i64 t.ve] 23)) := ⟨_, rfl⟩
            rw [← hV] at RB R0 HB HT HS f0 f1 ⊢
            clear hV
            obtain ⟨B5, eB⟩ : ∃ B5, B5 = v1.heap.size := ⟨_, rfl⟩
            rw [← eB] at RB hne ⊢
            clear eB
            have z0 : V.cell? ⟨B, 0, none⟩ = some (Value.int .i64 s.st) := R0.cell 0 rfl
            have z1 : V.cell? ⟨B, 1, none⟩ = some (Value.int .i64 s.ow) := R0.cell 1 rfl
            have z2 : V.cell? ⟨B, 2, none⟩ = some (Value.int .i64 s.sr) := R0.cell 2 rfl
            have z3 : V.cell? ⟨B, 3, none⟩ = some (Value.bool s.br) := R0.cell 3 rfl
            have z4 : V.cell? ⟨B, 4, none⟩ = some (Value.bool s.ma) := R0.cell 4 rfl
            have z5 : V.cell? ⟨B, 5, none⟩ = some (Value.int .i64 s.us) := R0.cell 5 rfl
            have z6 : V.cell? ⟨B, 6, none⟩ = some (Value.int .i64 s.ge) := R0.cell 6 rfl
            have z7 : V.cell? ⟨B, 7, none⟩ = some (Value.int .i64 s.ep) := R0.cell 7 rfl
            have z8 : V.cell? ⟨B, 8, none⟩ = some (Value.int .i64 s.ve) := R0.cell 8 rfl
            refine hK.out _ _ ⟨z0, z1, z2, z3, z4, z5, z6, z7, z8, f0, f1⟩ (fun hS => ?_)
            clear hK K
            try simp only [Act.put, List.setIfInBounds_toArray, List.set_cons_zero, List.set_cons_succ]
            refine wpAnyH_take (i := 18) (oi := { dst := some 12, op := Op.assign (Operand.tmp 57), type := 4, pos := "law.go:52", after := #[{ on := 15, ground := Ground.data }, { on := 17, ground := Ground.chain }, { on := 0, ground := Ground.phase }, { on := 1, ground := Ground.phase }, { on := 2, ground := Ground.phase }, { on := 3, ground := Ground.phase }, { on := 4, ground := Ground.phase }, { on := 5, ground := Ground.phase }, { on := 6, ground := Ground.phase }, { on := 7, ground := Ground.phase }, { on := 8, ground := Ground.phase }, { on := 9, ground := Ground.phase }, { on := 10, ground := Ground.phase }, { on := 11, ground := Ground.phase }, { on := 12, ground := Ground.phase }, { on := 13, ground := Ground.phase }, { on := 14, ground := Ground.phase }, { on := 15, ground := Ground.phase }, { on := 16, ground := Ground.phase }, { on := 17, ground := Ground.phase }], guard := none }) (v := ?v18_76) rfl (by kernel_rfl) (by kernel_rfl) (by kernel_rfl) (fun _ _ _ h => h) (Or.inl ⟨by rfl, ?hy18_76⟩) hS ?rest18_76
            case hy18_76 =>
              intro w hSw
              (try dsimp only at hSw)
              go_simp
              try with_reducible rfl
            try simp only [Act.put, List.setIfInBounds_toArray, List.set_cons_zero, List.set_cons_succ]
            refine wpAnyH_done (by kernel_rfl) ?_ _
            clear z0 z1 z2 z3 z4 z5 z6 z7 z8 f0 f1
            cases h3 : (t.st == 3) with
            | true =>
              obtain ⟨tst, tow, tsr, tbr, tma, tus, tge, tep, tve⟩ := t
              obtain rfl : tst = 3 := by simpa using h3
              clear h3
              have RB : RowAt V B5 23 #[Value.int .i64 3, Value.int .i64 tow, Value.int .i64 tsr, Value.bool tbr, Value.bool tma, Value.int .i64 tus, Value.int .i64 tge, Value.int .i64 tep, Value.int .i64 tve] := RB
              have tsr0 : 0 ≤ tsr ∧ tsr ≤ 255 := RT.sr
              have tsr1 : tsr < 2 ^ k := ST.out.1
              have TS1 := Lib.hid tsr1
              clear tsr1
              cases h4 : (s.st == 3) with
              | true =>
                have HG : Hid (s.ge = tge) := Lib.hid (ST.out.2.2 (Or.inr (by simpa using h4))).symm
                have u0 : V.cell? ⟨B5, 0, none⟩ = some (Value.int .i64 3) := RB.cell 0 rfl
                have y0 : V.cell? ⟨B, 0, none⟩ = some (Value.int .i64 s.st) := R0.cell 0 rfl
                go_wp2_with fail
                rw [HG.out]
                clear y0
                have u2 : V.cell? ⟨B5, 2, none⟩ = some (Value.int .i64 tsr) := RB.cell 2 rfl
                go_loop [13, 14] (fun m b => ∃ (i : Nat) (y : Int), i ≤ 8 ∧ 0 ≤ y ∧ y ≤ i ∧ Hid (y = pop tsr i) ∧ m = .int .i64 y ∧ b = .int .i64 i) (fun _ b => 8 - (intOf b).toNat)
                case atStart => exact ⟨0, 0, by omega, by omega, by omega, Lib.hid rfl, rfl, rfl⟩
                case round =>
                  obtain ⟨i, y, hi, hy, hy2, hY, rfl, rfl⟩ := hrel
                  by_cases hi8 : i < 8
                  · have hb2 := pcb_bd tsr0 hi8
                    obtain ⟨z, ez⟩ : ∃ z, bits .and .i64 (tsr / 2 ^ i) 1 = z := ⟨_, rfl⟩
                    have hz : 0 ≤ z ∧ z ≤ 1 := by rw [← ez]; exact hb2
                    have HY2 := Lib.hid (show y + z = pop tsr (i + 1) by rw [← ez, hY.out]; rfl)
                    have hz0 := hz.1
                    have hz1 := hz.2
                    have hi0 : (i : Int) < 8 := by omega
                    clear hb2 hz
                    go_wp2
                    go_round
                    case rel => exact ⟨i + 1, y + z, by omega, by omega, by omega, HY2, rfl, by go_num⟩
                    case measure => simp [intOf]; omega
                  · have hi9 : i = 8 := by omega
                    subst hi9
                    have hyk : y ≤ k := by rw [hY.out]; exact pc_le tsr0 hk8 TS1.out
                    by_cases hy1 : 0 < y
                    · have u6 : V.cell? ⟨B5, 6, none⟩ = some (Value.int .i64 tge) := RB.cell 6 rfl
                      have u1 : V.cell? ⟨B5, 1, none⟩ = some (Value.int .i64 tow) := RB.cell 1 rfl
                      have u3 : V.cell? ⟨B5, 3, none⟩ = some (Value.bool tbr) := RB.cell 3 rfl
                      have u4 : V.cell? ⟨B5, 4, none⟩ = some (Value.bool tma) := RB.cell 4 rfl
                      have u5 : V.cell? ⟨B5, 5, none⟩ = some (Value.int .i64 tus) := RB.cell 5 rfl
                      have u7 : V.cell? ⟨B5, 7, none⟩ = some (Value.int .i64 tep) := RB.cell 7 rfl
                      have u8 : V.cell? ⟨B5, 8, none⟩ = some (Value.int .i64 tve) := RB.cell 8 rfl
                      go_wp2_with fail
                      refine (right_yes RT _ HT.out).mono ?_
                      rintro e V2 ⟨rfl, hb⟩
                      replace RB := RB.below hb RB.lt
                      replace R0 := R0.below hb R0.lt
                      have hbw := hb.mono HB.size
                      replace HT := Lib.hid (HT.out.below hb HT.out.lt)
                      replace HS := Lib.hid (HS.out.below hbw)
                      replace HB := HB.trans hbw
                      clear hb hbw u0 u1 u2 u3 u4 u5 u6 u7 u8
                      have k0 : V2.cell? ⟨B5, 0, none⟩ = some (Value.int .i64 3) := RB.cell 0 rfl
                      have k1 : V2.cell? ⟨B5, 1, none⟩ = some (Value.int .i64 tow) := RB.cell 1 rfl
                      have k2 : V2.cell? ⟨B5, 2, none⟩ = some (Value.int .i64 tsr) := RB.cell 2 rfl
                      have k3 : V2.cell? ⟨B5, 3, none⟩ = some (Value.bool tbr) := RB.cell 3 rfl
                      have k4 : V2.cell? ⟨B5, 4, none⟩ = some (Value.bool tma) := RB.cell 4 rfl
                      have k5 : V2.cell? ⟨B5, 5, none⟩ = some (Value.int .i64 tus) := RB.cell 5 rfl
                      have k6 : V2.cell? ⟨B5, 6, none⟩ = some (Value.int .i64 tge) := RB.cell 6 rfl
                      have k7 : V2.cell? ⟨B5, 7, none⟩ = some (Value.int .i64 tep) := RB.cell 7 rfl
                      have k8 : V2.cell? ⟨B5, 8, none⟩ = some (Value.int .i64 tve) := RB.cell 8 rfl
                      go_wp2_with (refine wpList_store_row rfl 23 _ _ rfl _ #[Value.int .i64 3, Value.int .i64 tow, Value.int .i64 tsr, Value.bool tbr, Value.bool tma, Value.int .i64 tus, Value.int .i64 tge, Value.int .i64 tep, Value.int .i64 tve] rfl rfl 23 _ R0 (by kernel_rfl) rfl (by simp [Value.oneCell']) ?_)
                      clear k0 k1 k2 k3 k4 k5 k6 k7 k8
                      have HTE := Lib.hid (HT.out.below (below_setRow (Below.refl B V2) (Nat.le_refl _) #[Value.int .i64 3, Value.int .i64 tow, Value.int .i64 tsr, Value.bool tbr, Value.bool tma, Value.int .i64 tus, Value.int .i64 tge, Value.int .i64 tep, Value.int .i64 tve]) h2B)
                      have HSE := Lib.hid (HS.out.below (below_setRow (Below.refl w.heap.size V2) hle #[Value.int .i64 3, Value.int .i64 tow, Value.int .i64 tsr, Value.bool tbr, Value.bool tma, Value.int .i64 tus, Value.int .i64 tge, Value.int .i64 tep, Value.int .i64 tve]))
                      have HBE := below_setRow HB hle #[Value.int .i64 3, Value.int .i64 tow, Value.int .i64 tsr, Value.bool tbr, Value.bool tma, Value.int .i64 tus, Value.int .i64 tge, Value.int .i64 tep, Value.int .i64 tve]
                      have R9 := R0.set #[Value.int .i64 3, Value.int .i64 tow, Value.int .i64 tsr, Value.bool tbr, Value.bool tma, Value.int .i64 tus, Value.int .i64 tge, Value.int .i64 tep, Value.int .i64 tve]
                      have hge2 : tge ≤ ((j + 1 : Nat) : Int) := by rw [← HG.out]; omega
                      go_roundw
                      case rel => exact ⟨j + 1, ⟨3, tow, tsr, tbr, tma, tus, tge, tep, tve⟩, by omega, by go_num, rfl, RT, hge2, TS1.out, R9, HTE, HSE, HBE⟩
                      case measure => simp [intOf]; omega
                    · have u6 : V.cell? ⟨B5, 6, none⟩ = some (Value.int .i64 tge) := RB.cell 6 rfl
                      have u1 : V.cell? ⟨B5, 1, none⟩ = some (Value.int .i64 tow) := RB.cell 1 rfl
                      have u3 : V.cell? ⟨B5, 3, none⟩ = some (Value.bool tbr) := RB.cell 3 rfl
                      have u4 : V.cell? ⟨B5, 4, none⟩ = some (Value.bool tma) := RB.cell 4 rfl
                      have u5 : V.cell? ⟨B5, 5, none⟩ = some (Value.int .i64 tus) := RB.cell 5 rfl
                      have u7 : V.cell? ⟨B5, 7, none⟩ = some (Value.int .i64 tep) := RB.cell 7 rfl
                      have u8 : V.cell? ⟨B5, 8, none⟩ = some (Value.int .i64 tve) := RB.cell 8 rfl
                      go_wp2_with fail
                      refine (right_yes RT _ HT.out).mono ?_
                      rintro e V2 ⟨rfl, hb⟩
                      replace RB := RB.below hb RB.lt
                      replace R0 := R0.below hb R0.lt
                      have hbw := hb.mono HB.size
                      replace HT := Lib.hid (HT.out.below hb HT.out.lt)
                      replace HS := Lib.hid (HS.out.below hbw)
                      replace HB := HB.trans hbw
                      clear hb hbw u0 u1 u2 u3 u4 u5 u6 u7 u8
                      have k0 : V2.cell? ⟨B5, 0, none⟩ = some (Value.int .i64 3) := RB.cell 0 rfl
                      have k1 : V2.cell? ⟨B5, 1, none⟩ = some (Value.int .i64 tow) := RB.cell 1 rfl
                      have k2 : V2.cell? ⟨B5, 2, none⟩ = some (Value.int .i64 tsr) := RB.cell 2 rfl
                      have k3 : V2.cell? ⟨B5, 3, none⟩ = some (Value.bool tbr) := RB.cell 3 rfl
                      have k4 : V2.cell? ⟨B5, 4, none⟩ = some (Value.bool tma) := RB.cell 4 rfl
                      have k5 : V2.cell? ⟨B5, 5, none⟩ = some (Value.int .i64 tus) := RB.cell 5 rfl
                      have k6 : V2.cell? ⟨B5, 6, none⟩ = some (Value.int .i64 tge) := RB.cell 6 rfl
                      have k7 : V2.cell? ⟨B5, 7, none⟩ = some (Value.int .i64 tep) := RB.cell 7 rfl
                      have k8 : V2.cell? ⟨B5, 8, none⟩ = some (Value.int .i64 tve) := RB.cell 8 rfl
                      go_wp2_with (refine wpList_store_row rfl 23 _ _ rfl _ #[Value.int .i64 3, Value.int .i64 tow, Value.int .i64 tsr, Value.bool tbr, Value.bool tma, Value.int .i64 tus, Value.int .i64 tge, Value.int .i64 tep, Value.int .i64 tve] rfl rfl 23 _ R0 (by kernel_rfl) rfl (by simp [Value.oneCell']) ?_)
                      clear k0 k1 k2 k3 k4 k5 k6 k7 k8
                      have HTE := Lib.hid (HT.out.below (below_setRow (Below.refl B V2) (Nat.le_refl _) #[Value.int .i64 3, Value.int .i64 tow, Value.int .i64 tsr, Value.bool tbr, Value.bool tma, Value.int .i64 tus, Value.int .i64 tge, Value.int .i64 tep, Value.int .i64 tve]) h2B)
                      have HSE := Lib.hid (HS.out.below (below_setRow (Below.refl w.heap.size V2) hle #[Value.int .i64 3, Value.int .i64 tow, Value.int .i64 tsr, Value.bool tbr, Value.bool tma, Value.int .i64 tus, Value.int .i64 tge, Value.int .i64 tep, Value.int .i64 tve]))
                      have HBE := below_setRow HB hle #[Value.int .i64 3, Value.int .i64 tow, Value.int .i64 tsr, Value.bool tbr, Value.bool tma, Value.int .i64 tus, Value.int .i64 tge, Value.int .i64 tep, Value.int .i64 tve]
                      have R9 := R0.set #[Value.int .i64 3, Value.int .i64 tow, Value.int .i64 tsr, Value.bool tbr, Value.bool tma, Value.int .i64 tus, Value.int .i64 tge, Value.int .i64 tep, Value.int .i64 tve]
                      have hge2 : tge ≤ ((j + 1 : Nat) : Int) := by rw [← HG.out]; omega
                      go_roundw
                      case rel => exact ⟨j + 1, ⟨3, tow, tsr, tbr, tma, tus, tge, tep, tve⟩, by omega, by go_num, rfl, RT, hge2, TS1.out, R9, HTE, HSE, HBE⟩
                      case measure => simp [intOf]; omega
              | false =>
                have HG : Hid (s.ge + 1 = tge) := Lib.hid (ST.out.2.1 rfl (by simpa using h4)).symm
                have u0 : V.cell? ⟨B5, 0, none⟩ = some (Value.int .i64 3) := RB.cell 0 rfl
                have y0 : V.cell? ⟨B, 0, none⟩ = some (Value.int .i64 s.st) := R0.cell 0 rfl
                go_wp2_with fail
                rw [HG.out]
                clear y0
                have u2 : V.cell? ⟨B5, 2, none⟩ = some (Value.int .i64 tsr) := RB.cell 2 rfl
                go_loop [13, 14] (fun m b => ∃ (i : Nat) (y : Int), i ≤ 8 ∧ 0 ≤ y ∧ y ≤ i ∧ Hid (y = pop tsr i) ∧ m = .int .i64 y ∧ b = .int .i64 i) (fun _ b => 8 - (intOf b).toNat)
                case atStart => exact ⟨0, 0, by omega, by omega, by omega, Lib.hid rfl, rfl, rfl⟩
                case round =>
                  obtain ⟨i, y, hi, hy, hy2, hY, rfl, rfl⟩ := hrel
                  by_cases hi8 : i < 8
                  · have hb2 := pcb_bd tsr0 hi8
                    obtain ⟨z, ez⟩ : ∃ z, bits .and .i64 (tsr / 2 ^ i) 1 = z := ⟨_, rfl⟩
                    have hz : 0 ≤ z ∧ z ≤ 1 := by rw [← ez]; exact hb2
                    have HY2 := Lib.hid (show y + z = pop tsr (i + 1) by rw [← ez, hY.out]; rfl)
                    have hz0 := hz.1
                    have hz1 := hz.2
                    have hi0 : (i : Int) < 8 := by omega
                    clear hb2 hz
                    go_wp2
                    go_round
                    case rel => exact ⟨i + 1, y + z, by omega, by omega, by omega, HY2, rfl, by go_num⟩
                    case measure => simp [intOf]; omega
                  · have hi9 : i = 8 := by omega
                    subst hi9
                    have hyk : y ≤ k := by rw [hY.out]; exact pc_le tsr0 hk8 TS1.out
                    by_cases hy1 : 0 < y
                    · have u6 : V.cell? ⟨B5, 6, none⟩ = some (Value.int .i64 tge) := RB.cell 6 rfl
                      have u1 : V.cell? ⟨B5, 1, none⟩ = some (Value.int .i64 tow) := RB.cell 1 rfl
                      have u3 : V.cell? ⟨B5, 3, none⟩ = some (Value.bool tbr) := RB.cell 3 rfl
                      have u4 : V.cell? ⟨B5, 4, none⟩ = some (Value.bool tma) := RB.cell 4 rfl
                      have u5 : V.cell? ⟨B5, 5, none⟩ = some (Value.int .i64 tus) := RB.cell 5 rfl
                      have u7 : V.cell? ⟨B5, 7, none⟩ = some (Value.int .i64 tep) := RB.cell 7 rfl
                      have u8 : V.cell? ⟨B5, 8, none⟩ = some (Value.int .i64 tve) := RB.cell 8 rfl
                      go_wp2_with fail
                      refine (right_yes RT _ HT.out).mono ?_
                      rintro e V2 ⟨rfl, hb⟩
                      replace RB := RB.below hb RB.lt
                      replace R0 := R0.below hb R0.lt
                      have hbw := hb.mono HB.size
                      replace HT := Lib.hid (HT.out.below hb HT.out.lt)
                      replace HS := Lib.hid (HS.out.below hbw)
                      replace HB := HB.trans hbw
                      clear hb hbw u0 u1 u2 u3 u4 u5 u6 u7 u8
                      have k0 : V2.cell? ⟨B5, 0, none⟩ = some (Value.int .i64 3) := RB.cell 0 rfl
                      have k1 : V2.cell? ⟨B5, 1, none⟩ = some (Value.int .i64 tow) := RB.cell 1 rfl
                      have k2 : V2.cell? ⟨B5, 2, none⟩ = some (Value.int .i64 tsr) := RB.cell 2 rfl
                      have k3 : V2.cell? ⟨B5, 3, none⟩ = some (Value.bool tbr) := RB.cell 3 rfl
                      have k4 : V2.cell? ⟨B5, 4, none⟩ = some (Value.bool tma) := RB.cell 4 rfl
                      have k5 : V2.cell? ⟨B5, 5, none⟩ = some (Value.int .i64 tus) := RB.cell 5 rfl
                      have k6 : V2.cell? ⟨B5, 6, none⟩ = some (Value.int .i64 tge) := RB.cell 6 rfl
                      have k7 : V2.cell? ⟨B5, 7, none⟩ = some (Value.int .i64 tep) := RB.cell 7 rfl
                      have k8 : V2.cell? ⟨B5, 8, none⟩ = some (Value.int .i64 tve) := RB.cell 8 rfl
                      go_wp2_with (refine wpList_store_row rfl 23 _ _ rfl _ #[Value.int .i64 3, Value.int .i64 tow, Value.int .i64 tsr, Value.bool tbr, Value.bool tma, Value.int .i64 tus, Value.int .i64 tge, Value.int .i64 tep, Value.int .i64 tve] rfl rfl 23 _ R0 (by kernel_rfl) rfl (by simp [Value.oneCell']) ?_)
                      clear k0 k1 k2 k3 k4 k5 k6 k7 k8
                      have HTE := Lib.hid (HT.out.below (below_setRow (Below.refl B V2) (Nat.le_refl _) #[Value.int .i64 3, Value.int .i64 tow, Value.int .i64 tsr, Value.bool tbr, Value.bool tma, Value.int .i64 tus, Value.int .i64 tge, Value.int .i64 tep, Value.int .i64 tve]) h2B)
                      have HSE := Lib.hid (HS.out.below (below_setRow (Below.refl w.heap.size V2) hle #[Value.int .i64 3, Value.int .i64 tow, Value.int .i64 tsr, Value.bool tbr, Value.bool tma, Value.int .i64 tus, Value.int .i64 tge, Value.int .i64 tep, Value.int .i64 tve]))
                      have HBE := below_setRow HB hle #[Value.int .i64 3, Value.int .i64 tow, Value.int .i64 tsr, Value.bool tbr, Value.bool tma, Value.int .i64 tus, Value.int .i64 tge, Value.int .i64 tep, Value.int .i64 tve]
                      have R9 := R0.set #[Value.int .i64 3, Value.int .i64 tow, Value.int .i64 tsr, Value.bool tbr, Value.bool tma, Value.int .i64 tus, Value.int .i64 tge, Value.int .i64 tep, Value.int .i64 tve]
                      have hge2 : tge ≤ ((j + 1 : Nat) : Int) := by rw [← HG.out]; omega
                      go_roundw
                      case rel => exact ⟨j + 1, ⟨3, tow, tsr, tbr, tma, tus, tge, tep, tve⟩, by omega, by go_num, rfl, RT, hge2, TS1.out, R9, HTE, HSE, HBE⟩
                      case measure => simp [intOf]; omega
                    · have u6 : V.cell? ⟨B5, 6, none⟩ = some (Value.int .i64 tge) := RB.cell 6 rfl
                      have u1 : V.cell? ⟨B5, 1, none⟩ = some (Value.int .i64 tow) := RB.cell 1 rfl
                      have u3 : V.cell? ⟨B5, 3, none⟩ = some (Value.bool tbr) := RB.cell 3 rfl
                      have u4 : V.cell? ⟨B5, 4, none⟩ = some (Value.bool tma) := RB.cell 4 rfl
                      have u5 : V.cell? ⟨B5, 5, none⟩ = some (Value.int .i64 tus) := RB.cell 5 rfl
                      have u7 : V.cell? ⟨B5, 7, none⟩ = some (Value.int .i64 tep) := RB.cell 7 rfl
                      have u8 : V.cell? ⟨B5, 8, none⟩ = some (Value.int .i64 tve) := RB.cell 8 rfl
                      go_wp2_with fail
                      refine (right_yes RT _ HT.out).mono ?_
                      rintro e V2 ⟨rfl, hb⟩
                      replace RB := RB.below hb RB.lt
                      replace R0 := R0.below hb R0.lt
                      have hbw := hb.mono HB.size
                      replace HT := Lib.hid (HT.out.below hb HT.out.lt)
                      replace HS := Lib.hid (HS.out.below hbw)
                      replace HB := HB.trans hbw
                      clear hb hbw u0 u1 u2 u3 u4 u5 u6 u7 u8
                      have k0 : V2.cell? ⟨B5, 0, none⟩ = some (Value.int .i64 3) := RB.cell 0 rfl
                      have k1 : V2.cell? ⟨B5, 1, none⟩ = some (Value.int .i64 tow) := RB.cell 1 rfl
                      have k2 : V2.cell? ⟨B5, 2, none⟩ = some (Value.int .i64 tsr) := RB.cell 2 rfl
                      have k3 : V2.cell? ⟨B5, 3, none⟩ = some (Value.bool tbr) := RB.cell 3 rfl
                      have k4 : V2.cell? ⟨B5, 4, none⟩ = some (Value.bool tma) := RB.cell 4 rfl
                      have k5 : V2.cell? ⟨B5, 5, none⟩ = some (Value.int .i64 tus) := RB.cell 5 rfl
                      have k6 : V2.cell? ⟨B5, 6, none⟩ = some (Value.int .i64 tge) := RB.cell 6 rfl
                      have k7 : V2.cell? ⟨B5, 7, none⟩ = some (Value.int .i64 tep) := RB.cell 7 rfl
                      have k8 : V2.cell? ⟨B5, 8, none⟩ = some (Value.int .i64 tve) := RB.cell 8 rfl
                      go_wp2_with (refine wpList_store_row rfl 23 _ _ rfl _ #[Value.int .i64 3, Value.int .i64 tow, Value.int .i64 tsr, Value.bool tbr, Value.bool tma, Value.int .i64 tus, Value.int .i64 tge, Value.int .i64 tep, Value.int .i64 tve] rfl rfl 23 _ R0 (by kernel_rfl) rfl (by simp [Value.oneCell']) ?_)
                      clear k0 k1 k2 k3 k4 k5 k6 k7 k8
                      have HTE := Lib.hid (HT.out.below (below_setRow (Below.refl B V2) (Nat.le_refl _) #[Value.int .i64 3, Value.int .i64 tow, Value.int .i64 tsr, Value.bool tbr, Value.bool tma, Value.int .i64 tus, Value.int .i64 tge, Value.int .i64 tep, Value.int .i64 tve]) h2B)
                      have HSE := Lib.hid (HS.out.below (below_setRow (Below.refl w.heap.size V2) hle #[Value.int .i64 3, Value.int .i64 tow, Value.int .i64 tsr, Value.bool tbr, Value.bool tma, Value.int .i64 tus, Value.int .i64 tge, Value.int .i64 tep, Value.int .i64 tve]))
                      have HBE := below_setRow HB hle #[Value.int .i64 3, Value.int .i64 tow, Value.int .i64 tsr, Value.bool tbr, Value.bool tma, Value.int .i64 tus, Value.int .i64 tge, Value.int .i64 tep, Value.int .i64 tve]
                      have R9 := R0.set #[Value.int .i64 3, Value.int .i64 tow, Value.int .i64 tsr, Value.bool tbr, Value.bool tma, Value.int .i64 tus, Value.int .i64 tge, Value.int .i64 tep, Value.int .i64 tve]
                      have hge2 : tge ≤ ((j + 1 : Nat) : Int) := by rw [← HG.out]; omega
                      go_roundw
                      case rel => exact ⟨j + 1, ⟨3, tow, tsr, tbr, tma, tus, tge, tep, tve⟩, by omega, by go_num, rfl, RT, hge2, TS1.out, R9, HTE, HSE, HBE⟩
                      case measure => simp [intOf]; omega
            | false =>
              have HG := Lib.hid (ST.out.2.2 (Or.inl (by simpa using h3))).symm
              have u0 : V.cell? ⟨B5, 0, none⟩ = some (Value.int .i64 t.st) := RB.cell 0 rfl
              have y0 : V.cell? ⟨B, 0, none⟩ = some (Value.int .i64 s.st) := R0.cell 0 rfl
              go_wp2_with fail
              rw [HG.out]
              clear y0
              have u2 : V.cell? ⟨B5, 2, none⟩ = some (Value.int .i64 t.sr) := RB.cell 2 rfl
              go_loop [13, 14] (fun m b => ∃ (i : Nat) (y : Int), i ≤ 8 ∧ 0 ≤ y ∧ y ≤ i ∧ Hid (y = pop t.sr i) ∧ m = .int .i64 y ∧ b = .int .i64 i) (fun _ b => 8 - (intOf b).toNat)
              case atStart => exact ⟨0, 0, by omega, by omega, by omega, Lib.hid rfl, rfl, rfl⟩
              case round =>
                obtain ⟨i, y, hi, hy, hy2, hY, rfl, rfl⟩ := hrel
                by_cases hi8 : i < 8
                · have hb2 := pcb_bd RT.sr hi8
                  obtain ⟨z, ez⟩ : ∃ z, bits .and .i64 (t.sr / 2 ^ i) 1 = z := ⟨_, rfl⟩
                  have hz : 0 ≤ z ∧ z ≤ 1 := by rw [← ez]; exact hb2
                  have HY2 := Lib.hid (show y + z = pop t.sr (i + 1) by rw [← ez, hY.out]; rfl)
                  have hz0 := hz.1
                  have hz1 := hz.2
                  have hi0 : (i : Int) < 8 := by omega
                  clear hb2 hz
                  go_wp2
                  go_round
                  case rel => exact ⟨i + 1, y + z, by omega, by omega, by omega, HY2, rfl, by go_num⟩
                  case measure => simp [intOf]; omega
                · have hi9 : i = 8 := by omega
                  subst hi9
                  have hyk : y ≤ k := by rw [hY.out]; exact pc_le RT.sr hk8 ST.out.1
                  have hy0 : ¬ 0 < y := by
                    have z0 : t.sr = 0 := by
                      have := RT.hsr
                      have q := RT.sr
                      have h3b : ¬ t.st = 3 := by simpa using h3
                      omega
                    rw [hY.out, z0, pc0]
                    omega
                  have u6 : V.cell? ⟨B5, 6, none⟩ = some (Value.int .i64 t.ge) := RB.cell 6 rfl
                  have u1 : V.cell? ⟨B5, 1, none⟩ = some (Value.int .i64 t.ow) := RB.cell 1 rfl
                  have u3 : V.cell? ⟨B5, 3, none⟩ = some (Value.bool t.br) := RB.cell 3 rfl
                  have u4 : V.cell? ⟨B5, 4, none⟩ = some (Value.bool t.ma) := RB.cell 4 rfl
                  have u5 : V.cell? ⟨B5, 5, none⟩ = some (Value.int .i64 t.us) := RB.cell 5 rfl
                  have u7 : V.cell? ⟨B5, 7, none⟩ = some (Value.int .i64 t.ep) := RB.cell 7 rfl
                  have u8 : V.cell? ⟨B5, 8, none⟩ = some (Value.int .i64 t.ve) := RB.cell 8 rfl
                  go_wp2_with fail
                  refine (right_yes RT _ HT.out).mono ?_
                  rintro e V2 ⟨rfl, hb⟩
                  replace RB := RB.below hb RB.lt
                  replace R0 := R0.below hb R0.lt
                  have hbw := hb.mono HB.size
                  replace HT := Lib.hid (HT.out.below hb HT.out.lt)
                  replace HS := Lib.hid (HS.out.below hbw)
                  replace HB := HB.trans hbw
                  clear hb hbw u0 u1 u2 u3 u4 u5 u6 u7 u8
                  have k0 : V2.cell? ⟨B5, 0, none⟩ = some (Value.int .i64 t.st) := RB.cell 0 rfl
                  have k1 : V2.cell? ⟨B5, 1, none⟩ = some (Value.int .i64 t.ow) := RB.cell 1 rfl
                  have k2 : V2.cell? ⟨B5, 2, none⟩ = some (Value.int .i64 t.sr) := RB.cell 2 rfl
                  have k3 : V2.cell? ⟨B5, 3, none⟩ = some (Value.bool t.br) := RB.cell 3 rfl
                  have k4 : V2.cell? ⟨B5, 4, none⟩ = some (Value.bool t.ma) := RB.cell 4 rfl
                  have k5 : V2.cell? ⟨B5, 5, none⟩ = some (Value.int .i64 t.us) := RB.cell 5 rfl
                  have k6 : V2.cell? ⟨B5, 6, none⟩ = some (Value.int .i64 t.ge) := RB.cell 6 rfl
                  have k7 : V2.cell? ⟨B5, 7, none⟩ = some (Value.int .i64 t.ep) := RB.cell 7 rfl
                  have k8 : V2.cell? ⟨B5, 8, none⟩ = some (Value.int .i64 t.ve) := RB.cell 8 rfl
                  go_wp2_with (refine wpList_store_row rfl 23 _ _ rfl _ #[Value.int .i64 t.st, Value.int .i64 t.ow, Value.int .i64 t.sr, Value.bool t.br, Value.bool t.ma, Value.int .i64 t.us, Value.int .i64 t.ge, Value.int .i64 t.ep, Value.int .i64 t.ve] rfl rfl 23 _ R0 (by kernel_rfl) rfl (by simp [Value.oneCell']) ?_)
                  clear k0 k1 k2 k3 k4 k5 k6 k7 k8
                  have HTE := Lib.hid (HT.out.below (below_setRow (Below.refl B V2) (Nat.le_refl _) #[Value.int .i64 t.st, Value.int .i64 t.ow, Value.int .i64 t.sr, Value.bool t.br, Value.bool t.ma, Value.int .i64 t.us, Value.int .i64 t.ge, Value.int .i64 t.ep, Value.int .i64 t.ve]) h2B)
                  have HSE := Lib.hid (HS.out.below (below_setRow (Below.refl w.heap.size V2) hle #[Value.int .i64 t.st, Value.int .i64 t.ow, Value.int .i64 t.sr, Value.bool t.br, Value.bool t.ma, Value.int .i64 t.us, Value.int .i64 t.ge, Value.int .i64 t.ep, Value.int .i64 t.ve]))
                  have HBE := below_setRow HB hle #[Value.int .i64 t.st, Value.int .i64 t.ow, Value.int .i64 t.sr, Value.bool t.br, Value.bool t.ma, Value.int .i64 t.us, Value.int .i64 t.ge, Value.int .i64 t.ep, Value.int .i64 t.ve]
                  have R9 := R0.set #[Value.int .i64 t.st, Value.int .i64 t.ow, Value.int .i64 t.sr, Value.bool t.br, Value.bool t.ma, Value.int .i64 t.us, Value.int .i64 t.ge, Value.int .i64 t.ep, Value.int .i64 t.ve]
                  have hge2 : t.ge ≤ ((j + 1 : Nat) : Int) := by rw [← HG.out]; omega
                  go_roundw
                  case rel => exact ⟨j + 1, t, by omega, by go_num, rfl, RT, hge2, ST.out.1, R9, HTE, HSE, HBE⟩
                  case measure => simp [intOf]; omega
          refine AllReadyH.cons (o := { dst := some 11, op := Op.alloc 23, type := 0, pos := "law.go:52", after := #[], guard := none }) rfl (fun K hK => ?_) AllReadyH.nil
          go_simp
          have o1 := RowAt.new WD 23 #[Value.int .i64 0, Value.int .i64 0, Value.int .i64 0, Value.bool false, Value.bool false, Value.int .i64 0, Value.int .i64 0, Value.int .i64 0, Value.int .i64 0]
          have q01 := q00.alloc (.cells #[Value.int .i64 0, Value.int .i64 0, Value.int .i64 0, Value.bool false, Value.bool false, Value.int .i64 0, Value.int .i64 0, Value.int .i64 0, Value.int .i64 0] 23)
          have hbw := (Below.refl w.heap.size WD).alloc hB0.size (.cells #[Value.int .i64 0, Value.int .i64 0, Value.int .i64 0, Value.bool false, Value.bool false, Value.int .i64 0, Value.int .i64 0, Value.int .i64 0, Value.int .i64 0] 23)
          have hB1 := hB0.trans hbw
          have HT1 := Lib.hid (HT0.out.alloc (.cells #[Value.int .i64 0, Value.int .i64 0, Value.int .i64 0, Value.bool false, Value.bool false, Value.int .i64 0, Value.int .i64 0, Value.int .i64 0, Value.int .i64 0] 23))
          have HS1 := Lib.hid (HS0.out.below hbw)
          have e01 : (WD.alloc (.cells #[Value.int .i64 0, Value.int .i64 0, Value.int .i64 0, Value.bool false, Value.bool false, Value.int .i64 0, Value.int .i64 0, Value.int .i64 0, Value.int .i64 0] 23)).cell? ⟨bS, off + j * 3, none⟩ = some (.int .i64 x.d) := (hbw.cell (p := ⟨bS, _, none⟩) hbn).trans e00
          have e11 : (WD.alloc (.cells #[Value.int .i64 0, Value.int .i64 0, Value.int .i64 0, Value.bool false, Value.bool false, Value.int .i64 0, Value.int .i64 0, Value.int .i64 0, Value.int .i64 0] 23)).cell? ⟨bS, off + j * 3 + 1, none⟩ = some (.int .i64 x.o) := (hbw.cell (p := ⟨bS, _, none⟩) hbn).trans e10
          clear hbw
          have c10 : (WD.alloc (.cells #[Value.int .i64 0, Value.int .i64 0, Value.int .i64 0, Value.bool false, Value.bool false, Value.int .i64 0, Value.int .i64 0, Value.int .i64 0, Value.int .i64 0] 23)).cell? ⟨B, 0, none⟩ = some (Value.int .i64 s.st) := q01.cell 0 rfl
          have c11 : (WD.alloc (.cells #[Value.int .i64 0, Value.int .i64 0, Value.int .i64 0, Value.bool false, Value.bool false, Value.int .i64 0, Value.int .i64 0, Value.int .i64 0, Value.int .i64 0] 23)).cell? ⟨B, 1, none⟩ = some (Value.int .i64 s.ow) := q01.cell 1 rfl
          have c12 : (WD.alloc (.cells #[Value.int .i64 0, Value.int .i64 0, Value.int .i64 0, Value.bool false, Value.bool false, Value.int .i64 0, Value.int .i64 0, Value.int .i64 0, Value.int .i64 0] 23)).cell? ⟨B, 2, none⟩ = some (Value.int .i64 s.sr) := q01.cell 2 rfl
          have c13 : (WD.alloc (.cells #[Value.int .i64 0, Value.int .i64 0, Value.int .i64 0, Value.bool false, Value.bool false, Value.int .i64 0, Value.int .i64 0, Value.int .i64 0, Value.int .i64 0] 23)).cell? ⟨B, 3, none⟩ = some (Value.bool s.br) := q01.cell 3 rfl
          have c14 : (WD.alloc (.cells #[Value.int .i64 0, Value.int .i64 0, Value.int .i64 0, Value.bool false, Value.bool false, Value.int .i64 0, Value.int .i64 0, Value.int .i64 0, Value.int .i64 0] 23)).cell? ⟨B, 4, none⟩ = some (Value.bool s.ma) := q01.cell 4 rfl
          have c15 : (WD.alloc (.cells #[Value.int .i64 0, Value.int .i64 0, Value.int .i64 0, Value.bool false, Value.bool false, Value.int .i64 0, Value.int .i64 0, Value.int .i64 0, Value.int .i64 0] 23)).cell? ⟨B, 5, none⟩ = some (Value.int .i64 s.us) := q01.cell 5 rfl
          have c16 : (WD.alloc (.cells #[Value.int .i64 0, Value.int .i64 0, Value.int .i64 0, Value.bool false, Value.bool false, Value.int .i64 0, Value.int .i64 0, Value.int .i64 0, Value.int .i64 0] 23)).cell? ⟨B, 6, none⟩ = some (Value.int .i64 s.ge) := q01.cell 6 rfl
          have c17 : (WD.alloc (.cells #[Value.int .i64 0, Value.int .i64 0, Value.int .i64 0, Value.bool false, Value.bool false, Value.int .i64 0, Value.int .i64 0, Value.int .i64 0, Value.int .i64 0] 23)).cell? ⟨B, 7, none⟩ = some (Value.int .i64 s.ep) := q01.cell 7 rfl
          have c18 : (WD.alloc (.cells #[Value.int .i64 0, Value.int .i64 0, Value.int .i64 0, Value.bool false, Value.bool false, Value.int .i64 0, Value.int .i64 0, Value.int .i64 0, Value.int .i64 0] 23)).cell? ⟨B, 8, none⟩ = some (Value.int .i64 s.ve) := q01.cell 8 rfl
          refine hK.out _ _ ⟨c10, c11, c12, c13, c14, c15, c16, c17, c18, e01, e11⟩ (fun hS => ?_)
          clear hK K
          try simp only [Act.put, List.setIfInBounds_toArray, List.set_cons_zero, List.set_cons_succ]
          refine wpAnyH_ready (rs := [12]) (by kernel_rfl) (by simp) ?_
          refine AllReadyH.cons (o := { dst := some 55, op := Op.call { callee := Callee.value (Operand.func 11), args := #[Operand.tmp 43, Operand.tmp 48, Operand.tmp 53, Operand.tmp 54], argTypes := #[23, 3, 3, 3] }, type := 25, pos := "law.go:52", after := #[{ on := 0, ground := Ground.data }, { on := 5, ground := Ground.data }, { on := 10, ground := Ground.data }, { on := 11, ground := Ground.data }], guard := none }) rfl (fun K hK => ?_) AllReadyH.nil
          go_simp
          refine (CN _ HT1.out).mono ?_
          rintro e v2 ⟨rfl, hb⟩
          have q02 := q01.below hb q01.lt
          have hbw := hb.mono hB1.size
          have hB2 := hB1.trans hbw
          have HT2 := Lib.hid (HT1.out.below hb HT1.out.lt)
          have HS2 := Lib.hid (HS1.out.below hbw)
          have o2 := o1.below hb o1.lt
          have d0 : v2.cell? ⟨WD.heap.size, 0, none⟩ = some (Value.int .i64 0) := o2.cell 0 rfl
          have d1 : v2.cell? ⟨WD.heap.size, 1, none⟩ = some (Value.int .i64 0) := o2.cell 1 rfl
          have d2 : v2.cell? ⟨WD.heap.size, 2, none⟩ = some (Value.int .i64 0) := o2.cell 2 rfl
          have d3 : v2.cell? ⟨WD.heap.size, 3, none⟩ = some (Value.bool false) := o2.cell 3 rfl
          have d4 : v2.cell? ⟨WD.heap.size, 4, none⟩ = some (Value.bool false) := o2.cell 4 rfl
          have d5 : v2.cell? ⟨WD.heap.size, 5, none⟩ = some (Value.int .i64 0) := o2.cell 5 rfl
          have d6 : v2.cell? ⟨WD.heap.size, 6, none⟩ = some (Value.int .i64 0) := o2.cell 6 rfl
          have d7 : v2.cell? ⟨WD.heap.size, 7, none⟩ = some (Value.int .i64 0) := o2.cell 7 rfl
          have d8 : v2.cell? ⟨WD.heap.size, 8, none⟩ = some (Value.int .i64 0) := o2.cell 8 rfl
          have g0 : v2.frozen? ⟨WD.heap.size, 0, none⟩ = false := o2.frozen 0
          have g1 : v2.frozen? ⟨WD.heap.size, 1, none⟩ = false := o2.frozen 1
          have g2 : v2.frozen? ⟨WD.heap.size, 2, none⟩ = false := o2.frozen 2
          have g3 : v2.frozen? ⟨WD.heap.size, 3, none⟩ = false := o2.frozen 3
          have g4 : v2.frozen? ⟨WD.heap.size, 4, none⟩ = false := o2.frozen 4
          have g5 : v2.frozen? ⟨WD.heap.size, 5, none⟩ = false := o2.frozen 5
          have g6 : v2.frozen? ⟨WD.heap.size, 6, none⟩ = false := o2.frozen 6
          have g7 : v2.frozen? ⟨WD.heap.size, 7, none⟩ = false := o2.frozen 7
          have g8 : v2.frozen? ⟨WD.heap.size, 8, none⟩ = false := o2.frozen 8
          have e02 : v2.cell? ⟨bS, off + j * 3, none⟩ = some (.int .i64 x.d) := (hbw.cell (p := ⟨bS, _, none⟩) hbn).trans e01
          have e12 : v2.cell? ⟨bS, off + j * 3 + 1, none⟩ = some (.int .i64 x.o) := (hbw.cell (p := ⟨bS, _, none⟩) hbn).trans e11
          clear hb hbw
          have c20 : v2.cell? ⟨B, 0, none⟩ = some (Value.int .i64 s.st) := q02.cell 0 rfl
          have c21 : v2.cell? ⟨B, 1, none⟩ = some (Value.int .i64 s.ow) := q02.cell 1 rfl
          have c22 : v2.cell? ⟨B, 2, none⟩ = some (Value.int .i64 s.sr) := q02.cell 2 rfl
          have c23 : v2.cell? ⟨B, 3, none⟩ = some (Value.bool s.br) := q02.cell 3 rfl
          have c24 : v2.cell? ⟨B, 4, none⟩ = some (Value.bool s.ma) := q02.cell 4 rfl
          have c25 : v2.cell? ⟨B, 5, none⟩ = some (Value.int .i64 s.us) := q02.cell 5 rfl
          have c26 : v2.cell? ⟨B, 6, none⟩ = some (Value.int .i64 s.ge) := q02.cell 6 rfl
          have c27 : v2.cell? ⟨B, 7, none⟩ = some (Value.int .i64 s.ep) := q02.cell 7 rfl
          have c28 : v2.cell? ⟨B, 8, none⟩ = some (Value.int .i64 s.ve) := q02.cell 8 rfl
          refine hK.out _ _ ⟨c20, c21, c22, c23, c24, c25, c26, c27, c28, e02, e12⟩ (fun hS => ?_)
          clear hK K
          try simp only [Act.put, List.setIfInBounds_toArray, List.set_cons_zero, List.set_cons_succ]
          refine wpAnyH_take (i := 13) (oi := { dst := some 42, op := Op.move (Operand.tmp 55), type := 25, pos := "law.go:52", after := #[{ on := 12, ground := Ground.data }], guard := none }) (v := ?v13_77) rfl (by kernel_rfl) (by kernel_rfl) (by kernel_rfl) (fun _ _ _ h => h) (Or.inl ⟨by rfl, ?hy13_77⟩) hS ?rest13_77
          case hy13_77 =>
            intro w hSw
            (try dsimp only at hSw)
            go_simp
            try with_reducible rfl
          try simp only [Act.put, List.setIfInBounds_toArray, List.set_cons_zero, List.set_cons_succ]
          refine wpAnyH_take (i := 14) (oi := { dst := some 56, op := Op.extract (Operand.tmp 42) 0, type := 23, pos := "law.go:52", after := #[{ on := 13, ground := Ground.data }], guard := none }) (v := ?v14_78) rfl (by kernel_rfl) (by kernel_rfl) (by kernel_rfl) (fun _ _ _ h => h) (Or.inl ⟨by rfl, ?hy14_78⟩) hS ?rest14_78
          case hy14_78 =>
            intro w hSw
            (try dsimp only at hSw)
            go_simp
            try with_reducible rfl
          try simp only [Act.put, List.setIfInBounds_toArray, List.set_cons_zero, List.set_cons_succ]
          refine wpAnyH_take (i := 15) (oi := { dst := some 57, op := Op.extract (Operand.tmp 42) 1, type := 4, pos := "law.go:52", after := #[{ on := 13, ground := Ground.data }, { on := 17, ground := Ground.gcOnly Departure.lateStores }], guard := none }) (v := ?v15_79) rfl (by kernel_rfl) (by kernel_rfl) (by kernel_rfl) (fun _ _ _ h => h) (Or.inl ⟨by rfl, ?hy15_79⟩) hS ?rest15_79
          case hy15_79 =>
            intro w hSw
            (try dsimp only at hSw)
            go_simp
            try with_reducible rfl
          try simp only [Act.put, List.setIfInBounds_toArray, List.set_cons_zero, List.set_cons_succ]
          refine wpAnyH_ready (rs := [17]) (by kernel_rfl) (by simp) ?_
          refine AllReadyH.cons (o := { dst := none, op := Op.store 23 (Operand.tmp 11) (Operand.tmp 56), type := 0, pos := "law.go:52", after := #[{ on := 16, ground := Ground.data }, { on := 14, ground := Ground.data }, { on := 12, ground := Ground.chain }, { on := 0, ground := Ground.phase }, { on := 1, ground := Ground.phase }, { on := 2, ground := Ground.phase }, { on := 3, ground := Ground.phase }, { on := 4, ground := Ground.phase }, { on := 5, ground := Ground.phase }, { on := 6, ground := Ground.phase }, { on := 7, ground := Ground.phase }, { on := 8, ground := Ground.phase }, { on := 9, ground := Ground.phase }, { on := 10, ground := Ground.phase }, { on := 11, ground := Ground.phase }, { on := 12, ground := Ground.phase }, { on := 13, ground := Ground.phase }, { on := 14, ground := Ground.phase }, { on := 15, ground := Ground.textOnly Departure.lateStores }, { on := 16, ground := Ground.phase }], guard := none }) rfl (fun K hK => ?_) AllReadyH.nil
          go_simp
          have RB := row9 o2 (Value.int .i64 t.st) (Value.int .i64 t.ow) (Value.int .i64 t.sr) (Value.bool t.br) (Value.bool t.ma) (Value.int .i64 t.us) (Value.int .i64 t.ge) (Value.int .i64 t.ep) (Value.int .i64 t.ve)
          have hne := Nat.ne_of_lt q00.lt
          have R0 := oth9 q02 hne (Value.int .i64 t.st) (Value.int .i64 t.ow) (Value.int .i64 t.sr) (Value.bool t.br) (Value.bool t.ma) (Value.int .i64 t.us) (Value.int .i64 t.ge) (Value.int .i64 t.ep) (Value.int .i64 t.ve)
          have hbw := below9 (n := w.heap.size) (A := v2) (b := WD.heap.size) (Below.refl _ _) hB0.size (Value.int .i64 t.st) (Value.int .i64 t.ow) (Value.int .i64 t.sr) (Value.bool t.br) (Value.bool t.ma) (Value.int .i64 t.us) (Value.int .i64 t.ge) (Value.int .i64 t.ep) (Value.int .i64 t.ve)
          have HB := hB2.trans hbw
          have HT := Lib.hid (HT2.out.below (below9 (n := WD.heap.size) (A := v2) (b := WD.heap.size) (Below.refl _ _) (Nat.le_refl _) (Value.int .i64 t.st) (Value.int .i64 t.ow) (Value.int .i64 t.sr) (Value.bool t.br) (Value.bool t.ma) (Value.int .i64 t.us) (Value.int .i64 t.ge) (Value.int .i64 t.ep) (Value.int .i64 t.ve)) HT0.out.lt)
          have HS := Lib.hid (HS2.out.below hbw)
          have f0 : (((((((((v2.setCell ⟨WD.heap.size, 0, none⟩ (Value.int .i64 t.st)).setCell ⟨WD.heap.size, 1, none⟩ (Value.int .i64 t.ow)).setCell ⟨WD.heap.size, 2, none⟩ (Value.int .i64 t.sr)).setCell ⟨WD.heap.size, 3, none⟩ (Value.bool t.br)).setCell ⟨WD.heap.size, 4, none⟩ (Value.bool t.ma)).setCell ⟨WD.heap.size, 5, none⟩ (Value.int .i64 t.us)).setCell ⟨WD.heap.size, 6, none⟩ (Value.int .i64 t.ge)).setCell ⟨WD.heap.size, 7, none⟩ (Value.int .i64 t.ep)).setCell ⟨WD.heap.size, 8, none⟩ (Value.int .i64 t.ve)).cell? ⟨bS, off + j * 3, none⟩ = some (.int .i64 x.d) := (hbw.cell (p := ⟨bS, _, none⟩) hbn).trans e02
          have f1 : (((((((((v2.setCell ⟨WD.heap.size, 0, none⟩ (Value.int .i64 t.st)).setCell ⟨WD.heap.size, 1, none⟩ (Value.int .i64 t.ow)).setCell ⟨WD.heap.size, 2, none⟩ (Value.int .i64 t.sr)).setCell ⟨WD.heap.size, 3, none⟩ (Value.bool t.br)).setCell ⟨WD.heap.size, 4, none⟩ (Value.bool t.ma)).setCell ⟨WD.heap.size, 5, none⟩ (Value.int .i64 t.us)).setCell ⟨WD.heap.size, 6, none⟩ (Value.int .i64 t.ge)).setCell ⟨WD.heap.size, 7, none⟩ (Value.int .i64 t.ep)).setCell ⟨WD.heap.size, 8, none⟩ (Value.int .i64 t.ve)).cell? ⟨bS, off + j * 3 + 1, none⟩ = some (.int .i64 x.o) := (hbw.cell (p := ⟨bS, _, none⟩) hbn).trans e12
          clear hbw
          obtain ⟨V, hV⟩ : ∃ V, V = (((((((((v2.setCell ⟨WD.heap.size, 0, none⟩ (Value.int .i64 t.st)).setCell ⟨WD.heap.size, 1, none⟩ (Value.int .i64 t.ow)).setCell ⟨WD.heap.size, 2, none⟩ (Value.int .i64 t.sr)).setCell ⟨WD.heap.size, 3, none⟩ (Value.bool t.br)).setCell ⟨WD.heap.size, 4, none⟩ (Value.bool t.ma)).setCell ⟨WD.heap.size, 5, none⟩ (Value.int .i64 t.us)).setCell ⟨WD.heap.size, 6, none⟩ (Value.int .i64 t.ge)).setCell ⟨WD.heap.size, 7, none⟩ (Value.int .i64 t.ep)).setCell ⟨WD.heap.size, 8, none⟩ (Value.int .i64 t.ve)) := ⟨_, rfl⟩
          rw [← hV] at RB R0 HB HT HS f0 f1 ⊢
          clear hV
          obtain ⟨B5, eB⟩ : ∃ B5, B5 = WD.heap.size := ⟨_, rfl⟩
          rw [← eB] at RB hne ⊢
          clear eB
          have z0 : V.cell? ⟨B, 0, none⟩ = some (Value.int .i64 s.st) := R0.cell 0 rfl
          have z1 : V.cell? ⟨B, 1, none⟩ = some (Value.int .i64 s.ow) := R0.cell 1 rfl
          have z2 : V.cell? ⟨B, 2, none⟩ = some (Value.int .i64 s.sr) := R0.cell 2 rfl
          have z3 : V.cell? ⟨B, 3, none⟩ = some (Value.bool s.br) := R0.cell 3 rfl
          have z4 : V.cell? ⟨B, 4, none⟩ = some (Value.bool s.ma) := R0.cell 4 rfl
          have z5 : V.cell? ⟨B, 5, none⟩ = some (Value.int .i64 s.us) := R0.cell 5 rfl
          have z6 : V.cell? ⟨B, 6, none⟩ = some (Value.int .i64 s.ge) := R0.cell 6 rfl
          have z7 : V.cell? ⟨B, 7, none⟩ = some (Value.int .i64 s.ep) := R0.cell 7 rfl
          have z8 : V.cell? ⟨B, 8, none⟩ = some (Value.int .i64 s.ve) := R0.cell 8 rfl
          refine hK.out _ _ ⟨z0, z1, z2, z3, z4, z5, z6, z7, z8, f0, f1⟩ (fun hS => ?_)
          clear hK K
          try simp only [Act.put, List.setIfInBounds_toArray, List.set_cons_zero, List.set_cons_succ]
          refine wpAnyH_take (i := 18) (oi := { dst := some 12, op := Op.assign (Operand.tmp 57), type := 4, pos := "law.go:52", after := #[{ on := 15, ground := Ground.data }, { on := 17, ground := Ground.chain }, { on := 0, ground := Ground.phase }, { on := 1, ground := Ground.phase }, { on := 2, ground := Ground.phase }, { on := 3, ground := Ground.phase }, { on := 4, ground := Ground.phase }, { on := 5, ground := Ground.phase }, { on := 6, ground := Ground.phase }, { on := 7, ground := Ground.phase }, { on := 8, ground := Ground.phase }, { on := 9, ground := Ground.phase }, { on := 10, ground := Ground.phase }, { on := 11, ground := Ground.phase }, { on := 12, ground := Ground.phase }, { on := 13, ground := Ground.phase }, { on := 14, ground := Ground.phase }, { on := 15, ground := Ground.phase }, { on := 16, ground := Ground.phase }, { on := 17, ground := Ground.phase }], guard := none }) (v := ?v18_80) rfl (by kernel_rfl) (by kernel_rfl) (by kernel_rfl) (fun _ _ _ h => h) (Or.inl ⟨by rfl, ?hy18_80⟩) hS ?rest18_80
          case hy18_80 =>
            intro w hSw
            (try dsimp only at hSw)
            go_simp
            try with_reducible rfl
          try simp only [Act.put, List.setIfInBounds_toArray, List.set_cons_zero, List.set_cons_succ]
          refine wpAnyH_done (by kernel_rfl) ?_ _
          clear z0 z1 z2 z3 z4 z5 z6 z7 z8 f0 f1
          cases h3 : (t.st == 3) with
          | true =>
            obtain ⟨tst, tow, tsr, tbr, tma, tus, tge, tep, tve⟩ := t
            obtain rfl : tst = 3 := by simpa using h3
            clear h3
            have RB : RowAt V B5 23 #[Value.int .i64 3, Value.int .i64 tow, Value.int .i64 tsr, Value.bool tbr, Value.bool tma, Value.int .i64 tus, Value.int .i64 tge, Value.int .i64 tep, Value.int .i64 tve] := RB
            have tsr0 : 0 ≤ tsr ∧ tsr ≤ 255 := RT.sr
            have tsr1 : tsr < 2 ^ k := ST.out.1
            have TS1 := Lib.hid tsr1
            clear tsr1
            cases h4 : (s.st == 3) with
            | true =>
              have HG : Hid (s.ge = tge) := Lib.hid (ST.out.2.2 (Or.inr (by simpa using h4))).symm
              have u0 : V.cell? ⟨B5, 0, none⟩ = some (Value.int .i64 3) := RB.cell 0 rfl
              have y0 : V.cell? ⟨B, 0, none⟩ = some (Value.int .i64 s.st) := R0.cell 0 rfl
              go_wp2_with fail
              rw [HG.out]
              clear y0
              have u2 : V.cell? ⟨B5, 2, none⟩ = some (Value.int .i64 tsr) := RB.cell 2 rfl
              go_loop [13, 14] (fun m b => ∃ (i : Nat) (y : Int), i ≤ 8 ∧ 0 ≤ y ∧ y ≤ i ∧ Hid (y = pop tsr i) ∧ m = .int .i64 y ∧ b = .int .i64 i) (fun _ b => 8 - (intOf b).toNat)
              case atStart => exact ⟨0, 0, by omega, by omega, by omega, Lib.hid rfl, rfl, rfl⟩
              case round =>
                obtain ⟨i, y, hi, hy, hy2, hY, rfl, rfl⟩ := hrel
                by_cases hi8 : i < 8
                · have hb2 := pcb_bd tsr0 hi8
                  obtain ⟨z, ez⟩ : ∃ z, bits .and .i64 (tsr / 2 ^ i) 1 = z := ⟨_, rfl⟩
                  have hz : 0 ≤ z ∧ z ≤ 1 := by rw [← ez]; exact hb2
                  have HY2 := Lib.hid (show y + z = pop tsr (i + 1) by rw [← ez, hY.out]; rfl)
                  have hz0 := hz.1
                  have hz1 := hz.2
                  have hi0 : (i : Int) < 8 := by omega
                  clear hb2 hz
                  go_wp2
                  go_round
                  case rel => exact ⟨i + 1, y + z, by omega, by omega, by omega, HY2, rfl, by go_num⟩
                  case measure => simp [intOf]; omega
                · have hi9 : i = 8 := by omega
                  subst hi9
                  have hyk : y ≤ k := by rw [hY.out]; exact pc_le tsr0 hk8 TS1.out
                  by_cases hy1 : 0 < y
                  · have u6 : V.cell? ⟨B5, 6, none⟩ = some (Value.int .i64 tge) := RB.cell 6 rfl
                    have u1 : V.cell? ⟨B5, 1, none⟩ = some (Value.int .i64 tow) := RB.cell 1 rfl
                    have u3 : V.cell? ⟨B5, 3, none⟩ = some (Value.bool tbr) := RB.cell 3 rfl
                    have u4 : V.cell? ⟨B5, 4, none⟩ = some (Value.bool tma) := RB.cell 4 rfl
                    have u5 : V.cell? ⟨B5, 5, none⟩ = some (Value.int .i64 tus) := RB.cell 5 rfl
                    have u7 : V.cell? ⟨B5, 7, none⟩ = some (Value.int .i64 tep) := RB.cell 7 rfl
                    have u8 : V.cell? ⟨B5, 8, none⟩ = some (Value.int .i64 tve) := RB.cell 8 rfl
                    go_wp2_with fail
                    refine (right_yes RT _ HT.out).mono ?_
                    rintro e V2 ⟨rfl, hb⟩
                    replace RB := RB.below hb RB.lt
                    replace R0 := R0.below hb R0.lt
                    have hbw := hb.mono HB.size
                    replace HT := Lib.hid (HT.out.below hb HT.out.lt)
                    replace HS := Lib.hid (HS.out.below hbw)
                    replace HB := HB.trans hbw
                    clear hb hbw u0 u1 u2 u3 u4 u5 u6 u7 u8
                    have k0 : V2.cell? ⟨B5, 0, none⟩ = some (Value.int .i64 3) := RB.cell 0 rfl
                    have k1 : V2.cell? ⟨B5, 1, none⟩ = some (Value.int .i64 tow) := RB.cell 1 rfl
                    have k2 : V2.cell? ⟨B5, 2, none⟩ = some (Value.int .i64 tsr) := RB.cell 2 rfl
                    have k3 : V2.cell? ⟨B5, 3, none⟩ = some (Value.bool tbr) := RB.cell 3 rfl
                    have k4 : V2.cell? ⟨B5, 4, none⟩ = some (Value.bool tma) := RB.cell 4 rfl
                    have k5 : V2.cell? ⟨B5, 5, none⟩ = some (Value.int .i64 tus) := RB.cell 5 rfl
                    have k6 : V2.cell? ⟨B5, 6, none⟩ = some (Value.int .i64 tge) := RB.cell 6 rfl
                    have k7 : V2.cell? ⟨B5, 7, none⟩ = some (Value.int .i64 tep) := RB.cell 7 rfl
                    have k8 : V2.cell? ⟨B5, 8, none⟩ = some (Value.int .i64 tve) := RB.cell 8 rfl
                    go_wp2_with (refine wpList_store_row rfl 23 _ _ rfl _ #[Value.int .i64 3, Value.int .i64 tow, Value.int .i64 tsr, Value.bool tbr, Value.bool tma, Value.int .i64 tus, Value.int .i64 tge, Value.int .i64 tep, Value.int .i64 tve] rfl rfl 23 _ R0 (by kernel_rfl) rfl (by simp [Value.oneCell']) ?_)
                    clear k0 k1 k2 k3 k4 k5 k6 k7 k8
                    have HTE := Lib.hid (HT.out.below (below_setRow (Below.refl B V2) (Nat.le_refl _) #[Value.int .i64 3, Value.int .i64 tow, Value.int .i64 tsr, Value.bool tbr, Value.bool tma, Value.int .i64 tus, Value.int .i64 tge, Value.int .i64 tep, Value.int .i64 tve]) h2B)
                    have HSE := Lib.hid (HS.out.below (below_setRow (Below.refl w.heap.size V2) hle #[Value.int .i64 3, Value.int .i64 tow, Value.int .i64 tsr, Value.bool tbr, Value.bool tma, Value.int .i64 tus, Value.int .i64 tge, Value.int .i64 tep, Value.int .i64 tve]))
                    have HBE := below_setRow HB hle #[Value.int .i64 3, Value.int .i64 tow, Value.int .i64 tsr, Value.bool tbr, Value.bool tma, Value.int .i64 tus, Value.int .i64 tge, Value.int .i64 tep, Value.int .i64 tve]
                    have R9 := R0.set #[Value.int .i64 3, Value.int .i64 tow, Value.int .i64 tsr, Value.bool tbr, Value.bool tma, Value.int .i64 tus, Value.int .i64 tge, Value.int .i64 tep, Value.int .i64 tve]
                    have hge2 : tge ≤ ((j + 1 : Nat) : Int) := by rw [← HG.out]; omega
                    go_roundw
                    case rel => exact ⟨j + 1, ⟨3, tow, tsr, tbr, tma, tus, tge, tep, tve⟩, by omega, by go_num, rfl, RT, hge2, TS1.out, R9, HTE, HSE, HBE⟩
                    case measure => simp [intOf]; omega
                  · have u6 : V.cell? ⟨B5, 6, none⟩ = some (Value.int .i64 tge) := RB.cell 6 rfl
                    have u1 : V.cell? ⟨B5, 1, none⟩ = some (Value.int .i64 tow) := RB.cell 1 rfl
                    have u3 : V.cell? ⟨B5, 3, none⟩ = some (Value.bool tbr) := RB.cell 3 rfl
                    have u4 : V.cell? ⟨B5, 4, none⟩ = some (Value.bool tma) := RB.cell 4 rfl
                    have u5 : V.cell? ⟨B5, 5, none⟩ = some (Value.int .i64 tus) := RB.cell 5 rfl
                    have u7 : V.cell? ⟨B5, 7, none⟩ = some (Value.int .i64 tep) := RB.cell 7 rfl
                    have u8 : V.cell? ⟨B5, 8, none⟩ = some (Value.int .i64 tve) := RB.cell 8 rfl
                    go_wp2_with fail
                    refine (right_yes RT _ HT.out).mono ?_
                    rintro e V2 ⟨rfl, hb⟩
                    replace RB := RB.below hb RB.lt
                    replace R0 := R0.below hb R0.lt
                    have hbw := hb.mono HB.size
                    replace HT := Lib.hid (HT.out.below hb HT.out.lt)
                    replace HS := Lib.hid (HS.out.below hbw)
                    replace HB := HB.trans hbw
                    clear hb hbw u0 u1 u2 u3 u4 u5 u6 u7 u8
                    have k0 : V2.cell? ⟨B5, 0, none⟩ = some (Value.int .i64 3) := RB.cell 0 rfl
                    have k1 : V2.cell? ⟨B5, 1, none⟩ = some (Value.int .i64 tow) := RB.cell 1 rfl
                    have k2 : V2.cell? ⟨B5, 2, none⟩ = some (Value.int .i64 tsr) := RB.cell 2 rfl
                    have k3 : V2.cell? ⟨B5, 3, none⟩ = some (Value.bool tbr) := RB.cell 3 rfl
                    have k4 : V2.cell? ⟨B5, 4, none⟩ = some (Value.bool tma) := RB.cell 4 rfl
                    have k5 : V2.cell? ⟨B5, 5, none⟩ = some (Value.int .i64 tus) := RB.cell 5 rfl
                    have k6 : V2.cell? ⟨B5, 6, none⟩ = some (Value.int .i64 tge) := RB.cell 6 rfl
                    have k7 : V2.cell? ⟨B5, 7, none⟩ = some (Value.int .i64 tep) := RB.cell 7 rfl
                    have k8 : V2.cell? ⟨B5, 8, none⟩ = some (Value.int .i64 tve) := RB.cell 8 rfl
                    go_wp2_with (refine wpList_store_row rfl 23 _ _ rfl _ #[Value.int .i64 3, Value.int .i64 tow, Value.int .i64 tsr, Value.bool tbr, Value.bool tma, Value.int .i64 tus, Value.int .i64 tge, Value.int .i64 tep, Value.int .i64 tve] rfl rfl 23 _ R0 (by kernel_rfl) rfl (by simp [Value.oneCell']) ?_)
                    clear k0 k1 k2 k3 k4 k5 k6 k7 k8
                    have HTE := Lib.hid (HT.out.below (below_setRow (Below.refl B V2) (Nat.le_refl _) #[Value.int .i64 3, Value.int .i64 tow, Value.int .i64 tsr, Value.bool tbr, Value.bool tma, Value.int .i64 tus, Value.int .i64 tge, Value.int .i64 tep, Value.int .i64 tve]) h2B)
                    have HSE := Lib.hid (HS.out.below (below_setRow (Below.refl w.heap.size V2) hle #[Value.int .i64 3, Value.int .i64 tow, Value.int .i64 tsr, Value.bool tbr, Value.bool tma, Value.int .i64 tus, Value.int .i64 tge, Value.int .i64 tep, Value.int .i64 tve]))
                    have HBE := below_setRow HB hle #[Value.int .i64 3, Value.int .i64 tow, Value.int .i64 tsr, Value.bool tbr, Value.bool tma, Value.int .i64 tus, Value.int .i64 tge, Value.int .i64 tep, Value.int .i64 tve]
                    have R9 := R0.set #[Value.int .i64 3, Value.int .i64 tow, Value.int .i64 tsr, Value.bool tbr, Value.bool tma, Value.int .i64 tus, Value.int .i64 tge, Value.int .i64 tep, Value.int .i64 tve]
                    have hge2 : tge ≤ ((j + 1 : Nat) : Int) := by rw [← HG.out]; omega
                    go_roundw
                    case rel => exact ⟨j + 1, ⟨3, tow, tsr, tbr, tma, tus, tge, tep, tve⟩, by omega, by go_num, rfl, RT, hge2, TS1.out, R9, HTE, HSE, HBE⟩
                    case measure => simp [intOf]; omega
            | false =>
              have HG : Hid (s.ge + 1 = tge) := Lib.hid (ST.out.2.1 rfl (by simpa using h4)).symm
              have u0 : V.cell? ⟨B5, 0, none⟩ = some (Value.int .i64 3) := RB.cell 0 rfl
              have y0 : V.cell? ⟨B, 0, none⟩ = some (Value.int .i64 s.st) := R0.cell 0 rfl
              go_wp2_with fail
              rw [HG.out]
              clear y0
              have u2 : V.cell? ⟨B5, 2, none⟩ = some (Value.int .i64 tsr) := RB.cell 2 rfl
              go_loop [13, 14] (fun m b => ∃ (i : Nat) (y : Int), i ≤ 8 ∧ 0 ≤ y ∧ y ≤ i ∧ Hid (y = pop tsr i) ∧ m = .int .i64 y ∧ b = .int .i64 i) (fun _ b => 8 - (intOf b).toNat)
              case atStart => exact ⟨0, 0, by omega, by omega, by omega, Lib.hid rfl, rfl, rfl⟩
              case round =>
                obtain ⟨i, y, hi, hy, hy2, hY, rfl, rfl⟩ := hrel
                by_cases hi8 : i < 8
                · have hb2 := pcb_bd tsr0 hi8
                  obtain ⟨z, ez⟩ : ∃ z, bits .and .i64 (tsr / 2 ^ i) 1 = z := ⟨_, rfl⟩
                  have hz : 0 ≤ z ∧ z ≤ 1 := by rw [← ez]; exact hb2
                  have HY2 := Lib.hid (show y + z = pop tsr (i + 1) by rw [← ez, hY.out]; rfl)
                  have hz0 := hz.1
                  have hz1 := hz.2
                  have hi0 : (i : Int) < 8 := by omega
                  clear hb2 hz
                  go_wp2
                  go_round
                  case rel => exact ⟨i + 1, y + z, by omega, by omega, by omega, HY2, rfl, by go_num⟩
                  case measure => simp [intOf]; omega
                · have hi9 : i = 8 := by omega
                  subst hi9
                  have hyk : y ≤ k := by rw [hY.out]; exact pc_le tsr0 hk8 TS1.out
                  by_cases hy1 : 0 < y
                  · have u6 : V.cell? ⟨B5, 6, none⟩ = some (Value.int .i64 tge) := RB.cell 6 rfl
                    have u1 : V.cell? ⟨B5, 1, none⟩ = some (Value.int .i64 tow) := RB.cell 1 rfl
                    have u3 : V.cell? ⟨B5, 3, none⟩ = some (Value.bool tbr) := RB.cell 3 rfl
                    have u4 : V.cell? ⟨B5, 4, none⟩ = some (Value.bool tma) := RB.cell 4 rfl
                    have u5 : V.cell? ⟨B5, 5, none⟩ = some (Value.int .i64 tus) := RB.cell 5 rfl
                    have u7 : V.cell? ⟨B5, 7, none⟩ = some (Value.int .i64 tep) := RB.cell 7 rfl
                    have u8 : V.cell? ⟨B5, 8, none⟩ = some (Value.int .i64 tve) := RB.cell 8 rfl
                    go_wp2_with fail
                    refine (right_yes RT _ HT.out).mono ?_
                    rintro e V2 ⟨rfl, hb⟩
                    replace RB := RB.below hb RB.lt
                    replace R0 := R0.below hb R0.lt
                    have hbw := hb.mono HB.size
                    replace HT := Lib.hid (HT.out.below hb HT.out.lt)
                    replace HS := Lib.hid (HS.out.below hbw)
                    replace HB := HB.trans hbw
                    clear hb hbw u0 u1 u2 u3 u4 u5 u6 u7 u8
                    have k0 : V2.cell? ⟨B5, 0, none⟩ = some (Value.int .i64 3) := RB.cell 0 rfl
                    have k1 : V2.cell? ⟨B5, 1, none⟩ = some (Value.int .i64 tow) := RB.cell 1 rfl
                    have k2 : V2.cell? ⟨B5, 2, none⟩ = some (Value.int .i64 tsr) := RB.cell 2 rfl
                    have k3 : V2.cell? ⟨B5, 3, none⟩ = some (Value.bool tbr) := RB.cell 3 rfl
                    have k4 : V2.cell? ⟨B5, 4, none⟩ = some (Value.bool tma) := RB.cell 4 rfl
                    have k5 : V2.cell? ⟨B5, 5, none⟩ = some (Value.int .i64 tus) := RB.cell 5 rfl
                    have k6 : V2.cell? ⟨B5, 6, none⟩ = some (Value.int .i64 tge) := RB.cell 6 rfl
                    have k7 : V2.cell? ⟨B5, 7, none⟩ = some (Value.int .i64 tep) := RB.cell 7 rfl
                    have k8 : V2.cell? ⟨B5, 8, none⟩ = some (Value.int .i64 tve) := RB.cell 8 rfl
                    go_wp2_with (refine wpList_store_row rfl 23 _ _ rfl _ #[Value.int .i64 3, Value.int .i64 tow, Value.int .i64 tsr, Value.bool tbr, Value.bool tma, Value.int .i64 tus, Value.int .i64 tge, Value.int .i64 tep, Value.int .i64 tve] rfl rfl 23 _ R0 (by kernel_rfl) rfl (by simp [Value.oneCell']) ?_)
                    clear k0 k1 k2 k3 k4 k5 k6 k7 k8
                    have HTE := Lib.hid (HT.out.below (below_setRow (Below.refl B V2) (Nat.le_refl _) #[Value.int .i64 3, Value.int .i64 tow, Value.int .i64 tsr, Value.bool tbr, Value.bool tma, Value.int .i64 tus, Value.int .i64 tge, Value.int .i64 tep, Value.int .i64 tve]) h2B)
                    have HSE := Lib.hid (HS.out.below (below_setRow (Below.refl w.heap.size V2) hle #[Value.int .i64 3, Value.int .i64 tow, Value.int .i64 tsr, Value.bool tbr, Value.bool tma, Value.int .i64 tus, Value.int .i64 tge, Value.int .i64 tep, Value.int .i64 tve]))
                    have HBE := below_setRow HB hle #[Value.int .i64 3, Value.int .i64 tow, Value.int .i64 tsr, Value.bool tbr, Value.bool tma, Value.int .i64 tus, Value.int .i64 tge, Value.int .i64 tep, Value.int .i64 tve]
                    have R9 := R0.set #[Value.int .i64 3, Value.int .i64 tow, Value.int .i64 tsr, Value.bool tbr, Value.bool tma, Value.int .i64 tus, Value.int .i64 tge, Value.int .i64 tep, Value.int .i64 tve]
                    have hge2 : tge ≤ ((j + 1 : Nat) : Int) := by rw [← HG.out]; omega
                    go_roundw
                    case rel => exact ⟨j + 1, ⟨3, tow, tsr, tbr, tma, tus, tge, tep, tve⟩, by omega, by go_num, rfl, RT, hge2, TS1.out, R9, HTE, HSE, HBE⟩
                    case measure => simp [intOf]; omega
                  · have u6 : V.cell? ⟨B5, 6, none⟩ = some (Value.int .i64 tge) := RB.cell 6 rfl
                    have u1 : V.cell? ⟨B5, 1, none⟩ = some (Value.int .i64 tow) := RB.cell 1 rfl
                    have u3 : V.cell? ⟨B5, 3, none⟩ = some (Value.bool tbr) := RB.cell 3 rfl
                    have u4 : V.cell? ⟨B5, 4, none⟩ = some (Value.bool tma) := RB.cell 4 rfl
                    have u5 : V.cell? ⟨B5, 5, none⟩ = some (Value.int .i64 tus) := RB.cell 5 rfl
                    have u7 : V.cell? ⟨B5, 7, none⟩ = some (Value.int .i64 tep) := RB.cell 7 rfl
                    have u8 : V.cell? ⟨B5, 8, none⟩ = some (Value.int .i64 tve) := RB.cell 8 rfl
                    go_wp2_with fail
                    refine (right_yes RT _ HT.out).mono ?_
                    rintro e V2 ⟨rfl, hb⟩
                    replace RB := RB.below hb RB.lt
                    replace R0 := R0.below hb R0.lt
                    have hbw := hb.mono HB.size
                    replace HT := Lib.hid (HT.out.below hb HT.out.lt)
                    replace HS := Lib.hid (HS.out.below hbw)
                    replace HB := HB.trans hbw
                    clear hb hbw u0 u1 u2 u3 u4 u5 u6 u7 u8
                    have k0 : V2.cell? ⟨B5, 0, none⟩ = some (Value.int .i64 3) := RB.cell 0 rfl
                    have k1 : V2.cell? ⟨B5, 1, none⟩ = some (Value.int .i64 tow) := RB.cell 1 rfl
                    have k2 : V2.cell? ⟨B5, 2, none⟩ = some (Value.int .i64 tsr) := RB.cell 2 rfl
                    have k3 : V2.cell? ⟨B5, 3, none⟩ = some (Value.bool tbr) := RB.cell 3 rfl
                    have k4 : V2.cell? ⟨B5, 4, none⟩ = some (Value.bool tma) := RB.cell 4 rfl
                    have k5 : V2.cell? ⟨B5, 5, none⟩ = some (Value.int .i64 tus) := RB.cell 5 rfl
                    have k6 : V2.cell? ⟨B5, 6, none⟩ = some (Value.int .i64 tge) := RB.cell 6 rfl
                    have k7 : V2.cell? ⟨B5, 7, none⟩ = some (Value.int .i64 tep) := RB.cell 7 rfl
                    have k8 : V2.cell? ⟨B5, 8, none⟩ = some (Value.int .i64 tve) := RB.cell 8 rfl
                    go_wp2_with (refine wpList_store_row rfl 23 _ _ rfl _ #[Value.int .i64 3, Value.int .i64 tow, Value.int .i64 tsr, Value.bool tbr, Value.bool tma, Value.int .i64 tus, Value.int .i64 tge, Value.int .i64 tep, Value.int .i64 tve] rfl rfl 23 _ R0 (by kernel_rfl) rfl (by simp [Value.oneCell']) ?_)
                    clear k0 k1 k2 k3 k4 k5 k6 k7 k8
                    have HTE := Lib.hid (HT.out.below (below_setRow (Below.refl B V2) (Nat.le_refl _) #[Value.int .i64 3, Value.int .i64 tow, Value.int .i64 tsr, Value.bool tbr, Value.bool tma, Value.int .i64 tus, Value.int .i64 tge, Value.int .i64 tep, Value.int .i64 tve]) h2B)
                    have HSE := Lib.hid (HS.out.below (below_setRow (Below.refl w.heap.size V2) hle #[Value.int .i64 3, Value.int .i64 tow, Value.int .i64 tsr, Value.bool tbr, Value.bool tma, Value.int .i64 tus, Value.int .i64 tge, Value.int .i64 tep, Value.int .i64 tve]))
                    have HBE := below_setRow HB hle #[Value.int .i64 3, Value.int .i64 tow, Value.int .i64 tsr, Value.bool tbr, Value.bool tma, Value.int .i64 tus, Value.int .i64 tge, Value.int .i64 tep, Value.int .i64 tve]
                    have R9 := R0.set #[Value.int .i64 3, Value.int .i64 tow, Value.int .i64 tsr, Value.bool tbr, Value.bool tma, Value.int .i64 tus, Value.int .i64 tge, Value.int .i64 tep, Value.int .i64 tve]
                    have hge2 : tge ≤ ((j + 1 : Nat) : Int) := by rw [← HG.out]; omega
                    go_roundw
                    case rel => exact ⟨j + 1, ⟨3, tow, tsr, tbr, tma, tus, tge, tep, tve⟩, by omega, by go_num, rfl, RT, hge2, TS1.out, R9, HTE, HSE, HBE⟩
                    case measure => simp [intOf]; omega
          | false =>
            have HG := Lib.hid (ST.out.2.2 (Or.inl (by simpa using h3))).symm
            have u0 : V.cell? ⟨B5, 0, none⟩ = some (Value.int .i64 t.st) := RB.cell 0 rfl
            have y0 : V.cell? ⟨B, 0, none⟩ = some (Value.int .i64 s.st) := R0.cell 0 rfl
            go_wp2_with fail
            rw [HG.out]
            clear y0
            have u2 : V.cell? ⟨B5, 2, none⟩ = some (Value.int .i64 t.sr) := RB.cell 2 rfl
            go_loop [13, 14] (fun m b => ∃ (i : Nat) (y : Int), i ≤ 8 ∧ 0 ≤ y ∧ y ≤ i ∧ Hid (y = pop t.sr i) ∧ m = .int .i64 y ∧ b = .int .i64 i) (fun _ b => 8 - (intOf b).toNat)
            case atStart => exact ⟨0, 0, by omega, by omega, by omega, Lib.hid rfl, rfl, rfl⟩
            case round =>
              obtain ⟨i, y, hi, hy, hy2, hY, rfl, rfl⟩ := hrel
              by_cases hi8 : i < 8
              · have hb2 := pcb_bd RT.sr hi8
                obtain ⟨z, ez⟩ : ∃ z, bits .and .i64 (t.sr / 2 ^ i) 1 = z := ⟨_, rfl⟩
                have hz : 0 ≤ z ∧ z ≤ 1 := by rw [← ez]; exact hb2
                have HY2 := Lib.hid (show y + z = pop t.sr (i + 1) by rw [← ez, hY.out]; rfl)
                have hz0 := hz.1
                have hz1 := hz.2
                have hi0 : (i : Int) < 8 := by omega
                clear hb2 hz
                go_wp2
                go_round
                case rel => exact ⟨i + 1, y + z, by omega, by omega, by omega, HY2, rfl, by go_num⟩
                case measure => simp [intOf]; omega
              · have hi9 : i = 8 := by omega
                subst hi9
                have hyk : y ≤ k := by rw [hY.out]; exact pc_le RT.sr hk8 ST.out.1
                have hy0 : ¬ 0 < y := by
                  have z0 : t.sr = 0 := by
                    have := RT.hsr
                    have q := RT.sr
                    have h3b : ¬ t.st = 3 := by simpa using h3
                    omega
                  rw [hY.out, z0, pc0]
                  omega
                have u6 : V.cell? ⟨B5, 6, none⟩ = some (Value.int .i64 t.ge) := RB.cell 6 rfl
                have u1 : V.cell? ⟨B5, 1, none⟩ = some (Value.int .i64 t.ow) := RB.cell 1 rfl
                have u3 : V.cell? ⟨B5, 3, none⟩ = some (Value.bool t.br) := RB.cell 3 rfl
                have u4 : V.cell? ⟨B5, 4, none⟩ = some (Value.bool t.ma) := RB.cell 4 rfl
                have u5 : V.cell? ⟨B5, 5, none⟩ = some (Value.int .i64 t.us) := RB.cell 5 rfl
                have u7 : V.cell? ⟨B5, 7, none⟩ = some (Value.int .i64 t.ep) := RB.cell 7 rfl
                have u8 : V.cell? ⟨B5, 8, none⟩ = some (Value.int .i64 t.ve) := RB.cell 8 rfl
                go_wp2_with fail
                refine (right_yes RT _ HT.out).mono ?_
                rintro e V2 ⟨rfl, hb⟩
                replace RB := RB.below hb RB.lt
                replace R0 := R0.below hb R0.lt
                have hbw := hb.mono HB.size
                replace HT := Lib.hid (HT.out.below hb HT.out.lt)
                replace HS := Lib.hid (HS.out.below hbw)
                replace HB := HB.trans hbw
                clear hb hbw u0 u1 u2 u3 u4 u5 u6 u7 u8
                have k0 : V2.cell? ⟨B5, 0, none⟩ = some (Value.int .i64 t.st) := RB.cell 0 rfl
                have k1 : V2.cell? ⟨B5, 1, none⟩ = some (Value.int .i64 t.ow) := RB.cell 1 rfl
                have k2 : V2.cell? ⟨B5, 2, none⟩ = some (Value.int .i64 t.sr) := RB.cell 2 rfl
                have k3 : V2.cell? ⟨B5, 3, none⟩ = some (Value.bool t.br) := RB.cell 3 rfl
                have k4 : V2.cell? ⟨B5, 4, none⟩ = some (Value.bool t.ma) := RB.cell 4 rfl
                have k5 : V2.cell? ⟨B5, 5, none⟩ = some (Value.int .i64 t.us) := RB.cell 5 rfl
                have k6 : V2.cell? ⟨B5, 6, none⟩ = some (Value.int .i64 t.ge) := RB.cell 6 rfl
                have k7 : V2.cell? ⟨B5, 7, none⟩ = some (Value.int .i64 t.ep) := RB.cell 7 rfl
                have k8 : V2.cell? ⟨B5, 8, none⟩ = some (Value.int .i64 t.ve) := RB.cell 8 rfl
                go_wp2_with (refine wpList_store_row rfl 23 _ _ rfl _ #[Value.int .i64 t.st, Value.int .i64 t.ow, Value.int .i64 t.sr, Value.bool t.br, Value.bool t.ma, Value.int .i64 t.us, Value.int .i64 t.ge, Value.int .i64 t.ep, Value.int .i64 t.ve] rfl rfl 23 _ R0 (by kernel_rfl) rfl (by simp [Value.oneCell']) ?_)
                clear k0 k1 k2 k3 k4 k5 k6 k7 k8
                have HTE := Lib.hid (HT.out.below (below_setRow (Below.refl B V2) (Nat.le_refl _) #[Value.int .i64 t.st, Value.int .i64 t.ow, Value.int .i64 t.sr, Value.bool t.br, Value.bool t.ma, Value.int .i64 t.us, Value.int .i64 t.ge, Value.int .i64 t.ep, Value.int .i64 t.ve]) h2B)
                have HSE := Lib.hid (HS.out.below (below_setRow (Below.refl w.heap.size V2) hle #[Value.int .i64 t.st, Value.int .i64 t.ow, Value.int .i64 t.sr, Value.bool t.br, Value.bool t.ma, Value.int .i64 t.us, Value.int .i64 t.ge, Value.int .i64 t.ep, Value.int .i64 t.ve]))
                have HBE := below_setRow HB hle #[Value.int .i64 t.st, Value.int .i64 t.ow, Value.int .i64 t.sr, Value.bool t.br, Value.bool t.ma, Value.int .i64 t.us, Value.int .i64 t.ge, Value.int .i64 t.ep, Value.int .i64 t.ve]
                have R9 := R0.set #[Value.int .i64 t.st, Value.int .i64 t.ow, Value.int .i64 t.sr, Value.bool t.br, Value.bool t.ma, Value.int .i64 t.us, Value.int .i64 t.ge, Value.int .i64 t.ep, Value.int .i64 t.ve]
                have hge2 : t.ge ≤ ((j + 1 : Nat) : Int) := by rw [← HG.out]; omega
                go_roundw
                case rel => exact ⟨j + 1, t, by omega, by go_num, rfl, RT, hge2, ST.out.1, R9, HTE, HSE, HBE⟩
                case measure => simp [intOf]; omega
    · have hjn : j = n := by omega
      subst hjn
      go_wp2
      go_ret
      exact ⟨rfl, hB2⟩
theorem lruns_any (A : Option Addr) (n c : Nat) (l : List Stp) (u : Int) (w : World) (hT : Tb w) (hl : l.length = n) (hS : SS w w.heap.size A l) (hbig : ∀ (j : Nat) x, l[j]? = some x → Big x.m) (hu : 0 ≤ u ∧ u ≤ 255) :
    Calls Tryd.prog 5 #[.slice A n c, .int .u8 u] w fun e w' => e = .returned (.bool true) ∧ Below w.heap.size w w' := by
  by_cases hn : 60 < n
  · exact lruns_long A n c u w hT hn
  · exact lruns_go A n c l u (u % 9).toNat w hT hl (by omega) hS hbig (by omega) (by omega) hu.1 hu.2
end Go.Proofs.YtdiipmejkanhfaaDoor
