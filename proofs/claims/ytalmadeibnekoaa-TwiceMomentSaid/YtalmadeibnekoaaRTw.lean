/- The document's own, asked; nothing that was there changes. -/
import Derived.Test.YtalmadeibnekoaaTat
import Derived.Test.YtalmadeibnekoaaMade
namespace Go.Proofs.Ytalmadeibnekoaa
open Go.RowKit
attribute [local go_sem ↓] Go.wp_at_zero Go.wp_at_succ

/-- what the document's own has seen, in block h; its words lie in block rb -/
def RfAt (w : World) (h rb : Nat) (c : Cf) (S : List Int) : Prop := ∃ A c1, RowAt w h 44 #[Value.int .i64 c.wo, Value.int .i64 c.sl, Value.int .i64 c.st, Value.int .i64 c.wa, Value.int .i64 c.us, Value.slice A S.length c1] ∧ Own w h rb A S.length c1 S
theorem RfAt.lt {w : World} {h rb : Nat} {c : Cf} {S : List Int} (hR : RfAt w h rb c S) : h < w.heap.size ∧ rb < w.heap.size := by
  obtain ⟨A, c1, h1, h2⟩ := hR
  exact ⟨h1.lt, h2.lt⟩
theorem RfAt.spx {w w' : World} {h rb : Nat} {c : Cf} {S : List Int} {X : List Nat} (hR : RfAt w h rb c S) (hs : SpX X w w') (h1 : h ∉ X) (h2 : rb ∉ X) : RfAt w' h rb c S := by
  obtain ⟨A, c1, k1, k2⟩ := hR
  exact ⟨A, c1, k1.spx hs h1, k2.spx hs (.inr h2)⟩
theorem RfAt.on {w w' : World} {h rb : Nat} {c : Cf} {S : List Int} (hR : RfAt w h rb c S) (hb : Below w.heap.size w w') : RfAt w' h rb c S := hR.spx (X := []) (.of_below hb) (by simp) (by simp)
theorem RfAt.drew {w : World} {h rb : Nat} {c : Cf} {S : List Int} (hR : RfAt w h rb c S) : RfAt w.drew h rb c S := hR.on ((Below.refl _ w).drew)
theorem rf_new (w : World) (c : Cf) (h : Nat) (hr : RowAt w h 44 #[Value.int .i64 c.wo, Value.int .i64 c.sl, Value.int .i64 c.st, Value.int .i64 c.wa, Value.int .i64 c.us, Value.slice none 0 0]) : RfAt w h h c [] := ⟨none, 0, hr, .nil _ _ hr.lt⟩
theorem ints_len (A A2 : Option Addr) (c c2 n m : Nat) (xs ys : List Int) (w : World) (hx : xs.length = n) (hy : ys.length = m) (h : IS w w.heap.size A xs) (h2 : IS w w.heap.size A2 ys) (hl : n ≤ 1000000) :
    Calls Try.prog 19 #[.slice A n c, .slice A2 m c2] w (fun e w' => e = .returned (.bool (decide (xs = ys))) ∧ Below w.heap.size w w') := by
  subst hx hy
  exact ints_any A A2 c c2 xs ys w h h2 hl
theorem cut_l (rb k c1 P n : Nat) (hk : k = P + n) (hc : k ≤ c1) (h1 : 1 ≤ n) (W : World) : (Instr.slice 32 (.slice (some ⟨rb, 0, none⟩) k c1) (some (.int .i64 P)) none none).run Try.prog W = .ok (.slice (some ⟨rb, P, none⟩) n (c1 - P)) W := by
  have hu : Try.prog.underlying 32 = some (.slice (Try.prog.elem 32)) := by kernel_rfl
  have e3 : Try.prog.elem 32 = 3 := by kernel_rfl
  obtain ⟨i0, hi, hz0, hz1, hz2⟩ := info_parts infoI2
  rw [run_slice_l W 32 (some ⟨rb, 0, none⟩) k c1 hu .i64 _ (by omega) (by omega), e3]
  have e5 : ¬ c1 = P := by omega
  simp [sizeOf, typeInfo, hi, hz1, Result.andThen, sliced, Addr.add, e5, hk]
  exact fun h => h.symm
theorem cut_lh (rb k c1 P Q n : Nat) (hP : P = Q + n) (hk : P ≤ k) (hc : k ≤ c1) (h1 : 1 ≤ n) (W : World) : (Instr.slice 32 (.slice (some ⟨rb, 0, none⟩) k c1) (some (.int .i64 Q)) (some (.int .i64 P)) none).run Try.prog W = .ok (.slice (some ⟨rb, Q, none⟩) n (c1 - Q)) W := by
  have hu : Try.prog.underlying 32 = some (.slice (Try.prog.elem 32)) := by kernel_rfl
  have e3 : Try.prog.elem 32 = 3 := by kernel_rfl
  obtain ⟨i0, hi, hz0, hz1, hz2⟩ := info_parts infoI2
  rw [run_slice_lh W 32 (some ⟨rb, 0, none⟩) k c1 hu .i64 .i64 _ _ (by omega) (by omega) (by omega), e3]
  have e5 : ¬ c1 = Q := by omega
  simp [sizeOf, typeInfo, hi, hz1, Result.andThen, sliced, Addr.add, e5, hP]
  grind
set_option maxRecDepth 100000 in
set_option maxHeartbeats 2000000 in
theorem rdone_any (h rb : Nat) (c : Cf) (n : Nat) (S : List Int) (w : World) (hR : RfAt w h rb c S) (hc : Rc c) (hn : c.sl = n) (hk9 : S.length ≤ 1000000) :
    Calls Try.prog 34 #[.pointer (some ⟨h, 0, none⟩)] w fun e w' => e = .returned (.bool (doneS n S)) ∧ Below w.heap.size w w' := by
  obtain ⟨A, c1, h1, h2⟩ := hR
  obtain ⟨k, hk⟩ : ∃ k, k = S.length := ⟨_, rfl⟩
  have hkc := h2.nc
  rw [← hk] at h1 h2 hk9 hkc
  have q2 := hc.sl
  have k1 := h1.cell 1 rfl
  have k5 := h1.cell 5 rfl
  have htm : (k : Int).tmod c.sl = ((k % n : Nat) : Int) := by rw [hn, Int.tmod_eq_emod_of_nonneg (by omega)]; omega
  have hz : ¬ c.sl = 0 := by omega
  have hm2 : IntKind.i64.wrap (2 * c.sl) = 2 * c.sl := IntWalk.i64_in _ (by omega)
  by_cases hr : k % n = 0
  · by_cases hk2 : 2 * n ≤ k
    · have hlt : ¬ (k : Int) < 2 * c.sl := by omega
      obtain ⟨P, hP⟩ : ∃ P, P = k - n := ⟨_, rfl⟩
      obtain ⟨Q, hQ⟩ : ∃ Q, Q = k - 2 * n := ⟨_, rfl⟩
      have hPQ : P = Q + n := by omega
      have hkP : k = P + n := by omega
      have hw1 : IntKind.i64.wrap ((k : Int) - c.sl) = (P : Int) := by rw [IntWalk.i64_in _ (by omega)]; omega
      have hw2 : IntKind.i64.wrap ((k : Int) - 2 * c.sl) = (Q : Int) := by rw [IntWalk.i64_in _ (by omega)]; omega
      have hs1 := cut_l rb k c1 P n hkP hkc (by omega)
      have hs2 := cut_lh rb k c1 P Q n hPQ (by omega) hkc (by omega)
      obtain ⟨eA, hrh⟩ : A = some ⟨rb, 0, none⟩ ∧ rb ≠ h := by
        rcases h2.pl with ⟨e, _⟩ | e
        · exfalso
          have := h2.nil0 e
          omega
        · exact e
      subst eA
      have hL1 : (S.drop P).length = n := by rw [List.length_drop]; omega
      have hL2 : ((S.drop Q).take n).length = n := by rw [List.length_take, List.length_drop]; omega
      have i1 := h2.drew.is.cut P n
      rw [List.take_of_length_le (by omega), Nat.zero_add] at i1
      have i2 := h2.drew.is.cut Q n
      rw [Nat.zero_add] at i2
      have HI1 := Lib.hid i1
      have HI2 := Lib.hid i2
      have HV : Hid (decide (S.drop P = (S.drop Q).take n) = doneS n S) := Lib.hid (by
        unfold doneS
        rw [← hk, hr, decide_eq_true (show (0 : Nat) = 0 from rfl), decide_eq_true hk2, ← hP, ← hQ, Bool.true_and, Bool.true_and])
      have hr0 : k % n = 0 := hr
      replace htm : (k : Int).tmod c.sl = 0 := by rw [htm, hr]; rfl
      have rh0 : RowAt w.drew h 44 #[Value.int .i64 c.wo, Value.int .i64 c.sl, Value.int .i64 c.st, Value.int .i64 c.wa, Value.int .i64 c.us, Value.slice (some ⟨rb, 0, none⟩) k c1] := h1
      have hB0 : Below w.heap.size w w.drew := (Below.refl _ w).drew
      obtain ⟨X1, eX1⟩ : ∃ X1, X1 = S.drop P := ⟨_, rfl⟩
      obtain ⟨X2, eX2⟩ : ∃ X2, X2 = (S.drop Q).take n := ⟨_, rfl⟩
      rw [← eX1] at HI1 hL1 HV
      rw [← eX2] at HI2 hL2 HV
      have hn9 : n ≤ 1000000 := by omega
      clear hP hQ h2 i1 i2 hr hr0 hk h1 eX1 eX2 hn hkP hPQ
      go_enter Try.func34, Try.ntmps34
      go_wp2_with fail
      have ch0_0 : w.drew.cell? ⟨h, 0, none⟩ = some (Value.int .i64 c.wo) := rh0.cell 0 rfl
      have ch0_1 : w.drew.cell? ⟨h, 1, none⟩ = some (Value.int .i64 c.sl) := rh0.cell 1 rfl
      have ch0_2 : w.drew.cell? ⟨h, 2, none⟩ = some (Value.int .i64 c.st) := rh0.cell 2 rfl
      have ch0_3 : w.drew.cell? ⟨h, 3, none⟩ = some (Value.int .i64 c.wa) := rh0.cell 3 rfl
      have ch0_4 : w.drew.cell? ⟨h, 4, none⟩ = some (Value.int .i64 c.us) := rh0.cell 4 rfl
      have ch0_5 : w.drew.cell? ⟨h, 5, none⟩ = some (Value.slice (some ⟨rb, 0, none⟩) k c1) := rh0.cell 5 rfl
      refine wp_region_held_drew (S := (fun w' => w'.cell? ⟨h, 0, none⟩ = some (Value.int .i64 c.wo) ∧ w'.cell? ⟨h, 1, none⟩ = some (Value.int .i64 c.sl) ∧ w'.cell? ⟨h, 2, none⟩ = some (Value.int .i64 c.st) ∧ w'.cell? ⟨h, 3, none⟩ = some (Value.int .i64 c.wa) ∧ w'.cell? ⟨h, 4, none⟩ = some (Value.int .i64 c.us) ∧ w'.cell? ⟨h, 5, none⟩ = some (Value.slice (some ⟨rb, 0, none⟩) k c1))) (by kernel_rfl) ⟨ch0_0, ch0_1, ch0_2, ch0_3, ch0_4, ch0_5⟩ (fun hS => ?_)
      generalize w.drew = u0 at *
      refine wpAnyH_take (i := 0) (oi := { dst := some 25, op := Op.move (Operand.tmp 0), type := 42, pos := "ref.go:24", after := #[], guard := none }) (v := ?v0_1) rfl (by kernel_rfl) (by kernel_rfl) (by kernel_rfl) (fun _ _ _ h => h) (Or.inl ⟨by rfl, ?hy0_1⟩) hS ?rest0_1
      case hy0_1 =>
        intro w hSw
        (try dsimp only at hSw)
        go_simp
        try with_reducible rfl
      try simp only [Act.put, List.setIfInBounds_toArray, List.set_cons_zero, List.set_cons_succ]
      refine wpAnyH_take (i := 1) (oi := { dst := some 26, op := Op.nilCheck (Operand.tmp 25), type := 0, pos := "ref.go:24", after := #[{ on := 0, ground := Ground.data }], guard := none }) (v := ?v1_2) rfl (by kernel_rfl) (by kernel_rfl) (by kernel_rfl) (fun _ _ _ h => h) (Or.inl ⟨by rfl, ?hy1_2⟩) hS ?rest1_2
      case hy1_2 =>
        intro w hSw
        (try dsimp only at hSw)
        go_simp
        try with_reducible rfl
      try simp only [Act.put, List.setIfInBounds_toArray, List.set_cons_zero, List.set_cons_succ]
      refine wpAnyH_take (i := 2) (oi := { dst := some 27, op := Op.fieldAddr 44 (Operand.tmp 26) 1, type := 0, pos := "ref.go:24", after := #[{ on := 1, ground := Ground.data }], guard := none }) (v := ?v2_3) rfl (by kernel_rfl) (by kernel_rfl) (by kernel_rfl) (fun _ _ _ h => h) (Or.inl ⟨by rfl, ?hy2_3⟩) hS ?rest2_3
      case hy2_3 =>
        intro w hSw
        (try dsimp only at hSw)
        go_simp
        try with_reducible rfl
      try simp only [Act.put, List.setIfInBounds_toArray, List.set_cons_zero, List.set_cons_succ]
      refine wpAnyH_take (i := 3) (oi := { dst := some 28, op := Op.load 32 (Operand.tmp 27), type := 32, pos := "ref.go:24", after := #[{ on := 2, ground := Ground.data }], guard := none }) (v := ?v3_4) rfl (by kernel_rfl) (by kernel_rfl) (by kernel_rfl) (fun _ _ _ h => h) (Or.inl ⟨by rfl, ?hy3_4⟩) hS ?rest3_4
      case hy3_4 =>
        intro w hSw
        (try dsimp only at hSw)
        go_simp
        try with_reducible rfl
      try simp only [Act.put, List.setIfInBounds_toArray, List.set_cons_zero, List.set_cons_succ]
      refine wpAnyH_take (i := 4) (oi := { dst := some 29, op := Op.move (Operand.tmp 4), type := 3, pos := "ref.go:24", after := #[], guard := none }) (v := ?v4_5) rfl (by kernel_rfl) (by kernel_rfl) (by kernel_rfl) (fun _ _ _ h => h) (Or.inl ⟨by rfl, ?hy4_5⟩) hS ?rest4_5
      case hy4_5 =>
        intro w hSw
        (try dsimp only at hSw)
        go_simp
        try with_reducible rfl
      try simp only [Act.put, List.setIfInBounds_toArray, List.set_cons_zero, List.set_cons_succ]
      refine wpAnyH_take (i := 5) (oi := { dst := some 30, op := Op.move (Operand.tmp 3), type := 3, pos := "ref.go:24", after := #[], guard := none }) (v := ?v5_6) rfl (by kernel_rfl) (by kernel_rfl) (by kernel_rfl) (fun _ _ _ h => h) (Or.inl ⟨by rfl, ?hy5_6⟩) hS ?rest5_6
      case hy5_6 =>
        intro w hSw
        (try dsimp only at hSw)
        go_simp
        try with_reducible rfl
      try simp only [Act.put, List.setIfInBounds_toArray, List.set_cons_zero, List.set_cons_succ]
      refine wpAnyH_take (i := 6) (oi := { dst := some 31, op := Op.binOp BinOp.sub 3 (Operand.tmp 29) (Operand.tmp 30) 3, type := 3, pos := "ref.go:24", after := #[{ on := 4, ground := Ground.data }, { on := 5, ground := Ground.data }], guard := none }) (v := ?v6_7) rfl (by kernel_rfl) (by kernel_rfl) (by kernel_rfl) (fun _ _ _ h => h) (Or.inl ⟨by rfl, ?hy6_7⟩) hS ?rest6_7
      case hy6_7 =>
        intro w hSw
        (try dsimp only at hSw)
        go_simp
        try with_reducible rfl
      try simp only [Act.put, List.setIfInBounds_toArray, List.set_cons_zero, List.set_cons_succ]
      refine wpAnyH_take (i := 7) (oi := { dst := some 32, op := Op.slice 32 (Operand.tmp 28) (some (Operand.tmp 31)) none none, type := 32, pos := "ref.go:24", after := #[{ on := 3, ground := Ground.data }, { on := 6, ground := Ground.data }], guard := none }) (v := ?v7_8) rfl (by kernel_rfl) (by kernel_rfl) (by kernel_rfl) (fun _ _ _ h => h) (Or.inl ⟨by rfl, ?hy7_8⟩) hS ?rest7_8
      case hy7_8 =>
        intro w hSw
        (try dsimp only at hSw)
        go_simp
        try with_reducible rfl
      try simp only [Act.put, List.setIfInBounds_toArray, List.set_cons_zero, List.set_cons_succ]
      refine wpAnyH_take (i := 8) (oi := { dst := some 33, op := Op.move (Operand.tmp 0), type := 42, pos := "ref.go:24", after := #[], guard := none }) (v := ?v8_9) rfl (by kernel_rfl) (by kernel_rfl) (by kernel_rfl) (fun _ _ _ h => h) (Or.inl ⟨by rfl, ?hy8_9⟩) hS ?rest8_9
      case hy8_9 =>
        intro w hSw
        (try dsimp only at hSw)
        go_simp
        try with_reducible rfl
      try simp only [Act.put, List.setIfInBounds_toArray, List.set_cons_zero, List.set_cons_succ]
      refine wpAnyH_take (i := 9) (oi := { dst := some 34, op := Op.nilCheck (Operand.tmp 33), type := 0, pos := "ref.go:24", after := #[{ on := 8, ground := Ground.data }], guard := none }) (v := ?v9_10) rfl (by kernel_rfl) (by kernel_rfl) (by kernel_rfl) (fun _ _ _ h => h) (Or.inl ⟨by rfl, ?hy9_10⟩) hS ?rest9_10
      case hy9_10 =>
        intro w hSw
        (try dsimp only at hSw)
        go_simp
        try with_reducible rfl
      try simp only [Act.put, List.setIfInBounds_toArray, List.set_cons_zero, List.set_cons_succ]
      refine wpAnyH_take (i := 10) (oi := { dst := some 35, op := Op.fieldAddr 44 (Operand.tmp 34) 1, type := 0, pos := "ref.go:24", after := #[{ on := 9, ground := Ground.data }], guard := none }) (v := ?v10_11) rfl (by kernel_rfl) (by kernel_rfl) (by kernel_rfl) (fun _ _ _ h => h) (Or.inl ⟨by rfl, ?hy10_11⟩) hS ?rest10_11
      case hy10_11 =>
        intro w hSw
        (try dsimp only at hSw)
        go_simp
        try with_reducible rfl
      try simp only [Act.put, List.setIfInBounds_toArray, List.set_cons_zero, List.set_cons_succ]
      refine wpAnyH_take (i := 11) (oi := { dst := some 36, op := Op.load 32 (Operand.tmp 35), type := 32, pos := "ref.go:24", after := #[{ on := 10, ground := Ground.data }], guard := none }) (v := ?v11_12) rfl (by kernel_rfl) (by kernel_rfl) (by kernel_rfl) (fun _ _ _ h => h) (Or.inl ⟨by rfl, ?hy11_12⟩) hS ?rest11_12
      case hy11_12 =>
        intro w hSw
        (try dsimp only at hSw)
        go_simp
        try with_reducible rfl
      try simp only [Act.put, List.setIfInBounds_toArray, List.set_cons_zero, List.set_cons_succ]
      refine wpAnyH_take (i := 12) (oi := { dst := some 37, op := Op.move (Operand.tmp 4), type := 3, pos := "ref.go:24", after := #[], guard := none }) (v := ?v12_13) rfl (by kernel_rfl) (by kernel_rfl) (by kernel_rfl) (fun _ _ _ h => h) (Or.inl ⟨by rfl, ?hy12_13⟩) hS ?rest12_13
      case hy12_13 =>
        intro w hSw
        (try dsimp only at hSw)
        go_simp
        try with_reducible rfl
      try simp only [Act.put, List.setIfInBounds_toArray, List.set_cons_zero, List.set_cons_succ]
      refine wpAnyH_take (i := 13) (oi := { dst := some 38, op := Op.move (Operand.tmp 3), type := 3, pos := "ref.go:24", after := #[], guard := none }) (v := ?v13_14) rfl (by kernel_rfl) (by kernel_rfl) (by kernel_rfl) (fun _ _ _ h => h) (Or.inl ⟨by rfl, ?hy13_14⟩) hS ?rest13_14
      case hy13_14 =>
        intro w hSw
        (try dsimp only at hSw)
        go_simp
        try with_reducible rfl
      try simp only [Act.put, List.setIfInBounds_toArray, List.set_cons_zero, List.set_cons_succ]
      refine wpAnyH_take (i := 14) (oi := { dst := some 39, op := Op.binOp BinOp.mul 3 (Operand.const (Value.int IntKind.i64 2)) (Operand.tmp 38) 3, type := 3, pos := "ref.go:24", after := #[{ on := 13, ground := Ground.data }], guard := none }) (v := ?v14_15) rfl (by kernel_rfl) (by kernel_rfl) (by kernel_rfl) (fun _ _ _ h => h) (Or.inl ⟨by rfl, ?hy14_15⟩) hS ?rest14_15
      case hy14_15 =>
        intro w hSw
        (try dsimp only at hSw)
        go_simp
        try with_reducible rfl
      try simp only [Act.put, List.setIfInBounds_toArray, List.set_cons_zero, List.set_cons_succ]
      refine wpAnyH_take (i := 15) (oi := { dst := some 40, op := Op.binOp BinOp.sub 3 (Operand.tmp 37) (Operand.tmp 39) 3, type := 3, pos := "ref.go:24", after := #[{ on := 12, ground := Ground.data }, { on := 14, ground := Ground.data }], guard := none }) (v := ?v15_16) rfl (by kernel_rfl) (by kernel_rfl) (by kernel_rfl) (fun _ _ _ h => h) (Or.inl ⟨by rfl, ?hy15_16⟩) hS ?rest15_16
      case hy15_16 =>
        intro w hSw
        (try dsimp only at hSw)
        go_simp
        try with_reducible rfl
      try simp only [Act.put, List.setIfInBounds_toArray, List.set_cons_zero, List.set_cons_succ]
      refine wpAnyH_take (i := 16) (oi := { dst := some 41, op := Op.move (Operand.tmp 4), type := 3, pos := "ref.go:24", after := #[], guard := none }) (v := ?v16_17) rfl (by kernel_rfl) (by kernel_rfl) (by kernel_rfl) (fun _ _ _ h => h) (Or.inl ⟨by rfl, ?hy16_17⟩) hS ?rest16_17
      case hy16_17 =>
        intro w hSw
        (try dsimp only at hSw)
        go_simp
        try with_reducible rfl
      try simp only [Act.put, List.setIfInBounds_toArray, List.set_cons_zero, List.set_cons_succ]
      refine wpAnyH_take (i := 17) (oi := { dst := some 42, op := Op.move (Operand.tmp 3), type := 3, pos := "ref.go:24", after := #[], guard := none }) (v := ?v17_18) rfl (by kernel_rfl) (by kernel_rfl) (by kernel_rfl) (fun _ _ _ h => h) (Or.inl ⟨by rfl, ?hy17_18⟩) hS ?rest17_18
      case hy17_18 =>
        intro w hSw
        (try dsimp only at hSw)
        go_simp
        try with_reducible rfl
      try simp only [Act.put, List.setIfInBounds_toArray, List.set_cons_zero, List.set_cons_succ]
      refine wpAnyH_take (i := 18) (oi := { dst := some 43, op := Op.binOp BinOp.sub 3 (Operand.tmp 41) (Operand.tmp 42) 3, type := 3, pos := "ref.go:24", after := #[{ on := 16, ground := Ground.data }, { on := 17, ground := Ground.data }], guard := none }) (v := ?v18_19) rfl (by kernel_rfl) (by kernel_rfl) (by kernel_rfl) (fun _ _ _ h => h) (Or.inl ⟨by rfl, ?hy18_19⟩) hS ?rest18_19
      case hy18_19 =>
        intro w hSw
        (try dsimp only at hSw)
        go_simp
        try with_reducible rfl
      try simp only [Act.put, List.setIfInBounds_toArray, List.set_cons_zero, List.set_cons_succ]
      refine wpAnyH_take (i := 19) (oi := { dst := some 44, op := Op.slice 32 (Operand.tmp 36) (some (Operand.tmp 40)) (some (Operand.tmp 43)) none, type := 32, pos := "ref.go:24", after := #[{ on := 11, ground := Ground.data }, { on := 15, ground := Ground.data }, { on := 18, ground := Ground.data }], guard := none }) (v := ?v19_20) rfl (by kernel_rfl) (by kernel_rfl) (by kernel_rfl) (fun _ _ _ h => h) (Or.inl ⟨by rfl, ?hy19_20⟩) hS ?rest19_20
      case hy19_20 =>
        intro w hSw
        (try dsimp only at hSw)
        go_simp
        try with_reducible rfl
      try simp only [Act.put, List.setIfInBounds_toArray, List.set_cons_zero, List.set_cons_succ]
      refine wpAnyH_ready (rs := [20]) (by kernel_rfl) (by simp) ?_
      refine AllReadyH.cons (o := { dst := some 45, op := Op.call { callee := Callee.value (Operand.func 19), args := #[Operand.tmp 32, Operand.tmp 44], argTypes := #[32, 32] }, type := 4, pos := "ref.go:24", after := #[{ on := 7, ground := Ground.data }, { on := 19, ground := Ground.data }], guard := none }) rfl (fun K hK => ?_) AllReadyH.nil
      go_simp
      refine (ints_len _ _ _ _ n n _ _ _ hL1 hL2 HI1.out HI2.out hn9).mono ?_
      rintro e u1 ⟨rfl, hb⟩
      have rh1 := rh0.below hb rh0.lt
      have hB1 := hB0.trans (hb.mono hB0.size)
      have ch1_0 : u1.cell? ⟨h, 0, none⟩ = some (Value.int .i64 c.wo) := rh1.cell 0 rfl
      have ch1_1 : u1.cell? ⟨h, 1, none⟩ = some (Value.int .i64 c.sl) := rh1.cell 1 rfl
      have ch1_2 : u1.cell? ⟨h, 2, none⟩ = some (Value.int .i64 c.st) := rh1.cell 2 rfl
      have ch1_3 : u1.cell? ⟨h, 3, none⟩ = some (Value.int .i64 c.wa) := rh1.cell 3 rfl
      have ch1_4 : u1.cell? ⟨h, 4, none⟩ = some (Value.int .i64 c.us) := rh1.cell 4 rfl
      have ch1_5 : u1.cell? ⟨h, 5, none⟩ = some (Value.slice (some ⟨rb, 0, none⟩) k c1) := rh1.cell 5 rfl
      refine hK.out _ _ ⟨ch1_0, ch1_1, ch1_2, ch1_3, ch1_4, ch1_5⟩ (fun hS => ?_)
      clear hK K
      try simp only [Act.put, List.setIfInBounds_toArray, List.set_cons_zero, List.set_cons_succ]
      refine wpAnyH_take (i := 21) (oi := { dst := some 2, op := Op.assign (Operand.tmp 45), type := 4, pos := "ref.go:24", after := #[{ on := 20, ground := Ground.data }, { on := 20, ground := Ground.chain }, { on := 0, ground := Ground.phase }, { on := 1, ground := Ground.phase }, { on := 2, ground := Ground.phase }, { on := 3, ground := Ground.phase }, { on := 4, ground := Ground.phase }, { on := 5, ground := Ground.phase }, { on := 6, ground := Ground.phase }, { on := 7, ground := Ground.phase }, { on := 8, ground := Ground.phase }, { on := 9, ground := Ground.phase }, { on := 10, ground := Ground.phase }, { on := 11, ground := Ground.phase }, { on := 12, ground := Ground.phase }, { on := 13, ground := Ground.phase }, { on := 14, ground := Ground.phase }, { on := 15, ground := Ground.phase }, { on := 16, ground := Ground.phase }, { on := 17, ground := Ground.phase }, { on := 18, ground := Ground.phase }, { on := 19, ground := Ground.phase }, { on := 20, ground := Ground.phase }], guard := none }) (v := ?v21_21) rfl (by kernel_rfl) (by kernel_rfl) (by kernel_rfl) (fun _ _ _ h => h) (Or.inl ⟨by rfl, ?hy21_21⟩) hS ?rest21_21
      case hy21_21 =>
        intro w hSw
        (try dsimp only at hSw)
        go_simp
        try with_reducible rfl
      try simp only [Act.put, List.setIfInBounds_toArray, List.set_cons_zero, List.set_cons_succ]
      refine wpAnyH_done (by kernel_rfl) ?_ _
      go_wp2
      go_ret
      exact ⟨ret_bool HV.out, hB1⟩
    · have hlt : (k : Int) < 2 * c.sl := by omega
      have HV : Hid (false = doneS n S) := Lib.hid (by unfold doneS; rw [← hk, decide_eq_false hk2]; simp)
      replace htm : (k : Int).tmod c.sl = 0 := by rw [htm, hr]; rfl
      clear h1 h2 hr hk2 hk hn
      go_enter Try.func34, Try.ntmps34
      go_wp2
      go_ret
      exact ⟨ret_bool HV.out, Below.refl _ _⟩
  · have HV : Hid (false = doneS n S) := Lib.hid (by unfold doneS; rw [← hk, decide_eq_false hr]; rfl)
    obtain ⟨r, er⟩ : ∃ r, r = k % n := ⟨_, rfl⟩
    rw [← er] at hr htm
    have hr2 : ((r : Int) != 0) = true := by simp; omega
    clear h1 h2 hr er hk hn
    go_enter Try.func34, Try.ntmps34
    go_wp2
    go_ret
    exact ⟨ret_bool HV.out, Below.refl _ _⟩
set_option maxRecDepth 100000 in
set_option maxHeartbeats 2000000 in
theorem rrounds_any (h rb : Nat) (c : Cf) (n : Nat) (S : List Int) (w : World) (hR : RfAt w h rb c S) (hc : Rc c) (hn : c.sl = n) (hk9 : S.length ≤ 1000000) :
    Calls Try.prog 18 #[.pointer (some ⟨h, 0, none⟩)] w fun e w' => e = .returned (.int .i64 ((S.length / n : Nat) : Int)) ∧ ∃ j, w' = w.drewN j := by
  obtain ⟨A, c1, h1, h2⟩ := hR
  obtain ⟨k, hk⟩ : ∃ k, k = S.length := ⟨_, rfl⟩
  have hkc := h2.nc
  rw [← hk] at h1 h2 hk9 hkc
  have q2 := hc.sl
  have k1 := h1.cell 1 rfl
  have k5 := h1.cell 5 rfl
  have hz : ¬ c.sl = 0 := by omega
  have htd : (k : Int).tdiv c.sl = ((k / n : Nat) : Int) := by rw [hn]; exact Int.ofNat_tdiv k n
  rw [← hk]
  have hdk : k / n ≤ k := Nat.div_le_self _ _
  obtain ⟨r, er⟩ : ∃ r, r = k / n := ⟨_, rfl⟩
  rw [← er] at htd hdk ⊢
  clear h1 h2 er hk hn
  go_enter Try.func18, Try.ntmps18
  go_wp2_with fail
  go_quiet (fail)
  go_wp2
  go_ret
  exact ⟨rfl, _, rfl⟩
end Go.Proofs.Ytalmadeibnekoaa
