/- The document's own small functions on slots; nothing that was there changes. -/
import Derived.Test.YtdiipmejkanhfaaDoorNMath
import Derived.Test.YtdiipmejkanhfaaDoorRIff
namespace Go.Proofs.YtdiipmejkanhfaaDoor
open Go.RowKit
attribute [local go_sem ↓] Go.wp_at_zero Go.wp_at_succ

/-- a slot at a state, of an owner, that has but its Gen and Version of another one -/
def Sl.plain (s : Sl) (z o : Int) : Sl := ⟨z, o, 0, false, false, 0, s.ge, 0, s.ve⟩
def rge (n : Int) : Int := if n + 1 = 4096 then 0 else n + 1
def Sl.lref (s : Sl) (o : Int) : Sl := ⟨3, o, 0, s.br, false, nus s.us, rge s.ge, 0, s.ve⟩
theorem rge_eq {n : Int} (h : n + 1 = 4096) : 0 = rge n := by simp [rge, h]
theorem rge_ne {n : Int} (h : ¬ n + 1 = 4096) : n + 1 = rge n := by simp [rge, h]
set_option maxHeartbeats 800000 in
theorem plain_any (s : Sl) (z o : Int) (w : World) :
    Calls Tryd.prog 39 #[Value.agg #[Value.int .i64 s.st, Value.int .i64 s.ow, Value.int .i64 s.sr, Value.bool s.br, Value.bool s.ma, Value.int .i64 s.us, Value.int .i64 s.ge, Value.int .i64 s.ep, Value.int .i64 s.ve], .int .i64 z, .int .i64 o] w fun e w' => e = .returned (.agg #[Value.int .i64 (s.plain z o).st, Value.int .i64 (s.plain z o).ow, Value.int .i64 (s.plain z o).sr, Value.bool (s.plain z o).br, Value.bool (s.plain z o).ma, Value.int .i64 (s.plain z o).us, Value.int .i64 (s.plain z o).ge, Value.int .i64 (s.plain z o).ep, Value.int .i64 (s.plain z o).ve]) ∧ Below w.heap.size w w' := by
  go_enter Tryd.func39, Tryd.ntmps39
  go_wp2
  refine bodyPost_ret (ret_slot (p := 6) rfl _ _ _ _ rfl (new2 _ _ _ _) rfl) rfl ⟨rfl, ((Below.refl _ _).alloc (Nat.le_refl _) _).alloc (by simp) _⟩
theorem lowE : ∀ n : Fin 256, ∀ k : Fin 9, (k.val : Int) ≤ lowI (n.val : Int) → ((n.val : Int) / 2 ^ k.val % 2 == 1) = decide ((k.val : Int) < lowI (n.val : Int)) := by decide +kernel
theorem half {n : Int} {k : Nat} : n / 2 ^ k / 2 = n / 2 ^ (k + 1) := by
  rw [Int.pow_succ, Int.ediv_ediv_of_nonneg (Int.le_of_lt (Int.pow_pos (by omega)))]
theorem low_any (n : Int) (w : World) (h : 0 ≤ n ∧ n ≤ 255) :
    Calls Tryd.prog 41 #[.int .i64 n] w fun e w' => e = .returned (.int .i64 (lowI n)) ∧ w = w' := by
  obtain ⟨m, em⟩ := fin_of (N := 256) (sr := n) (by omega)
  have b := (lowF m).1
  have E := lowE m
  rw [← em] at b E
  obtain ⟨L, eL⟩ : ∃ L : Nat, lowI n = L := ⟨(lowI n).toNat, by omega⟩
  rw [eL] at b E ⊢
  have HE := Lib.hid E
  clear em eL E m
  go_enter Tryd.func41, Tryd.ntmps41
  go_wp2
  go_loop [0, 3] (fun x i => ∃ (k : Nat) (y : Int), k ≤ L ∧ 0 ≤ y ∧ y ≤ 255 ∧ Hid (y = n / 2 ^ k) ∧ x = .int .i64 y ∧ i = .int .i64 k) (fun _ i => L - (intOf i).toNat)
  case atStart => exact ⟨0, n, by omega, h.1, h.2, Lib.hid (by simp), rfl, rfl⟩
  case round =>
    obtain ⟨k, y, hk, hy, hy2, hY, rfl, rfl⟩ := hrel
    have hq := HE.out ⟨k, by omega⟩ (by simp; omega)
    simp only at hq
    rw [← hY.out] at hq
    by_cases hlt : k < L
    · have hq2 : (y % 2 == 1) = true := by rw [hq]; simp; omega
      clear hq
      have Y2 := Lib.hid (show y / 2 = n / 2 ^ (k + 1) by rw [hY.out, half])
      have y0 : 0 ≤ y / 2 := by omega
      have y1 : y / 2 ≤ 255 := by omega
      go_wp2
      go_round
      case rel => exact ⟨k + 1, y / 2, by omega, y0, y1, Y2, rfl, by go_num⟩
      case measure => simp [intOf]; omega
    · have hq2 : (y % 2 == 1) = false := by rw [hq]; simp; omega
      clear hq
      have hk3 : k = L := by omega
      clear hlt hk
      subst hk3
      go_wp2
      go_ret
      exact ⟨rfl, rfl⟩
theorem two_dbl (k : Nat) : (2 : Int) ^ k * 2 = 2 ^ (k + 1) := by rw [Int.pow_succ]
theorem power_any (n : Nat) (w : World) (h : n ≤ 8) :
    Calls Tryd.prog 42 #[.int .i64 (n : Int)] w fun e w' => e = .returned (.int .i64 (2 ^ n)) ∧ w = w' := by
  go_enter Tryd.func42, Tryd.ntmps42
  go_wp2
  go_loop [3, 4] (fun p i => ∃ (k : Nat) (y : Int), k ≤ n ∧ 0 ≤ y ∧ y ≤ 256 ∧ Hid (y = 2 ^ k) ∧ p = .int .i64 y ∧ i = .int .i64 k) (fun _ i => n - (intOf i).toNat)
  case atStart => exact ⟨0, 1, by omega, by omega, by omega, Lib.hid (by simp), rfl, rfl⟩
  case round =>
    obtain ⟨k, y, hk, hy, hy2, hY, rfl, rfl⟩ := hrel
    by_cases hlt : k < n
    · have p1 : (2 : Int) ^ (k + 1) ≤ 256 := by
        have : (2 : Nat) ^ (k + 1) ≤ 2 ^ 8 := Nat.pow_le_pow_right (by omega) (by omega)
        have e : (2 : Int) ^ (k + 1) = ((2 ^ (k + 1) : Nat) : Int) := by simp
        rw [e]; omega
      have Y2 := Lib.hid (show y * 2 = 2 ^ (k + 1) by rw [hY.out, two_dbl])
      have y1 : y * 2 ≤ 256 := by rw [Y2.out]; exact p1
      clear p1
      go_wp2
      go_round
      case rel => exact ⟨k + 1, y * 2, by omega, by omega, y1, Y2, rfl, by go_num⟩
      case measure => simp [intOf]; omega
    · have hk3 : k = n := by omega
      clear hlt hk
      subst hk3
      go_wp2
      go_ret
      exact ⟨ret_int hY.out, rfl⟩
set_option maxRecDepth 100000 in
set_option maxHeartbeats 2000000 in
theorem lref_any (s : Sl) (o : Int) (w : World) (h0 : 0 ≤ s.us) (h1 : s.us ≤ 63) (h2 : 0 ≤ s.ge) (h3 : s.ge ≤ 4095) :
    Calls Tryd.prog 40 #[Value.agg #[Value.int .i64 s.st, Value.int .i64 s.ow, Value.int .i64 s.sr, Value.bool s.br, Value.bool s.ma, Value.int .i64 s.us, Value.int .i64 s.ge, Value.int .i64 s.ep, Value.int .i64 s.ve], .int .i64 o] w fun e w' => e = .returned (.agg #[Value.int .i64 (s.lref o).st, Value.int .i64 (s.lref o).ow, Value.int .i64 (s.lref o).sr, Value.bool (s.lref o).br, Value.bool (s.lref o).ma, Value.int .i64 (s.lref o).us, Value.int .i64 (s.lref o).ge, Value.int .i64 (s.lref o).ep, Value.int .i64 (s.lref o).ve]) ∧ Below w.heap.size w w' := by
  by_cases hu : s.us + 1 ≤ 63
  · have Hn := Lib.hid (nus_le hu)
    by_cases hg : s.ge + 1 = 4096
    · have Hg := Lib.hid (rge_eq hg)
      have hgq : (s.ge + 1 == 4096) = true := by simp; omega
      clear hg
      have r0 := (RowAt.new w 23 #[Value.int .i64 s.st, Value.int .i64 s.ow, Value.int .i64 s.sr, Value.bool s.br, Value.bool s.ma, Value.int .i64 s.us, Value.int .i64 s.ge, Value.int .i64 s.ep, Value.int .i64 s.ve]).alloc (.cells #[Value.int .i64 0, Value.int .i64 0, Value.int .i64 0, Value.bool false, Value.bool false, Value.int .i64 0, Value.int .i64 0, Value.int .i64 0, Value.int .i64 0] 23)
      have r1 := new2 w (.cells #[Value.int .i64 s.st, Value.int .i64 s.ow, Value.int .i64 s.sr, Value.bool s.br, Value.bool s.ma, Value.int .i64 s.us, Value.int .i64 s.ge, Value.int .i64 s.ep, Value.int .i64 s.ve] 23) 23 #[Value.int .i64 0, Value.int .i64 0, Value.int .i64 0, Value.bool false, Value.bool false, Value.int .i64 0, Value.int .i64 0, Value.int .i64 0, Value.int .i64 0]
      have hB0 : Below w.heap.size w ((w.alloc (.cells #[Value.int .i64 s.st, Value.int .i64 s.ow, Value.int .i64 s.sr, Value.bool s.br, Value.bool s.ma, Value.int .i64 s.us, Value.int .i64 s.ge, Value.int .i64 s.ep, Value.int .i64 s.ve] 23)).alloc (.cells #[Value.int .i64 0, Value.int .i64 0, Value.int .i64 0, Value.bool false, Value.bool false, Value.int .i64 0, Value.int .i64 0, Value.int .i64 0, Value.int .i64 0] 23)) := ((Below.refl _ _).alloc (Nat.le_refl _) _).alloc (by simp) _
      go_enter Tryd.func40, Tryd.ntmps40
      go_wp2_with fail
      refine (plain_any s 3 o _).mono ?_
      rintro e w1 ⟨rfl, hb⟩
      replace r0 := r0.below hb r0.lt
      replace r1 := r1.below hb r1.lt
      replace hB0 := hB0.trans (hb.mono hB0.size)
      clear hb
      obtain ⟨B1, e1⟩ : ∃ B1, B1 = w.heap.size := ⟨_, rfl⟩
      have hle : w.heap.size ≤ B1 := by omega
      rw [← e1] at r0 r1 ⊢
      clear e1
      have l0 := r0.lt
      have l1 := r1.lt
      have c0 : w1.cell? ⟨B1, 0, none⟩ = some (Value.int .i64 s.st) := r0.cell 0 rfl
      have c1 : w1.cell? ⟨B1, 1, none⟩ = some (Value.int .i64 s.ow) := r0.cell 1 rfl
      have c2 : w1.cell? ⟨B1, 2, none⟩ = some (Value.int .i64 s.sr) := r0.cell 2 rfl
      have c3 : w1.cell? ⟨B1, 3, none⟩ = some (Value.bool s.br) := r0.cell 3 rfl
      have c4 : w1.cell? ⟨B1, 4, none⟩ = some (Value.bool s.ma) := r0.cell 4 rfl
      have c5 : w1.cell? ⟨B1, 5, none⟩ = some (Value.int .i64 s.us) := r0.cell 5 rfl
      have c6 : w1.cell? ⟨B1, 6, none⟩ = some (Value.int .i64 s.ge) := r0.cell 6 rfl
      have c7 : w1.cell? ⟨B1, 7, none⟩ = some (Value.int .i64 s.ep) := r0.cell 7 rfl
      have c8 : w1.cell? ⟨B1, 8, none⟩ = some (Value.int .i64 s.ve) := r0.cell 8 rfl
      go_wp2_with (refine wpList_store_row rfl 23 _ _ rfl _ #[Value.int .i64 (s.plain 3 o).st, Value.int .i64 (s.plain 3 o).ow, Value.int .i64 (s.plain 3 o).sr, Value.bool s.br, Value.bool (s.plain 3 o).ma, Value.int .i64 (s.us + 1), Value.int .i64 0, Value.int .i64 (s.plain 3 o).ep, Value.int .i64 (s.plain 3 o).ve] rfl rfl 23 _ (r1.alloc _) (by kernel_rfl) rfl (by simp [Value.oneCell']) ?_)
      refine bodyPost_ret (ret_slot (p := 4) rfl _ _ _ _ rfl ((r1.alloc _).set _) rfl) rfl ⟨?_, below_setRow (hB0.alloc hB0.size _) (by omega) _⟩
      show Ending.returned (.agg #[Value.int .i64 (s.plain 3 o).st, Value.int .i64 (s.plain 3 o).ow, Value.int .i64 (s.plain 3 o).sr, Value.bool s.br, Value.bool (s.plain 3 o).ma, Value.int .i64 (s.us + 1), Value.int .i64 0, Value.int .i64 (s.plain 3 o).ep, Value.int .i64 (s.plain 3 o).ve]) = _
      rw [Hn.out, Hg.out]
      rfl
    · have Hg := Lib.hid (rge_ne hg)
      have hgq : (s.ge + 1 == 4096) = false := by simp; omega
      clear hg
      have r0 := (RowAt.new w 23 #[Value.int .i64 s.st, Value.int .i64 s.ow, Value.int .i64 s.sr, Value.bool s.br, Value.bool s.ma, Value.int .i64 s.us, Value.int .i64 s.ge, Value.int .i64 s.ep, Value.int .i64 s.ve]).alloc (.cells #[Value.int .i64 0, Value.int .i64 0, Value.int .i64 0, Value.bool false, Value.bool false, Value.int .i64 0, Value.int .i64 0, Value.int .i64 0, Value.int .i64 0] 23)
      have r1 := new2 w (.cells #[Value.int .i64 s.st, Value.int .i64 s.ow, Value.int .i64 s.sr, Value.bool s.br, Value.bool s.ma, Value.int .i64 s.us, Value.int .i64 s.ge, Value.int .i64 s.ep, Value.int .i64 s.ve] 23) 23 #[Value.int .i64 0, Value.int .i64 0, Value.int .i64 0, Value.bool false, Value.bool false, Value.int .i64 0, Value.int .i64 0, Value.int .i64 0, Value.int .i64 0]
      have hB0 : Below w.heap.size w ((w.alloc (.cells #[Value.int .i64 s.st, Value.int .i64 s.ow, Value.int .i64 s.sr, Value.bool s.br, Value.bool s.ma, Value.int .i64 s.us, Value.int .i64 s.ge, Value.int .i64 s.ep, Value.int .i64 s.ve] 23)).alloc (.cells #[Value.int .i64 0, Value.int .i64 0, Value.int .i64 0, Value.bool false, Value.bool false, Value.int .i64 0, Value.int .i64 0, Value.int .i64 0, Value.int .i64 0] 23)) := ((Below.refl _ _).alloc (Nat.le_refl _) _).alloc (by simp) _
      go_enter Tryd.func40, Tryd.ntmps40
      go_wp2_with fail
      refine (plain_any s 3 o _).mono ?_
      rintro e w1 ⟨rfl, hb⟩
      replace r0 := r0.below hb r0.lt
      replace r1 := r1.below hb r1.lt
      replace hB0 := hB0.trans (hb.mono hB0.size)
      clear hb
      obtain ⟨B1, e1⟩ : ∃ B1, B1 = w.heap.size := ⟨_, rfl⟩
      have hle : w.heap.size ≤ B1 := by omega
      rw [← e1] at r0 r1 ⊢
      clear e1
      have l0 := r0.lt
      have l1 := r1.lt
      have c0 : w1.cell? ⟨B1, 0, none⟩ = some (Value.int .i64 s.st) := r0.cell 0 rfl
      have c1 : w1.cell? ⟨B1, 1, none⟩ = some (Value.int .i64 s.ow) := r0.cell 1 rfl
      have c2 : w1.cell? ⟨B1, 2, none⟩ = some (Value.int .i64 s.sr) := r0.cell 2 rfl
      have c3 : w1.cell? ⟨B1, 3, none⟩ = some (Value.bool s.br) := r0.cell 3 rfl
      have c4 : w1.cell? ⟨B1, 4, none⟩ = some (Value.bool s.ma) := r0.cell 4 rfl
      have c5 : w1.cell? ⟨B1, 5, none⟩ = some (Value.int .i64 s.us) := r0.cell 5 rfl
      have c6 : w1.cell? ⟨B1, 6, none⟩ = some (Value.int .i64 s.ge) := r0.cell 6 rfl
      have c7 : w1.cell? ⟨B1, 7, none⟩ = some (Value.int .i64 s.ep) := r0.cell 7 rfl
      have c8 : w1.cell? ⟨B1, 8, none⟩ = some (Value.int .i64 s.ve) := r0.cell 8 rfl
      go_wp2_with (refine wpList_store_row rfl 23 _ _ rfl _ #[Value.int .i64 (s.plain 3 o).st, Value.int .i64 (s.plain 3 o).ow, Value.int .i64 (s.plain 3 o).sr, Value.bool s.br, Value.bool (s.plain 3 o).ma, Value.int .i64 (s.us + 1), Value.int .i64 (s.ge + 1), Value.int .i64 (s.plain 3 o).ep, Value.int .i64 (s.plain 3 o).ve] rfl rfl 23 _ (r1.alloc _) (by kernel_rfl) rfl (by simp [Value.oneCell']) ?_)
      refine bodyPost_ret (ret_slot (p := 4) rfl _ _ _ _ rfl ((r1.alloc _).set _) rfl) rfl ⟨?_, below_setRow (hB0.alloc hB0.size _) (by omega) _⟩
      show Ending.returned (.agg #[Value.int .i64 (s.plain 3 o).st, Value.int .i64 (s.plain 3 o).ow, Value.int .i64 (s.plain 3 o).sr, Value.bool s.br, Value.bool (s.plain 3 o).ma, Value.int .i64 (s.us + 1), Value.int .i64 (s.ge + 1), Value.int .i64 (s.plain 3 o).ep, Value.int .i64 (s.plain 3 o).ve]) = _
      rw [Hn.out, Hg.out]
      rfl
  · have Hn := Lib.hid (nus_gt hu)
    by_cases hg : s.ge + 1 = 4096
    · have Hg := Lib.hid (rge_eq hg)
      have hgq : (s.ge + 1 == 4096) = true := by simp; omega
      clear hg
      have r0 := (RowAt.new w 23 #[Value.int .i64 s.st, Value.int .i64 s.ow, Value.int .i64 s.sr, Value.bool s.br, Value.bool s.ma, Value.int .i64 s.us, Value.int .i64 s.ge, Value.int .i64 s.ep, Value.int .i64 s.ve]).alloc (.cells #[Value.int .i64 0, Value.int .i64 0, Value.int .i64 0, Value.bool false, Value.bool false, Value.int .i64 0, Value.int .i64 0, Value.int .i64 0, Value.int .i64 0] 23)
      have r1 := new2 w (.cells #[Value.int .i64 s.st, Value.int .i64 s.ow, Value.int .i64 s.sr, Value.bool s.br, Value.bool s.ma, Value.int .i64 s.us, Value.int .i64 s.ge, Value.int .i64 s.ep, Value.int .i64 s.ve] 23) 23 #[Value.int .i64 0, Value.int .i64 0, Value.int .i64 0, Value.bool false, Value.bool false, Value.int .i64 0, Value.int .i64 0, Value.int .i64 0, Value.int .i64 0]
      have hB0 : Below w.heap.size w ((w.alloc (.cells #[Value.int .i64 s.st, Value.int .i64 s.ow, Value.int .i64 s.sr, Value.bool s.br, Value.bool s.ma, Value.int .i64 s.us, Value.int .i64 s.ge, Value.int .i64 s.ep, Value.int .i64 s.ve] 23)).alloc (.cells #[Value.int .i64 0, Value.int .i64 0, Value.int .i64 0, Value.bool false, Value.bool false, Value.int .i64 0, Value.int .i64 0, Value.int .i64 0, Value.int .i64 0] 23)) := ((Below.refl _ _).alloc (Nat.le_refl _) _).alloc (by simp) _
      go_enter Tryd.func40, Tryd.ntmps40
      go_wp2_with fail
      refine (plain_any s 3 o _).mono ?_
      rintro e w1 ⟨rfl, hb⟩
      replace r0 := r0.below hb r0.lt
      replace r1 := r1.below hb r1.lt
      replace hB0 := hB0.trans (hb.mono hB0.size)
      clear hb
      obtain ⟨B1, e1⟩ : ∃ B1, B1 = w.heap.size := ⟨_, rfl⟩
      have hle : w.heap.size ≤ B1 := by omega
      rw [← e1] at r0 r1 ⊢
      clear e1
      have l0 := r0.lt
      have l1 := r1.lt
      have c0 : w1.cell? ⟨B1, 0, none⟩ = some (Value.int .i64 s.st) := r0.cell 0 rfl
      have c1 : w1.cell? ⟨B1, 1, none⟩ = some (Value.int .i64 s.ow) := r0.cell 1 rfl
      have c2 : w1.cell? ⟨B1, 2, none⟩ = some (Value.int .i64 s.sr) := r0.cell 2 rfl
      have c3 : w1.cell? ⟨B1, 3, none⟩ = some (Value.bool s.br) := r0.cell 3 rfl
      have c4 : w1.cell? ⟨B1, 4, none⟩ = some (Value.bool s.ma) := r0.cell 4 rfl
      have c5 : w1.cell? ⟨B1, 5, none⟩ = some (Value.int .i64 s.us) := r0.cell 5 rfl
      have c6 : w1.cell? ⟨B1, 6, none⟩ = some (Value.int .i64 s.ge) := r0.cell 6 rfl
      have c7 : w1.cell? ⟨B1, 7, none⟩ = some (Value.int .i64 s.ep) := r0.cell 7 rfl
      have c8 : w1.cell? ⟨B1, 8, none⟩ = some (Value.int .i64 s.ve) := r0.cell 8 rfl
      go_wp2_with (refine wpList_store_row rfl 23 _ _ rfl _ #[Value.int .i64 (s.plain 3 o).st, Value.int .i64 (s.plain 3 o).ow, Value.int .i64 (s.plain 3 o).sr, Value.bool s.br, Value.bool (s.plain 3 o).ma, Value.int .i64 63, Value.int .i64 0, Value.int .i64 (s.plain 3 o).ep, Value.int .i64 (s.plain 3 o).ve] rfl rfl 23 _ (r1.alloc _) (by kernel_rfl) rfl (by simp [Value.oneCell']) ?_)
      refine bodyPost_ret (ret_slot (p := 4) rfl _ _ _ _ rfl ((r1.alloc _).set _) rfl) rfl ⟨?_, below_setRow (hB0.alloc hB0.size _) (by omega) _⟩
      show Ending.returned (.agg #[Value.int .i64 (s.plain 3 o).st, Value.int .i64 (s.plain 3 o).ow, Value.int .i64 (s.plain 3 o).sr, Value.bool s.br, Value.bool (s.plain 3 o).ma, Value.int .i64 63, Value.int .i64 0, Value.int .i64 (s.plain 3 o).ep, Value.int .i64 (s.plain 3 o).ve]) = _
      rw [Hn.out, Hg.out]
      rfl
    · have Hg := Lib.hid (rge_ne hg)
      have hgq : (s.ge + 1 == 4096) = false := by simp; omega
      clear hg
      have r0 := (RowAt.new w 23 #[Value.int .i64 s.st, Value.int .i64 s.ow, Value.int .i64 s.sr, Value.bool s.br, Value.bool s.ma, Value.int .i64 s.us, Value.int .i64 s.ge, Value.int .i64 s.ep, Value.int .i64 s.ve]).alloc (.cells #[Value.int .i64 0, Value.int .i64 0, Value.int .i64 0, Value.bool false, Value.bool false, Value.int .i64 0, Value.int .i64 0, Value.int .i64 0, Value.int .i64 0] 23)
      have r1 := new2 w (.cells #[Value.int .i64 s.st, Value.int .i64 s.ow, Value.int .i64 s.sr, Value.bool s.br, Value.bool s.ma, Value.int .i64 s.us, Value.int .i64 s.ge, Value.int .i64 s.ep, Value.int .i64 s.ve] 23) 23 #[Value.int .i64 0, Value.int .i64 0, Value.int .i64 0, Value.bool false, Value.bool false, Value.int .i64 0, Value.int .i64 0, Value.int .i64 0, Value.int .i64 0]
      have hB0 : Below w.heap.size w ((w.alloc (.cells #[Value.int .i64 s.st, Value.int .i64 s.ow, Value.int .i64 s.sr, Value.bool s.br, Value.bool s.ma, Value.int .i64 s.us, Value.int .i64 s.ge, Value.int .i64 s.ep, Value.int .i64 s.ve] 23)).alloc (.cells #[Value.int .i64 0, Value.int .i64 0, Value.int .i64 0, Value.bool false, Value.bool false, Value.int .i64 0, Value.int .i64 0, Value.int .i64 0, Value.int .i64 0] 23)) := ((Below.refl _ _).alloc (Nat.le_refl _) _).alloc (by simp) _
      go_enter Tryd.func40, Tryd.ntmps40
      go_wp2_with fail
      refine (plain_any s 3 o _).mono ?_
      rintro e w1 ⟨rfl, hb⟩
      replace r0 := r0.below hb r0.lt
      replace r1 := r1.below hb r1.lt
      replace hB0 := hB0.trans (hb.mono hB0.size)
      clear hb
      obtain ⟨B1, e1⟩ : ∃ B1, B1 = w.heap.size := ⟨_, rfl⟩
      have hle : w.heap.size ≤ B1 := by omega
      rw [← e1] at r0 r1 ⊢
      clear e1
      have l0 := r0.lt
      have l1 := r1.lt
      have c0 : w1.cell? ⟨B1, 0, none⟩ = some (Value.int .i64 s.st) := r0.cell 0 rfl
      have c1 : w1.cell? ⟨B1, 1, none⟩ = some (Value.int .i64 s.ow) := r0.cell 1 rfl
      have c2 : w1.cell? ⟨B1, 2, none⟩ = some (Value.int .i64 s.sr) := r0.cell 2 rfl
      have c3 : w1.cell? ⟨B1, 3, none⟩ = some (Value.bool s.br) := r0.cell 3 rfl
      have c4 : w1.cell? ⟨B1, 4, none⟩ = some (Value.bool s.ma) := r0.cell 4 rfl
      have c5 : w1.cell? ⟨B1, 5, none⟩ = some (Value.int .i64 s.us) := r0.cell 5 rfl
      have c6 : w1.cell? ⟨B1, 6, none⟩ = some (Value.int .i64 s.ge) := r0.cell 6 rfl
      have c7 : w1.cell? ⟨B1, 7, none⟩ = some (Value.int .i64 s.ep) := r0.cell 7 rfl
      have c8 : w1.cell? ⟨B1, 8, none⟩ = some (Value.int .i64 s.ve) := r0.cell 8 rfl
      go_wp2_with (refine wpList_store_row rfl 23 _ _ rfl _ #[Value.int .i64 (s.plain 3 o).st, Value.int .i64 (s.plain 3 o).ow, Value.int .i64 (s.plain 3 o).sr, Value.bool s.br, Value.bool (s.plain 3 o).ma, Value.int .i64 63, Value.int .i64 (s.ge + 1), Value.int .i64 (s.plain 3 o).ep, Value.int .i64 (s.plain 3 o).ve] rfl rfl 23 _ (r1.alloc _) (by kernel_rfl) rfl (by simp [Value.oneCell']) ?_)
      refine bodyPost_ret (ret_slot (p := 4) rfl _ _ _ _ rfl ((r1.alloc _).set _) rfl) rfl ⟨?_, below_setRow (hB0.alloc hB0.size _) (by omega) _⟩
      show Ending.returned (.agg #[Value.int .i64 (s.plain 3 o).st, Value.int .i64 (s.plain 3 o).ow, Value.int .i64 (s.plain 3 o).sr, Value.bool s.br, Value.bool (s.plain 3 o).ma, Value.int .i64 63, Value.int .i64 (s.ge + 1), Value.int .i64 (s.plain 3 o).ep, Value.int .i64 (s.plain 3 o).ve]) = _
      rw [Hn.out, Hg.out]
      rfl
end Go.Proofs.YtdiipmejkanhfaaDoor
