/- The law FieldHigh, walked: for any field and any number of Go's int it answers true, and nothing that was there changes. -/
import Derived.Test.YtoffliekebpmlaaAwake
import Derived.Test.YtoffliekebpmlaaBits
namespace Go.Proofs.Ytoffliekebpmlaa
open Go.RowKit
attribute [local go_sem ↓] Go.wp_at_zero Go.wp_at_succ

theorem maxI_le {b : Int} (h1 : 1 ≤ b) (h2 : b ≤ 62) : maxI b ≤ 4611686018427387903 := by
  rw [maxI_eq h1 h2]
  have := pow_le_62 (n := b.toNat) (by omega)
  omega
theorem max_wrap {b : Int} (h1 : 1 ≤ b) (h2 : b ≤ 62) : wrap64 (maxI b + 1) = maxI b + 1 := by
  have := maxI_le h1 h2
  have := maxI_ge h1 h2
  unfold wrap64
  omega
set_option maxRecDepth 100000 in
set_option maxHeartbeats 4000000 in
theorem high_yes (a b x : Int) (w : World) (h0 : 0 ≤ a) (h1 : 1 ≤ b) (h2 : a + b ≤ 62) :
    Calls Try.prog 10 #[.agg #[.int .i64 a, .int .i64 b], .int .i64 x] w fun e w' => e = .returned (.bool true) ∧ Below w.heap.size w w' := by
  have Hr := Lib.hid (rightB_true.2 ⟨h0, h1, h2⟩)
  have m1 := maxI_ge h1 (by omega)
  have m2 := maxI_le h1 (by omega)
  have e2 := max_wrap h1 (by omega)
  have t1 : (putI x a b (maxI b) == bits .or .i64 x (wrap64 (maxI b * 2 ^ a.toNat))) = true := by rw [beq_iff_eq]; exact high_or h0 h1 h2
  have t2 : (putI x a b (maxI b + 1) == bits .andNot .i64 x (wrap64 (maxI b * 2 ^ a.toNat))) = true := by rw [beq_iff_eq, ← e2]; exact high_next h0 h1 h2
  have t3 : (getI (putI x a b (maxI b + 1)) a b == 0) = true := by rw [beq_iff_eq, ← e2]; exact high_zero h0 h1 h2
  have t4 : (putI (putI x a b (maxI b + 1)) a b (-1) == putI x a b (maxI b)) = true := by rw [beq_iff_eq, ← e2]; exact high_ones h0 h1 h2
  have q1 := putI_lo x a b (maxI b + 1)
  have q2 := putI_hi x a b (maxI b + 1)
  clear e2
  have hB0 : Below w.heap.size w (w.alloc (.cells #[.int .i64 a, .int .i64 b] 23)) := (Below.refl _ _).alloc (Nat.le_refl _) _
  have hf := FBox.new w a b
  go_enter Try.func10, Try.ntmps10
  go_wp2_with fail
  refine (awake_any _).mono ?_
  rintro e w1 ⟨rfl, hb⟩
  try clear k0 k1 k2
  replace hf := hf.keep (KC.of_below (Nat.le_refl _) hb)
  replace hB0 := hB0.trans (hb.mono hB0.size)
  clear hb
  have k0 := hf.cell0
  have k1 := hf.cell1
  have k2 := hf.lt
  go_wp2_with fail
  refine (right_any a b _).mono ?_
  rintro e w2 ⟨rfl, hb⟩
  rw [Hr.out]
  try clear k0 k1 k2
  replace hf := hf.keep (KC.of_below (Nat.le_refl _) hb)
  replace hB0 := hB0.trans (hb.mono hB0.size)
  clear hb
  have k0 := hf.cell0
  have k1 := hf.cell1
  have k2 := hf.lt
  go_wp2_with fail
  refine (max_any a b _ h1 (by omega)).mono ?_
  rintro e w3 ⟨rfl, hb⟩
  try clear k0 k1 k2
  replace hf := hf.keep (KC.of_below (Nat.le_refl _) hb)
  replace hB0 := hB0.trans (hb.mono hB0.size)
  clear hb
  have k0 := hf.cell0
  have k1 := hf.cell1
  have k2 := hf.lt
  go_wp2_with fail
  refine (put_any x a b (maxI b) _ h0 h1 h2).mono ?_
  rintro e w4 ⟨rfl, hb⟩
  try clear k0 k1 k2
  replace hf := hf.keep (KC.of_below (Nat.le_refl _) hb)
  replace hB0 := hB0.trans (hb.mono hB0.size)
  clear hb
  have k0 := hf.cell0
  have k1 := hf.cell1
  have k2 := hf.lt
  go_wp2_with fail
  refine (put_any x a b (maxI b + 1) _ h0 h1 h2).mono ?_
  rintro e w6 ⟨rfl, hb⟩
  try clear k0 k1 k2
  replace hf := hf.keep (KC.of_below (Nat.le_refl _) hb)
  replace hB0 := hB0.trans (hb.mono hB0.size)
  clear hb
  have k0 := hf.cell0
  have k1 := hf.cell1
  have k2 := hf.lt
  go_wp2_with fail
  refine (get_any (putI x a b (maxI b + 1)) a b _ h0 h1 h2 q1 q2).mono ?_
  rintro e w7 ⟨rfl, hb⟩
  try clear k0 k1 k2
  replace hf := hf.keep (KC.of_below (Nat.le_refl _) hb)
  replace hB0 := hB0.trans (hb.mono hB0.size)
  clear hb
  have k0 := hf.cell0
  have k1 := hf.cell1
  have k2 := hf.lt
  go_wp2_with fail
  refine (put_any (putI x a b (maxI b + 1)) a b (-1) _ h0 h1 h2).mono ?_
  rintro e w8 ⟨rfl, hb⟩
  try clear k0 k1 k2
  replace hf := hf.keep (KC.of_below (Nat.le_refl _) hb)
  replace hB0 := hB0.trans (hb.mono hB0.size)
  clear hb
  have k0 := hf.cell0
  have k1 := hf.cell1
  have k2 := hf.lt
  go_wp2
  go_ret
  exact ⟨rfl, by assumption⟩
set_option maxHeartbeats 400000 in
theorem high_no (a b x : Int) (w : World) (h : rightB a b = false) :
    Calls Try.prog 10 #[.agg #[.int .i64 a, .int .i64 b], .int .i64 x] w fun e w' => e = .returned (.bool true) ∧ Below w.heap.size w w' := by
  have Hr := Lib.hid h
  clear h
  have hB0 : Below w.heap.size w (w.alloc (.cells #[.int .i64 a, .int .i64 b] 23)) := (Below.refl _ _).alloc (Nat.le_refl _) _
  have hf := FBox.new w a b
  go_enter Try.func10, Try.ntmps10
  go_wp2_with fail
  refine (awake_any _).mono ?_
  rintro e w1 ⟨rfl, hb⟩
  try clear k0 k1 k2
  replace hf := hf.keep (KC.of_below (Nat.le_refl _) hb)
  replace hB0 := hB0.trans (hb.mono hB0.size)
  clear hb
  have k0 := hf.cell0
  have k1 := hf.cell1
  have k2 := hf.lt
  go_wp2_with fail
  refine (right_any a b _).mono ?_
  rintro e w2 ⟨rfl, hb⟩
  rw [Hr.out]
  try clear k0 k1 k2
  replace hf := hf.keep (KC.of_below (Nat.le_refl _) hb)
  replace hB0 := hB0.trans (hb.mono hB0.size)
  clear hb
  have k0 := hf.cell0
  have k1 := hf.cell1
  have k2 := hf.lt
  go_wp2_with fail
  go_ret
  exact ⟨rfl, hB0⟩
theorem high_any (a b x : Int) (w : World) :
    Calls Try.prog 10 #[.agg #[.int .i64 a, .int .i64 b], .int .i64 x] w fun e w' => e = .returned (.bool true) ∧ Below w.heap.size w w' := by
  cases h : rightB a b with
  | false => exact high_no a b x w h
  | true =>
    rw [rightB_true] at h
    exact high_yes a b x w h.1 h.2.1 h.2.2
end Go.Proofs.Ytoffliekebpmlaa
