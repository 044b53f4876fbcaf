/- What the document's own small functions on one field answer, for right fields; nothing that was there changes. -/
import Derived.Test.YtoffliekebpmlaaLow
namespace Go.Proofs.Ytoffliekebpmlaa
open Go.RowKit


set_option maxHeartbeats 400000 in
theorem refRight_any (a b : Int) (w : World)  :
    Calls Try.prog 12 #[.agg #[.int .i64 a, .int .i64 b]] w fun e w' => e = .returned (.bool (rightB a b)) ∧ Below w.heap.size w w' := by
  go_enter Try.func12, Try.ntmps12
  go_wp2
  all_goals go_ret
  all_goals exact ⟨ret_bool (by first | (symm; rw [rightB_true]; omega) | (symm; rw [rightB_false]; omega) | (rw [Bool.eq_iff_iff, decide_eq_true_eq, rightB_true]; omega)), (Below.refl _ _).alloc (Nat.le_refl _) _⟩
set_option maxHeartbeats 400000 in
theorem refBit_any (x i : Int) (w : World) (h : 0 ≤ i) :
    Calls Try.prog 27 #[.int .i64 x, .int .i64 i] w fun e w' => e = .returned (.int .i64 (bitI x i)) ∧ w = w' := by
  go_enter Try.func27, Try.ntmps27
  go_wp2
  go_ret
  exact ⟨ret_int bit_walk, rfl⟩

set_option maxHeartbeats 800000 in
theorem refGet_any (x a b : Int) (w : World) (h0 : 0 ≤ a) (h1 : 1 ≤ b) (h2 : a + b ≤ 62) :
    Calls Try.prog 17 #[.int .i64 x, .agg #[.int .i64 a, .int .i64 b]] w fun e w' => e = .returned (.int .i64 (getI x a b)) ∧ Below w.heap.size w w' := by
  go_enter Try.func17, Try.ntmps17
  go_wp2
  go_loop [5, 6] (fun n i => ∃ j : Nat, (j : Int) ≤ b ∧ i = .int .i64 ((j : Int) - 1) ∧ n = .int .i64 (getI x (a + j) (b - j))) (fun _ i => (intOf i + 1).toNat)
  case atStart => exact ⟨b.toNat, by omega, by rw [show ((b.toNat : Nat) : Int) = b from by omega], by rw [show ((b.toNat : Nat) : Int) = b from by omega, Int.sub_self, getI_zero]⟩
  case round =>
    obtain ⟨j, hj, rfl, rfl⟩ := hrel
    by_cases hlt : 1 ≤ j
    · have hs := getI_step (w := x) (a := a + ((j : Int) - 1)) (b := b - j) (by omega) (by omega) (by omega)
      have hb1 := getI_61 (w := x) (a := a + j) (b := b - j) (by omega) (by omega) (by omega) (by omega)
      have hb2 := bitI_bd x (a + ((j : Int) - 1))
      rw [show a + ((j : Int) - 1) + 1 = a + j from by omega, show b - (j : Int) + 1 = b - ((j - 1 : Nat) : Int) from by omega, show getI x (a + ((j : Int) - 1)) (b - ((j - 1 : Nat) : Int)) = getI x (a + ((j - 1 : Nat) : Int)) (b - ((j - 1 : Nat) : Int)) from by rw [show a + ((j : Int) - 1) = a + ((j - 1 : Nat) : Int) from by omega]] at hs
      have Hs := Lib.hid hs
      clear hs
      go_wp2_with (go_at_call 27; refine (refBit_any x _ _ (by omega)).mono ?_; rintro e w' ⟨rfl, rfl⟩)
      go_round
      case rel => exact ⟨j - 1, by omega, by rw [show (((j - 1 : Nat) : Int)) = (j : Int) - 1 from by omega], by rw [Hs.out]⟩
      case measure => simp [intOf]; omega
    · obtain rfl : j = 0 := by omega
      go_wp2
      go_ret
      exact ⟨ret_int (by simp), (Below.refl _ _).alloc (Nat.le_refl _) _⟩

set_option maxHeartbeats 400000 in
theorem refMax_any (a b : Int) (w : World) (h0 : 0 ≤ a) (h1 : 1 ≤ b) (h2 : a + b ≤ 62) :
    Calls Try.prog 15 #[.agg #[.int .i64 a, .int .i64 b]] w fun e w' => e = .returned (.int .i64 (maxI b)) ∧ Below w.heap.size w w' := by
  have Hm := Lib.hid (maxI_get h0 h1 h2)
  go_enter Try.func15, Try.ntmps15
  go_wp2_with (go_at_call 17; refine (refGet_any (-1) a b _ h0 h1 h2).mono ?_; rintro e w1 ⟨rfl, hb⟩)
  go_ret
  exact ⟨ret_int Hm.out, ((Below.refl _ _).alloc (Nat.le_refl _) _).trans (hb.mono (by simp))⟩

set_option maxHeartbeats 800000 in
theorem refPut_any (x a b v : Int) (w : World) (h0 : 0 ≤ a) (h1 : 1 ≤ b) (h2 : a + b ≤ 62) (h3 : -9223372036854775808 ≤ x) (h4 : x ≤ 9223372036854775807) :
    Calls Try.prog 19 #[.int .i64 x, .agg #[.int .i64 a, .int .i64 b], .int .i64 v] w fun e w' => e = .returned (.int .i64 (putI x a b v)) ∧ Below w.heap.size w w' := by
  have Hz := Lib.hid (putI_zero (a := a) (v := v) h3 h4)
  go_enter Try.func19, Try.ntmps19
  go_wp2
  go_loop [0, 7] (fun n i => ∃ j : Nat, (j : Int) ≤ b ∧ i = .int .i64 (j : Int) ∧ n = .int .i64 (putI x a j v)) (fun _ i => (b - intOf i).toNat)
  case atStart => exact ⟨0, by omega, rfl, by rw [show ((0 : Nat) : Int) = 0 from rfl, Hz.out]⟩
  case round =>
    obtain ⟨j, hj, rfl, rfl⟩ := hrel
    by_cases hlt : (j : Int) < b
    · by_cases hs : bitI (putI x a j v) (a + j) = bitI v j
      · have hp := putI_same h0 (Int.natCast_nonneg j) (by omega) hs
        have Hp := Lib.hid hp
        have hs' : (bitI (putI x a j v) (a + j) != bitI v j) = false := by simp [hs]
        clear hs hp
        go_wp2_with (go_at_call 27; refine (refBit_any _ _ _ (by omega)).mono ?_; rintro e w' ⟨rfl, rfl⟩)
        go_round
        case rel => exact ⟨j + 1, by omega, by go_num, by rw [← Hp.out]; rfl⟩
        case measure => simp [intOf]; omega
      · have hp := putI_turn h0 (Int.natCast_nonneg j) (by omega) hs
        have Hp := Lib.hid hp
        have hs' : (bitI (putI x a j v) (a + j) != bitI v j) = true := by simp [hs]
        clear hs hp
        go_wp2_with (go_at_call 27; refine (refBit_any _ _ _ (by omega)).mono ?_; rintro e w' ⟨rfl, rfl⟩)
        go_round
        case rel => exact ⟨j + 1, by omega, by go_num, by rw [Hp.out]; rfl⟩
        case measure => simp [intOf]; omega
    · obtain rfl : (j : Int) = b := by omega
      go_wp2
      go_ret
      exact ⟨rfl, (Below.refl _ _).alloc (Nat.le_refl _) _⟩
end Go.Proofs.Ytoffliekebpmlaa
