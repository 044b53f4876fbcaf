/- What the program reckons with bits of bytes. -/
import Derived.Test.YtbkaiffecnomjaaKit
namespace Go.Proofs.Ytbkaiffecnomjaa
open Go.RowKit
attribute [local go_sem ↓] Go.wp_at_zero Go.wp_at_succ

def B (x : Int) : BitVec 64 := BitVec.ofInt 64 x
theorem B_nat (n : Nat) : B (n : Int) = BitVec.ofNat 64 n := by unfold B; rw [BitVec.ofInt_natCast]
theorem wrap_toNat (X : BitVec 64) : IntKind.i64.wrap (X.toNat : Int) = X.toInt := by
  rw [BitVec.toInt_eq_toNat_bmod]
  simp only [IntKind.wrap_i64, Int.bmod]
  have := X.isLt
  omega
theorem and_B (x y : Int) : bits .and .i64 x y = (B x &&& B y).toInt := wrap_toNat _
theorem or_B (x y : Int) : bits .or .i64 x y = (B x ||| B y).toInt := wrap_toNat _
theorem small_toInt {n : Nat} (h : n < 9223372036854775808) : (BitVec.ofNat 64 n).toInt = n := by
  rw [BitVec.toInt_eq_toNat_of_lt (by simp; omega)]
  simp
  omega
theorem or_add {x z : Int} {k : Nat} (h0 : 0 ≤ x) (h1 : x < 2 ^ k) (hz : 0 ≤ z) (hb : x + z * 2 ^ k < 9223372036854775808) : bits .or .i64 x (z * 2 ^ k) = x + z * 2 ^ k := by
  obtain ⟨x, rfl⟩ := Int.eq_ofNat_of_zero_le h0
  obtain ⟨z, rfl⟩ := Int.eq_ofNat_of_zero_le hz
  have e : (2 : Int) ^ k = ((2 ^ k : Nat) : Int) := by simp
  rw [e] at h1 hb ⊢
  rw [← Int.natCast_mul] at hb ⊢
  rw [← Int.natCast_add] at hb ⊢
  have h1 : x < 2 ^ k := by omega
  rw [or_B, B_nat, B_nat]
  have : BitVec.ofNat 64 x ||| BitVec.ofNat 64 (z * 2 ^ k) = BitVec.ofNat 64 (x + z * 2 ^ k) := by
    apply BitVec.eq_of_toNat_eq
    rw [BitVec.toNat_or, BitVec.toNat_ofNat, BitVec.toNat_ofNat, BitVec.toNat_ofNat, Nat.mod_eq_of_lt (by omega), Nat.mod_eq_of_lt (by omega), Nat.mod_eq_of_lt (by omega), Nat.add_comm, Nat.mul_comm, Nat.two_pow_add_eq_or_of_lt h1, Nat.or_comm]
  rw [this, small_toInt (by omega)]

theorem pair_bits {a b : Int} (ha : 0 ≤ a ∧ a ≤ 255) (hb : 0 ≤ b ∧ b ≤ 255) : bits .or .i64 a (b * 256) = a + 256 * b := by
  have h := or_add (x := a) (z := b) (k := 8) ha.1 (by omega) hb.1 (by omega)
  rw [show (2 : Int) ^ 8 = 256 by rfl] at h
  omega
theorem fin_of {a : Int} (h : 0 ≤ a ∧ a ≤ 255) : ∃ n : Fin 256, a = ((n.val : Nat) : Int) := ⟨⟨a.toNat, by omega⟩, by simp; omega⟩
theorem bits_fin : ∀ n : Fin 256, (bits .and .u8 ((n.val : Nat) : Int) 1 != 0) = (((n.val : Nat) : Int) % 2 == 1) ∧ (bits .and .u8 ((n.val : Nat) : Int) 2 != 0) = (((n.val : Nat) : Int) / 2 % 2 == 1) ∧ (bits .and .u8 ((n.val : Nat) : Int) 4 != 0) = (((n.val : Nat) : Int) / 4 % 2 == 1) := by decide +kernel
theorem sum_bits {a : Int} (h : 0 ≤ a ∧ a ≤ 255) : (bits .and .u8 a 1 != 0) = (a % 2 == 1) ∧ (bits .and .u8 a 2 != 0) = (a / 2 % 2 == 1) ∧ (bits .and .u8 a 4 != 0) = (a / 4 % 2 == 1) := by
  obtain ⟨n, rfl⟩ := fin_of h
  exact bits_fin n
end Go.Proofs.Ytbkaiffecnomjaa
