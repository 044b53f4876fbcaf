/- Plain facts on what is put and got in fields of 64-bit words; right fields. Nothing of the program is named here. -/
import Derived.Test.YtoffliekebpmlaaMath
namespace Go.Proofs.Ytoffliekebpmlaa
open Go.RowKit

theorem maxI_ge {b : Int} (h1 : 1 ≤ b) (h2 : b ≤ 62) : 1 ≤ maxI b := by
  rw [maxI_eq h1 h2]
  have : 2 ^ 1 ≤ 2 ^ b.toNat := Nat.pow_le_pow_right (by omega) (by omega)
  omega
theorem B_eq {X Y : BitVec 64} (h : ∀ i, i < 64 → X.getLsbD i = Y.getLsbD i) : X.toInt = Y.toInt := by
  rw [BitVec.eq_of_getLsbD_eq h]
/-- what is put is got -/
theorem get_put {x a b v : Int} (h0 : 0 ≤ a) (h1 : 1 ≤ b) (h2 : a + b ≤ 62) : getI (putI x a b v) a b = bits .and .i64 v (maxI b) := by
  rw [and_B]
  unfold getI putI maxI
  rw [B_toInt, B_toInt]
  refine B_eq fun i hi => ?_
  rw [gtB_bit (by omega), ptB_bit (by omega), BitVec.getLsbD_and, mxB_bit]
  by_cases h : i < b.toNat
  · rw [if_pos (by omega)]; simp [h, hi]
  · simp [h]
/-- put again nothing is changed -/
theorem put_put {x a b v : Int} (h0 : 0 ≤ a) (h1 : 1 ≤ b) (h2 : a + b ≤ 62) : putI (putI x a b v) a b v = putI x a b v := by
  unfold putI
  rw [B_toInt]
  refine B_eq fun i hi => ?_
  rw [ptB_bit (by omega), ptB_bit (by omega)]
  split <;> simp_all
theorem put_back {x a b v : Int} (h0 : 0 ≤ a) (h1 : 1 ≤ b) (h2 : a + b ≤ 62) (h3 : -9223372036854775808 ≤ x) (h4 : x ≤ 9223372036854775807) : putI (putI x a b v) a b (getI x a b) = x := by
  have e : (ptB (ptB (B x) a.toNat b.toNat (B v)) a.toNat b.toNat (gtB (B x) a.toNat b.toNat)).toInt = (B x).toInt := by
    refine B_eq fun i hi => ?_
    rw [ptB_bit (by omega), ptB_bit (by omega), gtB_bit (by omega)]
    by_cases h : a.toNat ≤ i ∧ i < a.toNat + b.toNat
    · rw [if_pos h]
      have h5 : i - a.toNat < b.toNat := by omega
      have h6 : a.toNat + (i - a.toNat) = i := by omega
      simp [h5, h6]
    · rw [if_neg h, if_neg h]
  unfold putI getI
  rw [B_toInt, B_toInt, e, toInt_B h3 h4]
theorem get_bd {x a b : Int} (h0 : 0 ≤ a) (h1 : 1 ≤ b) (h2 : a + b ≤ 62) : 0 ≤ getI x a b ∧ getI x a b ≤ maxI b := by
  obtain ⟨_, h4, h5⟩ := getI_toNat (w := x) h0 (by omega) h2
  refine ⟨h4, ?_⟩
  rw [maxI_eq h1 (by omega)]
  have : (2 : Int) ^ b.toNat = ((2 ^ b.toNat : Nat) : Int) := by simp
  rw [this] at h5
  have : 1 ≤ 2 ^ b.toNat := Nat.one_le_two_pow
  omega
/-- two fields have a bit in common -/
def Over (a b c d : Int) : Prop := ∃ i : Nat, a.toNat ≤ i ∧ i < a.toNat + b.toNat ∧ c.toNat ≤ i ∧ i < c.toNat + d.toNat
theorem clash_iff {a b c d : Int} (_h0 : 0 ≤ a) (_h2 : a + b ≤ 62) (_h3 : 0 ≤ c) (h5 : c + d ≤ 62) :
    bits .and .i64 (mskI a b) (mskI c d) = 0 ↔ ¬ Over a b c d := by
  rw [and_B]
  unfold mskI
  rw [B_toInt, B_toInt]
  have e0 : (0 : Int) = (0#64).toInt := rfl
  rw [e0, toInt_inj]
  constructor
  · rintro h ⟨i, h6, h7, h8, h9⟩
    have h10 : (mkB a.toNat b.toNat &&& mkB c.toNat d.toNat).getLsbD i = false := by rw [h]; simp
    rw [BitVec.getLsbD_and, mkB_bit, mkB_bit] at h10
    have h11 : i < 64 := by omega
    have h12 : i - a.toNat < b.toNat := by omega
    have h13 : i - c.toNat < d.toNat := by omega
    simp [h11, h12, h13, h6, h8] at h10
  · intro h
    apply BitVec.eq_of_getLsbD_eq
    intro i hi
    rw [BitVec.getLsbD_and, mkB_bit, mkB_bit, BitVec.getLsbD_zero]
    cases hq : (decide (i < 64) && (decide (a.toNat ≤ i) && decide (i - a.toNat < b.toNat)) && (decide (i < 64) && (decide (c.toNat ≤ i) && decide (i - c.toNat < d.toNat)))) with
    | false => rfl
    | true =>
      simp at hq
      exact absurd ⟨i, by omega, by omega, by omega, by omega⟩ h
theorem over_symm {a b c d : Int} (h : Over a b c d) : Over c d a b := by
  obtain ⟨i, h1, h2, h3, h4⟩ := h
  exact ⟨i, h3, h4, h1, h2⟩
theorem get_other {x a b c d v : Int} (h0 : 0 ≤ a) (h1 : 1 ≤ b) (h2 : a + b ≤ 62) (h3 : 0 ≤ c) (h4 : 1 ≤ d) (h5 : c + d ≤ 62) (h : ¬ Over a b c d) : getI (putI x a b v) c d = getI x c d := by
  unfold getI putI
  rw [B_toInt]
  refine B_eq fun i hi => ?_
  rw [gtB_bit (by omega), gtB_bit (by omega), ptB_bit (by omega)]
  by_cases h6 : i < d.toNat
  · rw [if_neg]
    intro h7
    exact h ⟨c.toNat + i, by omega, by omega, by omega, by omega⟩
  · simp [h6]
theorem put_comm {x a b c d v u : Int} (h0 : 0 ≤ a) (h1 : 1 ≤ b) (h2 : a + b ≤ 62) (h3 : 0 ≤ c) (h4 : 1 ≤ d) (h5 : c + d ≤ 62) (h : ¬ Over a b c d) : putI (putI x a b v) c d u = putI (putI x c d u) a b v := by
  unfold putI
  rw [B_toInt, B_toInt]
  refine B_eq fun i hi => ?_
  rw [ptB_bit (by omega), ptB_bit (by omega), ptB_bit (by omega), ptB_bit (by omega)]
  by_cases h6 : c.toNat ≤ i ∧ i < c.toNat + d.toNat
  · rw [if_pos h6, if_neg, if_pos h6]
    intro h7
    exact h ⟨i, h7.1, h7.2, h6.1, h6.2⟩
  · rw [if_neg h6, if_neg h6]
theorem high_or {x a b : Int} (h0 : 0 ≤ a) (h1 : 1 ≤ b) (h2 : a + b ≤ 62) : putI x a b (maxI b) = bits .or .i64 x (wrap64 (maxI b * 2 ^ a.toNat)) := by
  rw [or_B, msk_walk]
  unfold putI maxI mskI
  rw [B_toInt, B_toInt]
  refine B_eq fun i hi => ?_
  rw [ptB_bit (by omega), BitVec.getLsbD_or, mkB_bit, mxB_bit]
  by_cases h : a.toNat ≤ i ∧ i < a.toNat + b.toNat
  · rw [if_pos h]
    have h3 : i - a.toNat < b.toNat := by omega
    have h4 : i - a.toNat < 64 := by omega
    simp [h.1, h3, h4, hi]
  · rw [if_neg h]
    have h3 : ¬ (a.toNat ≤ i ∧ i - a.toNat < b.toNat) := by omega
    simp [hi]
    omega
theorem B_succ {b : Int} (h1 : 1 ≤ b) (h2 : b ≤ 62) : B (wrap64 (maxI b + 1)) = BitVec.ofNat 64 (2 ^ b.toNat) := by
  rw [wrap64_B, B_toInt, maxI_eq h1 h2]
  have : 1 ≤ 2 ^ b.toNat := Nat.one_le_two_pow
  have e : ((2 ^ b.toNat - 1 : Nat) : Int) + 1 = ((2 ^ b.toNat : Nat) : Int) := by omega
  rw [e, B, BitVec.ofInt_natCast]
theorem high_next {x a b : Int} (h0 : 0 ≤ a) (h1 : 1 ≤ b) (h2 : a + b ≤ 62) : putI x a b (wrap64 (maxI b + 1)) = bits .andNot .i64 x (wrap64 (maxI b * 2 ^ a.toNat)) := by
  rw [andNot_B, msk_walk]
  unfold putI mskI
  rw [B_toInt, B_succ h1 (by omega)]
  refine B_eq fun i hi => ?_
  rw [ptB_bit (by omega), BitVec.getLsbD_and, BitVec.getLsbD_not, mkB_bit, BitVec.getLsbD_ofNat, Nat.testBit_two_pow]
  by_cases h : a.toNat ≤ i ∧ i < a.toNat + b.toNat
  · rw [if_pos h]
    have h3 : i - a.toNat < b.toNat := by omega
    have h4 : ¬ (b.toNat = i - a.toNat) := by omega
    simp [h.1, h3, h4, hi]
  · rw [if_neg h]
    have h3 : ¬ (a.toNat ≤ i ∧ i - a.toNat < b.toNat) := by omega
    simp [hi]
    omega
theorem high_zero {x a b : Int} (h0 : 0 ≤ a) (h1 : 1 ≤ b) (h2 : a + b ≤ 62) : getI (putI x a b (wrap64 (maxI b + 1))) a b = 0 := by
  have e0 : (0 : Int) = (0#64).toInt := rfl
  rw [e0]
  unfold getI putI
  rw [B_toInt, B_succ h1 (by omega)]
  refine B_eq fun i hi => ?_
  rw [gtB_bit (by omega), ptB_bit (by omega), BitVec.getLsbD_ofNat, Nat.testBit_two_pow, BitVec.getLsbD_zero]
  by_cases h : i < b.toNat
  · rw [if_pos (by omega)]
    simp
    omega
  · simp [h]
theorem high_ones {x a b : Int} (h0 : 0 ≤ a) (h1 : 1 ≤ b) (h2 : a + b ≤ 62) : putI (putI x a b (wrap64 (maxI b + 1))) a b (-1) = putI x a b (maxI b) := by
  have hb : B (-1) = BitVec.allOnes 64 := by decide
  unfold putI maxI
  rw [B_toInt, hb, B_toInt]
  refine B_eq fun i hi => ?_
  rw [ptB_bit (by omega), ptB_bit (by omega), ptB_bit (by omega), mxB_bit, BitVec.getLsbD_allOnes]
  by_cases h : a.toNat ≤ i ∧ i < a.toNat + b.toNat
  · rw [if_pos h, if_pos h]
    have h3 : i - a.toNat < b.toNat := by omega
    simp [h3]
  · rw [if_neg h, if_neg h, if_neg h]
end Go.Proofs.Ytoffliekebpmlaa
