/- Plain facts on fields of 64-bit words: nothing of the program is named here; no conditions. -/
import Derived.WalkKit
namespace Go.Proofs.Ytalmadeibnekoaa
open Go.RowKit

def B (x : Int) : BitVec 64 := BitVec.ofInt 64 x
theorem toInt_B {x : Int} (h1 : -9223372036854775808 ≤ x) (h2 : x ≤ 9223372036854775807) : (B x).toInt = x := by
  unfold B
  rw [BitVec.toInt_ofInt]
  simp only [Int.bmod]
  omega
theorem B_toInt (X : BitVec 64) : B X.toInt = X := by simp [B]
theorem wrap64_B (x : Int) : wrap64 x = (B x).toInt := by
  unfold wrap64 B
  rw [BitVec.toInt_ofInt]
  simp only [Int.bmod]
  split <;> omega
theorem toInt_lo (X : BitVec 64) : -9223372036854775808 ≤ X.toInt := by
  have := BitVec.le_toInt X
  simpa using this
theorem toInt_hi (X : BitVec 64) : X.toInt ≤ 9223372036854775807 := by
  have := BitVec.toInt_lt (x := X)
  simp at this
  omega
theorem toInt_inj {X Y : BitVec 64} : X.toInt = Y.toInt ↔ X = Y := BitVec.toInt_inj

theorem wrap_toNat (X : BitVec 64) : IntKind.i64.wrap (X.toNat : Int) = X.toInt := by
  have h : IntKind.i64.wrap (X.toNat : Int) = wrap64 (X.toNat : Int) := by
    simp [IntKind.wrap_i64, wrap64]
  rw [h, wrap64_B]
  congr 1
  simp [B]
theorem and_B (x y : Int) : bits .and .i64 x y = (B x &&& B y).toInt := wrap_toNat _
theorem or_B (x y : Int) : bits .or .i64 x y = (B x ||| B y).toInt := wrap_toNat _
theorem xor_B (x y : Int) : bits .xor .i64 x y = (B x ^^^ B y).toInt := wrap_toNat _
theorem andNot_B (x y : Int) : bits .andNot .i64 x y = (B x &&& ~~~ B y).toInt := wrap_toNat _
theorem shl_B (x : Int) (n : Nat) : B (x * 2 ^ n) = B x <<< n := by
  unfold B
  rw [BitVec.ofInt_mul, BitVec.shiftLeft_eq_mul_twoPow]
  congr 1
  apply BitVec.eq_of_toNat_eq
  have : (2 : Int) ^ n = ((2 ^ n : Nat) : Int) := by simp
  rw [this, BitVec.ofInt_natCast]
  simp
theorem shr_B {x : Int} (n : Nat) (h1 : -9223372036854775808 ≤ x) (h2 : x ≤ 9223372036854775807) : x / 2 ^ n = ((B x).sshiftRight n).toInt := by
  rw [BitVec.toInt_sshiftRight, toInt_B h1 h2, Int.shiftRight_eq_div_pow]
  rfl

/-- the bits below b -/
def mxB (b : Nat) : BitVec 64 := BitVec.ofNat 64 (2 ^ b - 1)
def mkB (a b : Nat) : BitVec 64 := mxB b <<< a
def gtB (w : BitVec 64) (a b : Nat) : BitVec 64 := w.sshiftRight a &&& mxB b
def ptB (w : BitVec 64) (a b : Nat) (v : BitVec 64) : BitVec 64 := (w &&& ~~~ mkB a b) ||| ((v <<< a) &&& mkB a b)
theorem mxB_bit (b i : Nat) : (mxB b).getLsbD i = (decide (i < 64) && decide (i < b)) := by
  rw [mxB, BitVec.getLsbD_ofNat, Nat.testBit_two_pow_sub_one]
theorem mkB_bit (a b i : Nat) : (mkB a b).getLsbD i = (decide (i < 64) && (decide (a ≤ i) && decide (i - a < b))) := by
  simp only [mkB, BitVec.getLsbD_shiftLeft, mxB_bit]
  by_cases h1 : i < 64 <;> by_cases h2 : i < a <;> by_cases h3 : i - a < b <;> simp [h1, h2, h3] <;> omega
theorem gtB_bit {w : BitVec 64} {a b : Nat} (h : a + b ≤ 64) (i : Nat) : (gtB w a b).getLsbD i = (decide (i < b) && w.getLsbD (a + i)) := by
  simp only [gtB, BitVec.getLsbD_and, BitVec.getLsbD_sshiftRight, mxB_bit]
  by_cases h1 : i < b
  · have : i < 64 := by omega
    have : a + i < 64 := by omega
    simp [*]
  · simp [h1]
theorem ptB_bit {w v : BitVec 64} {a b : Nat} (h : a + b ≤ 64) (i : Nat) : (ptB w a b v).getLsbD i = if a ≤ i ∧ i < a + b then v.getLsbD (i - a) else w.getLsbD i := by
  simp only [ptB, BitVec.getLsbD_or, BitVec.getLsbD_and, BitVec.getLsbD_not, BitVec.getLsbD_shiftLeft, mkB_bit]
  by_cases h1 : i < 64
  · by_cases h2 : a ≤ i <;> by_cases h3 : i - a < b
    · have : i < a + b := by omega
      simp [h1, h2, h3, this]
    · have : ¬ i < a + b := by omega
      simp [h1, h2, h3, this]
    · have : ¬ (a ≤ i ∧ i < a + b) := by omega
      simp [h1, h2]
    · have : ¬ (a ≤ i ∧ i < a + b) := by omega
      simp [h1, h2]
  · have : ¬ (a ≤ i ∧ i < a + b) := by omega
    have hw : w.getLsbD i = false := BitVec.getLsbD_of_ge w i (by omega)
    simp [h1, hw]
    omega

/-! ### the same, said of ints -/
def rightB (a b : Int) : Bool := decide (0 ≤ a) && decide (1 ≤ b) && decide (b ≤ 62) && decide (a ≤ 62 - b)
theorem rightB_true {a b : Int} : rightB a b = true ↔ 0 ≤ a ∧ 1 ≤ b ∧ a + b ≤ 62 := by
  simp [rightB]
  omega
theorem rightB_false {a b : Int} : rightB a b = false ↔ ¬ (0 ≤ a ∧ 1 ≤ b ∧ a + b ≤ 62) := by
  rw [← rightB_true]
  simp
def maxI (b : Int) : Int := (mxB b.toNat).toInt
def mskI (a b : Int) : Int := (mkB a.toNat b.toNat).toInt
def getI (w a b : Int) : Int := (gtB (B w) a.toNat b.toNat).toInt
def putI (w a b v : Int) : Int := (ptB (B w) a.toNat b.toNat (B v)).toInt
theorem pow_le_62 {n : Nat} (h : n ≤ 62) : (2 : Nat) ^ n ≤ 4611686018427387904 := by
  have := Nat.pow_le_pow_right (n := 2) (by omega) h
  simpa using this
theorem maxI_eq {b : Int} (h1 : 1 ≤ b) (h2 : b ≤ 62) : maxI b = ((2 ^ b.toNat - 1 : Nat) : Int) := by
  have h := pow_le_62 (n := b.toNat) (by omega)
  unfold maxI mxB
  have : 1 ≤ 2 ^ b.toNat := Nat.one_le_two_pow
  rw [BitVec.toInt_eq_toNat_of_lt, BitVec.toNat_ofNat, Nat.mod_eq_of_lt (by omega)]
  rw [BitVec.toNat_ofNat, Nat.mod_eq_of_lt (by omega)]
  omega
theorem max_walk {b : Int} (h1 : 1 ≤ b) (h2 : b ≤ 62) : wrap64 (wrap64 (2 ^ b.toNat) - 1) = maxI b := by
  rw [maxI_eq h1 h2]
  have h := pow_le_62 (n := b.toNat) (by omega)
  have : 1 ≤ 2 ^ b.toNat := Nat.one_le_two_pow
  have e : (2 : Int) ^ b.toNat = ((2 ^ b.toNat : Nat) : Int) := by simp
  rw [e]
  unfold wrap64
  omega
theorem msk_walk (a b : Int) : wrap64 (maxI b * 2 ^ a.toNat) = mskI a b := by
  rw [wrap64_B, shl_B, maxI, B_toInt]; rfl
theorem get_walk {w : Int} (a b : Int) (h1 : -9223372036854775808 ≤ w) (h2 : w ≤ 9223372036854775807) : bits .and .i64 (w / 2 ^ a.toNat) (maxI b) = getI w a b := by
  rw [and_B, shr_B _ h1 h2, B_toInt, maxI, B_toInt]; rfl
theorem put_walk (w a b v : Int) : bits .or .i64 (bits .andNot .i64 w (mskI a b)) (bits .and .i64 (wrap64 (v * 2 ^ a.toNat)) (mskI a b)) = putI w a b v := by
  rw [or_B, andNot_B, B_toInt, and_B, B_toInt, wrap64_B, B_toInt, shl_B, mskI, B_toInt]; rfl
theorem i64_wrap (x : Int) : IntKind.i64.wrap x = wrap64 x := by simp [IntKind.wrap_i64, wrap64]
theorem u64_wrap {a : Int} (h0 : 0 ≤ a) (h2 : a ≤ 62) : min (IntKind.u64.wrap a).toNat 64 = a.toNat := by
  rw [IntKind.wrap_u64]; omega
theorem msk_reg {a : Int} (b : Int) (h0 : 0 ≤ a) (h2 : a ≤ 62) : IntKind.i64.wrap (maxI b * 2 ^ min (IntKind.u64.wrap a).toNat 64) = mskI a b := by
  rw [u64_wrap h0 h2, i64_wrap, msk_walk]
theorem get_reg {w a : Int} (b : Int) (h0 : 0 ≤ a) (h2 : a ≤ 62) (h3 : -9223372036854775808 ≤ w) (h4 : w ≤ 9223372036854775807) :
    bits .and .i64 (w / 2 ^ min (IntKind.u64.wrap a).toNat 64) (maxI b) = getI w a b := by
  rw [u64_wrap h0 h2, get_walk _ _ h3 h4]
theorem put_reg {a : Int} (w b v : Int) (h0 : 0 ≤ a) (h2 : a ≤ 62) :
    bits .or .i64 (bits .andNot .i64 w (mskI a b)) (bits .and .i64 (IntKind.i64.wrap (v * 2 ^ min (IntKind.u64.wrap a).toNat 64)) (mskI a b)) = putI w a b v := by
  rw [u64_wrap h0 h2, i64_wrap, put_walk]
/-- the greatest number, the bits, of any field: a right one or not -/
def maxG (b : Int) : Int := wrap64 (wrap64 (2 ^ min (IntKind.u64.wrap b).toNat 64) - 1)
def mskG (a b : Int) : Int := IntKind.i64.wrap (maxG b * 2 ^ min (IntKind.u64.wrap a).toNat 64)
theorem maxG_eq {b : Int} (h1 : 1 ≤ b) (h2 : b ≤ 62) : maxG b = maxI b := by
  unfold maxG
  rw [u64_wrap (by omega) h2, max_walk h1 h2]
theorem mskG_eq {a b : Int} (h0 : 0 ≤ a) (h1 : 1 ≤ b) (h2 : a + b ≤ 62) : mskG a b = mskI a b := by
  unfold mskG
  rw [maxG_eq h1 (by omega), msk_reg b h0 (by omega)]
/-! ### bit by bit -/
def bitI (w i : Int) : Int := if (B w).getLsbD i.toNat then 1 else 0
theorem bitI_bd (w i : Int) : 0 ≤ bitI w i ∧ bitI w i ≤ 1 := by unfold bitI; split <;> omega
theorem u64_wrap_B (x : Int) : IntKind.u64.wrap x = ((B x).toNat : Int) := by
  rw [IntKind.wrap_u64, B, BitVec.toNat_ofInt]
  omega
theorem bit_walk {x i : Int} : wrap64 (bits .and .u64 (IntKind.u64.wrap x / 2 ^ min i.toNat 64) 1) = bitI x i := by
  have hx : (B x).toNat < 18446744073709551616 := (B x).isLt
  have e1 : IntKind.u64.wrap x / 2 ^ min i.toNat 64 = (((B x).toNat / 2 ^ min i.toNat 64 : Nat) : Int) := by
    rw [u64_wrap_B, Int.natCast_ediv]; simp
  have hd : (B x).toNat / 2 ^ min i.toNat 64 ≤ (B x).toNat := Nat.div_le_self _ _
  have e2 := u64_and_nat ((B x).toNat / 2 ^ min i.toNat 64) 1 (by omega) (by omega)
  have e3 : ((1 : Nat) : Int) = 1 := rfl
  rw [e3] at e2
  rw [e1, e2, Nat.and_one_is_mod]
  unfold bitI
  rw [← BitVec.testBit_toNat, Nat.testBit_eq_decide_div_mod_eq]
  by_cases hi : i.toNat < 64
  · rw [Nat.min_eq_left (by omega)]
    unfold wrap64
    split <;> simp_all <;> omega
  · rw [Nat.min_eq_right (by omega), Nat.div_eq_of_lt (by omega)]
    have : (B x).toNat / 2 ^ i.toNat = 0 := Nat.div_eq_of_lt (Nat.lt_of_lt_of_le hx (by have := Nat.pow_le_pow_right (n := 2) (by omega) (show 64 ≤ i.toNat by omega); simpa using this))
    rw [this]
    simp [wrap64]
theorem gt_toNat {W : BitVec 64} {a m : Nat} (h : a + m ≤ 64) : (gtB W a m).toNat = W.toNat / 2 ^ a % 2 ^ m := by
  apply Nat.eq_of_testBit_eq
  intro i
  rw [BitVec.testBit_toNat, gtB_bit h, Nat.testBit_mod_two_pow, Nat.testBit_div_two_pow, BitVec.testBit_toNat, Nat.add_comm]
theorem gt_step {W : BitVec 64} {a m : Nat} (h : a + m + 1 ≤ 64) : (gtB W a (m + 1)).toNat = 2 * (gtB W (a + 1) m).toNat + (if W.getLsbD a then 1 else 0) := by
  rw [gt_toNat (by omega), gt_toNat (by omega), Nat.pow_succ, Nat.mul_comm (2 ^ m) 2, Nat.mod_mul, Nat.pow_succ, ← Nat.div_div_eq_div_mul, ← BitVec.testBit_toNat, Nat.testBit_eq_decide_div_mod_eq]
  have := Nat.mod_two_eq_zero_or_one (W.toNat / 2 ^ a)
  rcases this with h | h <;> simp [h] <;> omega
theorem getI_toNat {w a b : Int} (h0 : 0 ≤ a) (h1 : 0 ≤ b) (h2 : a + b ≤ 62) : getI w a b = ((gtB (B w) a.toNat b.toNat).toNat : Int) ∧ 0 ≤ getI w a b ∧ getI w a b < 2 ^ b.toNat := by
  have e := gt_toNat (W := B w) (a := a.toNat) (m := b.toNat) (by omega)
  have h : (gtB (B w) a.toNat b.toNat).toNat < 2 ^ b.toNat := by rw [e]; exact Nat.mod_lt _ (Nat.two_pow_pos _)
  have h62 := pow_le_62 (n := b.toNat) (by omega)
  have e2 : getI w a b = ((gtB (B w) a.toNat b.toNat).toNat : Int) := BitVec.toInt_eq_toNat_of_lt (by omega)
  refine ⟨e2, by omega, ?_⟩
  rw [e2]
  have : (2 : Int) ^ b.toNat = ((2 ^ b.toNat : Nat) : Int) := by simp
  rw [this]
  omega
theorem getI_step {w a b : Int} (h0 : 0 ≤ a) (h1 : 0 ≤ b) (h2 : a + b ≤ 61) : getI w a (b + 1) = 2 * getI w (a + 1) b + bitI w a := by
  rw [(getI_toNat h0 (by omega) (by omega)).1, (getI_toNat (by omega) h1 (by omega)).1]
  have e1 : (b + 1).toNat = b.toNat + 1 := by omega
  have e2 : (a + 1).toNat = a.toNat + 1 := by omega
  rw [e1, e2, gt_step (by omega)]
  unfold bitI
  split <;> omega
theorem getI_zero (w a : Int) : getI w a 0 = 0 := by
  have h : gtB (B w) a.toNat 0 = 0 := by
    apply BitVec.eq_of_toNat_eq
    simp [gtB, mxB]
  show (gtB (B w) a.toNat 0).toInt = 0
  rw [h]; rfl
theorem getI_61 {w a b : Int} (h0 : 0 ≤ a) (h1 : 0 ≤ b) (h2 : a + b ≤ 62) (h3 : b ≤ 61) : 0 ≤ getI w a b ∧ getI w a b ≤ 2305843009213693951 := by
  obtain ⟨_, h4, h5⟩ := getI_toNat (w := w) h0 h1 h2
  have h6 := Nat.pow_le_pow_right (n := 2) (by omega) (show b.toNat ≤ 61 by omega)
  have : (2 : Int) ^ b.toNat = ((2 ^ b.toNat : Nat) : Int) := by simp
  rw [this] at h5
  exact ⟨h4, by omega⟩
theorem maxI_get {b a : Int} (h0 : 0 ≤ a) (h1 : 1 ≤ b) (h2 : a + b ≤ 62) : getI (-1) a b = maxI b := by
  unfold getI maxI
  congr 1
  apply BitVec.eq_of_getLsbD_eq
  intro i hi
  rw [gtB_bit (by omega), mxB_bit]
  have hb : B (-1) = BitVec.allOnes 64 := by decide
  rw [hb, BitVec.getLsbD_allOnes]
  by_cases h : i < b.toNat <;> simp [h] <;> omega
theorem pt_zero (w v : BitVec 64) (a : Nat) : ptB w a 0 v = w := by
  apply BitVec.eq_of_getLsbD_eq
  intro i hi
  have h : mkB a 0 = 0#64 := by
    apply BitVec.eq_of_getLsbD_eq
    intro j _
    rw [mkB_bit]
    simp
  rw [ptB, h, BitVec.getLsbD_or, BitVec.getLsbD_and, BitVec.getLsbD_and, BitVec.getLsbD_not, BitVec.getLsbD_zero]
  simp [hi]
theorem pt_step {w v : BitVec 64} {a m : Nat} (h : a + m + 1 ≤ 64) :
    ptB w a (m + 1) v = if (ptB w a m v).getLsbD (a + m) = v.getLsbD m then ptB w a m v else ptB w a m v ^^^ (1#64 <<< (a + m)) := by
  apply BitVec.eq_of_getLsbD_eq
  intro i hi
  have e0 : (ptB w a m v).getLsbD (a + m) = w.getLsbD (a + m) := by rw [ptB_bit (by omega), if_neg (by omega)]
  rw [e0]
  by_cases hv : w.getLsbD (a + m) = v.getLsbD m
  · rw [if_pos hv, ptB_bit (by omega), ptB_bit (by omega)]
    by_cases h1 : a ≤ i ∧ i < a + m
    · rw [if_pos (by omega), if_pos h1]
    · rw [if_neg h1]
      by_cases h2 : i = a + m
      · subst h2; rw [if_pos (by omega), hv]; congr 1; omega
      · rw [if_neg (by omega)]
  · rw [if_neg hv, BitVec.getLsbD_xor, ptB_bit (by omega), ptB_bit (by omega), BitVec.getLsbD_shiftLeft, BitVec.getLsbD_one]
    by_cases h1 : a ≤ i ∧ i < a + m
    · rw [if_pos (by omega), if_pos h1]
      have : i < a + m := h1.2
      simp [this]
    · rw [if_neg h1]
      by_cases h2 : i = a + m
      · subst h2; rw [if_pos (by omega)]
        have e : a + m - a = m := by omega
        rw [e]
        simp [hi]
        cases hw : w.getLsbD (a + m) <;> cases hv2 : v.getLsbD m <;> simp_all
      · rw [if_neg (by omega)]
        have : ¬ (i - (a + m) = 0) ∨ i < a + m := by omega
        rcases this with h3 | h3 <;> simp [h3]
theorem putI_zero {w a v : Int} (h1 : -9223372036854775808 ≤ w) (h2 : w ≤ 9223372036854775807) : putI w a 0 v = w := by
  show (ptB (B w) a.toNat 0 (B v)).toInt = w
  rw [pt_zero, toInt_B h1 h2]
theorem putI_same {w a m v : Int} (h0 : 0 ≤ a) (h1 : 0 ≤ m) (h2 : a + m ≤ 61) (h : bitI (putI w a m v) (a + m) = bitI v m) : putI w a (m + 1) v = putI w a m v := by
  unfold putI at *
  have e1 : (m + 1).toNat = m.toNat + 1 := by omega
  rw [e1, pt_step (by omega), if_pos]
  unfold bitI at h
  rw [B_toInt] at h
  have e2 : (a + m).toNat = a.toNat + m.toNat := by omega
  rw [e2] at h
  revert h
  cases (ptB (B w) a.toNat m.toNat (B v)).getLsbD (a.toNat + m.toNat) <;> cases (B v).getLsbD m.toNat <;> simp
theorem putI_turn {w a m v : Int} (h0 : 0 ≤ a) (h1 : 0 ≤ m) (h2 : a + m ≤ 61) (h : bitI (putI w a m v) (a + m) ≠ bitI v m) : bits .xor .i64 (putI w a m v) (wrap64 (2 ^ (a + m).toNat)) = putI w a (m + 1) v := by
  rw [xor_B, wrap64_B, B_toInt]
  unfold putI at *
  rw [B_toInt]
  have e1 : (m + 1).toNat = m.toNat + 1 := by omega
  have e2 : (a + m).toNat = a.toNat + m.toNat := by omega
  have e3 : B (2 ^ (a + m).toNat) = 1#64 <<< (a.toNat + m.toNat) := by
    have := shl_B 1 (a + m).toNat
    rw [Int.one_mul] at this
    rw [this, e2]; rfl
  rw [e1, pt_step (by omega), if_neg, e3]
  intro h'
  apply h
  unfold bitI
  rw [B_toInt, e2, h']
theorem getI_lo (w a b : Int) : -9223372036854775808 ≤ getI w a b := toInt_lo _
theorem getI_hi (w a b : Int) : getI w a b ≤ 9223372036854775807 := toInt_hi _
theorem putI_lo (w a b v : Int) : -9223372036854775808 ≤ putI w a b v := toInt_lo _
theorem putI_hi (w a b v : Int) : putI w a b v ≤ 9223372036854775807 := toInt_hi _
theorem maxI_lo (b : Int) : -9223372036854775808 ≤ maxI b := toInt_lo _
theorem maxI_hi (b : Int) : maxI b ≤ 9223372036854775807 := toInt_hi _
end Go.Proofs.Ytalmadeibnekoaa
