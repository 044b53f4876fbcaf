/- What the words of slots are, as sums: nothing of the program's memory is named here. -/
import Derived.Test.YtalmadeibnekoaaRead
namespace Go.Proofs.Ytalmadeibnekoaa
open Go.RowKit

theorem pow_int (n : Nat) : (2 : Int) ^ n = ((2 ^ n : Nat) : Int) := by simp
/-- what stands in a field, as a quotient's rest -/
theorem getI_div {x a b : Int} (h0 : 0 ≤ a) (h1 : 0 ≤ b) (h2 : a + b ≤ 62) (h3 : -9223372036854775808 ≤ x) (h4 : x ≤ 9223372036854775807) :
    getI x a b = x / 2 ^ a.toNat % 2 ^ b.toNat := by
  obtain ⟨e, _, _⟩ := getI_toNat (w := x) h0 h1 h2
  rw [e, gt_toNat (by omega)]
  have hx : ((B x).toNat : Int) = x % 18446744073709551616 := by
    unfold B
    rw [BitVec.toNat_ofInt]
    omega
  rw [pow_int, pow_int, Int.natCast_emod, Int.natCast_ediv, hx]
  by_cases hn : 0 ≤ x
  · rw [Int.emod_eq_of_lt hn (by omega)]
  · have e1 : x % 18446744073709551616 = x + 2 ^ (64 - a.toNat) * 2 ^ a.toNat := by
      rw [← Int.pow_add, show 64 - a.toNat + a.toNat = 64 from by omega]
      omega
    have hp : ((2 ^ a.toNat : Nat) : Int) ≠ 0 := by have := Nat.two_pow_pos a.toNat; omega
    rw [e1, pow_int a.toNat, Int.add_mul_ediv_right _ _ hp]
    have e2 : (2 : Int) ^ (64 - a.toNat) = 2 ^ (64 - a.toNat - b.toNat) * ((2 ^ b.toNat : Nat) : Int) := by
      rw [← pow_int, ← Int.pow_add, show 64 - a.toNat - b.toNat + b.toNat = 64 - a.toNat from by omega]
    rw [e2, Int.add_mul_emod_self_right]
theorem pt_toNat {W V : BitVec 64} {a m : Nat} (h : a + m ≤ 62) (hw : W.toNat < 2 ^ a) : (ptB W a m V).toNat = 2 ^ a * (V.toNat % 2 ^ m) + W.toNat := by
  apply Nat.eq_of_testBit_eq
  intro i
  rw [BitVec.testBit_toNat, ptB_bit (by omega), Nat.testBit_two_pow_mul_add _ hw, Nat.testBit_mod_two_pow, BitVec.testBit_toNat, BitVec.testBit_toNat]
  by_cases h1 : i < a
  · rw [if_neg (by omega), if_pos h1]
  · rw [if_neg h1]
    by_cases h2 : i < a + m
    · rw [if_pos (by omega)]
      have : i - a < m := by omega
      simp [this]
    · rw [if_neg (by omega)]
      have : ¬ i - a < m := by omega
      simp [this]
      rw [← BitVec.testBit_toNat]
      exact Nat.testBit_lt_two_pow (Nat.lt_of_lt_of_le hw (Nat.pow_le_pow_right (by omega) (by omega)))
/-- what is put above all that stands there is added -/
theorem putI_add {w a b v p m : Int} (h0 : 0 ≤ a) (h1 : 0 ≤ b) (h2 : a + b ≤ 62) (hp : (2 : Int) ^ a.toNat = p) (hm : (2 : Int) ^ b.toNat = m) (h3 : 0 ≤ w) (h4 : w < p) :
    putI w a b v = w + v % m * p ∧ 0 ≤ w + v % m * p ∧ w + v % m * p < p * m := by
  have hp' : p = ((2 ^ a.toNat : Nat) : Int) := by rw [← hp, pow_int]
  have hm' : m = ((2 ^ b.toNat : Nat) : Int) := by rw [← hm, pow_int]
  have hm0 : 0 < m := by have := Nat.two_pow_pos b.toNat; omega
  have hp0 : 0 < p := by have := Nat.two_pow_pos a.toNat; omega
  have r1 := Int.emod_nonneg v (show m ≠ 0 by omega)
  have r2 := Int.emod_lt_of_pos v hm0
  have b1 : 0 ≤ v % m * p := Int.mul_nonneg r1 (by omega)
  have b2 : v % m * p ≤ (m - 1) * p := Int.mul_le_mul_of_nonneg_right (by omega) (by omega)
  have b3 : (m - 1) * p = p * m - p := by rw [Int.sub_mul, Int.mul_comm m p]; omega
  have hpm : p * m ≤ 4611686018427387904 := by
    rw [hp', hm', ← Int.natCast_mul, ← Nat.pow_add]
    have := pow_le_62 (n := a.toNat + b.toNat) (by omega)
    omega
  refine ⟨?_, by omega, by omega⟩
  have hle : p ≤ 4611686018427387904 := by
    have := pow_le_62 (n := a.toNat) (by omega)
    omega
  have eW : (B w).toNat = w.toNat := by unfold B; rw [BitVec.toNat_ofInt]; omega
  have eV : (((B v).toNat % 2 ^ b.toNat : Nat) : Int) = v % m := by
    unfold B
    rw [BitVec.toNat_ofInt, Int.natCast_emod, ← hm']
    have e4 : ((2 ^ 64 : Nat) : Int) = 2 ^ (64 - b.toNat) * m := by
      rw [← hm, ← Int.pow_add, show 64 - b.toNat + b.toNat = 64 from by omega]; rfl
    have e3 : (((v % ((2 ^ 64 : Nat) : Int)).toNat : Nat) : Int) = v % ((2 ^ 64 : Nat) : Int) := by omega
    rw [e3, e4, Int.emod_emod_of_dvd v (Int.dvd_mul_left _ _)]
  have e := pt_toNat (W := B w) (V := B v) (a := a.toNat) (m := b.toNat) (by omega) (by rw [eW]; omega)
  have e2 : ((ptB (B w) a.toNat b.toNat (B v)).toNat : Int) = w + v % m * p := by
    rw [e, Int.natCast_add, Int.natCast_mul, eV, eW, ← hp', Int.mul_comm p]
    omega
  show (ptB (B w) a.toNat b.toNat (B v)).toInt = _
  rw [BitVec.toInt_eq_toNat_of_lt (by omega), e2]

/-- the part of a number that the word takes -/
def dg (c st m v : Int) : Int := if hasB c st = true then v % m else 0
theorem dg_bd (c st v : Int) {m : Int} (h : 0 < m) : 0 ≤ dg c st m v ∧ dg c st m v < m := by
  unfold dg
  split
  · exact ⟨Int.emod_nonneg v (by omega), Int.emod_lt_of_pos v h⟩
  · omega
theorem wk_step (s : Sl) {k : Nat} {p m : Int} (h0 : 0 ≤ pa k) (h1 : 0 ≤ pb k) (h2 : pa k + pb k ≤ 62) (hp : (2 : Int) ^ (pa k).toNat = p) (hm : (2 : Int) ^ (pb k).toNat = m) (h3 : 0 ≤ wk s k) (h4 : wk s k < p) :
    wk s (k + 1) = wk s k + dg (pc k) s.st m (nm s k) * p ∧ 0 ≤ wk s (k + 1) ∧ wk s (k + 1) < p * m := by
  obtain ⟨e, b1, b2⟩ := putI_add (v := nm s k) h0 h1 h2 hp hm h3 h4
  have hm0 : 0 < m := by
    rw [← hm, pow_int]
    have := Nat.two_pow_pos (pb k).toNat
    omega
  have hpm : p ≤ p * m := by
    have := Int.mul_le_mul_of_nonneg_left (show (1 : Int) ≤ m by omega) (show 0 ≤ p by omega)
    omega
  unfold dg
  by_cases h : hasB (pc k) s.st = true
  · rw [wk_has h, if_pos h, e]
    exact ⟨rfl, b1, b2⟩
  · rw [wk_not (by simpa using h), if_neg h]
    refine ⟨by omega, h3, by omega⟩
theorem wk_sum (s : Sl) : wk s 9 = dg 127 s.st 8 (s.st) * 1 + dg 62 s.st 16 (s.ow) * 8 + dg 8 s.st 256 (s.sr) * 128 + dg 28 s.st 2 (b2i s.br) * 32768 + dg 4 s.st 2 (b2i s.ma) * 65536 + dg 28 s.st 64 (s.us) * 131072 + dg 127 s.st 4096 (s.ge) * 8388608 + dg 64 s.st 4096 (s.ep) * 34359738368 + dg 127 s.st 32768 (s.ve) * 140737488355328 := by
  have z0 : wk s 0 = 0 := rfl
  have x0 : 0 ≤ wk s 0 ∧ wk s 0 < 1 := by rw [z0]; omega
  obtain ⟨e0, x1⟩ : wk s 1 = wk s 0 + dg 127 s.st 8 (s.st) * 1 ∧ 0 ≤ wk s 1 ∧ wk s 1 < 8 := wk_step s (k := 0) (p := 1) (m := 8) (by decide) (by decide) (by decide) (by decide) (by decide) x0.1 x0.2
  obtain ⟨e1, x2⟩ : wk s 2 = wk s 1 + dg 62 s.st 16 (s.ow) * 8 ∧ 0 ≤ wk s 2 ∧ wk s 2 < 128 := wk_step s (k := 1) (p := 8) (m := 16) (by decide) (by decide) (by decide) (by decide) (by decide) x1.1 x1.2
  obtain ⟨e2, x3⟩ : wk s 3 = wk s 2 + dg 8 s.st 256 (s.sr) * 128 ∧ 0 ≤ wk s 3 ∧ wk s 3 < 32768 := wk_step s (k := 2) (p := 128) (m := 256) (by decide) (by decide) (by decide) (by decide) (by decide) x2.1 x2.2
  obtain ⟨e3, x4⟩ : wk s 4 = wk s 3 + dg 28 s.st 2 (b2i s.br) * 32768 ∧ 0 ≤ wk s 4 ∧ wk s 4 < 65536 := wk_step s (k := 3) (p := 32768) (m := 2) (by decide) (by decide) (by decide) (by decide) (by decide) x3.1 x3.2
  obtain ⟨e4, x5⟩ : wk s 5 = wk s 4 + dg 4 s.st 2 (b2i s.ma) * 65536 ∧ 0 ≤ wk s 5 ∧ wk s 5 < 131072 := wk_step s (k := 4) (p := 65536) (m := 2) (by decide) (by decide) (by decide) (by decide) (by decide) x4.1 x4.2
  obtain ⟨e5, x6⟩ : wk s 6 = wk s 5 + dg 28 s.st 64 (s.us) * 131072 ∧ 0 ≤ wk s 6 ∧ wk s 6 < 8388608 := wk_step s (k := 5) (p := 131072) (m := 64) (by decide) (by decide) (by decide) (by decide) (by decide) x5.1 x5.2
  obtain ⟨e6, x7⟩ : wk s 7 = wk s 6 + dg 127 s.st 4096 (s.ge) * 8388608 ∧ 0 ≤ wk s 7 ∧ wk s 7 < 34359738368 := wk_step s (k := 6) (p := 8388608) (m := 4096) (by decide) (by decide) (by decide) (by decide) (by decide) x6.1 x6.2
  obtain ⟨e7, x8⟩ : wk s 8 = wk s 7 + dg 64 s.st 4096 (s.ep) * 34359738368 ∧ 0 ≤ wk s 8 ∧ wk s 8 < 140737488355328 := wk_step s (k := 7) (p := 34359738368) (m := 4096) (by decide) (by decide) (by decide) (by decide) (by decide) x7.1 x7.2
  obtain ⟨e8, x9⟩ : wk s 9 = wk s 8 + dg 127 s.st 32768 (s.ve) * 140737488355328 ∧ 0 ≤ wk s 9 ∧ wk s 9 < 4611686018427387904 := wk_step s (k := 8) (p := 140737488355328) (m := 32768) (by decide) (by decide) (by decide) (by decide) (by decide) x8.1 x8.2
  omega
theorem rd_0 {x : Int} (h3 : -9223372036854775808 ≤ x) (h4 : x ≤ 9223372036854775807) : rd x 0 = x / 1 % 8 := by
  have := getI_div (x := x) (a := 0) (b := 3) (by omega) (by omega) (by omega) h3 h4
  exact this
theorem rd_1 {x : Int} (h3 : -9223372036854775808 ≤ x) (h4 : x ≤ 9223372036854775807) : rd x 1 = x / 8 % 16 := by
  have := getI_div (x := x) (a := 3) (b := 4) (by omega) (by omega) (by omega) h3 h4
  exact this
theorem rd_2 {x : Int} (h3 : -9223372036854775808 ≤ x) (h4 : x ≤ 9223372036854775807) : rd x 2 = x / 128 % 256 := by
  have := getI_div (x := x) (a := 7) (b := 8) (by omega) (by omega) (by omega) h3 h4
  exact this
theorem rd_3 {x : Int} (h3 : -9223372036854775808 ≤ x) (h4 : x ≤ 9223372036854775807) : rd x 3 = x / 32768 % 2 := by
  have := getI_div (x := x) (a := 15) (b := 1) (by omega) (by omega) (by omega) h3 h4
  exact this
theorem rd_4 {x : Int} (h3 : -9223372036854775808 ≤ x) (h4 : x ≤ 9223372036854775807) : rd x 4 = x / 65536 % 2 := by
  have := getI_div (x := x) (a := 16) (b := 1) (by omega) (by omega) (by omega) h3 h4
  exact this
theorem rd_5 {x : Int} (h3 : -9223372036854775808 ≤ x) (h4 : x ≤ 9223372036854775807) : rd x 5 = x / 131072 % 64 := by
  have := getI_div (x := x) (a := 17) (b := 6) (by omega) (by omega) (by omega) h3 h4
  exact this
theorem rd_6 {x : Int} (h3 : -9223372036854775808 ≤ x) (h4 : x ≤ 9223372036854775807) : rd x 6 = x / 8388608 % 4096 := by
  have := getI_div (x := x) (a := 23) (b := 12) (by omega) (by omega) (by omega) h3 h4
  exact this
theorem rd_7 {x : Int} (h3 : -9223372036854775808 ≤ x) (h4 : x ≤ 9223372036854775807) : rd x 7 = x / 34359738368 % 4096 := by
  have := getI_div (x := x) (a := 35) (b := 12) (by omega) (by omega) (by omega) h3 h4
  exact this
theorem rd_8 {x : Int} (h3 : -9223372036854775808 ≤ x) (h4 : x ≤ 9223372036854775807) : rd x 8 = x / 140737488355328 % 32768 := by
  have := getI_div (x := x) (a := 47) (b := 15) (by omega) (by omega) (by omega) h3 h4
  exact this
end Go.Proofs.Ytalmadeibnekoaa
