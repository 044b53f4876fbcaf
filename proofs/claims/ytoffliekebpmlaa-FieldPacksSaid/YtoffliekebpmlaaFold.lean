/- Plain facts on words packed of numbers in fields that are apart: bit by bit, as a sum, in whatever order. Nothing of the program is named here. -/
import Derived.Test.YtoffliekebpmlaaPack
import Derived.Test.YtoffliekebpmlaaBits
namespace Go.Proofs.Ytoffliekebpmlaa
open Go.RowKit

def NotOver (f g : Int × Int) : Prop := ¬ Over f.1 f.2 g.1 g.2
theorem apartB_iff {fs : List (Int × Int)} : apartB fs = true ↔ (∀ f ∈ fs, rightB f.1 f.2 = true) ∧ fs.Pairwise NotOver := by
  rw [apartB, Bool.and_eq_true, rightsB, List.all_eq_true, decide_eq_true_eq]
  refine and_congr_right fun hr => ?_
  rw [List.pairwise_iff_getElem, List.pairwise_iff_getElem]
  have key : ∀ (i j : Nat) (hi : i < fs.length) (hj : j < fs.length), clashB (fs[i], fs[j]) = false ↔ NotOver fs[i] fs[j] := by
    intro i j hi hj
    have h1 := rightB_true.1 (hr fs[i] (List.getElem_mem hi))
    have h2 := rightB_true.1 (hr fs[j] (List.getElem_mem hj))
    have h3 := clash_iff (b := fs[i].2) (d := fs[j].2) h1.1 h1.2.2 h2.1 h2.2.2
    unfold NotOver
    rw [← h3, ← mskG_eq h1.1 h1.2.1 h1.2.2, ← mskG_eq h2.1 h2.2.1 h2.2.2]
    simp [clashB]
  exact ⟨fun h i j hi hj hij => (key i j hi hj).1 (h i j hi hj hij), fun h i j hi hj hij => (key i j hi hj).2 (h i j hi hj hij)⟩

/-- numbers in fields that are right, and apart -/
structure Good (ps : List Pt) : Prop where
  right : ∀ p ∈ ps, 0 ≤ p.1.1 ∧ 1 ≤ p.1.2 ∧ p.1.1 + p.1.2 ≤ 62
  apart : ps.Pairwise fun p q => NotOver p.1 q.1
theorem good_zip {fs : List (Int × Int)} (vs : List Int) (h : apartB fs = true) : Good (fs.zip vs) := by
  rw [apartB_iff] at h
  refine ⟨fun p hp => rightB_true.1 (h.1 p.1 (List.of_mem_zip hp).1), ?_⟩
  rw [List.pairwise_iff_getElem]
  intro i j hi hj hij
  simp only [List.length_zip] at hi hj
  rw [List.getElem_zip, List.getElem_zip]
  exact List.pairwise_iff_getElem.1 h.2 i j (by omega) (by omega) hij
theorem Good.take {ps : List Pt} (h : Good ps) (k : Nat) : Good (ps.take k) := ⟨fun p hp => h.right p (List.mem_of_mem_take hp), h.apart.sublist (List.take_sublist k ps)⟩
theorem Good.left {ps qs : List Pt} (h : Good (ps ++ qs)) : Good ps := ⟨fun p hp => h.right p (List.mem_append.2 (.inl hp)), (List.pairwise_append.1 h.apart).1⟩
def InF (p : Pt) (i : Nat) : Prop := p.1.1.toNat ≤ i ∧ i < p.1.1.toNat + p.1.2.toNat
theorem inF_over {p q : Pt} {i : Nat} (h1 : InF p i) (h2 : InF q i) : ¬ NotOver p.1 q.1 := fun h => h ⟨i, h1.1, h1.2, h2.1, h2.2⟩
theorem Good.one {ps : List Pt} (h : Good ps) {p q : Pt} {i : Nat} (hp : p ∈ ps) (hq : q ∈ ps) (h1 : InF p i) (h2 : InF q i) : p = q := by
  obtain ⟨j, hj, rfl⟩ := List.mem_iff_getElem.1 hp
  obtain ⟨k, hk, rfl⟩ := List.mem_iff_getElem.1 hq
  have hpw := List.pairwise_iff_getElem.1 h.apart
  rcases Nat.lt_trichotomy j k with hjk | hjk | hjk
  · exact absurd (hpw j k hj hk hjk) (inF_over h1 h2)
  · subst hjk; rfl
  · exact absurd (hpw k j hk hj hjk) (inF_over h2 h1)
theorem B_put (w a b v : Int) : B (putI w a b v) = ptB (B w) a.toNat b.toNat (B v) := B_toInt _
theorem fold_bit : ∀ (n : Nat) (ps : List Pt), ps.length = n → Good ps → ∀ i, (B (foldP ps)).getLsbD i = true ↔ ∃ p ∈ ps, InF p i ∧ (B p.2).getLsbD (i - p.1.1.toNat) = true := by
  intro n
  induction n with
  | zero =>
    intro ps hl _ i
    obtain rfl := List.eq_nil_of_length_eq_zero hl
    have h0 : B (foldP []) = 0#64 := rfl
    rw [h0]
    simp
  | succ n ih =>
    intro ps hl hg i
    rcases List.eq_nil_or_concat ps with rfl | ⟨qs, p, rfl⟩
    · simp at hl
    · rw [List.concat_eq_append] at hg hl ⊢
      have hp := hg.right p (by simp)
      have ih' := ih qs (by simpa using hl) hg.left i
      rw [foldP_snoc, B_put, ptB_bit (by omega)]
      by_cases hi : InF p i
      · rw [if_pos (show p.1.1.toNat ≤ i ∧ i < p.1.1.toNat + p.1.2.toNat from hi)]
        constructor
        · intro h
          exact ⟨p, by simp, hi, h⟩
        · rintro ⟨q, hq, h1, h2⟩
          obtain rfl := hg.one hq (by simp) h1 hi
          exact h2
      · rw [if_neg (show ¬ (p.1.1.toNat ≤ i ∧ i < p.1.1.toNat + p.1.2.toNat) from hi), ih']
        constructor
        · rintro ⟨q, hq, h1, h2⟩
          exact ⟨q, by simp [hq], h1, h2⟩
        · rintro ⟨q, hq, h1, h2⟩
          rcases List.mem_append.1 hq with hq | hq
          · exact ⟨q, hq, h1, h2⟩
          · obtain rfl : q = p := by simpa using hq
            exact absurd h1 hi
theorem Good.bit {ps : List Pt} (h : Good ps) (i : Nat) : (B (foldP ps)).getLsbD i = true ↔ ∃ p ∈ ps, InF p i ∧ (B p.2).getLsbD (i - p.1.1.toNat) = true := fold_bit _ ps rfl h i
theorem fold_B (ps : List Pt) : (B (foldP ps)).toInt = foldP ps := toInt_B (foldP_bd ps).1 (foldP_bd ps).2
/-- in whatever order -/
theorem Good.same {ps qs : List Pt} (h : Good ps) (h2 : Good qs) (hm : ∀ p, p ∈ ps ↔ p ∈ qs) : foldP ps = foldP qs := by
  have h3 : (B (foldP ps)).toInt = (B (foldP qs)).toInt := B_eq fun i _ => by
    rw [Bool.eq_iff_iff, h.bit, h2.bit]
    exact ⟨fun ⟨p, hp, h3⟩ => ⟨p, (hm p).1 hp, h3⟩, fun ⟨p, hp, h3⟩ => ⟨p, (hm p).2 hp, h3⟩⟩
  rw [fold_B, fold_B] at h3
  exact h3
theorem Good.nat {ps : List Pt} (h : Good ps) : foldP ps = ((B (foldP ps)).toNat : Int) ∧ (B (foldP ps)).toNat < 4611686018427387904 := by
  have hlt : (B (foldP ps)).toNat < 2 ^ 62 := by
    refine Nat.lt_pow_two_of_testBit _ fun i hi => ?_
    rw [BitVec.testBit_toNat]
    cases hb : (B (foldP ps)).getLsbD i with
    | false => rfl
    | true =>
      obtain ⟨p, hp, h1, _⟩ := (h.bit i).1 hb
      have := h.right p hp
      have := h1.2
      omega
  refine ⟨?_, by simpa using hlt⟩
  conv => lhs; rw [← fold_B]
  exact BitVec.toInt_eq_toNat_of_lt (by omega)
theorem okP_bd {p : Pt} (h : okP p = true) : 0 ≤ p.2 ∧ p.2 ≤ maxI p.1.2 := by
  simpa [okP] using h
/-- a number that a field holds has its bits below the field's width -/
theorem hold_bit {b v : Int} (h1 : 1 ≤ b) (h2 : b ≤ 62) (h3 : 0 ≤ v) (h4 : v ≤ maxI b) : (B v).toNat = v.toNat ∧ v.toNat < 2 ^ b.toNat ∧ ∀ i, b.toNat ≤ i → (B v).getLsbD i = false := by
  rw [maxI_eq h1 h2] at h4
  have hp := pow_le_62 (n := b.toNat) (by omega)
  have h5 : 1 ≤ 2 ^ b.toNat := Nat.one_le_two_pow
  have hv : (B v).toNat = v.toNat := by
    rw [B, BitVec.toNat_ofInt]; omega
  refine ⟨hv, by omega, fun i hi => ?_⟩
  rw [← BitVec.testBit_toNat, hv]
  exact Nat.testBit_lt_two_pow (Nat.lt_of_lt_of_le (show v.toNat < 2 ^ b.toNat by omega) (Nat.pow_le_pow_right (by omega) hi))
/-- what is packed is got -/
theorem Good.got {ps : List Pt} (h : Good ps) {p : Pt} (hp : p ∈ ps) (ho : okP p = true) : getI (foldP ps) p.1.1 p.1.2 = p.2 := by
  have hr := h.right p hp
  have hb := okP_bd ho
  obtain ⟨e1, e2, e3⟩ := hold_bit (b := p.1.2) (v := p.2) hr.2.1 (by omega) hb.1 hb.2
  have hm : maxI p.1.2 ≤ 9223372036854775807 := maxI_hi _
  have e4 : p.2 = (B p.2).toInt := (toInt_B (by omega) (by omega)).symm
  conv => rhs; rw [e4]
  unfold getI
  refine B_eq fun i hi => ?_
  rw [gtB_bit (by omega)]
  by_cases hib : i < p.1.2.toNat
  · rw [decide_eq_true hib, Bool.true_and, Bool.eq_iff_iff, h.bit]
    have hin : InF p (p.1.1.toNat + i) := ⟨by omega, by omega⟩
    have hs : p.1.1.toNat + i - p.1.1.toNat = i := by omega
    constructor
    · rintro ⟨q, hq, h1, h2⟩
      obtain rfl := h.one hq hp h1 hin
      rwa [hs] at h2
    · intro h2
      exact ⟨p, hp, hin, by rwa [hs]⟩
  · rw [decide_eq_false hib, Bool.false_and, e3 i (by omega)]
/-- one more number is added -/
theorem Good.add {ps : List Pt} {p : Pt} (h : Good (ps ++ [p])) (ho : okP p = true) : foldP (ps ++ [p]) = foldP ps + p.2 * 2 ^ p.1.1.toNat ∧ 0 ≤ foldP ps ∧ foldP ps < 4611686018427387904 ∧ 0 ≤ p.2 * 2 ^ p.1.1.toNat ∧ p.2 * 2 ^ p.1.1.toNat < 4611686018427387904 := by
  have hr := h.right p (by simp)
  have hb := okP_bd ho
  obtain ⟨e1, e2, e3⟩ := hold_bit (b := p.1.2) (v := p.2) hr.2.1 (by omega) hb.1 hb.2
  have hpl := h.left
  obtain ⟨n1, n2⟩ := hpl.nat
  obtain ⟨n3, n4⟩ := h.nat
  have hsh : p.2.toNat * 2 ^ p.1.1.toNat < 2 ^ 62 := by
    have h1 : p.2.toNat * 2 ^ p.1.1.toNat < 2 ^ p.1.2.toNat * 2 ^ p.1.1.toNat := (Nat.mul_lt_mul_right (Nat.two_pow_pos _)).2 e2
    rw [← Nat.pow_add] at h1
    exact Nat.lt_of_lt_of_le h1 (Nat.pow_le_pow_right (by omega) (by omega))
  have hV : (B p.2 <<< p.1.1.toNat).toNat = p.2.toNat * 2 ^ p.1.1.toNat := by
    rw [BitVec.toNat_shiftLeft, e1, Nat.shiftLeft_eq, Nat.mod_eq_of_lt (by omega)]
  have hor : B (foldP (ps ++ [p])) = B (foldP ps) ||| (B p.2 <<< p.1.1.toNat) := by
    apply BitVec.eq_of_getLsbD_eq
    intro i hi
    rw [foldP_snoc, B_put, ptB_bit (by omega), BitVec.getLsbD_or, BitVec.getLsbD_shiftLeft]
    by_cases hin : InF p i
    · rw [if_pos (show p.1.1.toNat ≤ i ∧ i < p.1.1.toNat + p.1.2.toNat from hin)]
      have h0 : (B (foldP ps)).getLsbD i = false := by
        cases hq : (B (foldP ps)).getLsbD i with
        | false => rfl
        | true =>
          obtain ⟨q, hq, h1, _⟩ := (hpl.bit i).1 hq
          exact absurd ((List.pairwise_append.1 h.apart).2.2 q hq p (by simp)) (inF_over h1 hin)
      have h1 : ¬ i < p.1.1.toNat := by have := hin.1; omega
      rw [h0]
      simp [hi, h1]
    · rw [if_neg (show ¬ (p.1.1.toNat ≤ i ∧ i < p.1.1.toNat + p.1.2.toNat) from hin)]
      by_cases h1 : i < p.1.1.toNat
      · simp [h1]
      · have h2 : (B p.2).getLsbD (i - p.1.1.toNat) = false := e3 _ (by unfold InF at hin; omega)
        simp [h2]
  have hand : B (foldP ps) &&& (B p.2 <<< p.1.1.toNat) = 0#64 := by
    apply BitVec.eq_of_getLsbD_eq
    intro i hi
    rw [BitVec.getLsbD_and, BitVec.getLsbD_shiftLeft, BitVec.getLsbD_zero]
    cases hq : (B (foldP ps)).getLsbD i with
    | false => simp
    | true =>
      obtain ⟨q, hq, h1, _⟩ := (hpl.bit i).1 hq
      have hno := (List.pairwise_append.1 h.apart).2.2 q hq p (by simp)
      by_cases hin : InF p i
      · exact absurd hno (inF_over h1 hin)
      · by_cases h1 : i < p.1.1.toNat
        · simp [h1]
        · have h2 : (B p.2).getLsbD (i - p.1.1.toNat) = false := e3 _ (by unfold InF at hin; omega)
          simp [h2]
  have hadd : (B (foldP (ps ++ [p]))).toNat = (B (foldP ps)).toNat + p.2.toNat * 2 ^ p.1.1.toNat := by
    rw [hor, ← BitVec.add_eq_or_of_and_eq_zero _ _ hand, BitVec.toNat_add, hV, Nat.mod_eq_of_lt (by omega)]
  have hc : p.2 * 2 ^ p.1.1.toNat = ((p.2.toNat * 2 ^ p.1.1.toNat : Nat) : Int) := by
    rw [Int.natCast_mul, Int.toNat_of_nonneg hb.1]; simp
  rw [hc, n3, n1, hadd]
  refine ⟨by omega, by omega, by omega, by omega, by omega⟩
end Go.Proofs.Ytoffliekebpmlaa
