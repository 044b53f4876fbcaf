/- Plain facts on lines of numbers and their words: digits of 16, told again; nothing of the program is named here. -/
import Derived.Test.YtgeddciipcbepaaSeq
namespace Go.Proofs.Ytgeddciipcbepaa
open Go.RowKit

/-- who stands at which digit, up to n digits, till one is 0 -/
def dl : Nat → Int → List Int
  | 0, _ => []
  | n + 1, q => if q % 16 = 0 then [] else (q % 16 - 1) :: dl n (q / 16)
/-- who stands there, by any word -/
def lst (q : Int) : List Int := dl 15 q
/-- the word of a line -/
def wd : List Int → Int
  | [] => 0
  | x :: t => x + 1 + 16 * wd t
structure Ok (l : List Int) : Prop where
  rng : ∀ x ∈ l, 0 ≤ x ∧ x ≤ 14
  nd : l.Nodup
  len : l.length ≤ 15
/-- a word is a line's -/
def Rt (q : Int) : Prop := Ok (lst q) ∧ wd (lst q) = q
/-- how much stands ahead of place k -/
def p16 (k : Nat) : Int := 16 ^ k
theorem p16_zero : p16 0 = 1 := rfl
theorem p16_succ (k : Nat) : p16 (k + 1) = 16 * p16 k := by unfold p16; rw [Int.pow_succ, Int.mul_comm]
theorem p16_pos (k : Nat) : 0 < p16 k := by
  induction k with
  | zero => decide
  | succ k ih => rw [p16_succ]; omega
theorem p16_le {k m : Nat} (h : k ≤ m) : p16 k ≤ p16 m := by
  induction m with
  | zero => obtain rfl : k = 0 := by omega
            exact Int.le_refl _
  | succ m ih =>
    by_cases e : k ≤ m
    · have := ih e
      have := p16_pos m
      rw [p16_succ]; omega
    · obtain rfl : k = m + 1 := by omega
      exact Int.le_refl _
theorem p16_15 : p16 15 = 1152921504606846976 := by decide

theorem dl_len (n : Nat) (q : Int) : (dl n q).length ≤ n := by
  induction n generalizing q with
  | zero => simp [dl]
  | succ n ih =>
    simp only [dl]
    split
    · simp
    · have := ih (q / 16); simp; omega
theorem lst_len (q : Int) : (lst q).length ≤ 15 := dl_len 15 q
theorem dl_rng (n : Nat) (q : Int) : ∀ x ∈ dl n q, 0 ≤ x ∧ x ≤ 14 := by
  induction n generalizing q with
  | zero => simp [dl]
  | succ n ih =>
    simp only [dl]
    split
    · simp
    · intro x hx
      rcases List.mem_cons.1 hx with rfl | hx
      · omega
      · exact ih _ x hx
/-- a digit of a word -/
def dg (q : Int) (k : Nat) : Int := q / p16 k % 16
theorem dg_zero (q : Int) : dg q 0 = q % 16 := by rw [dg, p16_zero, Int.ediv_one]
theorem dg_succ (q : Int) (k : Nat) : dg q (k + 1) = dg (q / 16) k := by
  rw [dg, dg, p16_succ, Int.mul_comm, Int.mul_comm, ← Int.ediv_ediv_of_nonneg (by omega)]
theorem dl_end {n : Nat} {q : Int} {k : Nat} (hk : k ≤ (dl n q).length) (h : dg q k = 0) : (dl n q).length = k := by
  induction n generalizing q k with
  | zero => simp [dl] at hk ⊢; omega
  | succ n ih =>
    simp only [dl] at hk ⊢
    split at hk
    · rename_i e
      rw [if_pos e]
      simp at hk ⊢; omega
    · rename_i e
      rw [if_neg e]
      cases k with
      | zero => rw [dg_zero] at h; exact absurd h e
      | succ k =>
        rw [dg_succ] at h
        simp only [List.length_cons] at hk ⊢
        rw [ih (by omega) h]
theorem dl_at {n : Nat} {q : Int} {k : Nat} (hk : k ≤ (dl n q).length) (hn : k < n) (h : dg q k ≠ 0) : (dl n q)[k]? = some (dg q k - 1) := by
  induction n generalizing q k with
  | zero => omega
  | succ n ih =>
    simp only [dl] at hk ⊢
    split at hk
    · rename_i e
      obtain rfl : k = 0 := by simpa using hk
      rw [dg_zero] at h
      exact absurd e h
    · rename_i e
      rw [if_neg e]
      cases k with
      | zero => simp [dg_zero]
      | succ k =>
        rw [dg_succ] at h ⊢
        simp only [List.length_cons, List.getElem?_cons_succ] at hk ⊢
        exact ih (by omega) (by omega) h
theorem lst_end {q : Int} {k : Nat} (hk : k ≤ (lst q).length) (h : dg q k = 0) : (lst q).length = k := dl_end hk h
theorem lst_at {q : Int} {k : Nat} (hk : k ≤ (lst q).length) (hn : k < 15) (h : dg q k ≠ 0) : (lst q)[k]? = some (dg q k - 1) := dl_at hk hn h

theorem dl_wd : ∀ (n : Nat) (l : List Int), l.length ≤ n → (∀ x ∈ l, 0 ≤ x ∧ x ≤ 14) → dl n (wd l) = l
  | 0, l, h, _ => by
    obtain rfl : l = [] := List.eq_nil_of_length_eq_zero (by omega)
    rfl
  | n + 1, [], _, _ => by simp [dl, wd]
  | n + 1, x :: t, h, hr => by
    have hx := hr x (by simp)
    have e1 : (x + 1 + 16 * wd t) % 16 = x + 1 := by omega
    have e2 : (x + 1 + 16 * wd t) / 16 = wd t := by omega
    have ih := dl_wd n t (by simpa using h) (fun y hy => hr y (by simp [hy]))
    simp only [dl, wd, e1, e2, ih]
    rw [if_neg (by omega)]
    congr 1
    omega
theorem lst_wd {l : List Int} (h : Ok l) : lst (wd l) = l := dl_wd 15 l h.len h.rng
theorem rt_wd {l : List Int} (h : Ok l) : Rt (wd l) := by
  unfold Rt
  rw [lst_wd h]
  exact ⟨h, rfl⟩
theorem wd_lo {l : List Int} (h : ∀ x ∈ l, 0 ≤ x ∧ x ≤ 14) : 0 ≤ wd l := by
  induction l with
  | nil => exact Int.le_refl _
  | cons x t ih =>
    have h1 := h x (by simp)
    have h2 := ih (fun y hy => h y (by simp [hy]))
    simp only [wd]; omega
theorem wd_hi {l : List Int} (h : ∀ x ∈ l, 0 ≤ x ∧ x ≤ 14) : wd l < p16 l.length := by
  induction l with
  | nil => decide
  | cons x t ih =>
    have h1 := h x (by simp)
    have h2 := ih (fun y hy => h y (by simp [hy]))
    simp only [wd, List.length_cons, p16_succ]; omega
theorem Ok.lo {l : List Int} (h : Ok l) : 0 ≤ wd l := wd_lo h.rng
theorem Ok.hi {l : List Int} (h : Ok l) : wd l < 1152921504606846976 := by
  have h1 := wd_hi h.rng
  have h2 := p16_le h.len
  rw [p16_15] at h2
  omega
theorem wd_append (a b : List Int) : wd (a ++ b) = wd a + p16 a.length * wd b := by
  induction a with
  | nil => simp [wd, p16_zero]
  | cons x t ih => simp only [List.cons_append, wd, ih, List.length_cons, p16_succ, Int.mul_add, Int.mul_assoc]; omega
theorem wd_snoc (a : List Int) (x : Int) : wd (a ++ [x]) = wd a + (x + 1) * p16 a.length := by
  rw [wd_append]
  simp only [wd, Int.mul_zero, Int.add_zero]
  rw [Int.mul_comm]
theorem wd_inj {a b : List Int} (ha : Ok a) (hb : Ok b) (h : wd a = wd b) : a = b := by
  rw [← lst_wd ha, ← lst_wd hb, h]
theorem Ok.nil : Ok [] := ⟨by simp, by simp, by simp⟩
theorem Ok.snoc {l : List Int} {x : Int} (h : Ok l) (h0 : 0 ≤ x) (h1 : x ≤ 14) (hn : x ∉ l) (hl : l.length < 15) : Ok (l ++ [x]) := by
  refine ⟨fun y hy => ?_, ?_, by simp; omega⟩
  · rcases List.mem_append.1 hy with hy | hy
    · exact h.rng y hy
    · simp at hy; omega
  · rw [List.nodup_append]
    refine ⟨h.nd, by simp, ?_⟩
    intro a ha b hb
    simp at hb
    subst hb
    exact fun e => hn (e ▸ ha)
theorem Ok.sub {l m : List Int} (h : Ok l) (hs : m.Sublist l) : Ok m := ⟨fun x hx => h.rng x (hs.subset hx), hs.nodup h.nd, Nat.le_trans hs.length_le h.len⟩
theorem ok_pre {a b : List Int} (h : Ok (a ++ b)) : Ok a := h.sub (List.sublist_append_left a b)
theorem ok_suf {a b : List Int} (h : Ok (a ++ b)) : Ok b := h.sub (List.sublist_append_right a b)
theorem ok_tail {x : Int} {l : List Int} (h : Ok (x :: l)) : Ok l := h.sub (List.sublist_cons_self x l)
theorem ok_filter {l : List Int} (h : Ok l) (p : Int → Bool) : Ok (l.filter p) := h.sub List.filter_sublist
theorem not_ok_of {l : List Int} {k : Nat} (h : ¬ Ok (l.take k)) : ¬ Ok l := fun e => h (e.sub (List.take_sublist k l))
instance (l : List Int) : Decidable (Ok l) :=
  decidable_of_iff ((∀ x ∈ l, 0 ≤ x ∧ x ≤ 14) ∧ l.Nodup ∧ l.length ≤ 15) ⟨fun ⟨a, b, c⟩ => ⟨a, b, c⟩, fun ⟨a, b, c⟩ => ⟨a, b, c⟩⟩
instance (q : Int) : Decidable (Rt q) := inferInstanceAs (Decidable (_ ∧ _))
theorem Rt.wd {q : Int} (h : Rt q) : wd (lst q) = q := h.2
/-- a right word's line -/
theorem Rt.line {q : Int} (h : Rt q) : ∃ l, Ok l ∧ q = Go.Proofs.Ytgeddciipcbepaa.wd l ∧ lst q = l := ⟨lst q, h.1, h.2.symm, rfl⟩

/-! ### what stands behind and ahead of a place -/
theorem wd_mod (a b : List Int) (ha : ∀ x ∈ a, 0 ≤ x ∧ x ≤ 14) : wd (a ++ b) % p16 a.length = wd a := by
  rw [wd_append, Int.add_mul_emod_self_left, Int.emod_eq_of_lt (wd_lo ha) (wd_hi ha)]
theorem wd_div (a b : List Int) (ha : ∀ x ∈ a, 0 ≤ x ∧ x ≤ 14) : wd (a ++ b) / p16 a.length = wd b := by
  have := p16_pos a.length
  rw [wd_append, Int.add_mul_ediv_left _ _ (by omega), Int.ediv_eq_zero_of_lt (wd_lo ha) (wd_hi ha), Int.zero_add]
theorem wd_tail (x : Int) (t : List Int) (h0 : 0 ≤ x) (h1 : x ≤ 14) : wd (x :: t) / 16 = wd t := by
  simp only [wd]; omega

/-! ### the bits -/
def B (x : Int) : BitVec 64 := BitVec.ofInt 64 x
theorem B_nat (n : Nat) : B (n : Int) = BitVec.ofNat 64 n := by unfold B; rw [BitVec.ofInt_natCast]
theorem wrap_toNat (X : BitVec 64) : IntKind.i64.wrap (X.toNat : Int) = X.toInt := by
  rw [BitVec.toInt_eq_toNat_bmod]
  simp only [IntKind.wrap_i64, Int.bmod]
  have := X.isLt
  omega
theorem and_B (x y : Int) : bits .and .i64 x y = (B x &&& B y).toInt := wrap_toNat _
theorem or_B (x y : Int) : bits .or .i64 x y = (B x ||| B y).toInt := wrap_toNat _
theorem small_toInt {n : Nat} (h : n < 9223372036854775808) : (BitVec.ofNat 64 n).toInt = n := by
  rw [BitVec.toInt_eq_toNat_of_lt (by simp; omega)]
  simp
  omega
/-- of any word: its lowest bits -/
theorem and_low {x : Int} {k : Nat} (hk : k ≤ 62) : bits .and .i64 x (2 ^ k - 1) = x % 2 ^ k := by
  have hp : (2 : Nat) ^ k ≤ 4611686018427387904 := by
    have := Nat.pow_le_pow_right (n := 2) (by omega) hk
    simpa using this
  have hp1 : 1 ≤ (2 : Nat) ^ k := Nat.one_le_two_pow
  have e : (2 : Int) ^ k = ((2 ^ k : Nat) : Int) := by simp
  have e2 : ((2 ^ k : Nat) : Int) - 1 = ((2 ^ k - 1 : Nat) : Int) := by omega
  rw [and_B, e, e2, B_nat]
  have hx : B x &&& BitVec.ofNat 64 (2 ^ k - 1) = BitVec.ofNat 64 ((B x).toNat % 2 ^ k) := by
    apply BitVec.eq_of_toNat_eq
    rw [BitVec.toNat_and, BitVec.toNat_ofNat, BitVec.toNat_ofNat, Nat.mod_eq_of_lt (show 2 ^ k - 1 < 2 ^ 64 by omega), Nat.and_two_pow_sub_one_eq_mod]
    have : (B x).toNat % 2 ^ k < 2 ^ k := Nat.mod_lt _ (by omega)
    exact (Nat.mod_eq_of_lt (by omega)).symm
  have hlt : (B x).toNat % 2 ^ k < 2 ^ k := Nat.mod_lt _ (by omega)
  rw [hx, small_toInt (by omega)]
  have hB : ((B x).toNat : Int) = x % 18446744073709551616 := by
    unfold B
    rw [BitVec.toNat_ofInt]
    omega
  rw [Int.natCast_emod, hB]
  have hd : ((2 ^ k : Nat) : Int) ∣ 18446744073709551616 := by
    have : (2 : Nat) ^ k ∣ 2 ^ 64 := Nat.pow_dvd_pow 2 (by omega)
    have h3 := Int.natCast_dvd_natCast.2 this
    simpa using h3
  exact Int.emod_emod_of_dvd x hd
/-- bits that stand apart add up -/
theorem or_add {x z : Int} {k : Nat} (h0 : 0 ≤ x) (h1 : x < 2 ^ k) (hz : 0 ≤ z) (hb : x + z * 2 ^ k < 9223372036854775808) : bits .or .i64 x (z * 2 ^ k) = x + z * 2 ^ k := by
  obtain ⟨x, rfl⟩ := Int.eq_ofNat_of_zero_le h0
  obtain ⟨z, rfl⟩ := Int.eq_ofNat_of_zero_le hz
  have e : (2 : Int) ^ k = ((2 ^ k : Nat) : Int) := by simp
  rw [e] at h1 hb ⊢
  rw [← Int.natCast_mul] at hb ⊢
  rw [← Int.natCast_add] at hb ⊢
  have h1 : x < 2 ^ k := by omega
  rw [or_B, B_nat, B_nat]
  have : BitVec.ofNat 64 x ||| BitVec.ofNat 64 (z * 2 ^ k) = BitVec.ofNat 64 (x + z * 2 ^ k) := by
    apply BitVec.eq_of_toNat_eq
    rw [BitVec.toNat_or, BitVec.toNat_ofNat, BitVec.toNat_ofNat, BitVec.toNat_ofNat, Nat.mod_eq_of_lt (by omega), Nat.mod_eq_of_lt (by omega), Nat.mod_eq_of_lt (by omega), Nat.add_comm, Nat.mul_comm, Nat.two_pow_add_eq_or_of_lt h1, Nat.or_comm]
  rw [this, small_toInt (by omega)]
theorem p16_eq (k : Nat) : p16 k = 2 ^ (4 * k) := by
  unfold p16
  rw [Int.pow_mul]; rfl
end Go.Proofs.Ytgeddciipcbepaa
