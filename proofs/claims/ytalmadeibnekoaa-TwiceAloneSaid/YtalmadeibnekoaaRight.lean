/- Which slots are right, what their words are, and what words are slots': nothing of the program's memory is named here. -/
import Derived.Test.YtalmadeibnekoaaWords
namespace Go.Proofs.Ytalmadeibnekoaa
open Go.RowKit

/-- numbers of Go's int -/
structure Sl.Wf (s : Sl) : Prop where
  st : -9223372036854775808 ≤ s.st ∧ s.st ≤ 9223372036854775807
  ow : -9223372036854775808 ≤ s.ow ∧ s.ow ≤ 9223372036854775807
  sr : -9223372036854775808 ≤ s.sr ∧ s.sr ≤ 9223372036854775807
  us : -9223372036854775808 ≤ s.us ∧ s.us ≤ 9223372036854775807
  ge : -9223372036854775808 ≤ s.ge ∧ s.ge ≤ 9223372036854775807
  ep : -9223372036854775808 ≤ s.ep ∧ s.ep ≤ 9223372036854775807
  ve : -9223372036854775808 ≤ s.ve ∧ s.ve ≤ 9223372036854775807
/-- a right slot -/
structure Rt (s : Sl) : Prop where
  st : 0 ≤ s.st ∧ s.st ≤ 6
  ow : 0 ≤ s.ow ∧ s.ow ≤ 15
  sr : 0 ≤ s.sr ∧ s.sr ≤ 255
  us : 0 ≤ s.us ∧ s.us ≤ 63
  ge : 0 ≤ s.ge ∧ s.ge ≤ 4095
  ep : 0 ≤ s.ep ∧ s.ep ≤ 4095
  ve : 0 ≤ s.ve ∧ s.ve ≤ 32767
  hsr : 0 < s.sr → s.st = 3
  hbr : s.br = true → s.st = 2 ∨ s.st = 3 ∨ s.st = 4
  hus : 0 < s.us → s.st = 2 ∨ s.st = 3 ∨ s.st = 4
  hma : s.ma = true → s.st = 2
  hep : s.ep ≠ 0 → s.st = 6
  how : s.ow ≠ 0 → 0 < s.st ∧ s.st < 6
def encI (s : Sl) : Int := s.st + 8 * s.ow + 128 * s.sr + 131072 * s.us + 8388608 * s.ge + 34359738368 * s.ep + 140737488355328 * s.ve + 32768 * b2i s.br + 65536 * b2i s.ma
theorem has_out {c st : Int} (h0 : 0 ≤ c) (h1 : c ≤ 127) (h2 : -9223372036854775808 ≤ st) (h3 : st ≤ 9223372036854775807) (h : ¬ (0 ≤ st ∧ st ≤ 6)) : hasB c st = false := by
  have e : 7 ≤ min (IntKind.u64.wrap st).toNat 64 := by
    rw [IntKind.wrap_u64]
    omega
  have e2 : c / 2 ^ min (IntKind.u64.wrap st).toNat 64 = 0 := by
    refine Int.ediv_eq_zero_of_lt h0 ?_
    rw [pow_int]
    have := Nat.pow_le_pow_right (n := 2) (by omega) e
    simp at this
    omega
  unfold hasB
  rw [e2]
  decide
theorem digits {W d0 d1 d2 d3 d4 d5 d6 d7 d8 : Int} (e : W = d0 * 1 + d1 * 8 + d2 * 128 + d3 * 32768 + d4 * 65536 + d5 * 131072 + d6 * 8388608 + d7 * 34359738368 + d8 * 140737488355328)
    (h0 : 0 ≤ d0 ∧ d0 < 8) (h1 : 0 ≤ d1 ∧ d1 < 16) (h2 : 0 ≤ d2 ∧ d2 < 256) (h3 : 0 ≤ d3 ∧ d3 < 2) (h4 : 0 ≤ d4 ∧ d4 < 2) (h5 : 0 ≤ d5 ∧ d5 < 64) (h6 : 0 ≤ d6 ∧ d6 < 4096) (h7 : 0 ≤ d7 ∧ d7 < 4096) (h8 : 0 ≤ d8 ∧ d8 < 32768) :
    (0 ≤ W ∧ W < 4611686018427387904) ∧ W / 1 % 8 = d0 ∧ W / 8 % 16 = d1 ∧ W / 128 % 256 = d2 ∧ W / 32768 % 2 = d3 ∧ W / 65536 % 2 = d4 ∧ W / 131072 % 64 = d5 ∧ W / 8388608 % 4096 = d6 ∧ W / 34359738368 % 4096 = d7 ∧ W / 140737488355328 % 32768 = d8 := by
  refine ⟨by omega, by omega, by omega, by omega, by omega, by omega, by omega, by omega, by omega, by omega⟩
def dgS (s : Sl) : Sl := ⟨dg 127 s.st 8 (s.st), dg 62 s.st 16 (s.ow), dg 8 s.st 256 (s.sr), dg 28 s.st 2 (b2i s.br) == 1, dg 4 s.st 2 (b2i s.ma) == 1, dg 28 s.st 64 (s.us), dg 127 s.st 4096 (s.ge), dg 64 s.st 4096 (s.ep), dg 127 s.st 32768 (s.ve)⟩
theorem wk_bd (s : Sl) : 0 ≤ wk s 9 ∧ wk s 9 < 4611686018427387904 :=
  (digits (wk_sum s) (dg_bd _ _ _ (by omega)) (dg_bd _ _ _ (by omega)) (dg_bd _ _ _ (by omega)) (dg_bd _ _ _ (by omega)) (dg_bd _ _ _ (by omega)) (dg_bd _ _ _ (by omega)) (dg_bd _ _ _ (by omega)) (dg_bd _ _ _ (by omega)) (dg_bd _ _ _ (by omega))).1
theorem rd_wk (s : Sl) : rdS (wk s 9) = dgS s := by
  obtain ⟨b, f0, f1, f2, f3, f4, f5, f6, f7, f8⟩ := digits (wk_sum s) (dg_bd _ _ _ (by omega)) (dg_bd _ _ _ (by omega)) (dg_bd _ _ _ (by omega)) (dg_bd _ _ _ (by omega)) (dg_bd _ _ _ (by omega)) (dg_bd _ _ _ (by omega)) (dg_bd _ _ _ (by omega)) (dg_bd _ _ _ (by omega)) (dg_bd _ _ _ (by omega))
  unfold rdS dgS
  rw [rd_0 (by omega) (by omega), rd_1 (by omega) (by omega), rd_2 (by omega) (by omega), rd_3 (by omega) (by omega), rd_4 (by omega) (by omega), rd_5 (by omega) (by omega), rd_6 (by omega) (by omega), rd_7 (by omega) (by omega), rd_8 (by omega) (by omega), f0, f1, f2, f3, f4, f5, f6, f7, f8]
theorem dg_out {s : Sl} (hw : s.Wf) (h : ¬ (0 ≤ s.st ∧ s.st ≤ 6)) {c m v : Int} (h0 : 0 ≤ c) (h1 : c ≤ 127) : dg c s.st m v = 0 := by
  unfold dg
  rw [has_out h0 h1 hw.st.1 hw.st.2 h]
  simp
theorem wk_out {s : Sl} (hw : s.Wf) (h : ¬ (0 ≤ s.st ∧ s.st ≤ 6)) : wk s 9 = 0 := by
  rw [wk_sum]
  simp only [dg_out hw h (show (0 : Int) ≤ 127 by omega) (by omega), dg_out hw h (show (0 : Int) ≤ 62 by omega) (by omega), dg_out hw h (show (0 : Int) ≤ 8 by omega) (by omega), dg_out hw h (show (0 : Int) ≤ 28 by omega) (by omega), dg_out hw h (show (0 : Int) ≤ 4 by omega) (by omega), dg_out hw h (show (0 : Int) ≤ 64 by omega) (by omega)]
  rfl
theorem seven {x : Int} (h : 0 ≤ x ∧ x ≤ 6) : x = 0 ∨ x = 1 ∨ x = 2 ∨ x = 3 ∨ x = 4 ∨ x = 5 ∨ x = 6 := by omega
theorem b2i_bit (b : Bool) : (b2i b % 2 == 1) = b := by cases b <;> rfl
theorem b2i_bd (b : Bool) : 0 ≤ b2i b ∧ b2i b ≤ 1 := by cases b <;> decide
theorem Sl.ext' {s t : Sl} (h0 : s.st = t.st) (h1 : s.ow = t.ow) (h2 : s.sr = t.sr) (h3 : s.br = t.br) (h4 : s.ma = t.ma) (h5 : s.us = t.us) (h6 : s.ge = t.ge) (h7 : s.ep = t.ep) (h8 : s.ve = t.ve) : s = t := by
  cases s; cases t; simp_all
theorem has_127_0 : hasB 127 0 = true := by decide +kernel
theorem has_127_1 : hasB 127 1 = true := by decide +kernel
theorem has_127_2 : hasB 127 2 = true := by decide +kernel
theorem has_127_3 : hasB 127 3 = true := by decide +kernel
theorem has_127_4 : hasB 127 4 = true := by decide +kernel
theorem has_127_5 : hasB 127 5 = true := by decide +kernel
theorem has_127_6 : hasB 127 6 = true := by decide +kernel
theorem has_62_0 : hasB 62 0 = false := by decide +kernel
theorem has_62_1 : hasB 62 1 = true := by decide +kernel
theorem has_62_2 : hasB 62 2 = true := by decide +kernel
theorem has_62_3 : hasB 62 3 = true := by decide +kernel
theorem has_62_4 : hasB 62 4 = true := by decide +kernel
theorem has_62_5 : hasB 62 5 = true := by decide +kernel
theorem has_62_6 : hasB 62 6 = false := by decide +kernel
theorem has_8_0 : hasB 8 0 = false := by decide +kernel
theorem has_8_1 : hasB 8 1 = false := by decide +kernel
theorem has_8_2 : hasB 8 2 = false := by decide +kernel
theorem has_8_3 : hasB 8 3 = true := by decide +kernel
theorem has_8_4 : hasB 8 4 = false := by decide +kernel
theorem has_8_5 : hasB 8 5 = false := by decide +kernel
theorem has_8_6 : hasB 8 6 = false := by decide +kernel
theorem has_28_0 : hasB 28 0 = false := by decide +kernel
theorem has_28_1 : hasB 28 1 = false := by decide +kernel
theorem has_28_2 : hasB 28 2 = true := by decide +kernel
theorem has_28_3 : hasB 28 3 = true := by decide +kernel
theorem has_28_4 : hasB 28 4 = true := by decide +kernel
theorem has_28_5 : hasB 28 5 = false := by decide +kernel
theorem has_28_6 : hasB 28 6 = false := by decide +kernel
theorem has_4_0 : hasB 4 0 = false := by decide +kernel
theorem has_4_1 : hasB 4 1 = false := by decide +kernel
theorem has_4_2 : hasB 4 2 = true := by decide +kernel
theorem has_4_3 : hasB 4 3 = false := by decide +kernel
theorem has_4_4 : hasB 4 4 = false := by decide +kernel
theorem has_4_5 : hasB 4 5 = false := by decide +kernel
theorem has_4_6 : hasB 4 6 = false := by decide +kernel
theorem has_64_0 : hasB 64 0 = false := by decide +kernel
theorem has_64_1 : hasB 64 1 = false := by decide +kernel
theorem has_64_2 : hasB 64 2 = false := by decide +kernel
theorem has_64_3 : hasB 64 3 = false := by decide +kernel
theorem has_64_4 : hasB 64 4 = false := by decide +kernel
theorem has_64_5 : hasB 64 5 = false := by decide +kernel
theorem has_64_6 : hasB 64 6 = true := by decide +kernel
theorem right_iff {s : Sl} (hw : s.Wf) : rdS (wk s 9) = s ↔ Rt s := by
  by_cases h : 0 ≤ s.st ∧ s.st ≤ 6
  · rw [rd_wk]
    obtain ⟨st, ow, sr, br, ma, us, ge, ep, ve⟩ := s
    simp only at h
    unfold dgS dg
    rcases seven h with rfl | rfl | rfl | rfl | rfl | rfl | rfl
    all_goals simp only [has_127_0, has_127_1, has_127_2, has_127_3, has_127_4, has_127_5, has_127_6, has_62_0, has_62_1, has_62_2, has_62_3, has_62_4, has_62_5, has_62_6, has_8_0, has_8_1, has_8_2, has_8_3, has_8_4, has_8_5, has_8_6, has_28_0, has_28_1, has_28_2, has_28_3, has_28_4, has_28_5, has_28_6, has_4_0, has_4_1, has_4_2, has_4_3, has_4_4, has_4_5, has_4_6, has_64_0, has_64_1, has_64_2, has_64_3, has_64_4, has_64_5, has_64_6, if_true, Bool.false_eq_true, if_false, b2i_bit]
    all_goals constructor
    all_goals (first
      | (intro e
         have g0 := congrArg Sl.st e
         have g1 := congrArg Sl.ow e
         have g2 := congrArg Sl.sr e
         have g3 := congrArg Sl.br e
         have g4 := congrArg Sl.ma e
         have g5 := congrArg Sl.us e
         have g6 := congrArg Sl.ge e
         have g7 := congrArg Sl.ep e
         have g8 := congrArg Sl.ve e
         simp only at g0 g1 g2 g3 g4 g5 g6 g7 g8
         clear e
         refine ⟨?_, ?_, ?_, ?_, ?_, ?_, ?_, ?_, ?_, ?_, ?_, ?_, ?_⟩ <;> simp only <;> (first | omega | (simp; done) | (simp [← g3]; done) | (simp [← g4]; done) | (intro hb; simp [hb] at g3; done) | (intro hb; simp [hb] at g4; done)))
      | (rintro ⟨q0, q1, q2, q3, q4, q5, q6, q7, q8, q9, q10, q11, q12⟩
         simp only at q0 q1 q2 q3 q4 q5 q6 q7 q8 q9 q10 q11 q12
         refine Sl.ext' ?_ ?_ ?_ ?_ ?_ ?_ ?_ ?_ ?_ <;> simp only <;> (first | omega | (cases br <;> simp_all; done) | (cases ma <;> simp_all; done))))
  · constructor
    · intro e
      rw [wk_out hw h] at e
      have : (rdS 0).st = s.st := by rw [e]
      have e2 : (rdS 0).st = 0 := by decide +kernel
      omega
    · intro r
      exact absurd r.st h
end Go.Proofs.Ytalmadeibnekoaa
