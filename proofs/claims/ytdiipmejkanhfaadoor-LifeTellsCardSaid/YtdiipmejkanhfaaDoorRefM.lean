/- The document's own Next tells what the program's does. -/
import Derived.Test.YtdiipmejkanhfaaDoorRowA
import Derived.Test.YtdiipmejkanhfaaDoorRowB
import Derived.Test.YtdiipmejkanhfaaDoorRowC
import Derived.Test.YtdiipmejkanhfaaDoorRowE
import Derived.Test.YtdiipmejkanhfaaDoorRowF
import Derived.Test.YtdiipmejkanhfaaDoorRowG
namespace Go.Proofs.YtdiipmejkanhfaaDoor
open Go.RowKit
attribute [local go_sem ↓] Go.wp_at_zero Go.wp_at_succ

theorem row_any {k : Nat} (hk : k < 18) (s : Sl) (a mo : Int) (w : World) (hr : Rt s) :
    Calls Tryd.prog 17 #[Value.agg #[Value.int .i64 s.st, Value.int .i64 s.ow, Value.int .i64 s.sr, Value.bool s.br, Value.bool s.ma, Value.int .i64 s.us, Value.int .i64 s.ge, Value.int .i64 s.ep, Value.int .i64 s.ve], .int .i64 (k : Int), .int .i64 a, .int .i64 mo] w fun e w' => e = .returned (.tuple #[.agg #[Value.int .i64 (rS k s a mo).st, Value.int .i64 (rS k s a mo).ow, Value.int .i64 (rS k s a mo).sr, Value.bool (rS k s a mo).br, Value.bool (rS k s a mo).ma, Value.int .i64 (rS k s a mo).us, Value.int .i64 (rS k s a mo).ge, Value.int .i64 (rS k s a mo).ep, Value.int .i64 (rS k s a mo).ve], .bool (rB k s a mo)]) ∧ Below w.heap.size w w' := by
  rcases eighteen hk with rfl | rfl | rfl | rfl | rfl | rfl | rfl | rfl | rfl | rfl | rfl | rfl | rfl | rfl | rfl | rfl | rfl | rfl
  · exact w0_any s a mo w hr
  · exact w1_any s a mo w hr
  · exact w2_any s a mo w hr
  · exact w3_any s a mo w hr
  · exact w4_any s a mo w hr
  · exact w5_any s a mo w hr
  · exact w6_any s a mo w hr
  · exact w7_any s a mo w hr
  · exact w8_any s a mo w hr
  · exact w9_any s a mo w hr
  · exact w10_any s a mo w hr
  · exact w11_any s a mo w hr
  · exact w12_any s a mo w hr
  · exact w13_any s a mo w hr
  · exact w14_any s a mo w hr
  · exact w15_any s a mo w hr
  · exact w16_any s a mo w hr
  · exact w17_any s a mo w hr
theorem rge_nge {n : Int} (h : 0 ≤ n ∧ n ≤ 4095) : rge n = nge n := by unfold rge nge; split <;> omega
def rve (n : Int) : Int := if n + 1 = 32768 then 0 else n + 1
theorem rve_nve {n : Int} (h : 0 ≤ n ∧ n ≤ 32767) : rve n = nve n := by unfold rve nve; split <;> omega
theorem rve_eq {n : Int} (h : n + 1 = 32768) : 0 = rve n := by simp [rve, h]
theorem rve_ne {n : Int} (h : ¬ n + 1 = 32768) : n + 1 = rve n := by simp [rve, h]
theorem had_div {sr mo : Int} (h : 0 ≤ sr ∧ sr ≤ 255) (hm : 0 ≤ mo ∧ mo ≤ 7) : hadB sr mo = (sr / 2 ^ mo.toNat % 2 == 1) := by
  obtain ⟨n, rfl⟩ := fin_of (N := 256) (sr := sr) (by omega)
  obtain ⟨m, rfl⟩ := fin_of (N := 8) (sr := mo) (by omega)
  have e := (hadF n m).1
  simpa using e
theorem rB_eq {k : Nat} (hk : k < 18) {s : Sl} {a mo : Int} (hr : Rt s) (hm : Big mo) : rB k s a mo = chB k s a mo := by
  have hlo := low_bd hr.sr
  have hd : 0 ≤ mo ∧ mo ≤ 7 → hadB s.sr mo = (s.sr / 2 ^ mo.toNat % 2 == 1) := had_div hr.sr
  have hf : ¬ (0 ≤ mo ∧ mo ≤ 7) → hadB s.sr mo = false := fun h => had_far hr.sr h hm.1 hm.2
  rcases eighteen hk with rfl | rfl | rfl | rfl | rfl | rfl | rfl | rfl | rfl | rfl | rfl | rfl | rfl | rfl | rfl | rfl | rfl | rfl
  all_goals (try rfl)
  · show ((s.st == 2 || s.st == 3) && decide (0 ≤ mo) && decide (mo ≤ 4095)) = ((s.st == 2 || s.st == 3) && (decide (0 ≤ mo) && decide (mo ≤ 4095)))
    rw [Bool.and_assoc]
  · show (decide (2 ≤ s.st) && decide (s.st ≤ 4) && !s.br) = ((s.st == 2 || s.st == 3 || s.st == 4) && !s.br)
    congr 1
    rw [Bool.eq_iff_iff]
    simp
    omega
  · show (s.st == 3 && s.ow == a && !s.br && decide (lowI s.sr < mo) && decide (lowI s.sr < 8)) = (s.st == 3 && s.ow == a && !s.br && decide (lowI s.sr < min8 mo))
    rw [Bool.and_assoc (_ && _) _ _]
    congr 1
    rw [Bool.eq_iff_iff]
    unfold min8
    by_cases h8 : 8 < mo
    · simp [h8]
      intros
      omega
    · simp [h8]
      intros
      omega
  · show (s.st == 3 && s.ow == a && (decide (0 ≤ mo) && decide (mo ≤ 7)) && (s.sr / 2 ^ mo.toNat % 2 == 1)) = (s.st == 3 && s.ow == a && hadB s.sr mo)
    rw [Bool.and_assoc]
    congr 1
    by_cases h : 0 ≤ mo ∧ mo ≤ 7
    · rw [hd h]; simp [h.1, h.2]
    · rw [hf h]
      have : (decide (0 ≤ mo) && decide (mo ≤ 7)) = false := by simp; omega
      rw [this]; rfl
  · show (if s.st == 4 then s.ow == a else s.st == 5 && s.ow == a) = (s.st == 5 && s.ow == a || s.st == 4 && s.ow == a)
    by_cases h : s.st = 4
    · simp [h]
    · simp [h]
  · show (s.st == 6 && decide (0 ≤ mo) && decide (mo ≤ 4095)) = (s.st == 6 && (decide (0 ≤ mo) && decide (mo ≤ 4095)))
    rw [Bool.and_assoc]
theorem rS_ve {k : Nat} (hk : k < 18) (s : Sl) (a mo : Int) : (rS k s a mo).ve = s.ve := by
  rcases eighteen hk with rfl | rfl | rfl | rfl | rfl | rfl | rfl | rfl | rfl | rfl | rfl | rfl | rfl | rfl | rfl | rfl | rfl | rfl
  all_goals (try rfl)
  · show (if _ then _ else _ : Sl).ve = _
    split <;> rfl
  · show (if _ then _ else _ : Sl).ve = _
    split <;> rfl
set_option maxHeartbeats 2000000 in
theorem rS_eq {k : Nat} (hk : k < 18) {s : Sl} {a mo : Int} (hr : Rt s) (hm : Big mo) (hc : chB k s a mo = true) (v : Int) : (rS k s a mo).ver v = (chS k s a mo).ver v := by
  have hg := rge_nge hr.ge
  have hsh := shut_fact (mo := mo) hr.sr hm
  have hop := open_fact (mo := mo) hr.sr
  obtain ⟨st, ow, sr, br, ma, us, ge, ep, ve⟩ := s
  obtain ⟨q0, q1, q2, q3, q4, q5, q6, q7, q8, q9, q10, q11, q12⟩ := hr
  simp only at hg hsh hop q0 q1 q2 q3 q4 q5 q6 q7 q8 q9 q10 q11 q12
  have brf : ¬ (st = 2 ∨ st = 3 ∨ st = 4) → br = false := fun h => by
    cases br with
    | false => rfl
    | true => exact absurd (q8 rfl) h
  have maf : st ≠ 2 → ma = false := fun h => by
    cases ma with
    | false => rfl
    | true => exact absurd (q10 rfl) h
  have sr0 : st ≠ 3 → sr = 0 := fun h => by omega
  have us0 : ¬ (st = 2 ∨ st = 3 ∨ st = 4) → us = 0 := fun h => by omega
  have ep0 : st ≠ 6 → ep = 0 := fun h => by omega
  have ow0 : st = 0 ∨ st = 6 → ow = 0 := fun h => by omega
  clear q0 q1 q2 q3 q4 q5 q6 q7 q8 q9 q10 q11 q12
  rcases eighteen hk with rfl | rfl | rfl | rfl | rfl | rfl | rfl | rfl | rfl | rfl | rfl | rfl | rfl | rfl | rfl | rfl | rfl | rfl
  all_goals simp [chB, minB, souB, epoB] at hc
  case' inr.inr.inr.inr.inr.inr.inr.inr.inr.inr.inr.inr.inr.inr.inl => have h14 := (hop hc.2).2.2.1
  case inr.inr.inr.inr.inr.inr.inr.inr.inr.inr.inr.inr.inr.inr.inr.inl =>
    have h15 := hsh hc.2
    have e := (r15_yes (sr := sr) (br := br) (ma := ma) (us := us) (ge := ge) (ep := ep) (ve := ve) (mo := mo) (n := mo.toNat) hc.1.1 hc.1.2 (by omega) (by omega) rfl).1
    rw [e]
    exact Sl.ext' rfl rfl h15.2.1.symm rfl rfl rfl rfl rfl rfl
  case inr.inr.inr.inr.inr.inr.inr.inr.inr.inr.inr.inr.inr.inr.inr.inr.inl =>
    show (if st == 4 then Sl.lref _ a else Sl.plain _ 1 a : Sl).ver v = (if minB ⟨st, ow, sr, br, ma, us, ge, ep, ve⟩ a 5 = true then Sl.becm _ a 1 else Sl.leas _ a : Sl).ver v
    by_cases k16 : st = 4
    · have j16 : ¬ minB ⟨st, ow, sr, br, ma, us, ge, ep, ve⟩ a 5 = true := by simp [minB]; omega
      rw [if_neg j16, if_pos (by simp [k16])]
      exact Sl.ext' rfl rfl (sr0 (by omega)).symm rfl rfl rfl hg (ep0 (by omega)).symm rfl
    · have j16 : minB ⟨st, ow, sr, br, ma, us, ge, ep, ve⟩ a 5 = true := by simp [minB]; omega
      rw [if_pos j16, if_neg (by simp [k16])]
      exact Sl.ext' rfl rfl (sr0 (by omega)).symm (brf (by omega)).symm rfl (us0 (by omega)).symm rfl (ep0 (by omega)).symm rfl
  all_goals clear hop hsh
  all_goals simp only [rS, chS, Sl.ver, Sl.plain, Sl.lref, Sl.becm, Sl.bare, Sl.limb, Sl.leas, *]
  all_goals refine Sl.ext' ?_ ?_ ?_ ?_ ?_ ?_ ?_ ?_ ?_
  all_goals (try simp only)
  all_goals first
    | rfl
    | omega
    | exact brf (by omega)
    | exact (brf (by omega)).symm
    | exact maf (by omega)
    | exact (maf (by omega)).symm
    | (rw [us0 (by omega)]; done)
end Go.Proofs.YtdiipmejkanhfaaDoor
