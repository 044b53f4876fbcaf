/- The document's own functions' word on right slots is ours. -/
import Derived.Test.YtalmadeibnekoaaRefR
namespace Go.Proofs.Ytalmadeibnekoaa
open Go.RowKit

theorem rrB_iff {s : Sl} : rrB s = true ↔ Rt s := by
  unfold rrB bad1 bad4 fin lv f0
  constructor
  · intro h
    simp at h
    refine ⟨by omega, by omega, by omega, by omega, by omega, by omega, by omega, by omega, ?_, by omega, ?_, by omega, by omega⟩
    · intro hb; simp [hb] at h; omega
    · intro hb; simp [hb] at h; omega
  · rintro ⟨q0, q1, q2, q3, q4, q5, q6, q7, q8, q9, q10, q11, q12⟩
    cases hb : s.br <;> cases hm : s.ma <;> simp [hb, hm] at q8 q10 ⊢ <;> omega
theorem rt_eq {s : Sl} (hw : s.Wf) : rtB s = rrB s := by
  rw [Bool.eq_iff_iff, rrB_iff, ← right_iff hw]
  simp [rtB]
theorem wk_enc {s : Sl} (r : Rt s) : wk s 9 = encI s := by
  rw [wk_sum]
  unfold encI
  obtain ⟨st, ow, sr, br, ma, us, ge, ep, ve⟩ := s
  obtain ⟨q0, q1, q2, q3, q4, q5, q6, q7, q8, q9, q10, q11, q12⟩ := r
  simp only at q0 q1 q2 q3 q4 q5 q6 q7 q8 q9 q10 q11 q12
  have hb := b2i_bd br
  have hm := b2i_bd ma
  have hb0 : st ≠ 2 → st ≠ 3 → st ≠ 4 → b2i br = 0 := by cases br <;> simp_all [b2i] <;> omega
  have hm0 : st ≠ 2 → b2i ma = 0 := by cases ma <;> simp_all [b2i]
  clear q8 q10
  unfold dg
  rcases seven q0 with rfl | rfl | rfl | rfl | rfl | rfl | rfl
  all_goals simp only [has_127_0, has_127_1, has_127_2, has_127_3, has_127_4, has_127_5, has_127_6, has_62_0, has_62_1, has_62_2, has_62_3, has_62_4, has_62_5, has_62_6, has_8_0, has_8_1, has_8_2, has_8_3, has_8_4, has_8_5, has_8_6, has_28_0, has_28_1, has_28_2, has_28_3, has_28_4, has_28_5, has_28_6, has_4_0, has_4_1, has_4_2, has_4_3, has_4_4, has_4_5, has_4_6, has_64_0, has_64_1, has_64_2, has_64_3, has_64_4, has_64_5, has_64_6, if_true, Bool.false_eq_true, if_false]
  all_goals omega
end Go.Proofs.Ytalmadeibnekoaa
