/- LifeBack in numbers: what is kept, and given back; held, and let go; retired, and cleared. -/
import Derived.Test.YtdiipmejkanhfaaDoorLRig
namespace Go.Proofs.YtdiipmejkanhfaaDoor
open Go.RowKit
attribute [local go_sem ↓] Go.wp_at_zero Go.wp_at_succ

theorem k_of {s : Sl} {d a mo : Int} (h : nxB s d a mo = true) : nxS s d a mo = (chS d.toNat s a mo).ver (nve s.ve) := nxS_yes h
theorem keep_fact {s : Sl} {a : Int} (hs : s.Wf) (h : nxB s 5 a 0 = true) : Rt s ∧ s.st = 2 ∧ s.br = false ∧ nxS s 5 a 0 = ⟨4, a, s.sr, s.br, false, s.us, s.ge, s.ep, nve s.ve⟩ := by
  obtain ⟨hr, ho, hc⟩ := (nxB_spec hs).1 h
  have e := nxS_yes h
  simp [chB, souB] at hc
  exact ⟨hr, hc.1, hc.2, e⟩
theorem big0 : Big 0 := by constructor <;> decide
theorem unkeep_yes {t : Sl} {b : Int} (ht : Rt t) (h4 : t.st = 4) (hb : 0 ≤ b ∧ b ≤ 15) : nxB t 6 b 0 = true ∧ nxS t 6 b 0 = ⟨2, b, t.sr, t.br, false, t.us, t.ge, t.ep, nve t.ve⟩ := by
  have h : nxB t 6 b 0 = true := (nxB_spec ht.wf).2 ⟨ht, by omega, by show (t.st == 4) = true; simp [h4]⟩
  exact ⟨h, nxS_yes h⟩
theorem own_out {t : Sl} {d b mo : Int} (hb : ¬ (0 ≤ b ∧ b ≤ 15)) : nxB t d b mo = false := by
  cases h : nxB t d b mo with
  | false => rfl
  | true =>
    simp [nxB, okB] at h
    omega
theorem keep_is {s : Sl} {a : Int} (hs : s.Wf) (h : nxB s 5 a 0 = true) (b : Int) (hb : 0 ≤ b ∧ b ≤ 15) : ∃ t u, NextIs s 5 a 0 t true ∧ NextIs t 6 b 0 u true ∧ (⟨u.st, s.ow, u.sr, u.br, s.ma, u.us, u.ge, u.ep, s.ve⟩ : Sl) = s := by
  obtain ⟨hr, h2, hbr, e⟩ := keep_fact hs h
  have ht := nx_rt hs big0 h
  have hx := next_is hs rfl h
  obtain ⟨t, et⟩ : ∃ t, t = nxS s 5 a 0 := ⟨_, rfl⟩
  rw [← et] at e ht hx
  clear et h
  subst e
  obtain ⟨y, ey⟩ := unkeep_yes ht rfl hb
  refine ⟨_, _, hx, next_is ht.wf ey y, ?_⟩
  exact Sl.ext' h2.symm rfl rfl rfl rfl rfl rfl rfl rfl
theorem keep_no {s : Sl} {a : Int} (hs : s.Wf) (h : nxB s 5 a 0 = true) (b : Int) (hb : ¬ (0 ≤ b ∧ b ≤ 15)) : ∃ t, NextIs s 5 a 0 t true ∧ NextIs t 6 b 0 Sl.zero false := by
  have ht := nx_wf hs big0 (d := 5) (a := a)
  have n := own_out (t := nxS s 5 a 0) (d := 6) (mo := 0) hb
  exact ⟨_, next_is hs rfl h, next_is ht (nxS_no n) n⟩
theorem hold_fact {s : Sl} {a : Int} (hs : s.Wf) (h : nxB s 7 a 0 = true) : Rt s ∧ (0 ≤ a ∧ a ≤ 15) ∧ s.st = 0 ∧ nxS s 7 a 0 = ⟨5, a, s.sr, s.br, false, s.us, s.ge, s.ep, nve s.ve⟩ := by
  obtain ⟨hr, ho, hc⟩ := (nxB_spec hs).1 h
  have e := nxS_yes h
  simp [chB] at hc
  exact ⟨hr, ⟨ho.1, ho.2.1⟩, hc, e⟩
theorem empty_is {s : Sl} (hr : Rt s) (h0 : s.st = 0) : (⟨0, 0, 0, false, false, 0, s.ge, 0, s.ve⟩ : Sl) = s := by
  obtain ⟨st, ow, sr, br, ma, us, ge, ep, ve⟩ := s
  obtain ⟨q0, q1, q2, q3, q4, q5, q6, q7, q8, q9, q10, q11, q12⟩ := hr
  simp only at h0 q0 q1 q2 q3 q4 q5 q6 q7 q8 q9 q10 q11 q12
  refine Sl.ext' (by simp only; omega) (by simp only; omega) (by simp only; omega) ?_ ?_ (by simp only; omega) rfl (by simp only; omega) rfl
  · cases br with
    | false => rfl
    | true => have := q8 rfl; omega
  · cases ma with
    | false => rfl
    | true => have := q10 rfl; omega
theorem hold_is {s : Sl} {a : Int} (hs : s.Wf) (h : nxB s 7 a 0 = true) : ∃ t u, NextIs s 7 a 0 t true ∧ NextIs t 8 a 0 u true ∧ (⟨u.st, u.ow, u.sr, u.br, u.ma, u.us, u.ge, u.ep, s.ve⟩ : Sl) = s := by
  obtain ⟨hr, ha, h0, e⟩ := hold_fact hs h
  have ht := nx_rt hs big0 h
  have hx := next_is hs rfl h
  obtain ⟨t, et⟩ : ∃ t, t = nxS s 7 a 0 := ⟨_, rfl⟩
  rw [← et] at e ht hx
  clear et h
  subst e
  have y : nxB ⟨5, a, s.sr, s.br, false, s.us, s.ge, s.ep, nve s.ve⟩ 8 a 0 = true := (nxB_spec ht.wf).2 ⟨ht, by omega, rfl⟩
  exact ⟨_, _, hx, next_is ht.wf (nxS_yes y) y, empty_is hr h0⟩
theorem retire_fact {s : Sl} (_ : s.Wf) (h : nxB s 11 0 4095 = true) : nxS s 11 0 4095 = ⟨6, 0, 0, false, false, 0, s.ge, 4095, nve s.ve⟩ := nxS_yes h
theorem big4 : Big 4095 := by constructor <;> decide
theorem clear_yes {t : Sl} (ht : Rt t) (h6 : t.st = 6) : NextIs t 12 0 0 ⟨0, 0, 0, false, false, 0, t.ge, 0, nve t.ve⟩ true := by
  have y : nxB t 12 0 0 = true := (nxB_spec ht.wf).2 ⟨ht, by omega, by show (t.st == 6) = true; simp [h6]⟩
  exact next_is ht.wf (nxS_yes y) y
theorem retire_old {s : Sl} (hs : s.Wf) (h : nxB s 11 0 4095 = true) (ep : Int) (he : 0 ≤ ep ∧ ep ≤ 4095) : ∃ t v x, NextIs s 11 0 4095 t true ∧ NextIs t 17 0 ep v true ∧ NextIs v 12 0 0 ⟨0, 0, 0, false, false, 0, s.ge, 0, x⟩ true := by
  have e := retire_fact hs h
  have ht := nx_rt hs big4 h
  have hx := next_is hs rfl h
  obtain ⟨t, et⟩ : ∃ t, t = nxS s 11 0 4095 := ⟨_, rfl⟩
  rw [← et] at e ht hx
  clear et h
  subst e
  have y : nxB ⟨6, 0, 0, false, false, 0, s.ge, 4095, nve s.ve⟩ 17 0 ep = true := (nxB_spec ht.wf).2 ⟨ht, by omega, by show (6 == 6 && epoB ep) = true; simp [epoB, he]⟩
  have e2 := nxS_yes y
  have hv := nx_rt ht.wf ⟨by omega, by omega⟩ y
  have hy := next_is ht.wf rfl y
  obtain ⟨v, ev⟩ : ∃ v, v = nxS ⟨6, 0, 0, false, false, 0, s.ge, 4095, nve s.ve⟩ 17 0 ep := ⟨_, rfl⟩
  rw [← ev] at e2 hv hy
  clear ev y
  subst e2
  exact ⟨_, _, _, hx, hy, clear_yes hv rfl⟩
theorem retire_new {s : Sl} (hs : s.Wf) (h : nxB s 11 0 4095 = true) (ep : Int) (he : ¬ (0 ≤ ep ∧ ep ≤ 4095)) : ∃ t x, NextIs s 11 0 4095 t true ∧ NextIs t 17 0 ep Sl.zero false ∧ NextIs t 12 0 0 ⟨0, 0, 0, false, false, 0, s.ge, 0, x⟩ true := by
  have e := retire_fact hs h
  have ht := nx_rt hs big4 h
  have hx := next_is hs rfl h
  obtain ⟨t, et⟩ : ∃ t, t = nxS s 11 0 4095 := ⟨_, rfl⟩
  rw [← et] at e ht hx
  clear et h
  subst e
  have n : nxB ⟨6, 0, 0, false, false, 0, s.ge, 4095, nve s.ve⟩ 17 0 ep = false := by
    cases hq : nxB ⟨6, 0, 0, false, false, 0, s.ge, 4095, nve s.ve⟩ 17 0 ep with
    | false => rfl
    | true =>
      have hc : (6 == 6 && epoB ep) = true := ((nxB_spec ht.wf).1 hq).2.2
      simp [epoB] at hc
      omega
  exact ⟨_, _, hx, next_is ht.wf (nxS_no n) n, clear_yes ht rfl⟩
theorem keep_then {s : Sl} {a : Int} (hs : s.Wf) (h : nxB s 5 a 0 = true) : nxB s 7 a 0 = false ∧ nxB s 11 0 4095 = true := by
  obtain ⟨hr, h2, _, _⟩ := keep_fact hs h
  constructor
  · cases hq : nxB s 7 a 0 with
    | false => rfl
    | true => have := (hold_fact hs hq).2.2.1; omega
  · exact (nxB_spec hs).2 ⟨hr, by omega, by show ((s.st == 2 || s.st == 3) && epoB 4095) = true; simp [h2, epoB]⟩
theorem hold_then {s : Sl} {a : Int} (hs : s.Wf) (h : nxB s 7 a 0 = true) : nxB s 11 0 4095 = false := by
  obtain ⟨hr, _, h0, _⟩ := hold_fact hs h
  cases hq : nxB s 11 0 4095 with
  | false => rfl
  | true =>
    have hc : ((s.st == 2 || s.st == 3) && epoB 4095) = true := ((nxB_spec hs).1 hq).2.2
    simp [h0] at hc
end Go.Proofs.YtdiipmejkanhfaaDoor
