/- Plain facts on what becomes of a slot: that it is right; its streams bit by bit. Nothing of the program's run is named; no conditions but those stated. -/
import Derived.Test.YtdiipmejkanhfaaDoorAwake
namespace Go.Proofs.YtdiipmejkanhfaaDoor
open Go.RowKit

/-! ### streams -/
theorem lowF : ∀ n : Fin 256, (0 ≤ lowI (n.val : Int) ∧ lowI (n.val : Int) ≤ 8) ∧ (lowI (n.val : Int) < 8 → opnI (n.val : Int) = n.val + 2 ^ (lowI (n.val : Int)).toNat ∧ opnI (n.val : Int) ≤ 255 ∧ n.val / 2 ^ (lowI (n.val : Int)).toNat % 2 = 0) ∧ (∀ j : Fin 8, (j.val : Int) < lowI (n.val : Int) → n.val / 2 ^ j.val % 2 = 1) := by decide +kernel
theorem hadF : ∀ n : Fin 256, ∀ m : Fin 8, hadB (n.val : Int) (m.val : Int) = ((n.val : Int) / 2 ^ m.val % 2 == 1) ∧ (hadB (n.val : Int) (m.val : Int) = true → shtI (n.val : Int) (m.val : Int) = n.val - 2 ^ m.val ∧ 0 ≤ shtI (n.val : Int) (m.val : Int)) := by decide +kernel
theorem farF : ∀ n : Fin 256, ∀ e : Fin 57, bits .and .i64 (n.val : Int) (wrap64 (2 ^ (8 + e.val))) = 0 := by decide +kernel
theorem fin_of {sr : Int} {N : Nat} (h : 0 ≤ sr ∧ sr < N) : ∃ n : Fin N, sr = (n.val : Int) := ⟨⟨sr.toNat, by omega⟩, by simp; omega⟩
theorem had_far {sr mo : Int} (h : 0 ≤ sr ∧ sr ≤ 255) (hm : ¬ (0 ≤ mo ∧ mo ≤ 7)) (h1 : -9223372036854775808 ≤ mo) (h2 : mo ≤ 9223372036854775807) : hadB sr mo = false := by
  obtain ⟨n, rfl⟩ := fin_of (N := 256) (sr := sr) (by omega)
  have e : 8 ≤ min (IntKind.u64.wrap mo).toNat 64 ∧ min (IntKind.u64.wrap mo).toNat 64 ≤ 64 := by
    rw [IntKind.wrap_u64]; omega
  obtain ⟨k, hk⟩ : ∃ k, k = min (IntKind.u64.wrap mo).toNat 64 := ⟨_, rfl⟩
  unfold hadB bitM
  rw [← hk] at e ⊢
  have := farF n ⟨k - 8, by omega⟩
  have e2 : 8 + (k - 8) = k := by omega
  simp only [e2] at this
  rw [this]; rfl
def Big (x : Int) : Prop := -9223372036854775808 ≤ x ∧ x ≤ 9223372036854775807
/-- what shutting is, in numbers -/
theorem shut_fact {sr mo : Int} (h : 0 ≤ sr ∧ sr ≤ 255) (hm : Big mo) (hh : hadB sr mo = true) : (0 ≤ mo ∧ mo ≤ 7) ∧ shtI sr mo = sr - 2 ^ mo.toNat ∧ 0 ≤ shtI sr mo ∧ shtI sr mo ≤ 255 := by
  by_cases hb : 0 ≤ mo ∧ mo ≤ 7
  · obtain ⟨n, rfl⟩ := fin_of (N := 256) (sr := sr) (by omega)
    obtain ⟨m, rfl⟩ := fin_of (N := 8) (sr := mo) (by omega)
    have e := (hadF n m).2 hh
    have p : 0 < (2 : Int) ^ m.val := Int.pow_pos (by omega)
    refine ⟨hb, by simpa using e.1, e.2, by rw [e.1]; omega⟩
  · rw [had_far h hb hm.1 hm.2] at hh
    cases hh
/-- what opening is, in numbers -/
theorem open_fact {sr mo : Int} (h : 0 ≤ sr ∧ sr ≤ 255) (hl : lowI sr < min8 mo) : (0 ≤ lowI sr ∧ lowI sr ≤ 7) ∧ lowI sr < mo ∧ opnI sr = sr + 2 ^ (lowI sr).toNat ∧ 0 < opnI sr ∧ opnI sr ≤ 255 ∧ sr / 2 ^ (lowI sr).toNat % 2 = 0 := by
  obtain ⟨n, rfl⟩ := fin_of (N := 256) (sr := sr) (by omega)
  have e := lowF n
  unfold min8 at hl
  have h7 : lowI (n.val : Int) < 8 := by split at hl <;> omega
  have q := e.2.1 h7
  have p : 0 < (2 : Int) ^ (lowI (n.val : Int)).toNat := Int.pow_pos (by omega)
  refine ⟨by omega, by split at hl <;> omega, q.1, by rw [q.1]; omega, q.2.1, ?_⟩
  have := q.2.2
  have e2 : ((n.val / 2 ^ (lowI (n.val : Int)).toNat % 2 : Nat) : Int) = 0 := by rw [this]; rfl
  simpa using e2

theorem nge_bd (n : Int) : 0 ≤ nge n ∧ nge n ≤ 4095 := by unfold nge; omega
theorem nve_bd (n : Int) : 0 ≤ nve n ∧ nve n ≤ 32767 := by unfold nve; omega
theorem nus_bd {n : Int} (h : 0 ≤ n) : 0 < nus n ∧ nus n ≤ 63 := by unfold nus; split <;> omega
theorem nx_ve {s : Sl} {d a mo : Int} (h : nxB s d a mo = true) : (nxS s d a mo).ve = nve s.ve := by rw [nxS_yes h]; rfl
theorem rt_of {st ow sr us ge ep ve : Int} {br ma : Bool} (h0 : 0 ≤ st ∧ st ≤ 6) (h1 : 0 ≤ ow ∧ ow ≤ 15) (h2 : 0 ≤ sr ∧ sr ≤ 255) (h3 : 0 ≤ us ∧ us ≤ 63) (h4 : 0 ≤ ge ∧ ge ≤ 4095) (h5 : 0 ≤ ep ∧ ep ≤ 4095) (h6 : 0 ≤ ve ∧ ve ≤ 32767)
    (h7 : 0 < sr → st = 3) (h8 : br = true → st = 2 ∨ st = 3 ∨ st = 4) (h9 : 0 < us → st = 2 ∨ st = 3 ∨ st = 4) (h10 : ma = true → st = 2) (h11 : ep ≠ 0 → st = 6) (h12 : ow ≠ 0 → 0 < st ∧ st < 6) : Rt ⟨st, ow, sr, br, ma, us, ge, ep, ve⟩ :=
  ⟨h0, h1, h2, h3, h4, h5, h6, h7, h8, h9, h10, h11, h12⟩
set_option maxHeartbeats 2000000 in
theorem ch_rt {k : Nat} (hk : k < 18) {s : Sl} {a mo : Int} (hr : Rt s) (ha : 0 ≤ a ∧ a ≤ 15) (hm : Big mo) (hc : chB k s a mo = true) : Rt ((chS k s a mo).ver (nve s.ve)) := by
  have hv := nve_bd s.ve
  have hg := nge_bd s.ge
  have hu := nus_bd hr.us.1
  have hsh := shut_fact (mo := mo) hr.sr hm
  have hop := open_fact (mo := mo) hr.sr
  obtain ⟨st, ow, sr, br, ma, us, ge, ep, ve⟩ := s
  obtain ⟨q0, q1, q2, q3, q4, q5, q6, q7, q8, q9, q10, q11, q12⟩ := hr
  simp only at hv hg hu hsh hop q0 q1 q2 q3 q4 q5 q6 q7 q8 q9 q10 q11 q12
  rcases eighteen hk with rfl | rfl | rfl | rfl | rfl | rfl | rfl | rfl | rfl | rfl | rfl | rfl | rfl | rfl | rfl | rfl | rfl | rfl
  case' inr.inr.inr.inr.inr.inr.inr.inr.inr.inr.inr.inr.inr.inr.inr.inr.inl =>
    cases hmm : minB ⟨st, ow, sr, br, ma, us, ge, ep, ve⟩ a 5
  all_goals simp [chB, minB, souB, epoB] at hc
  all_goals try simp [minB] at hmm
  all_goals simp [chS, Sl.becm, Sl.leas, Sl.bare, Sl.limb, Sl.ver, minB]
  all_goals try have hop2 := hop hc.2
  all_goals try have hsh2 := hsh hc.2
  all_goals clear hop hsh
  all_goals (try split)
  all_goals refine rt_of ?_ ?_ ?_ ?_ ?_ ?_ ?_ ?_ ?_ ?_ ?_ ?_ ?_
  all_goals (try dsimp only)
  all_goals first
    | omega
    | (intro hb; have := q8 hb; omega)
    | (intro hb; have := q10 hb; omega)
    | (simp; done)
    | (intro hb; simp [hb] at hc; omega)
theorem nx_rt {s : Sl} {d a mo : Int} (hs : s.Wf) (hm : Big mo) (h : nxB s d a mo = true) : Rt (nxS s d a mo) := by
  obtain ⟨hr, ho, hc⟩ := (nxB_spec hs).1 h
  rw [nxS_yes h]
  exact ch_rt (by omega) hr ⟨ho.1, ho.2.1⟩ hm hc
theorem Rt.wf {s : Sl} (h : Rt s) : s.Wf := by
  obtain ⟨q0, q1, q2, q3, q4, q5, q6, q7, q8, q9, q10, q11, q12⟩ := h
  exact ⟨by omega, by omega, by omega, by omega, by omega, by omega, by omega⟩
theorem nx_wf {s : Sl} {d a mo : Int} (hs : s.Wf) (hm : Big mo) : (nxS s d a mo).Wf := by
  cases h : nxB s d a mo with
  | true => exact (nx_rt hs hm h).wf
  | false => rw [nxS_no h]; exact wf_0
theorem rtB_of {s : Sl} (h : Rt s) : rtB s = true := by
  have := (right_iff h.wf).2 h
  simp [rtB, this]
theorem nx_src {s : Sl} {d a mo : Int} (hs : s.Wf) (h : nxB s d a mo = true) : Rt s := ((nxB_spec hs).1 h).1
theorem nx_ne {s : Sl} {d a mo : Int} (hs : s.Wf) (h : nxB s d a mo = true) : nxS s d a mo ≠ s := by
  intro e
  have h1 := nx_ve h
  rw [e] at h1
  have h2 := (nx_src hs h).ve
  unfold nve at h1
  omega
theorem nx_step {s : Sl} {d a mo : Int} (hs : s.Wf) (h : nxB s d a mo = true) : (nxS s d a mo).ve = s.ve + 1 ∨ s.ve = 32767 ∧ (nxS s d a mo).ve = 0 := by
  have h1 := nx_ve h
  have h2 := (nx_src hs h).ve
  unfold nve at h1
  omega
end Go.Proofs.YtdiipmejkanhfaaDoor
