/- What Next tells; nothing that was there changes. -/
import Derived.Test.YtdiipmejkanhfaaDoorNxA
import Derived.Test.YtdiipmejkanhfaaDoorNxB
import Derived.Test.YtdiipmejkanhfaaDoorNxC
namespace Go.Proofs.YtdiipmejkanhfaaDoor
open Go.RowKit
attribute [local go_sem ↓] Go.wp_at_zero Go.wp_at_succ
theorem next_any (s : Sl) (d a mo : Int) (w : World) (hs : s.Wf) (hT : Tab w) (hZ : TzAt w) :
    Calls Tryd.prog 11 #[Value.agg #[Value.int .i64 s.st, Value.int .i64 s.ow, Value.int .i64 s.sr, Value.bool s.br, Value.bool s.ma, Value.int .i64 s.us, Value.int .i64 s.ge, Value.int .i64 s.ep, Value.int .i64 s.ve], .int .i64 d, .int .i64 a, .int .i64 mo] w fun e w' => e = .returned (.tuple #[.agg #[Value.int .i64 (nxS s d a mo).st, Value.int .i64 (nxS s d a mo).ow, Value.int .i64 (nxS s d a mo).sr, Value.bool (nxS s d a mo).br, Value.bool (nxS s d a mo).ma, Value.int .i64 (nxS s d a mo).us, Value.int .i64 (nxS s d a mo).ge, Value.int .i64 (nxS s d a mo).ep, Value.int .i64 (nxS s d a mo).ve], .bool (nxB s d a mo)]) ∧ Below w.heap.size w w' := by
  cases hr : rtB s with
  | false =>
    have hn : nxB s d a mo = false := by simp [nxB, okB, hr]
    rw [nxS_no hn, hn]
    exact next_wrong s d a mo w hT hr
  | true =>
    by_cases ho : 0 ≤ a ∧ a ≤ 15 ∧ 0 ≤ d ∧ d ≤ 17
    · obtain ⟨h1, h2, h3, h4⟩ := ho
      obtain ⟨k, rfl⟩ : ∃ k : Nat, d = k := ⟨d.toNat, by omega⟩
      have hk : k < 18 := by omega
      have hR : Rt s := (right_iff hs).1 (by simpa [rtB] using hr)
      cases hc : chB k s a mo with
      | true =>
        have hn : nxB s k a mo = true := by simp [nxB, okB, hr, hc]; omega
        rw [nxS_yes hn, hn]
        exact next_yes s k a mo w hT hZ hR hr hk h1 h2 hc
      | false =>
        have hn : nxB s k a mo = false := by simp [nxB, hc]
        rw [nxS_no hn, hn]
        exact next_no s k a mo w hT hZ hR hr hk h1 h2 hc
    · have hn : nxB s d a mo = false := by simp [nxB, okB, hr]; omega
      rw [nxS_no hn, hn]
      exact next_out s d a mo w hT hr ho
theorem nxB_spec {s : Sl} {d a mo : Int} (hs : s.Wf) : nxB s d a mo = true ↔ Rt s ∧ (0 ≤ a ∧ a ≤ 15 ∧ 0 ≤ d ∧ d ≤ 17) ∧ chB d.toNat s a mo = true := by
  have e : rtB s = true ↔ Rt s := by rw [← right_iff hs]; simp [rtB]
  simp only [nxB, okB, Bool.and_eq_true, decide_eq_true_eq, e, and_assoc]
end Go.Proofs.YtdiipmejkanhfaaDoor
