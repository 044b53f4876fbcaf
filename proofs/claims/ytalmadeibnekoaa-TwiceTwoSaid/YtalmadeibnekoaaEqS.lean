/- Two slots held against each other. -/
import Derived.Test.YtalmadeibnekoaaRight
namespace Go.Proofs.Ytalmadeibnekoaa
open Go.RowKit
attribute [local go_sem ↓] Go.wp_at_zero Go.wp_at_succ

theorem eqG : Try.prog.eqGuardType Try.prog.depth 66 = false := by kernel_rfl
theorem fieldsOf23 : Try.prog.underlying 66 = some (.struct (Try.prog.fieldsOf 66)) := by kernel_rfl
theorem stood23 : Try.prog.stoodInHeld 66 = false := by kernel_rfl
theorem sl_ne {a b : Sl} (h : ¬ a = b) : ¬ (a.st = b.st ∧ a.ow = b.ow ∧ a.sr = b.sr ∧ a.br = b.br ∧ a.ma = b.ma ∧ a.us = b.us ∧ a.ge = b.ge ∧ a.ep = b.ep ∧ a.ve = b.ve) :=
  fun ⟨h0, h1, h2, h3, h4, h5, h6, h7, h8⟩ => h (Sl.ext' h0 h1 h2 h3 h4 h5 h6 h7 h8)
set_option maxRecDepth 100000 in
set_option maxHeartbeats 1000000 in
theorem eq_sl (a b : Sl) (w : World) : (binOp .eql 66 (Value.agg #[Value.int .i64 a.st, Value.int .i64 a.ow, Value.int .i64 a.sr, Value.bool a.br, Value.bool a.ma, Value.int .i64 a.us, Value.int .i64 a.ge, Value.int .i64 a.ep, Value.int .i64 a.ve]) (Value.agg #[Value.int .i64 b.st, Value.int .i64 b.ow, Value.int .i64 b.sr, Value.bool b.br, Value.bool b.ma, Value.int .i64 b.us, Value.int .i64 b.ge, Value.int .i64 b.ep, Value.int .i64 b.ve])).run Try.prog w = .ok (.bool (decide (a = b))) w := by
  rw [run_eql_struct, run_equalIn_struct w 9999 66 _ _ fieldsOf23 stood23]
  simp [Program.fieldsOf, Try.underlying66, Try.underlying3, Try.underlying4, Op.eqFields, go_sem]
  by_cases h : a = b
  · subst h
    simp
  · have hn := sl_ne h
    rw [decide_eq_false h]
    repeat' split
    all_goals (first | rfl | (exact absurd ⟨by assumption, by assumption, by assumption, by assumption, by assumption, by assumption, by assumption, by assumption, by assumption⟩ hn))
set_option maxRecDepth 100000 in
set_option maxHeartbeats 1000000 in
theorem ne_sl (a b : Sl) (w : World) : (binOp .neq 66 (Value.agg #[Value.int .i64 a.st, Value.int .i64 a.ow, Value.int .i64 a.sr, Value.bool a.br, Value.bool a.ma, Value.int .i64 a.us, Value.int .i64 a.ge, Value.int .i64 a.ep, Value.int .i64 a.ve]) (Value.agg #[Value.int .i64 b.st, Value.int .i64 b.ow, Value.int .i64 b.sr, Value.bool b.br, Value.bool b.ma, Value.int .i64 b.us, Value.int .i64 b.ge, Value.int .i64 b.ep, Value.int .i64 b.ve])).run Try.prog w = .ok (.bool (!decide (a = b))) w := by
  have h := eq_sl a b w
  rw [run_eql_struct] at h
  rw [run_neq_struct]
  revert h
  cases (Op.equalIn 10000 66 (Value.agg #[Value.int .i64 a.st, Value.int .i64 a.ow, Value.int .i64 a.sr, Value.bool a.br, Value.bool a.ma, Value.int .i64 a.us, Value.int .i64 a.ge, Value.int .i64 a.ep, Value.int .i64 a.ve]) (Value.agg #[Value.int .i64 b.st, Value.int .i64 b.ow, Value.int .i64 b.sr, Value.bool b.br, Value.bool b.ma, Value.int .i64 b.us, Value.int .i64 b.ge, Value.int .i64 b.ep, Value.int .i64 b.ve])).run Try.prog w with
  | ok x w1 =>
    intro h
    simp only [Result.andThen] at h ⊢
    injection h with h1 h2
    injection h1 with h1
    rw [h1, h2]
  | halt x w1 => intro h; simp [Result.andThen] at h
end Go.Proofs.Ytalmadeibnekoaa
