/- Two entries held against each other. -/
import Derived.Test.YtbkaiffecnomjaaKit
namespace Go.Proofs.Ytbkaiffecnomjaa
open Go.RowKit
attribute [local go_sem ↓] Go.wp_at_zero Go.wp_at_succ

theorem eqG : Try.prog.eqGuardType Try.prog.depth 32 = false := by kernel_rfl
theorem fieldsOf32 : Try.prog.underlying 32 = some (.struct (Try.prog.fieldsOf 32)) := by kernel_rfl
theorem stood32 : Try.prog.stoodInHeld 32 = false := by kernel_rfl
theorem fieldsOf30 : Try.prog.underlying 30 = some (.struct (Try.prog.fieldsOf 30)) := by kernel_rfl
theorem stood30 : Try.prog.stoodInHeld 30 = false := by kernel_rfl
theorem en_ne {a b : En} (h : ¬ a = b) : ¬ (a.k = b.k ∧ a.w = b.w ∧ a.op = b.op ∧ a.dl = b.dl ∧ a.wa = b.wa ∧ a.fo = b.fo ∧ a.sl = b.sl ∧ a.ge = b.ge ∧ a.st = b.st ∧ a.n = b.n ∧ a.gd = b.gd) :=
  fun ⟨h0, h1, h2, h3, h4, h5, h6, h7, h8, h9, h10⟩ => h (En.ext' h0 h1 h2 h3 h4 h5 h6 h7 h8 h9 h10)
set_option maxHeartbeats 1000000 in
theorem eq_en (a b : En) (w : World) : (binOp .eql 32 (Value.agg #[Value.int .i64 a.k, Value.int .i64 a.w, Value.int .i64 a.op, Value.int .i64 a.dl, Value.bool a.wa, Value.bool a.fo, Value.int .i64 a.sl, Value.int .i64 a.ge, Value.int .i64 a.st, Value.int .i64 a.n, Value.bool a.gd]) (Value.agg #[Value.int .i64 b.k, Value.int .i64 b.w, Value.int .i64 b.op, Value.int .i64 b.dl, Value.bool b.wa, Value.bool b.fo, Value.int .i64 b.sl, Value.int .i64 b.ge, Value.int .i64 b.st, Value.int .i64 b.n, Value.bool b.gd])).run Try.prog w = .ok (.bool (decide (a = b))) w := by
  rw [run_eql_struct, run_equalIn_struct w 9999 32 _ _ fieldsOf32 stood32]
  simp [Program.fieldsOf, Try.underlying32, Try.underlying30, Try.underlying3, Try.underlying4, Op.eqFields, go_sem]
  by_cases h : a = b
  · subst h
    simp
  · have hn := en_ne h
    rw [decide_eq_false h]
    repeat' split
    all_goals (first | rfl | (exact absurd ⟨by assumption, by assumption, by assumption, by assumption, by assumption, by assumption, by assumption, by assumption, by assumption, by assumption, by assumption⟩ hn))
set_option maxHeartbeats 1000000 in
theorem ne_en (a b : En) (w : World) : (binOp .neq 32 (Value.agg #[Value.int .i64 a.k, Value.int .i64 a.w, Value.int .i64 a.op, Value.int .i64 a.dl, Value.bool a.wa, Value.bool a.fo, Value.int .i64 a.sl, Value.int .i64 a.ge, Value.int .i64 a.st, Value.int .i64 a.n, Value.bool a.gd]) (Value.agg #[Value.int .i64 b.k, Value.int .i64 b.w, Value.int .i64 b.op, Value.int .i64 b.dl, Value.bool b.wa, Value.bool b.fo, Value.int .i64 b.sl, Value.int .i64 b.ge, Value.int .i64 b.st, Value.int .i64 b.n, Value.bool b.gd])).run Try.prog w = .ok (.bool (!decide (a = b))) w := by
  have h := eq_en a b w
  rw [run_eql_struct] at h
  rw [run_neq_struct]
  revert h
  cases (Op.equalIn 10000 32 (Value.agg #[Value.int .i64 a.k, Value.int .i64 a.w, Value.int .i64 a.op, Value.int .i64 a.dl, Value.bool a.wa, Value.bool a.fo, Value.int .i64 a.sl, Value.int .i64 a.ge, Value.int .i64 a.st, Value.int .i64 a.n, Value.bool a.gd]) (Value.agg #[Value.int .i64 b.k, Value.int .i64 b.w, Value.int .i64 b.op, Value.int .i64 b.dl, Value.bool b.wa, Value.bool b.fo, Value.int .i64 b.sl, Value.int .i64 b.ge, Value.int .i64 b.st, Value.int .i64 b.n, Value.bool b.gd])).run Try.prog w with
  | ok x w1 =>
    intro h
    simp only [Result.andThen] at h ⊢
    injection h with h1 h2
    injection h1 with h1
    rw [h1, h2]
  | halt x w1 => intro h; simp [Result.andThen] at h
end Go.Proofs.Ytbkaiffecnomjaa
