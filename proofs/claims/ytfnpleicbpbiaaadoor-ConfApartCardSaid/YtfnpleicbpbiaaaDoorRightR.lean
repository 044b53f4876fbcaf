/- Which conf is right, as the document's own function tells; nothing that was there changes. -/
import Derived.Test.YtfnpleicbpbiaaaDoorCf
namespace Go.Proofs.YtfnpleicbpbiaaaDoor
open Go.RowKit
attribute [local go_sem ↓] Go.wp_at_zero Go.wp_at_succ

theorem rcB_eq (c : Cf) : rcB c = (!(decide (c.wo < 1) || decide (8 < c.wo) || decide (c.sl < 1) || decide (16 < c.sl)) && (decide (0 ≤ c.st) && decide (c.st ≤ 8) && decide (0 ≤ c.wa) && decide (c.wa ≤ 8) && decide (1 ≤ c.us) && decide (c.us ≤ 60))) := by
  rw [Bool.eq_iff_iff]
  simp [rcB, wiB]
  omega
set_option maxRecDepth 100000 in
set_option maxHeartbeats 2000000 in
theorem refCRight_any (c : Cf) (w : World) :
    Calls Tryd.prog 8 #[Value.agg #[Value.int .i64 c.wo, Value.int .i64 c.sl, Value.int .i64 c.st, Value.int .i64 c.wa, Value.int .i64 c.us]] w fun e w' => e = .returned (.bool (rcB c)) ∧ Below w.heap.size w w' := by
  have hB : Below w.heap.size w (w.alloc (.cells #[Value.int .i64 c.wo, Value.int .i64 c.sl, Value.int .i64 c.st, Value.int .i64 c.wa, Value.int .i64 c.us] 23)) := (Below.refl _ _).alloc (Nat.le_refl _) _
  obtain ⟨wo, sl, st, wa, us⟩ := c
  have Hq := Lib.hid (rcB_eq ⟨wo, sl, st, wa, us⟩)
  go_enter Tryd.func8, Tryd.ntmps8
  go_wp2
  all_goals go_ret
  all_goals exact ⟨ret_bool (by rw [Hq.out]; simp [*] <;> omega), hB⟩
end Go.Proofs.YtfnpleicbpbiaaaDoor
