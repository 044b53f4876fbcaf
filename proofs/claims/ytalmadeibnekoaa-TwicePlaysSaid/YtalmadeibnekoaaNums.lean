/- What the program's small functions on a slot answer: its numbers; nothing that was there changes. No condition. -/
import Derived.Test.YtalmadeibnekoaaKit
namespace Go.Proofs.Ytalmadeibnekoaa
open Go.RowKit
attribute [local go_sem ↓] Go.wp_at_zero Go.wp_at_succ

/-- a slot -/
structure Sl where
  st : Int
  ow : Int
  sr : Int
  br : Bool
  ma : Bool
  us : Int
  ge : Int
  ep : Int
  ve : Int
deriving DecidableEq
def b2i (b : Bool) : Int := if b then 1 else 0

theorem from0_any (n m : Int) (w : World) :
    Calls Try.prog 53 #[.int .i64 n, .int .i64 m] w fun e w' => e = .returned (.bool (decide (0 ≤ n) && decide (n ≤ m))) ∧ w = w' := by
  go_enter Try.func53, Try.ntmps53
  go_wp2
  all_goals go_ret
  all_goals exact ⟨ret_bool (by simp [*]; try omega), rfl⟩

end Go.Proofs.Ytalmadeibnekoaa
