/- The slot that a word tells, right or not; nothing that was there changes. -/
import Derived.Test.YtalmadeibnekoaaWord
namespace Go.Proofs.Ytalmadeibnekoaa
open Go.RowKit
attribute [local go_sem ↓] Go.wp_at_zero Go.wp_at_succ

def rd (x : Int) (k : Nat) : Int := getI x (pa k) (pb k)
def rk (x : Int) (k j : Nat) : Int := if j < k then rd x j else 0

theorem rk_at (x : Int) (k : Nat) (h : k < 9) : #[Value.int .i64 (rk x k 0), Value.int .i64 (rk x k 1), Value.int .i64 (rk x k 2), Value.int .i64 (rk x k 3), Value.int .i64 (rk x k 4), Value.int .i64 (rk x k 5), Value.int .i64 (rk x k 6), Value.int .i64 (rk x k 7), Value.int .i64 (rk x k 8)][k]? = some (Value.int .i64 (rk x k k)) := by
  rcases nine h with rfl | rfl | rfl | rfl | rfl | rfl | rfl | rfl | rfl <;> rfl
theorem rk_put (x : Int) {k : Nat} (h : k < 9) : #[Value.int .i64 (rk x k 0), Value.int .i64 (rk x k 1), Value.int .i64 (rk x k 2), Value.int .i64 (rk x k 3), Value.int .i64 (rk x k 4), Value.int .i64 (rk x k 5), Value.int .i64 (rk x k 6), Value.int .i64 (rk x k 7), Value.int .i64 (rk x k 8)].setIfInBounds k (Value.int .i64 (rd x k)) = #[Value.int .i64 (rk x (k + 1) 0), Value.int .i64 (rk x (k + 1) 1), Value.int .i64 (rk x (k + 1) 2), Value.int .i64 (rk x (k + 1) 3), Value.int .i64 (rk x (k + 1) 4), Value.int .i64 (rk x (k + 1) 5), Value.int .i64 (rk x (k + 1) 6), Value.int .i64 (rk x (k + 1) 7), Value.int .i64 (rk x (k + 1) 8)] := by
  rcases nine h with rfl | rfl | rfl | rfl | rfl | rfl | rfl | rfl | rfl <;> rfl
def rdS (x : Int) : Sl := ⟨rd x 0, rd x 1, rd x 2, rd x 3 == 1, rd x 4 == 1, rd x 5, rd x 6, rd x 7, rd x 8⟩

end Go.Proofs.Ytalmadeibnekoaa
