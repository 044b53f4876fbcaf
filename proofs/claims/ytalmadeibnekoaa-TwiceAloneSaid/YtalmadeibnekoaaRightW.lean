/- Whether a slot is right, and its word, as the program tells; nothing that was there changes. -/
import Derived.Test.YtalmadeibnekoaaEqS
namespace Go.Proofs.Ytalmadeibnekoaa
open Go.RowKit
attribute [local go_sem ↓] Go.wp_at_zero Go.wp_at_succ

def rtB (s : Sl) : Bool := decide (rdS (wk s 9) = s)
theorem wk_lo (s : Sl) : -9223372036854775808 ≤ wk s 9 := by have := wk_bd s; omega
theorem wk_hi (s : Sl) : wk s 9 ≤ 9223372036854775807 := by have := wk_bd s; omega

end Go.Proofs.Ytalmadeibnekoaa
