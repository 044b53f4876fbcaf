/- A part of words, cut with three indices. -/
import Derived.Test.YtalmadeibnekoaaAcc
import Derived.Test.YtalmadeibnekoaaLst
namespace Go.Proofs.Ytalmadeibnekoaa
open Go.RowKit
attribute [local go_sem ↓] Go.wp_at_zero Go.wp_at_succ

end Go.Proofs.Ytalmadeibnekoaa
