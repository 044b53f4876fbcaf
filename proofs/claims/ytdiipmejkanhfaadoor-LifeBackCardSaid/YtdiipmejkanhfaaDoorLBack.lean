/- LifeBack: what is kept, and given back, is as it was; what is held, and let go, is Empty again; what is retired, and cleared, is Empty, with its Gen. -/
import Derived.Test.YtdiipmejkanhfaaDoorBackA
import Derived.Test.YtdiipmejkanhfaaDoorBackB
import Derived.Test.YtdiipmejkanhfaaDoorBackC
namespace Go.Proofs.YtdiipmejkanhfaaDoor
open Go.RowKit
attribute [local go_sem ↓] Go.wp_at_zero Go.wp_at_succ
theorem lback_any (s : Sl) (a b ep : Int) (w : World) (hT : Tb w) (hs : s.Wf) :
    Calls Tryd.prog 8 #[Value.agg #[Value.int .i64 s.st, Value.int .i64 s.ow, Value.int .i64 s.sr, Value.bool s.br, Value.bool s.ma, Value.int .i64 s.us, Value.int .i64 s.ge, Value.int .i64 s.ep, Value.int .i64 s.ve], .int .i64 a, .int .i64 b, .int .i64 ep] w fun e w' => e = .returned (.bool true) ∧ Below w.heap.size w w' := by
  cases hk : nxB s 5 a 0 with
  | true =>
    obtain ⟨hh, hr⟩ := keep_then hs hk
    by_cases he : 0 ≤ ep ∧ ep ≤ 4095
    · by_cases hb : 0 ≤ b ∧ b ≤ 15
      · exact b4 s a b ep w hT hs hk hh hr hb he
      · by_cases hb0 : b < 0
        · exact b6 s a b ep w hT hs hk hh hr hb hb0 he
        · exact b8 s a b ep w hT hs hk hh hr hb (by omega) (by omega) he
    · by_cases hb : 0 ≤ b ∧ b ≤ 15
      · exact b5 s a b ep w hT hs hk hh hr hb he
      · by_cases hb0 : b < 0
        · exact b7 s a b ep w hT hs hk hh hr hb hb0 he
        · exact b9 s a b ep w hT hs hk hh hr hb (by omega) (by omega) he
  | false =>
    cases hh : nxB s 7 a 0 with
    | true => exact b1 s a b ep w hT hs hk hh (hold_then hs hh)
    | false =>
      cases hr : nxB s 11 0 4095 with
      | false => exact b0 s a b ep w hT hs hk hh hr
      | true =>
        by_cases he : 0 ≤ ep ∧ ep ≤ 4095
        · exact b2 s a b ep w hT hs hk hh hr he
        · exact b3 s a b ep w hT hs hk hh hr he
end Go.Proofs.YtdiipmejkanhfaaDoor
