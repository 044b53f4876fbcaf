/- The document's words and kinds; Fits of the program and of the document; the two that look, made; nothing that was there changes. -/
import Derived.Test.YtalmadeibnekoaaCm
import Derived.Test.YtalmadeibnekoaaRefC
import Derived.Test.YtalmadeibnekoaaAccR
namespace Go.Proofs.Ytalmadeibnekoaa
open Go.RowKit
attribute [local go_sem ↓] Go.wp_at_zero Go.wp_at_succ

theorem dec_0 : decB 0 = true := by decide +kernel
theorem dec_enc (s : Sl) : decB (encN s) = true := by
  cases hr : rtB s with
  | false => rw [encN_no hr]; exact dec_0
  | true =>
    rw [encN_yes hr]
    have e : rdS (wk s 9) = s := by simpa [rtB] using hr
    simp [decB, e, hr]
theorem enc_bd (s : Sl) : 0 ≤ encN s ∧ encN s < 4611686018427387904 := by
  unfold encN
  split
  · exact wk_bd s
  · omega
set_option maxRecDepth 100000 in
set_option maxHeartbeats 2000000 in
theorem refWord_any (s : Sl) (w : World) (hw : s.Wf) : Calls Try.prog 28 #[Value.agg #[Value.int .i64 s.st, Value.int .i64 s.ow, Value.int .i64 s.sr, Value.bool s.br, Value.bool s.ma, Value.int .i64 s.us, Value.int .i64 s.ge, Value.int .i64 s.ep, Value.int .i64 s.ve]] w fun e w' => e = .returned (.int .i64 (encN s)) ∧ Below w.heap.size w w' := by
  have hB := bnew w (.cells #[Value.int .i64 s.st, Value.int .i64 s.ow, Value.int .i64 s.sr, Value.bool s.br, Value.bool s.ma, Value.int .i64 s.us, Value.int .i64 s.ge, Value.int .i64 s.ep, Value.int .i64 s.ve] 66)
  have Hw := Lib.hid hw
  clear hw
  go_enter Try.func28, Try.ntmps28
  go_wp2_with fail
  refine (refEncode_any s _ Hw.out).mono ?_
  rintro e w1 ⟨rfl, hb⟩
  go_wp2_with fail
  go_ret
  exact ⟨rfl, bst hB hb⟩
/-- does a word fit a kind -/
def wfitB (x k o : Int) : Bool := decB x && fitsB (decS x) k o
end Go.Proofs.Ytalmadeibnekoaa
