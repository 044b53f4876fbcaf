/- Which cell is whose, as the document's own functions tell; nothing that was there changes. -/
import Derived.Test.YtalmadeibnekoaaAcc
namespace Go.Proofs.Ytalmadeibnekoaa
open Go.RowKit
attribute [local go_sem ↓] Go.wp_at_zero Go.wp_at_succ

set_option maxRecDepth 100000 in
set_option maxHeartbeats 2000000 in
theorem refPin_any (c : Cf) (i : Int) (w : World) (hc : Rc c) :
    Calls Try.prog 27 #[Value.agg #[Value.int .i64 c.wo, Value.int .i64 c.sl, Value.int .i64 c.st, Value.int .i64 c.wa, Value.int .i64 c.us], .int .i64 i] w fun e w' => e = .returned (.int .i64 (pinI c i)) ∧ Below w.heap.size w w' := by
  have hB : Below w.heap.size w (w.alloc (.cells #[Value.int .i64 c.wo, Value.int .i64 c.sl, Value.int .i64 c.st, Value.int .i64 c.wa, Value.int .i64 c.us] 31)) := (Below.refl _ _).alloc (Nat.le_refl _) _
  have q1 := hc.wo
  have q2 := hc.sl
  clear hc
  by_cases h0 : i < 0
  · have He := Lib.hid (show pinI c i = -1 by simp [pinI, cellI, wiB]; omega)
    go_enter Try.func27, Try.ntmps27
    go_wp2
    go_ret
    exact ⟨ret_int He.out.symm, hB⟩
  · by_cases h1 : c.wo ≤ i
    · have He := Lib.hid (show pinI c i = -1 by simp [pinI, cellI, wiB]; omega)
      go_enter Try.func27, Try.ntmps27
      go_wp2
      go_ret
      exact ⟨ret_int He.out.symm, hB⟩
    · have He := Lib.hid (show pinI c i = 3 + i by simp [pinI, cellI, wiB]; omega)
      go_enter Try.func27, Try.ntmps27
      go_wp2
      go_ret
      exact ⟨ret_int He.out.symm, hB⟩
set_option maxRecDepth 100000 in
set_option maxHeartbeats 2000000 in
theorem refSlot_any (c : Cf) (i : Int) (w : World) (hc : Rc c) :
    Calls Try.prog 24 #[Value.agg #[Value.int .i64 c.wo, Value.int .i64 c.sl, Value.int .i64 c.st, Value.int .i64 c.wa, Value.int .i64 c.us], .int .i64 i] w fun e w' => e = .returned (.int .i64 (slotI c i)) ∧ Below w.heap.size w w' := by
  have hB : Below w.heap.size w (w.alloc (.cells #[Value.int .i64 c.wo, Value.int .i64 c.sl, Value.int .i64 c.st, Value.int .i64 c.wa, Value.int .i64 c.us] 31)) := (Below.refl _ _).alloc (Nat.le_refl _) _
  have q1 := hc.wo
  have q2 := hc.sl
  clear hc
  by_cases h0 : i < 0
  · have He := Lib.hid (show slotI c i = -1 by simp [slotI, cellI, wiB]; omega)
    go_enter Try.func24, Try.ntmps24
    go_wp2
    go_ret
    exact ⟨ret_int He.out.symm, hB⟩
  · by_cases h1 : c.sl ≤ i
    · have He := Lib.hid (show slotI c i = -1 by simp [slotI, cellI, wiB]; omega)
      go_enter Try.func24, Try.ntmps24
      go_wp2
      go_ret
      exact ⟨ret_int He.out.symm, hB⟩
    · have He := Lib.hid (show slotI c i = 3 + c.wo + c.wo + i by simp [slotI, cellI, wiB]; omega)
      go_enter Try.func24, Try.ntmps24
      go_wp2
      go_ret
      exact ⟨ret_int He.out.symm, hB⟩
set_option maxRecDepth 100000 in
set_option maxHeartbeats 2000000 in
theorem refCells_any (c : Cf) (w : World) (hc : Rc c) :
    Calls Try.prog 26 #[Value.agg #[Value.int .i64 c.wo, Value.int .i64 c.sl, Value.int .i64 c.st, Value.int .i64 c.wa, Value.int .i64 c.us]] w fun e w' => e = .returned (.int .i64 (cellsI c)) ∧ Below w.heap.size w w' := by
  have hB : Below w.heap.size w (w.alloc (.cells #[Value.int .i64 c.wo, Value.int .i64 c.sl, Value.int .i64 c.st, Value.int .i64 c.wa, Value.int .i64 c.us] 31)) := (Below.refl _ _).alloc (Nat.le_refl _) _
  have q1 := hc.wo
  have q2 := hc.sl
  have Hc := Lib.hid hc
  have He := Lib.hid (show slotI c (c.sl - 1) = 3 + c.wo + c.wo + (c.sl - 1) by simp [slotI, cellI, wiB]; omega)
  have hw : IntKind.i64.wrap (c.sl - 1) = c.sl - 1 := IntWalk.i64_in _ (by omega)
  have Hw := Lib.hid (show wrap64 (slotI c (c.sl - 1) + 1) = cellsI c by rw [He.out, cellsI]; unfold wrap64; omega)
  clear hc
  go_enter Try.func26, Try.ntmps26
  go_wp2_with fail
  refine (refSlot_any c (c.sl - 1) _ Hc.out).mono ?_
  rintro e w1 ⟨rfl, hb⟩
  replace hB := hB.trans (hb.mono hB.size)
  clear hb hw
  go_wp2_with fail
  go_ret
  exact ⟨ret_int Hw.out, hB⟩
end Go.Proofs.Ytalmadeibnekoaa
