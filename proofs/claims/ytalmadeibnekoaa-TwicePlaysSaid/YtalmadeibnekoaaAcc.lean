/- Which cell is whose; nothing that was there changes. -/
import Derived.Test.YtalmadeibnekoaaParts
namespace Go.Proofs.Ytalmadeibnekoaa
open Go.RowKit
attribute [local go_sem ↓] Go.wp_at_zero Go.wp_at_succ

def pinI (c : Cf) (i : Int) : Int := cellI 3 c.wo i
def grantI (c : Cf) (i : Int) : Int := cellI (3 + c.wo) c.wo i
def slotI (c : Cf) (i : Int) : Int := cellI (3 + c.wo + c.wo) c.sl i
/-- how many cells there are -/
def cellsI (c : Cf) : Int := 3 + c.wo + c.wo + c.sl
set_option maxRecDepth 100000 in
set_option maxHeartbeats 2000000 in
theorem cells_any (c : Cf) (w : World) (hc : Rc c) :
    Calls Try.prog 43 #[Value.agg #[Value.int .i64 c.wo, Value.int .i64 c.sl, Value.int .i64 c.st, Value.int .i64 c.wa, Value.int .i64 c.us]] w fun e w' => e = .returned (.int .i64 (cellsI c)) ∧ Below w.heap.size w w' := by
  have hB : Below w.heap.size w (w.alloc (.cells #[Value.int .i64 c.wo, Value.int .i64 c.sl, Value.int .i64 c.st, Value.int .i64 c.wa, Value.int .i64 c.us] 31)) := (Below.refl _ _).alloc (Nat.le_refl _) _
  have q1 := hc.wo
  have q2 := hc.sl
  have Hc := Lib.hid hc
  clear hc
  go_enter Try.func43, Try.ntmps43
  go_wp2_with fail
  refine (parts_any c _ Hc.out).mono ?_
  rintro e w1 ⟨rfl, hb⟩
  replace hB := hB.trans (hb.mono hB.size)
  clear hb
  go_wp2_with fail
  refine (behind_any _ _ _ (by omega) (by omega)).mono ?_
  rintro e w2 ⟨rfl, hb⟩
  replace hB := (((hB.alloc hB.size (.cells #[.int .i64 3, .int .i64 c.wo] 84)).alloc (by simp; exact Nat.le_succ_of_le hB.size) (.cells #[.int .i64 (3 + c.wo), .int .i64 c.wo] 84)).alloc (by simp; exact Nat.le_succ_of_le (Nat.le_succ_of_le hB.size)) (.cells #[.int .i64 (3 + c.wo + c.wo), .int .i64 c.sl] 84)).trans (hb.mono (by have := hB.size; simp; omega))
  clear hb
  go_wp2_with fail
  go_ret
  exact ⟨rfl, hB⟩
set_option maxRecDepth 100000 in
set_option maxHeartbeats 2000000 in
theorem slot_any (c : Cf) (i : Int) (w : World) (hc : Rc c) :
    Calls Try.prog 31 #[Value.agg #[Value.int .i64 c.wo, Value.int .i64 c.sl, Value.int .i64 c.st, Value.int .i64 c.wa, Value.int .i64 c.us], .int .i64 i] w fun e w' => e = .returned (.int .i64 (slotI c i)) ∧ Below w.heap.size w w' := by
  have hB : Below w.heap.size w (w.alloc (.cells #[Value.int .i64 c.wo, Value.int .i64 c.sl, Value.int .i64 c.st, Value.int .i64 c.wa, Value.int .i64 c.us] 31)) := (Below.refl _ _).alloc (Nat.le_refl _) _
  have q1 := hc.wo
  have q2 := hc.sl
  have Hc := Lib.hid hc
  clear hc
  go_enter Try.func31, Try.ntmps31
  go_wp2_with fail
  refine (parts_any c _ Hc.out).mono ?_
  rintro e w1 ⟨rfl, hb⟩
  replace hB := hB.trans (hb.mono hB.size)
  clear hb
  go_wp2_with fail
  refine (cell_any _ _ i _ (by omega) (by omega)).mono ?_
  rintro e w2 ⟨rfl, hb⟩
  replace hB := (((hB.alloc hB.size (.cells #[.int .i64 3, .int .i64 c.wo] 84)).alloc (by simp; exact Nat.le_succ_of_le hB.size) (.cells #[.int .i64 (3 + c.wo), .int .i64 c.wo] 84)).alloc (by simp; exact Nat.le_succ_of_le (Nat.le_succ_of_le hB.size)) (.cells #[.int .i64 (3 + c.wo + c.wo), .int .i64 c.sl] 84)).trans (hb.mono (by have := hB.size; simp; omega))
  clear hb
  go_wp2_with fail
  go_ret
  exact ⟨rfl, hB⟩
end Go.Proofs.Ytalmadeibnekoaa
