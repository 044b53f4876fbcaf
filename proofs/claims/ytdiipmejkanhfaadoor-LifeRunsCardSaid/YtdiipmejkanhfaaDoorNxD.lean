/- What becomes of a slot, whatever is done: the program's Next; nothing that was there changes. -/
import Derived.Test.YtdiipmejkanhfaaDoorCh
namespace Go.Proofs.YtdiipmejkanhfaaDoor
open Go.RowKit
attribute [local go_sem ↓] Go.wp_at_zero Go.wp_at_succ

theorem oth9 {W : World} {b c : Nat} {t : TypeId} {vs : Array Value} (h : RowAt W b t vs) (hne : b ≠ c) (v0 v1 v2 v3 v4 v5 v6 v7 v8 : Value) :
    RowAt (((((((((W.setCell ⟨c, 0, none⟩ v0).setCell ⟨c, 1, none⟩ v1).setCell ⟨c, 2, none⟩ v2).setCell ⟨c, 3, none⟩ v3).setCell ⟨c, 4, none⟩ v4).setCell ⟨c, 5, none⟩ v5).setCell ⟨c, 6, none⟩ v6).setCell ⟨c, 7, none⟩ v7).setCell ⟨c, 8, none⟩ v8) b t vs :=
  ((((((((h.putOther _ hne v0).putOther _ hne v1).putOther _ hne v2).putOther _ hne v3).putOther _ hne v4).putOther _ hne v5).putOther _ hne v6).putOther _ hne v7).putOther _ hne v8
/-- a slot that has but nothing -/
def Sl.zero : Sl := ⟨0, 0, 0, false, false, 0, 0, 0, 0⟩
def Sl.ver (s : Sl) (v : Int) : Sl := ⟨s.st, s.ow, s.sr, s.br, s.ma, s.us, s.ge, s.ep, v⟩
/-- whether it can be asked at all -/
def okB (s : Sl) (d a : Int) : Bool := rtB s && (decide (0 ≤ a) && decide (a ≤ 15) && (decide (0 ≤ d) && decide (d ≤ 17)))
/-- what Next tells -/
def nxB (s : Sl) (d a mo : Int) : Bool := okB s d a && chB d.toNat s a mo
def nxS (s : Sl) (d a mo : Int) : Sl := if nxB s d a mo then (chS d.toNat s a mo).ver (nve s.ve) else Sl.zero
theorem nxS_yes {s : Sl} {d a mo : Int} (h : nxB s d a mo = true) : nxS s d a mo = (chS d.toNat s a mo).ver (nve s.ve) := by simp [nxS, h]
theorem nxS_no {s : Sl} {d a mo : Int} (h : nxB s d a mo = false) : nxS s d a mo = Sl.zero := by simp [nxS, h]
theorem TzAt.alloc {W : World} (h : TzAt W) (o : Obj) : TzAt (W.alloc o) := h.below ((Below.refl _ _).alloc (Nat.le_refl _) o) h.lt
theorem ch_is {k : Nat} (hk : k < 18) (s : Sl) (a mo : Int) (w : World) (b : Bool) (h : chB k s a mo = b) (hr : Rt s) (hT : TzAt w) :
    Calls Tryd.prog (20 + k) #[Value.agg #[Value.int .i64 s.st, Value.int .i64 s.ow, Value.int .i64 s.sr, Value.bool s.br, Value.bool s.ma, Value.int .i64 s.us, Value.int .i64 s.ge, Value.int .i64 s.ep, Value.int .i64 s.ve, Value.int .i64 a, Value.int .i64 mo]] w fun e w' => e = .returned (.tuple #[.agg #[Value.int .i64 (chS k s a mo).st, Value.int .i64 (chS k s a mo).ow, Value.int .i64 (chS k s a mo).sr, Value.bool (chS k s a mo).br, Value.bool (chS k s a mo).ma, Value.int .i64 (chS k s a mo).us, Value.int .i64 (chS k s a mo).ge, Value.int .i64 (chS k s a mo).ep, Value.int .i64 (chS k s a mo).ve], .bool b]) ∧ Below w.heap.size w w' := by
  rw [← h]; exact ch_any hk s a mo w hr hT
end Go.Proofs.YtdiipmejkanhfaaDoor
