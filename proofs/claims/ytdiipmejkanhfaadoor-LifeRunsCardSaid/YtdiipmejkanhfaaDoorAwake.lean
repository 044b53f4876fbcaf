/- The chapter's example; the tables; what Next tells, in letters; nothing that was there changes. -/
import Derived.Test.YtdiipmejkanhfaaDoorNx
namespace Go.Proofs.YtdiipmejkanhfaaDoor
open Go.RowKit
attribute [local go_sem ↓] Go.wp_at_zero Go.wp_at_succ

/-- the two tables that the program reads lie as they should -/
def Tb (W : World) : Prop := Tab W ∧ TzAt W
theorem Tb.lt {W : World} (h : Tb W) : 2 < W.heap.size := h.2.lt
theorem Tb.below {W W1 : World} {n : Nat} (h : Tb W) (hB : Below n W W1) (hn : 2 < n) : Tb W1 := ⟨h.1.below hB (Nat.lt_of_le_of_lt (Nat.zero_le _) hn), h.2.below hB hn⟩
theorem Tb.alloc {W : World} (h : Tb W) (o : Obj) : Tb (W.alloc o) := h.below ((Below.refl _ _).alloc (Nat.le_refl _) o) h.lt
theorem Tb.drew {W : World} (h : Tb W) : Tb W.drew := h
def sl1 : Sl := ⟨1, 2, 0, false, false, 0, 0, 0, 1⟩
def sl2 : Sl := ⟨3, 2, 0, false, false, 1, 1, 0, 2⟩
theorem nx_s0 : nxS Sl.zero 0 2 0 = sl1 := by decide +kernel
theorem nxb_s0 : nxB Sl.zero 0 2 0 = true := by decide +kernel
theorem nx_s1 : nxS sl1 1 2 0 = sl2 := by decide +kernel
theorem nxb_s1 : nxB sl1 1 2 0 = true := by decide +kernel
theorem wf_0 : Sl.zero.Wf := by constructor <;> decide
theorem wf_1 : sl1.Wf := by constructor <;> decide
theorem next_s0 (w : World) (hT : Tb w) :
    Calls Tryd.prog 11 #[.agg #[Value.int .i64 0, Value.int .i64 0, Value.int .i64 0, Value.bool false, Value.bool false, Value.int .i64 0, Value.int .i64 0, Value.int .i64 0, Value.int .i64 0], .int .i64 0, .int .i64 2, .int .i64 0] w fun e w' => e = .returned (.tuple #[.agg #[Value.int .i64 1, Value.int .i64 2, Value.int .i64 0, Value.bool false, Value.bool false, Value.int .i64 0, Value.int .i64 0, Value.int .i64 0, Value.int .i64 1], .bool true]) ∧ Below w.heap.size w w' :=
  (next_any Sl.zero 0 2 0 w wf_0 hT.1 hT.2).mono fun _ _ ⟨h1, h2⟩ => ⟨h1.trans (by rw [nx_s0, nxb_s0]; rfl), h2⟩
theorem next_s1 (w : World) (hT : Tb w) :
    Calls Tryd.prog 11 #[.agg #[Value.int .i64 1, Value.int .i64 2, Value.int .i64 0, Value.bool false, Value.bool false, Value.int .i64 0, Value.int .i64 0, Value.int .i64 0, Value.int .i64 1], .int .i64 1, .int .i64 2, .int .i64 0] w fun e w' => e = .returned (.tuple #[.agg #[Value.int .i64 3, Value.int .i64 2, Value.int .i64 0, Value.bool false, Value.bool false, Value.int .i64 1, Value.int .i64 1, Value.int .i64 0, Value.int .i64 2], .bool true]) ∧ Below w.heap.size w w' :=
  (next_any sl1 1 2 0 w wf_1 hT.1 hT.2).mono fun _ _ ⟨h1, h2⟩ => ⟨h1.trans (by rw [nx_s1, nxb_s1]; rfl), h2⟩
theorem eq_s2 (w : World) : (binOp .eql 23 (.agg #[Value.int .i64 3, Value.int .i64 2, Value.int .i64 0, Value.bool false, Value.bool false, Value.int .i64 1, Value.int .i64 1, Value.int .i64 0, Value.int .i64 2]) (.agg #[Value.int .i64 3, Value.int .i64 2, Value.int .i64 0, Value.bool false, Value.bool false, Value.int .i64 1, Value.int .i64 1, Value.int .i64 0, Value.int .i64 2])).run Tryd.prog w = .ok (.bool true) w := by
  exact (eq_sl sl2 sl2 w).trans (by simp)
set_option maxRecDepth 100000 in
set_option maxHeartbeats 2000000 in
theorem awake_any (w : World) (hT : Tb w) : Calls Tryd.prog 10 #[] w fun e w' => e = .returned (.bool true) ∧ Below w.heap.size w w' := by
  go_enter Tryd.func10, Tryd.ntmps10
  go_wp2_with fail
  refine (next_s0 _ hT).mono ?_
  rintro e w1 ⟨rfl, hb⟩
  have hB := hb
  have HT := Lib.hid (hT.below hb hT.lt)
  clear hb hT
  replace hB := hB.alloc hB.size (.cells #[Value.int .i64 1, Value.int .i64 2, Value.int .i64 0, Value.bool false, Value.bool false, Value.int .i64 0, Value.int .i64 0, Value.int .i64 0, Value.int .i64 1] 23)
  replace HT := Lib.hid (HT.out.alloc (.cells #[Value.int .i64 1, Value.int .i64 2, Value.int .i64 0, Value.bool false, Value.bool false, Value.int .i64 0, Value.int .i64 0, Value.int .i64 0, Value.int .i64 1] 23))
  go_wp2_with fail
  refine (next_s1 _ HT.out).mono ?_
  rintro e w2 ⟨rfl, hb⟩
  replace hB := hB.trans (hb.mono hB.size)
  replace hB := hB.alloc hB.size (.cells #[Value.int .i64 3, Value.int .i64 2, Value.int .i64 0, Value.bool false, Value.bool false, Value.int .i64 1, Value.int .i64 1, Value.int .i64 0, Value.int .i64 2] 23)
  clear hb
  have heq := eq_s2
  go_wp2
  go_ret
  exact ⟨rfl, hB⟩
/-- Next's contract in letters -/
def NextIs (s : Sl) (d a mo : Int) (t : Sl) (b : Bool) : Prop := ∀ w : World, Tb w → Calls Tryd.prog 11 #[Value.agg #[Value.int .i64 s.st, Value.int .i64 s.ow, Value.int .i64 s.sr, Value.bool s.br, Value.bool s.ma, Value.int .i64 s.us, Value.int .i64 s.ge, Value.int .i64 s.ep, Value.int .i64 s.ve], .int .i64 d, .int .i64 a, .int .i64 mo] w fun e w' => e = .returned (.tuple #[.agg #[Value.int .i64 t.st, Value.int .i64 t.ow, Value.int .i64 t.sr, Value.bool t.br, Value.bool t.ma, Value.int .i64 t.us, Value.int .i64 t.ge, Value.int .i64 t.ep, Value.int .i64 t.ve], .bool b]) ∧ Below w.heap.size w w'
theorem next_is {s t : Sl} {d a mo : Int} {b : Bool} (hs : s.Wf) (ht : nxS s d a mo = t) (hb : nxB s d a mo = b) : NextIs s d a mo t b := by
  intro w hT
  rw [← ht, ← hb]
  exact next_any s d a mo w hs hT.1 hT.2
end Go.Proofs.YtdiipmejkanhfaaDoor
