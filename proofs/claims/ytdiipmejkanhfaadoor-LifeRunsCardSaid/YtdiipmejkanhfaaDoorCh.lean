/- Whatever is done with a slot, one contract for all; the list of what is done; nothing that was there changes. -/
import Derived.Test.YtdiipmejkanhfaaDoorChA
import Derived.Test.YtdiipmejkanhfaaDoorChB
import Derived.Test.YtdiipmejkanhfaaDoorChC
import Derived.Test.YtdiipmejkanhfaaDoorChE
import Derived.Test.YtdiipmejkanhfaaDoorChF
import Derived.Shelf.Abstract
namespace Go.Proofs.YtdiipmejkanhfaaDoor
open Go.RowKit
attribute [local go_sem ↓] Go.wp_at_zero Go.wp_at_succ

theorem eighteen {k : Nat} (h : k < 18) : k = 0 ∨ k = 1 ∨ k = 2 ∨ k = 3 ∨ k = 4 ∨ k = 5 ∨ k = 6 ∨ k = 7 ∨ k = 8 ∨ k = 9 ∨ k = 10 ∨ k = 11 ∨ k = 12 ∨ k = 13 ∨ k = 14 ∨ k = 15 ∨ k = 16 ∨ k = 17 := by omega
theorem ch_any {k : Nat} (hk : k < 18) (s : Sl) (a mo : Int) (w : World) (hr : Rt s) (hT : TzAt w) :
    Calls Tryd.prog (20 + k) #[Value.agg #[Value.int .i64 s.st, Value.int .i64 s.ow, Value.int .i64 s.sr, Value.bool s.br, Value.bool s.ma, Value.int .i64 s.us, Value.int .i64 s.ge, Value.int .i64 s.ep, Value.int .i64 s.ve, Value.int .i64 a, Value.int .i64 mo]] w fun e w' => e = .returned (.tuple #[.agg #[Value.int .i64 (chS k s a mo).st, Value.int .i64 (chS k s a mo).ow, Value.int .i64 (chS k s a mo).sr, Value.bool (chS k s a mo).br, Value.bool (chS k s a mo).ma, Value.int .i64 (chS k s a mo).us, Value.int .i64 (chS k s a mo).ge, Value.int .i64 (chS k s a mo).ep, Value.int .i64 (chS k s a mo).ve], .bool (chB k s a mo)]) ∧ Below w.heap.size w w' := by
  rcases eighteen hk with rfl | rfl | rfl | rfl | rfl | rfl | rfl | rfl | rfl | rfl | rfl | rfl | rfl | rfl | rfl | rfl | rfl | rfl
  · exact m0_any s a mo w hr
  · exact m1_any s a mo w hr
  · exact m2_any s a mo w hr
  · exact m3_any s a mo w hr
  · exact m4_any s a mo w hr
  · exact m5_any s a mo w hr
  · exact m6_any s a mo w hr
  · exact m7_any s a mo w hr
  · exact m8_any s a mo w hr
  · exact m9_any s a mo w hr
  · exact m10_any s a mo w hr
  · exact m11_any s a mo w hr
  · exact m12_any s a mo w hr
  · exact m13_any s a mo w hr
  · exact m14_any s a mo w hr hT
  · exact m15_any s a mo w hr
  · exact m16_any s a mo w hr
  · exact m17_any s a mo w hr
/-- the k-th thing that is done -/
def fv (k : Nat) : Value := .func (.func (20 + k)) #[] #[]
theorem fv_at {k : Nat} (hk : k < 18) : #[Value.func (.func 20) #[] #[], Value.func (.func 21) #[] #[], Value.func (.func 22) #[] #[], Value.func (.func 23) #[] #[], Value.func (.func 24) #[] #[], Value.func (.func 25) #[] #[], Value.func (.func 26) #[] #[], Value.func (.func 27) #[] #[], Value.func (.func 28) #[] #[], Value.func (.func 29) #[] #[], Value.func (.func 30) #[] #[], Value.func (.func 31) #[] #[], Value.func (.func 32) #[] #[], Value.func (.func 33) #[] #[], Value.func (.func 34) #[] #[], Value.func (.func 35) #[] #[], Value.func (.func 36) #[] #[], Value.func (.func 37) #[] #[]][k]? = some (fv k) := by
  rcases eighteen hk with rfl | rfl | rfl | rfl | rfl | rfl | rfl | rfl | rfl | rfl | rfl | rfl | rfl | rfl | rfl | rfl | rfl | rfl <;> rfl
theorem fv_enter {k : Nat} (hk : k < 18) : ∀ args w, (callFunc (20 + k) args).run Tryd.prog w = .ok (.enter (20 + k) args) w := by
  rcases eighteen hk with rfl | rfl | rfl | rfl | rfl | rfl | rfl | rfl | rfl | rfl | rfl | rfl | rfl | rfl | rfl | rfl | rfl | rfl
  · exact enters_of Tryd.func20 (by kernel_rfl) rfl
  · exact enters_of Tryd.func21 (by kernel_rfl) rfl
  · exact enters_of Tryd.func22 (by kernel_rfl) rfl
  · exact enters_of Tryd.func23 (by kernel_rfl) rfl
  · exact enters_of Tryd.func24 (by kernel_rfl) rfl
  · exact enters_of Tryd.func25 (by kernel_rfl) rfl
  · exact enters_of Tryd.func26 (by kernel_rfl) rfl
  · exact enters_of Tryd.func27 (by kernel_rfl) rfl
  · exact enters_of Tryd.func28 (by kernel_rfl) rfl
  · exact enters_of Tryd.func29 (by kernel_rfl) rfl
  · exact enters_of Tryd.func30 (by kernel_rfl) rfl
  · exact enters_of Tryd.func31 (by kernel_rfl) rfl
  · exact enters_of Tryd.func32 (by kernel_rfl) rfl
  · exact enters_of Tryd.func33 (by kernel_rfl) rfl
  · exact enters_of Tryd.func34 (by kernel_rfl) rfl
  · exact enters_of Tryd.func35 (by kernel_rfl) rfl
  · exact enters_of Tryd.func36 (by kernel_rfl) rfl
  · exact enters_of Tryd.func37 (by kernel_rfl) rfl
set_option maxRecDepth 100000 in
set_option maxHeartbeats 2000000 in
theorem changes_any (w : World) :
    Calls Tryd.prog 14 #[] w fun e w' => e = .returned (.agg #[Value.func (.func 20) #[] #[], Value.func (.func 21) #[] #[], Value.func (.func 22) #[] #[], Value.func (.func 23) #[] #[], Value.func (.func 24) #[] #[], Value.func (.func 25) #[] #[], Value.func (.func 26) #[] #[], Value.func (.func 27) #[] #[], Value.func (.func 28) #[] #[], Value.func (.func 29) #[] #[], Value.func (.func 30) #[] #[], Value.func (.func 31) #[] #[], Value.func (.func 32) #[] #[], Value.func (.func 33) #[] #[], Value.func (.func 34) #[] #[], Value.func (.func 35) #[] #[], Value.func (.func 36) #[] #[], Value.func (.func 37) #[] #[]]) ∧ Below w.heap.size w w' := by
  go_enter Tryd.func14, Tryd.ntmps14
  have r0 := RowAt.new w 36 #[Value.nilFunc, Value.nilFunc, Value.nilFunc, Value.nilFunc, Value.nilFunc, Value.nilFunc, Value.nilFunc, Value.nilFunc, Value.nilFunc, Value.nilFunc, Value.nilFunc, Value.nilFunc, Value.nilFunc, Value.nilFunc, Value.nilFunc, Value.nilFunc, Value.nilFunc, Value.nilFunc]
  go_wp2_with (refine wpList_store_row rfl 36 _ _ rfl _ #[Value.func (.func 20) #[] #[], Value.func (.func 21) #[] #[], Value.func (.func 22) #[] #[], Value.func (.func 23) #[] #[], Value.func (.func 24) #[] #[], Value.func (.func 25) #[] #[], Value.func (.func 26) #[] #[], Value.func (.func 27) #[] #[], Value.func (.func 28) #[] #[], Value.func (.func 29) #[] #[], Value.func (.func 30) #[] #[], Value.func (.func 31) #[] #[], Value.func (.func 32) #[] #[], Value.func (.func 33) #[] #[], Value.func (.func 34) #[] #[], Value.func (.func 35) #[] #[], Value.func (.func 36) #[] #[], Value.func (.func 37) #[] #[]] rfl rfl 36 _ r0 (by kernel_rfl) rfl (by simp [Value.oneCell']) ?_)
  refine bodyPost_ret (results_cell_row (p := 0) (ty := 36) rfl _ _ w.heap.size 36 _ (0, 0) _ rfl (r0.set _) Tryd.underlying36 rfl (by kernel_rfl)) rfl ⟨rfl, below_setRow ((Below.refl _ _).alloc (Nat.le_refl _) _) (Nat.le_refl _) _⟩
end Go.Proofs.YtdiipmejkanhfaaDoor
