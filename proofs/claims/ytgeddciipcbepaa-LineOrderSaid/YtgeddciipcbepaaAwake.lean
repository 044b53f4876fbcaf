/- The chapter's examples: the law's own 'awake' answers true. -/
import Derived.Test.YtgeddciipcbepaaOf
namespace Go.Proofs.Ytgeddciipcbepaa
open Go.RowKit
attribute [local go_sem ↓] Go.wp_at_zero Go.wp_at_succ

theorem is_new (w : World) (xs : List Int) : IS (w.alloc (.cells (xs.map vI).toArray 3)) (w.alloc (.cells (xs.map vI).toArray 3)).heap.size (some ⟨w.heap.size, 0, none⟩) xs := fun k x hk =>
  ⟨w.heap.size, 0, rfl, by simp, by rw [World.cell?_alloc_new]; simp [hk]⟩
theorem ok20 : Ok [3, 0] := by decide
theorem lst20 : lst 20 = [3, 0] := lst_wd ok20
theorem rt20 : Rt 20 := rt_wd ok20
theorem ok1556 : Ok [3, 0, 5] := by decide
set_option maxRecDepth 100000 in
set_option maxHeartbeats 1000000 in
theorem awake_any (w : World) : Calls Try.prog 9 #[] w fun e w' => e = .returned (.bool true) ∧ Below w.heap.size w w' := by
  have c1 : ∀ w, Calls Try.prog 25 #[.slice (some ⟨World.heap w |>.size, 0, none⟩) 2 2] (w.alloc (.cells #[vI 3, vI 0] 3)) fun e w' => e = .returned (.tuple #[vI 20, .bool true]) ∧ Below (w.alloc (.cells #[vI 3, vI 0] 3)).heap.size (w.alloc (.cells #[vI 3, vI 0] 3)) w' := fun w => by
    have := of_any (some ⟨w.heap.size, 0, none⟩) 2 [3, 0] (w.alloc (.cells #[vI 3, vI 0] 3)) (by simp) (is_new w [3, 0])
    rw [ofV_ok ok20] at this
    exact this
  have c2 : ∀ w, Calls Try.prog 14 #[vI 20, vI 5] w fun e w' => e = .returned (.tuple #[vI 1556, .bool true]) ∧ Below w.heap.size w w' := fun w => push_go (l := [3, 0]) 5 w ok1556
  have c3 := fun w => head_any 20 w
  have c4 := fun w => right_any 20 w
  have c5 := fun w => len_any 20 w
  rw [lst20] at c3 c5
  rw [decide_eq_true rt20] at c4
  go_enter Try.func9, Try.ntmps9
  go_wp2_with fail
  refine (c1 w).mono ?_
  rintro e w1 ⟨rfl, hB1⟩
  replace hB1 := bstep (bnew _ _) hB1
  go_wp2_with fail
  refine (c2 w1).mono ?_
  rintro e w2 ⟨rfl, hB2⟩
  replace hB2 := bstep hB1 hB2
  go_wp2_with fail
  refine (c3 w2).mono ?_
  rintro e w3 ⟨rfl, hB3⟩
  replace hB3 := bstep hB2 hB3
  clear hB1 hB2 c1 c2 c3
  unfold headV
  go_wp2_with (first
    | (go_at_call 11; refine (c4 _).mono ?_; rintro e w4 ⟨rfl, hB4⟩)
    | (go_at_call 18; refine (c5 _).mono ?_; rintro e w5 ⟨rfl, hB5⟩)
    | (go_at_call 22; refine (pop_any _ _).mono ?_; rintro e w6 ⟨rfl, rfl⟩))
  go_ret
  exact ⟨rfl, bstep hB3 (bstep hB4 hB5)⟩
end Go.Proofs.Ytgeddciipcbepaa
