/- ClockLeft: the law answers true, whatever its three numbers; nothing that was there changes. -/
import Derived.Test.YtnmkfiejcegfnaaNums
namespace Go.Proofs.Ytnmkfiejcegfnaa
open Go.RowKit
attribute [local go_sem ↓] Go.wp_at_zero Go.wp_at_succ

set_option maxRecDepth 100000 in
set_option maxHeartbeats 2000000 in
theorem lleft_no (a n d : Int) (w : World) (h : a < 0 ∨ n < 0 ∨ d < 0 ∨ 1073741824 < a ∨ 1073741824 < n ∨ 1073741824 < d) : Calls Try.prog 6 #[vI a, vI n, vI d] w fun e w' => e = .returned (.bool true) ∧ Below w.heap.size w w' := by
  go_enter Try.func6, Try.ntmps6
  go_wp2_with fail
  refine (awake_any w).mono ?_
  rintro e w1 ⟨rfl, hB⟩
  go_wp2_with fail
  refine (new_any w1).mono ?_
  rintro e w2 ⟨rfl, hC, hB2⟩
  replace hB := bstep hB hB2
  clear hB2 hC
  by_cases h1 : a < 0
  · have d1 : decide (a < 0) = true := by simpa using h1
    clear h
    go_wp2_with fail
    go_ret
    exact ⟨rfl, hB⟩
  have d1 : decide (a < 0) = false := by simpa using h1
  by_cases h2 : n < 0
  · have d2 : decide (n < 0) = true := by simpa using h2
    clear h
    go_wp2_with fail
    go_ret
    exact ⟨rfl, hB⟩
  have d2 : decide (n < 0) = false := by simpa using h2
  by_cases h3 : d < 0
  · have d3 : decide (d < 0) = true := by simpa using h3
    clear h
    go_wp2_with fail
    go_ret
    exact ⟨rfl, hB⟩
  have d3 : decide (d < 0) = false := by simpa using h3
  by_cases h4 : 1073741824 < a
  · have d4 : decide (1073741824 < a) = true := by simpa using h4
    clear h
    go_wp2_with fail
    go_ret
    exact ⟨rfl, hB⟩
  have d4 : decide (1073741824 < a) = false := by simpa using h4
  by_cases h5 : 1073741824 < n
  · have d5 : decide (1073741824 < n) = true := by simpa using h5
    clear h
    go_wp2_with fail
    go_ret
    exact ⟨rfl, hB⟩
  have d5 : decide (1073741824 < n) = false := by simpa using h5
  have d6 : decide (1073741824 < d) = true := by simp; omega
  clear h
  go_wp2_with fail
  go_ret
  exact ⟨rfl, hB⟩
theorem left_less {a n d : Int} (h : 0 ≤ n) : leftA (a + n) d = if 0 < leftA a d - n then leftA a d - n else 0 := by
  unfold leftA
  repeat' split
  all_goals omega
theorem left_zero (t d : Int) : decide (leftA t d = 0) = decide (d ≤ t) := by
  unfold leftA
  split
  · simp; omega
  · rw [decide_eq_decide]; omega
set_option maxRecDepth 100000 in
set_option maxHeartbeats 2000000 in
theorem lleft_go (a n d : Int) (w : World) (a0 : 0 ≤ a) (n0 : 0 ≤ n) (d0 : 0 ≤ d) (a1 : a ≤ 1073741824) (n1 : n ≤ 1073741824) (d1 : d ≤ 1073741824) : Calls Try.prog 6 #[vI a, vI n, vI d] w fun e w' => e = .returned (.bool true) ∧ Below w.heap.size w w' := by
  go_enter Try.func6, Try.ntmps6
  go_wp2_with fail
  refine (awake_any w).mono ?_
  rintro e w1 ⟨rfl, hB⟩
  go_wp2_with fail
  refine (new_any w1).mono ?_
  rintro e w2 ⟨rfl, hC, hB2⟩
  have hg : w.heap.size ≤ w1.heap.size := hB.size
  replace hB := bstep hB hB2
  obtain ⟨g, eg⟩ : ∃ g, g = w1.heap.size := ⟨_, rfl⟩
  rw [← eg] at hC hg ⊢
  clear eg hB2
  go_wp2_with fail
  refine (tick_any g 0 a w2 hC).mono ?_
  rw [show tickA 0 a = a by unfold tickA; omega]
  rintro e w3 ⟨rfl, hC3, hS⟩
  replace hB := Sp.below hB hS hB.size hg
  clear hS hC
  go_wp2_with fail
  refine (left_any g a d w3 hC3 (by omega)).mono ?_
  rintro e w4 ⟨rfl, rfl⟩
  have Hv := Lib.hid (left_less (a := a) (d := d) n0)
  have Hu : 0 ≤ leftA a d ∧ leftA a d ≤ 1073741824 := by unfold leftA; split <;> omega
  obtain ⟨u, eu⟩ : ∃ u, u = leftA a d := ⟨_, rfl⟩
  rw [← eu] at Hv Hu ⊢
  clear eu
  obtain ⟨u0, u1⟩ := Hu
  go_wp2_with fail
  refine (tick_any g a n w3 hC3).mono ?_
  rw [show tickA a n = a + n by unfold tickA; omega]
  rintro e w4 ⟨rfl, hC4, hS⟩
  replace hB := Sp.below hB hS hB.size hg
  clear hS hC3
  have c3 := fun w h => clockPast g (a + n) d w h
  have Hz := left_zero (a + n) d
  go_wp2_with fail
  refine (left_any g (a + n) d w4 hC4 (by omega)).mono ?_
  rintro e w5 ⟨rfl, rfl⟩
  obtain ⟨q, eq⟩ : ∃ q, q = decide (d ≤ a + n) := ⟨_, rfl⟩
  rw [← eq] at c3 Hz
  clear eq
  obtain ⟨v, ev⟩ : ∃ v, v = leftA (a + n) d := ⟨_, rfl⟩
  rw [← ev] at Hv Hz ⊢
  clear ev
  have hz2 : (v == 0) = q := by rw [← Hz]; rfl
  by_cases hp : 0 < u - n
  · have hv : v = u - n := by rw [Hv.out, if_pos hp]
    subst hv
    clear Hv Hz
    go_wp2_with fail
    refine (c3 w4 hC4).mono ?_
    rintro e w5 ⟨rfl, rfl⟩
    go_wp2_with fail
    refine (now_any g (a + n) w4 hC4).mono ?_
    rintro e w5 ⟨rfl, rfl⟩
    go_wp2_with fail
    go_ret
    exact ⟨rfl, hB⟩
  · have hv : v = 0 := by rw [Hv.out, if_neg hp]
    subst hv
    obtain rfl : q = true := by rw [← Hz]; rfl
    clear Hv Hz hz2
    go_wp2_with fail
    refine (c3 w4 hC4).mono ?_
    rintro e w5 ⟨rfl, rfl⟩
    go_wp2_with fail
    refine (now_any g (a + n) w4 hC4).mono ?_
    rintro e w5 ⟨rfl, rfl⟩
    go_wp2_with fail
    go_ret
    exact ⟨rfl, hB⟩
theorem lleft_any (a n d : Int) (w : World) : Calls Try.prog 6 #[vI a, vI n, vI d] w fun e w' => e = .returned (.bool true) ∧ Below w.heap.size w w' := by
  by_cases h : a < 0 ∨ n < 0 ∨ d < 0 ∨ 1073741824 < a ∨ 1073741824 < n ∨ 1073741824 < d
  · exact lleft_no a n d w h
  · exact lleft_go a n d w (by omega) (by omega) (by omega) (by omega) (by omega) (by omega)
end Go.Proofs.Ytnmkfiejcegfnaa
