/- PinBack: the law answers true, whatever its two epochs; nothing that was there changes. -/
import Derived.Test.YtfddeiodihhblaaAwake
namespace Go.Proofs.Ytfddeiodihhblaa
open Go.RowKit
attribute [local go_sem ↓] Go.wp_at_zero Go.wp_at_succ

set_option maxRecDepth 100000 in
set_option maxHeartbeats 1000000 in
theorem lback_no (a f : Int) (w : World) (h : a < 0 ∨ 1099511627776 < a ∨ f < 0 ∨ 1099511627776 < f) : Calls Try.prog 4 #[vI a, vI f] w fun e w' => e = .returned (.bool true) ∧ Below w.heap.size w w' := by
  go_enter Try.func4, Try.ntmps4
  go_wp2_with fail
  refine (awake_any w).mono ?_
  rintro e w1 ⟨rfl, hB⟩
  by_cases h1 : a < 0
  · have d1 : decide (a < 0) = true := by simpa using h1
    clear h
    go_wp2_with fail
    go_ret
    exact ⟨rfl, hB⟩
  · have d1 : decide (a < 0) = false := by simpa using h1
    by_cases h2 : 1099511627776 < a
    · have d2 : decide (1099511627776 < a) = true := by simpa using h2
      clear h
      go_wp2_with fail
      go_ret
      exact ⟨rfl, hB⟩
    · have d2 : decide (1099511627776 < a) = false := by simpa using h2
      by_cases h3 : f < 0
      · have d3 : decide (f < 0) = true := by simpa using h3
        clear h
        go_wp2_with fail
        go_ret
        exact ⟨rfl, hB⟩
      · have d3 : decide (f < 0) = false := by simpa using h3
        have h4 : 1099511627776 < f := by omega
        have d4 : decide (1099511627776 < f) = true := by simpa using h4
        clear h
        go_wp2_with fail
        go_ret
        exact ⟨rfl, hB⟩
set_option maxRecDepth 100000 in
set_option maxHeartbeats 1000000 in
theorem lback_go (a f : Int) (w : World) (ha : 0 ≤ a ∧ a ≤ 1099511627776) (hf : 0 ≤ f ∧ f ≤ 1099511627776) : Calls Try.prog 4 #[vI a, vI f] w fun e w' => e = .returned (.bool true) ∧ Below w.heap.size w w' := by
  obtain ⟨a0, a1⟩ := ha
  obtain ⟨f0, f1⟩ := hf
  have c1 : ∀ w, Calls Try.prog 16 #[vI a] w fun e w' => e = .returned (vI (a + 1)) ∧ w = w' := fun w => word_any a w (by omega) (by omega)
  have c2 : ∀ w, Calls Try.prog 9 #[vI (a + 1)] w fun e w' => e = .returned (.tuple #[vI a, .bool true]) ∧ w = w' := fun w => by
    have := epoch_any (a + 1) w ⟨by omega, by omega⟩
    rwa [epN_pos (by omega), epB_pos (by omega), Int.add_sub_cancel] at this
  have c3 : ∀ w, Calls Try.prog 10 #[vI (a + 1), vI f] w fun e w' => e = .returned (.bool (decide (a ≤ f))) ∧ w = w' := fun w => by
    have := blocks_any (a + 1) f w ⟨by omega, by omega⟩
    rwa [blk_pos f (by omega), Int.add_sub_cancel] at this
  have c4 : ∀ w, Calls Try.prog 10 #[vI 0, vI f] w fun e w' => e = .returned (.bool false) ∧ w = w' := fun w => by
    have := blocks_any 0 f w ⟨by omega, by omega⟩
    rwa [blk_zero] at this
  obtain ⟨d, ed⟩ : ∃ d, d = decide (a ≤ f) := ⟨_, rfl⟩
  rw [← ed] at c3
  have ed2 : decide (a ≤ f) = d := ed.symm
  clear ed
  have hp : 0 < a + 1 := by omega
  obtain ⟨u, eu⟩ : ∃ u, u = a + 1 := ⟨_, rfl⟩
  rw [← eu] at c1 c2 c3 hp
  clear eu
  go_enter Try.func4, Try.ntmps4
  go_wp2_with fail
  refine (awake_any w).mono ?_
  rintro e w1 ⟨rfl, hB⟩
  go_wp2_with fail
  refine (c1 w1).mono ?_
  rintro e w2 ⟨rfl, rfl⟩
  go_wp2_with fail
  refine (c2 w1).mono ?_
  rintro e w2 ⟨rfl, rfl⟩
  clear c1 c2
  go_wp2_with fail
  refine (c3 w1).mono ?_
  rintro e w2 ⟨rfl, rfl⟩
  go_wp2_with fail
  refine (c4 w1).mono ?_
  rintro e w2 ⟨rfl, rfl⟩
  go_wp2_with fail
  go_ret
  exact ⟨rfl, hB⟩
theorem lback_any (a f : Int) (w : World) : Calls Try.prog 4 #[vI a, vI f] w fun e w' => e = .returned (.bool true) ∧ Below w.heap.size w w' := by
  by_cases h : a < 0 ∨ 1099511627776 < a ∨ f < 0 ∨ 1099511627776 < f
  · exact lback_no a f w h
  · exact lback_go a f w (by omega) (by omega)
end Go.Proofs.Ytfddeiodihhblaa
