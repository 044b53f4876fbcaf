/- A pin's word, its epoch, and what it blocks; the document's answer of the last. -/
import Derived.Test.YtfddeiodihhblaaMath
namespace Go.Proofs.Ytfddeiodihhblaa
open Go.RowKit
attribute [local go_sem ↓] Go.wp_at_zero Go.wp_at_succ

theorem word_any (e : Int) (w : World) (h0 : 0 ≤ e) (h1 : e ≤ 1099511628000) : Calls Try.prog 16 #[vI e] w fun r w' => r = .returned (vI (e + 1)) ∧ w = w' := by
  go_enter Try.func16, Try.ntmps16
  go_wp2
  go_ret
  exact ⟨rfl, rfl⟩
theorem epoch_any (x : Int) (w : World) (h : Wd x) : Calls Try.prog 9 #[vI x] w fun r w' => r = .returned (.tuple #[vI (epN x), .bool (epB x)]) ∧ w = w' := by
  obtain ⟨h0, h1⟩ := h
  by_cases hx : x = 0
  · subst hx
    rw [epN_zero, epB_zero]
    go_enter Try.func9, Try.ntmps9
    go_wp2
    go_ret2
    exact ⟨rfl, rfl⟩
  · rw [epN_pos hx, epB_pos hx]
    have hx2 : (x == 0) = false := by simpa using hx
    go_enter Try.func9, Try.ntmps9
    go_wp2
    go_ret2
    exact ⟨rfl, rfl⟩
theorem blocks_any (x e : Int) (w : World) (h : Wd x) : Calls Try.prog 10 #[vI x, vI e] w fun r w' => r = .returned (.bool (blk x e)) ∧ w = w' := by
  have hc := fun w => epoch_any x w h
  obtain ⟨h0, h1⟩ := h
  by_cases hx : x = 0
  · subst hx
    rw [epN_zero, epB_zero] at hc
    rw [blk_zero]
    go_enter Try.func10, Try.ntmps10
    go_wp2_with fail
    refine (hc w).mono ?_
    rintro r w1 ⟨rfl, rfl⟩
    go_wp2_with fail
    go_ret
    exact ⟨rfl, rfl⟩
  · rw [epN_pos hx, epB_pos hx] at hc
    rw [blk_pos e (by omega)]
    go_enter Try.func10, Try.ntmps10
    go_wp2_with fail
    refine (hc w).mono ?_
    rintro r w1 ⟨rfl, rfl⟩
    go_wp2_with fail
    go_ret
    exact ⟨rfl, rfl⟩
theorem rblocks_any (x e : Int) (w : World) (h : Wd x) : Calls Try.prog 11 #[vI x, vI e] w fun r w' => r = .returned (.bool (blk x e)) ∧ w = w' := by
  obtain ⟨h0, h1⟩ := h
  by_cases hx : x = 0
  · subst hx
    rw [blk_zero]
    go_enter Try.func11, Try.ntmps11
    go_wp2_with fail
    go_ret
    exact ⟨rfl, rfl⟩
  · rw [blk_pos e (by omega)]
    have hx2 : 0 < x := by omega
    go_enter Try.func11, Try.ntmps11
    go_wp2_with fail
    go_ret
    exact ⟨rfl, rfl⟩
end Go.Proofs.Ytfddeiodihhblaa
