/- What Tick tells and leaves; the chapter's examples. -/
import Derived.Test.YtnmkfiejcegfnaaClock
namespace Go.Proofs.Ytnmkfiejcegfnaa
open Go.RowKit
attribute [local go_sem ↓] Go.wp_at_zero Go.wp_at_succ

theorem Sp.drew {g : Nat} {a b : World} (h : Sp g a b) : Sp g a b.drew := ⟨h.os, h.tape, h.output, h.size, h.block⟩
theorem ClockAt.drew {w : World} {g : Nat} {t : Int} (h : ClockAt w g t) : ClockAt w.drew g t := ⟨h.lg, h.c0, h.f0, h.t0, h.t1⟩
def Ticks (g : Nat) (t : Int) (w : World) (e : Ending) (w' : World) : Prop := e = .returned (vI t) ∧ ClockAt w' g t ∧ Sp g w w'
set_option maxHeartbeats 400000 in
theorem tick_any (g : Nat) (t n : Int) (w : World) (h : ClockAt w g t) : Calls Try.prog 10 #[pt g, vI n] w (Ticks g (tickA t n) w) := by
  have h0 := h.c0
  have hf := h.f0
  have ht0 := h.t0
  have ht1 := h.t1
  obtain ⟨a, ea⟩ : ∃ a, a = max n 0 := ⟨_, rfl⟩
  obtain ⟨L, eL⟩ : ∃ L, L = leftA t 1099511627776 := ⟨_, rfl⟩
  obtain ⟨b, eb⟩ : ∃ b, b = min a L := ⟨_, rfl⟩
  have hL : L = 1099511627776 - t := by rw [eL]; unfold leftA; split <;> omega
  have x1 : (if n < 0 then 0 else n) = a := by split <;> omega
  have x2 : (if 0 < n then n else 0) = a := by split <;> omega
  have x3 : (if L < a then L else a) = b := by split <;> omega
  have x4 : (if a < L then a else L) = b := by split <;> omega
  have hr : tickA t n = t + b := by unfold tickA; omega
  have hb0 : 0 ≤ b := by omega
  have hb1 : b ≤ 1099511627776 := by omega
  have hs1 : t + b ≤ 1099511627776 := by omega
  rw [hr]
  have c1 := fun w h => left_any g t 1099511627776 w h (by decide)
  rw [← eL] at c1
  have HL := Lib.hid hL
  clear ea eL eb hL hr
  go_enter Try.func10, Try.ntmps10
  go_wp2_with fail
  have hw : IntKind.i64.wrap (t + b) = t + b := IntWalk.i64_in _ (by omega)
  go_region_with (first | (go_at_call 13; refine (c1 _ (by first | exact h.drew | exact h.drewN _ | exact h)).mono ?_; rintro e w1 ⟨rfl, rfl⟩))
  all_goals go_wp2
  all_goals go_ret
  all_goals exact ⟨rfl, by first | exact (h.drew.set _ (by omega) hs1) | exact (h.set _ (by omega) hs1), by first | exact (Sp.refl g w).set 0 _ | exact ((Sp.refl g w).drew).set 0 _⟩
set_option maxRecDepth 100000 in
set_option maxHeartbeats 1000000 in
theorem awake_any (w : World) : Calls Try.prog 7 #[] w fun e w' => e = .returned (.bool true) ∧ Below w.heap.size w w' := by
  go_enter Try.func7, Try.ntmps7
  go_wp2_with fail
  refine (new_any w).mono ?_
  rintro e w1 ⟨rfl, hC, hB⟩
  have hg : w.heap.size ≤ w.heap.size := Nat.le_refl _
  obtain ⟨g, eg⟩ : ∃ g, g = w.heap.size := ⟨_, rfl⟩
  rw [← eg] at hC ⊢
  replace hg : w.heap.size ≤ g := Nat.le_of_eq eg.symm
  clear eg
  go_wp2_with fail
  refine (tick_any g 0 5 w1 hC).mono ?_
  rw [show tickA 0 5 = 5 by decide]
  rintro e w2 ⟨rfl, hC2, hS⟩
  have hB2 := Sp.below hB hS hB.size hg
  clear hB hS hC hg
  have c1 : ∀ d, Calls Try.prog 12 #[pt g, vI d] w2 fun e w' => e = .returned (.bool (decide (d ≤ 5))) ∧ w2 = w' := fun d => clockPast g 5 d w2 hC2
  have c2 := c1 6
  have c3 : Calls Try.prog 13 #[pt g, vI 7] w2 fun e w' => e = .returned (vI 2) ∧ w2 = w' := left_any g 5 7 w2 hC2 (by decide)
  have c4 := now_any g 5 w2 hC2
  replace c1 := c1 5
  rw [show decide ((5:Int) ≤ 5) = true by decide] at c1
  rw [show decide ((6:Int) ≤ 5) = false by decide] at c2
  clear hC2
  go_wp2_with fail
  refine c1.mono ?_
  rintro e w3 ⟨rfl, rfl⟩
  go_wp2_with fail
  refine c2.mono ?_
  rintro e w3 ⟨rfl, rfl⟩
  go_wp2_with fail
  refine c3.mono ?_
  rintro e w3 ⟨rfl, rfl⟩
  go_wp2_with fail
  refine c4.mono ?_
  rintro e w3 ⟨rfl, rfl⟩
  go_wp2_with fail
  go_ret
  exact ⟨rfl, hB2⟩
end Go.Proofs.Ytnmkfiejcegfnaa
