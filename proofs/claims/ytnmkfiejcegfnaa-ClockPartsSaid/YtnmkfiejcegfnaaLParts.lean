/- ClockParts: the law answers true, whatever the times; nothing that was there changes. -/
import Derived.Test.YtnmkfiejcegfnaaNums
namespace Go.Proofs.Ytnmkfiejcegfnaa
open Go.RowKit
attribute [local go_sem ↓] Go.wp_at_zero Go.wp_at_succ

theorem tickA_add {t n : Int} (h0 : 0 ≤ n) (h : t + n ≤ 1099511627776) : tickA t n = t + n := by unfold tickA; omega
set_option maxRecDepth 100000 in
set_option maxHeartbeats 2000000 in
theorem lparts_any (A : Option Addr) (n c : Nat) (l : List Int) (w : World) (hl : l.length = n) (hI : IS w w.heap.size A l) :
    Calls Try.prog 5 #[.slice A n c] w fun e w' => e = .returned (.bool true) ∧ Below w.heap.size w w' := by
  subst hl
  go_enter Try.func5, Try.ntmps5
  go_wp2_with fail
  refine (awake_any w).mono ?_
  rintro e w1 ⟨rfl, hB⟩
  go_wp2_with fail
  refine (new_any w1).mono ?_
  rintro e w2 ⟨rfl, hC, hB2⟩
  have hg : w.heap.size ≤ w1.heap.size := hB.size
  replace hB := bstep hB hB2
  obtain ⟨g, eg⟩ : ∃ g, g = w1.heap.size := ⟨_, rfl⟩
  rw [← eg] at hC hg ⊢
  clear eg hB2
  go_wp2_with fail
  refine (new_any w2).mono ?_
  rintro e w3 ⟨rfl, hD, hB3⟩
  have hg2 : w.heap.size ≤ w2.heap.size := hB.size
  have hlt := hC.lg
  replace hC := hC.on hB3
  replace hB := bstep hB hB3
  obtain ⟨g2, eg⟩ : ∃ g, g = w2.heap.size := ⟨_, rfl⟩
  rw [← eg] at hD hg2 hlt ⊢
  clear eg hB3
  by_cases h60 : 60 < l.length
  · have d1 : (60 : Int) < (l.length : Int) := by omega
    go_wp2_with fail
    go_ret
    exact ⟨rfl, hB⟩
  have d1 : ¬ (60 : Int) < (l.length : Int) := by omega
  go_wp2_with fail
  clear d1
  go_loopw [6, 7] (fun s i wr => ∃ (k : Nat) (t : Int), k ≤ l.length ∧ i = .int .i64 k ∧ s = .int .i64 t ∧ 0 ≤ t ∧ t ≤ k * 1048576 ∧ ClockAt wr g t ∧ ClockAt wr g2 0 ∧ Below w.heap.size w wr) (fun _ i => fun _ => l.length - (intOf i).toNat)
  case atStart => exact ⟨0, 0, Nat.zero_le _, rfl, rfl, by omega, by omega, hC, hD, hB⟩
  case round =>
    clear hC hD hB
    obtain ⟨k, t, hk, rfl, rfl, ht0, ht1, hC, hD, hB⟩ := hrel
    by_cases hlk : k < l.length
    · obtain ⟨x, hx⟩ := num_some hlk
      obtain ⟨b, off, rfl, hb, hd⟩ := hI k x hx
      have hc := (hB.cell (p := ⟨b, off + k, none⟩) hb).trans hd
      have hk1 : (k : Int) < (l.length : Int) := by omega
      have hk0 : (0 : Int) ≤ (k : Int) := Int.natCast_nonneg _
      clear hx hd
      by_cases h0 : x < 0
      · have e0 : decide (x < 0) = true := by simpa using h0
        go_wp2_with fail
        go_ret
        exact ⟨rfl, hB⟩
      have e0 : decide (x < 0) = false := by simpa using h0
      by_cases h1 : 1048576 < x
      · have e1 : decide (1048576 < x) = true := by simpa using h1
        go_wp2_with fail
        go_ret
        exact ⟨rfl, hB⟩
      have e1 : decide (1048576 < x) = false := by simpa using h1
      have ht2 : t ≤ 62914560 := by omega
      have Ht := Lib.hid ht1
      have Hk := Lib.hid h60
      clear ht1 h60
      go_wp2_with fail
      refine (tick_any g t x _ hC).mono ?_
      rw [tickA_add (t := t) (n := x) (by omega) (by omega)]
      rintro e w4 ⟨rfl, hC4, hS⟩
      have hB4 := Sp.below hB hS hB.size hg
      have hD4 := hD.sp hS (by omega)
      clear hB hS hC hD
      go_wp2_with fail
      go_roundw
      case rel => exact ⟨k + 1, t + x, by omega, by go_num, rfl, by omega, by have := Ht.out; omega, hC4, hD4, hB4⟩
      case measure => simp [intOf]; omega
    · obtain rfl : k = l.length := by omega
      have ht2 : t ≤ 62914560 := by omega
      clear ht1 h60
      go_wp2_with fail
      refine (tick_any g2 0 t _ hD).mono ?_
      rw [tickA_add (t := 0) (n := t) (by omega) (by omega), Int.zero_add]
      rintro e w4 ⟨rfl, hD4, hS⟩
      have hB4 := Sp.below hB hS hB.size hg2
      have hC4 := hC.sp hS (by omega)
      clear hB hS hC hD
      go_wp2_with fail
      refine (now_any g t w4 hC4).mono ?_
      rintro e w5 ⟨rfl, rfl⟩
      go_wp2_with fail
      refine (now_any g t w4 hC4).mono ?_
      rintro e w5 ⟨rfl, rfl⟩
      go_wp2_with fail
      go_ret
      exact ⟨rfl, hB4⟩
end Go.Proofs.Ytnmkfiejcegfnaa
