/- ClockPlays: the law answers true, whatever the times and the deadline; nothing that was there changes. -/
import Derived.Test.YtnmkfiejcegfnaaNums
namespace Go.Proofs.Ytnmkfiejcegfnaa
open Go.RowKit
attribute [local go_sem ↓] Go.wp_at_zero Go.wp_at_succ

set_option maxRecDepth 100000 in
set_option maxHeartbeats 2000000 in
theorem lplays_any (A : Option Addr) (n c : Nat) (l : List Int) (d : Int) (w : World) (hl : l.length = n) (hI : IS w w.heap.size A l) (hd : d ≤ 9223372036854775807) :
    Calls Try.prog 3 #[.slice A n c, vI d] w fun e w' => e = .returned (.bool true) ∧ Below w.heap.size w w' := by
  subst hl
  go_enter Try.func3, Try.ntmps3
  go_wp2_with fail
  refine (awake_any w).mono ?_
  rintro e w1 ⟨rfl, hB⟩
  go_wp2_with fail
  refine (new_any w1).mono ?_
  rintro e w2 ⟨rfl, hC, hB2⟩
  have hg : w.heap.size ≤ w1.heap.size := hB.size
  replace hB := bstep hB hB2
  obtain ⟨g, eg⟩ : ∃ g, g = w1.heap.size := ⟨_, rfl⟩
  rw [← eg] at hC hg ⊢
  clear eg hB2
  by_cases h60 : 60 < l.length
  · have d1 : (60 : Int) < (l.length : Int) := by omega
    go_wp2_with fail
    go_ret
    exact ⟨rfl, hB⟩
  have d1 : ¬ (60 : Int) < (l.length : Int) := by omega
  go_wp2_with fail
  clear d1
  go_loopw [7, 8] (fun s i wr => ∃ (k : Nat) (t : Int), k ≤ l.length ∧ i = .int .i64 k ∧ s = .int .i64 t ∧ ClockAt wr g t ∧ Below w.heap.size w wr) (fun _ i => fun _ => l.length - (intOf i).toNat)
  case atStart => exact ⟨0, 0, Nat.zero_le _, rfl, rfl, hC, hB⟩
  case round =>
    clear hC hB
    obtain ⟨k, t, hk, rfl, rfl, hC, hB⟩ := hrel
    by_cases hlk : k < l.length
    · obtain ⟨x, hx⟩ := num_some hlk
      obtain ⟨b, off, rfl, hb, hd1⟩ := hI k x hx
      have hc := (hB.cell (p := ⟨b, off + k, none⟩) hb).trans hd1
      have hk1 : (k : Int) < (l.length : Int) := by omega
      have hk0 : (0 : Int) ≤ (k : Int) := Int.natCast_nonneg _
      have Hk := Lib.hid h60
      clear hx hd1 h60
      go_wp2_with fail
      refine (rtick_any t x _ hC.t0 hC.t1).mono ?_
      rintro e w3 ⟨rfl, rfl⟩
      go_wp2_with fail
      refine (tick_any g t x _ hC).mono ?_
      obtain ⟨u, eu⟩ : ∃ u, u = tickA t x := ⟨_, rfl⟩
      rw [← eu]
      clear eu
      rintro e w4 ⟨rfl, hC4, hS⟩
      have hB4 := Sp.below hB hS hB.size hg
      clear hB hS hC hc
      have hc := hC4
      have c1 := fun w h => clockPast g u d w h
      obtain ⟨q, eq⟩ : ∃ q, q = decide (d ≤ u) := ⟨_, rfl⟩
      rw [← eq] at c1
      have hq := eq.symm
      clear eq
      have c2 := left_any g u d w4 hC4 hd
      have c3 := rleft_any u d w4 hC4.t0 hd
      obtain ⟨v, ev⟩ : ∃ v, v = leftA u d := ⟨_, rfl⟩
      rw [← ev] at c2 c3
      clear ev
      go_wp2_with fail
      refine (now_any g u w4 hC4).mono ?_
      rintro e w5 ⟨rfl, rfl⟩
      go_wp2_with fail
      refine (c1 w4 hC4).mono ?_
      rintro e w5 ⟨rfl, rfl⟩
      go_wp2_with fail
      refine c2.mono ?_
      rintro e w5 ⟨rfl, rfl⟩
      go_wp2_with fail
      refine c3.mono ?_
      rintro e w5 ⟨rfl, rfl⟩
      go_wp2_with fail
      go_roundw
      case rel => exact ⟨k + 1, u, by omega, by go_num, rfl, hC4, hB4⟩
      case measure => simp [intOf]; omega
    · obtain rfl : k = l.length := by omega
      clear h60
      go_wp2_with fail
      refine (now_any g t _ hC).mono ?_
      rintro e w5 ⟨rfl, rfl⟩
      go_wp2_with fail
      go_ret
      exact ⟨rfl, hB⟩
end Go.Proofs.Ytnmkfiejcegfnaa
