/- ClockForth: the law answers true, whatever the times and the deadline; nothing that was there changes. -/
import Derived.Test.YtnmkfiejcegfnaaNums
namespace Go.Proofs.Ytnmkfiejcegfnaa
open Go.RowKit
attribute [local go_sem ↓] Go.wp_at_zero Go.wp_at_succ

theorem tickA_le {t : Int} (n : Int) (h : t ≤ 1099511627776) : t ≤ tickA t n := by unfold tickA; omega
theorem left_test (t d : Int) : (leftA t d == 0) = decide (d ≤ t) := by
  unfold leftA
  split
  · simp; omega
  · rw [Bool.eq_iff_iff]; simp; omega
set_option maxRecDepth 100000 in
set_option maxHeartbeats 2000000 in
theorem lforth_any (A : Option Addr) (n c : Nat) (l : List Int) (d : Int) (w : World) (hl : l.length = n) (hI : IS w w.heap.size A l) (hd : d ≤ 9223372036854775807) :
    Calls Try.prog 4 #[.slice A n c, vI d] w fun e w' => e = .returned (.bool true) ∧ Below w.heap.size w w' := by
  subst hl
  go_enter Try.func4, Try.ntmps4
  go_wp2_with fail
  refine (awake_any w).mono ?_
  rintro e w1 ⟨rfl, hB⟩
  go_wp2_with fail
  refine (new_any w1).mono ?_
  rintro e w2 ⟨rfl, hC, hB2⟩
  have hg : w.heap.size ≤ w1.heap.size := hB.size
  replace hB := bstep hB hB2
  obtain ⟨g, eg⟩ : ∃ g, g = w1.heap.size := ⟨_, rfl⟩
  rw [← eg] at hC hg ⊢
  clear eg hB2
  by_cases h60 : 60 < l.length
  · have d1 : (60 : Int) < (l.length : Int) := by omega
    go_wp2_with fail
    go_ret
    exact ⟨rfl, hB⟩
  have d1 : ¬ (60 : Int) < (l.length : Int) := by omega
  go_wp2_with fail
  clear d1
  go_loopw [7, 8, 9, 10] (fun i _ _ _ wr => ∃ (k : Nat) (t : Int), k ≤ l.length ∧ i = .int .i64 k ∧ ClockAt wr g t ∧ Below w.heap.size w wr) (fun i _ _ _ => fun _ => l.length - (intOf i).toNat)
  case atStart => exact ⟨0, 0, Nat.zero_le _, rfl, hC, hB⟩
  case round =>
    clear hC hB
    obtain ⟨k, t, hk, rfl, hC, hB⟩ := hrel
    by_cases hlk : k < l.length
    · obtain ⟨x, hx⟩ := num_some hlk
      obtain ⟨b, off, rfl, hb, hd1⟩ := hI k x hx
      have hc := (hB.cell (p := ⟨b, off + k, none⟩) hb).trans hd1
      have hk1 : (k : Int) < (l.length : Int) := by omega
      have hk0 : (0 : Int) ≤ (k : Int) := Int.natCast_nonneg _
      have Hk := Lib.hid h60
      clear hx hd1 h60
      go_wp2_with fail
      refine (now_any g t _ hC).mono ?_
      rintro e w3 ⟨rfl, rfl⟩
      have hp := clockPast g t d _ hC
      obtain ⟨p, ep⟩ : ∃ p, p = decide (d ≤ t) := ⟨_, rfl⟩
      rw [← ep] at hp
      have Hp := Lib.hid ep
      clear ep
      go_wp2_with fail
      refine hp.mono ?_
      rintro e w3 ⟨rfl, rfl⟩
      clear hp
      go_wp2_with fail
      refine (tick_any g t x _ hC).mono ?_
      have hle := tickA_le x hC.t1
      obtain ⟨u, eu⟩ : ∃ u, u = tickA t x := ⟨_, rfl⟩
      rw [← eu] at hle ⊢
      clear eu
      rintro e w4 ⟨rfl, hC4, hS⟩
      have hB4 := Sp.below hB hS hB.size hg
      have hut : ¬ u < t := by omega
      have hum : ¬ 1099511627776 < u := by have := hC4.t1; omega
      have Hle := Lib.hid hle
      clear hB hS hC hc hle
      have c1 := fun w h => clockPast g u d w h
      have c2 := fun w h => left_any g u d w h hd
      have ht := left_test u d
      obtain ⟨v, ev⟩ : ∃ v, v = leftA u d := ⟨_, rfl⟩
      rw [← ev] at c2 ht
      clear ev
      obtain ⟨q, eq⟩ : ∃ q, q = decide (d ≤ u) := ⟨_, rfl⟩
      rw [← eq] at c1 ht
      have Hq := Lib.hid eq
      clear eq
      cases p with
      | true =>
        obtain rfl : q = true := by
          rw [Hq.out]
          have h1 := Hp.out
          have h2 := Hle.out
          simp at h1 ⊢
          omega
        go_wp2_with fail
        refine (c1 w4 hC4).mono ?_
        rintro e w5 ⟨rfl, rfl⟩
        go_wp2_with fail
        refine (c2 w4 hC4).mono ?_
        rintro e w5 ⟨rfl, rfl⟩
        go_wp2_with fail
        refine (c1 w4 hC4).mono ?_
        rintro e w5 ⟨rfl, rfl⟩
        go_wp2_with fail
        go_roundw
        case rel => exact ⟨k + 1, u, by omega, by go_num, hC4, hB4⟩
        case measure => simp [intOf]; omega
      | false =>
        go_wp2_with fail
        refine (c2 w4 hC4).mono ?_
        rintro e w5 ⟨rfl, rfl⟩
        go_wp2_with fail
        refine (c1 w4 hC4).mono ?_
        rintro e w5 ⟨rfl, rfl⟩
        go_wp2_with fail
        go_roundw
        case rel => exact ⟨k + 1, u, by omega, by go_num, hC4, hB4⟩
        case measure => simp [intOf]; omega
    · obtain rfl : k = l.length := by omega
      clear h60
      go_wp2_with fail
      refine (left_any g t d _ hC hd).mono ?_
      rintro e w5 ⟨rfl, rfl⟩
      by_cases h1 : 1099511627776 < d
      · have e1 : decide (1099511627776 < d) = true := by simpa using h1
        go_wp2_with fail
        go_ret
        exact ⟨rfl, hB⟩
      have e1 : decide (1099511627776 < d) = false := by simpa using h1
      have t0 := hC.t0
      by_cases h2 : d ≤ t
      · rw [leftA_0 h2]
        go_wp2_with fail
        go_ret
        exact ⟨rfl, hB⟩
      · rw [leftA_1 h2]
        have e2 : (d - t == 0) = false := by simp; omega
        have e3 : ¬ d - t = 0 := by omega
        go_wp2_with fail
        refine (tick_any g t (d - t - 1) _ hC).mono ?_
        rw [show tickA t (d - t - 1) = d - 1 by unfold tickA; omega]
        rintro e w4 ⟨rfl, hC4, hS⟩
        have hB4 := Sp.below hB hS hB.size hg
        clear hB hS hC
        have c1 := clockPast g (d - 1) d w4 hC4
        rw [show decide (d ≤ d - 1) = false by simp; omega] at c1
        go_wp2_with fail
        refine c1.mono ?_
        rintro e w5 ⟨rfl, rfl⟩
        clear c1
        go_wp2_with fail
        refine (tick_any g (d - 1) 1 w4 hC4).mono ?_
        rw [show tickA (d - 1) 1 = d by unfold tickA; omega]
        rintro e w5 ⟨rfl, hC5, hS⟩
        have hB5 := Sp.below hB4 hS hB4.size hg
        have c1 := clockPast g d d w5 hC5
        rw [show decide (d ≤ d) = true by simp] at c1
        go_wp2_with fail
        refine c1.mono ?_
        rintro e w6 ⟨rfl, rfl⟩
        go_wp2_with fail
        go_ret
        exact ⟨rfl, hB5⟩
end Go.Proofs.Ytnmkfiejcegfnaa
