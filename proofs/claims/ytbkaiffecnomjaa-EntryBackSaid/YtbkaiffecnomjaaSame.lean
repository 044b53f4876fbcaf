/- Two lists of entries compared. -/
import Derived.Test.YtbkaiffecnomjaaEqE
namespace Go.Proofs.Ytbkaiffecnomjaa
open Go.RowKit
attribute [local go_sem ↓] Go.wp_at_zero Go.wp_at_succ

set_option maxRecDepth 100000 in
set_option maxHeartbeats 2000000 in
theorem same_any (A A2 : Option Addr) (c c2 : Nat) (xs ys : List En) (w : World) (h : LS w w.heap.size A xs) (h2 : LS w w.heap.size A2 ys) (hl : xs.length ≤ 1000000) :
    Calls Try.prog 16 #[.slice A xs.length c, .slice A2 ys.length c2] w (fun e w' => e = .returned (.bool (decide (xs = ys))) ∧ Below w.heap.size w w') := by
  by_cases he : xs.length = ys.length
  · have He := Lib.hid he
    rw [← he]
    clear he
    go_enter Try.func16, Try.ntmps16
    go_wp2
    go_loopw [5] (fun i wr => ∃ k : Nat, k ≤ xs.length ∧ i = .int .i64 k ∧ xs.take k = ys.take k ∧ Below w.heap.size w wr) (fun i _ => xs.length - (intOf i).toNat)
    case atStart => exact ⟨0, Nat.zero_le _, rfl, rfl, Below.refl _ _⟩
    case round =>
      obtain ⟨k, hk, rfl, hr, hB⟩ := hrel
      have Hr := Lib.hid hr
      clear hr
      by_cases hlt : k < xs.length
      · obtain ⟨x, hx⟩ := some_lt hlt
        obtain ⟨y, hy⟩ := some_lt (xs := ys) (k := k) (by rw [← He.out]; exact hlt)
        obtain ⟨b, off, rfl, _, hx1⟩ := (h.below hB) k _ hx
        obtain ⟨b2, off2, rfl, _, hy1⟩ := (h2.below hB) k _ hy
        obtain ⟨x0, x1, x2, x3, x4, x5, x6, x7, x8, x9, x10⟩ := range_cells hx1
        obtain ⟨y0, y1, y2, y3, y4, y5, y6, y7, y8, y9, y10⟩ := range_cells hy1
        have Hx := Lib.hid hx
        have Hy := Lib.hid hy
        clear hx hy hx1 hy1
        have hne := ne_en x y
        have hk1 : (k : Int) < (xs.length : Int) := by omega
        cases hq : decide (x = y) with
        | true =>
          have Hq := Lib.hid (of_decide_eq_true hq)
          rw [hq] at hne
          clear hq
          go_wp2
          go_quiet (fail)
          go_wp2
          go_roundw
          case rel => exact ⟨k + 1, by omega, by go_num, takeS Hr.out Hx.out Hy.out Hq.out, bdrew hB _⟩
          case measure => simp [intOf]; omega
        | false =>
          have Hq := Lib.hid (of_decide_eq_false hq)
          rw [hq] at hne
          clear hq
          go_wp2
          go_quiet (fail)
          go_wp2
          go_ret
          refine ⟨ret_bool (decide_eq_false ?_).symm, bdrew hB _⟩
          intro e
          have h3 := Hx.out
          rw [e, Hy.out] at h3
          injection h3 with h3
          exact Hq.out h3.symm
      · obtain rfl : k = xs.length := by omega
        go_wp2
        go_ret
        refine ⟨ret_bool (decide_eq_true ?_).symm, hB⟩
        have h3 := Hr.out
        rwa [List.take_length, He.out, List.take_length] at h3
  · have hn : ((xs.length : Int) != (ys.length : Int)) = true := by rw [bne_iff_ne]; omega
    have hn2 : (xs.length != ys.length) = true := by rw [bne_iff_ne]; omega
    have Hf := Lib.hid (decide_eq_false (show ¬ xs = ys from fun e => he (by rw [e])))
    clear he
    go_enter Try.func16, Try.ntmps16
    go_wp2
    go_ret
    exact ⟨ret_bool Hf.out.symm, Below.refl _ _⟩
theorem same_self (A A2 : Option Addr) (c c2 : Nat) (xs : List En) (w : World) (h : LS w w.heap.size A xs) (h2 : LS w w.heap.size A2 xs) (hl : xs.length ≤ 1000000) :
    Calls Try.prog 16 #[.slice A xs.length c, .slice A2 xs.length c2] w (fun e w' => e = .returned (.bool true) ∧ Below w.heap.size w w') := by
  have h3 := same_any A A2 c c2 xs xs w h h2 hl
  rwa [decide_eq_true rfl] at h3
end Go.Proofs.Ytbkaiffecnomjaa
