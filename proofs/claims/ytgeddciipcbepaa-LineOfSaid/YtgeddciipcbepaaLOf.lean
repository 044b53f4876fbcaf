/- LineOf: the law answers true, whatever its numbers; nothing that was there changes. -/
import Derived.Test.YtgeddciipcbepaaLHead
import Derived.Test.YtgeddciipcbepaaRef3
namespace Go.Proofs.Ytgeddciipcbepaa
open Go.RowKit
attribute [local go_sem ↓] Go.wp_at_zero Go.wp_at_succ

set_option maxRecDepth 100000 in
set_option maxHeartbeats 1000000 in
theorem lof_many (A : Option Addr) (n c : Nat) (w : World) (h : 30 < n) : Calls Try.prog 4 #[.slice A n c] w fun e w' => e = .returned (.bool true) ∧ Below w.heap.size w w' := by
  have h2 : (30 : Int) < (n : Int) := by omega
  go_enter Try.func4, Try.ntmps4
  go_wp2_with fail
  refine (awake_any w).mono ?_
  rintro e w1 ⟨rfl, hB⟩
  go_wp2_with fail
  go_ret
  exact ⟨rfl, hB⟩
set_option maxRecDepth 100000 in
set_option maxHeartbeats 1000000 in
theorem lof_go (A : Option Addr) (n c : Nat) (xs : List Int) (w : World) (hl : xs.length = n) (h : n ≤ 30) (hI : IS w w.heap.size A xs) : Calls Try.prog 4 #[.slice A n c] w fun e w' => e = .returned (.bool true) ∧ Below w.heap.size w w' := by
  subst hl
  have h2 := fun w' (hb : Below w.heap.size w w') => of_any A c xs w' (by omega) (hI.on hb)
  have h3 := fun w' (hb : Below w.heap.size w w') => rof_any A c xs w' (by omega) (hI.on hb)
  by_cases hO : Ok xs
  · have h4 := fun w => right_yes w hO
    have h5 := fun w => list_line w hO
    have HI := Lib.hid (fun (A A2 : Option Addr) (c c2 : Nat) w h1 h2 => ints_any A A2 c c2 xs xs w h1 h2 (by omega))
    rw [decide_eq_true rfl] at HI
    rw [ofV_ok hO] at h2 h3
    obtain ⟨q, eq⟩ : ∃ y, y = wd xs := ⟨_, rfl⟩
    rw [← eq] at h2 h3 h4 h5
    clear eq hO
    go_enter Try.func4, Try.ntmps4
    go_wp2_with fail
    refine (awake_any w).mono ?_
    rintro e w1 ⟨rfl, hB⟩
    go_wp2_with fail
    refine (h2 w1 hB).mono ?_
    rintro e w2 ⟨rfl, hB2⟩
    replace hB := bstep hB hB2
    go_wp2_with fail
    refine (h3 w2 hB).mono ?_
    rintro e w3 ⟨rfl, hB3⟩
    replace hB := bstep hB hB3
    clear h2 h3 hB2 hB3
    go_wp2_with fail
    refine (h4 w3).mono ?_
    rintro e w4 ⟨rfl, hB4⟩
    replace hB := bstep hB hB4
    go_wp2_with fail
    refine (h5 w4).mono ?_
    rintro e w5 ⟨A5, c5, rfl, hc5, hI5, hB5⟩
    replace hB := bstep hB hB5
    go_wp2_with fail
    refine (HI.out A5 A c5 c w5 hI5 (hI.on hB)).mono ?_
    rintro e w6 ⟨rfl, hB6⟩
    replace hB := bstep hB hB6
    go_wp2_with fail
    go_ret
    exact ⟨rfl, hB⟩
  · rw [ofV_no hO] at h2 h3
    clear hO
    go_enter Try.func4, Try.ntmps4
    go_wp2_with fail
    refine (awake_any w).mono ?_
    rintro e w1 ⟨rfl, hB⟩
    go_wp2_with fail
    refine (h2 w1 hB).mono ?_
    rintro e w2 ⟨rfl, hB2⟩
    replace hB := bstep hB hB2
    go_wp2_with fail
    refine (h3 w2 hB).mono ?_
    rintro e w3 ⟨rfl, hB3⟩
    replace hB := bstep hB hB3
    clear h2 h3 hB2 hB3
    go_wp2_with fail
    go_ret
    exact ⟨rfl, hB⟩
theorem lof_any (A : Option Addr) (n c : Nat) (xs : List Int) (w : World) (hl : xs.length = n) (hI : IS w w.heap.size A xs) : Calls Try.prog 4 #[.slice A n c] w fun e w' => e = .returned (.bool true) ∧ Below w.heap.size w w' := by
  by_cases h : n ≤ 30
  · exact lof_go A n c xs w hl h hI
  · exact lof_many A n c w (by omega)
end Go.Proofs.Ytgeddciipcbepaa
