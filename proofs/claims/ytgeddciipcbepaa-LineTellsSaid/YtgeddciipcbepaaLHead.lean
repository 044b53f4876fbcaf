/- LineHead: the law answers true, whatever its word; nothing that was there changes. -/
import Derived.Test.YtgeddciipcbepaaAwake
namespace Go.Proofs.Ytgeddciipcbepaa
open Go.RowKit
attribute [local go_sem ↓] Go.wp_at_zero Go.wp_at_succ

theorem right_yes {l : List Int} (w : World) (h : Ok l) : Calls Try.prog 11 #[vI (wd l)] w fun e w' => e = .returned (.bool true) ∧ Below w.heap.size w w' := by
  have := right_any (wd l) w
  rwa [decide_eq_true (rt_wd h)] at this
theorem right_no {q : Int} (w : World) (h : ¬ Rt q) : Calls Try.prog 11 #[vI q] w fun e w' => e = .returned (.bool false) ∧ Below w.heap.size w w' := by
  have := right_any q w
  rwa [decide_eq_false h] at this
theorem head_line {l : List Int} (w : World) (h : Ok l) : Calls Try.prog 13 #[vI (wd l)] w fun e w' => e = .returned (headV l) ∧ Below w.heap.size w w' := by
  have := head_any (wd l) w
  rwa [lst_wd h] at this
theorem list_line {l : List Int} (w : World) (h : Ok l) : Calls Try.prog 20 #[vI (wd l)] w (RetInts w l) := by
  have := list_any (wd l) w
  rwa [lst_wd h] at this
theorem len_line {l : List Int} (w : World) (h : Ok l) : Calls Try.prog 18 #[vI (wd l)] w fun e w' => e = .returned (vI l.length) ∧ Below w.heap.size w w' := by
  have := len_any (wd l) w
  rwa [lst_wd h] at this
theorem has_line {l : List Int} (x : Int) (w : World) (h : Ok l) : Calls Try.prog 21 #[vI (wd l), vI x] w fun e w' => e = .returned (.bool (decide (x ∈ l))) ∧ Below w.heap.size w w' := by
  have := has_any (wd l) x w
  rwa [lst_wd h] at this

set_option maxRecDepth 100000 in
set_option maxHeartbeats 1000000 in
theorem lhead_no (q : Int) (w : World) (h : ¬ Rt q) : Calls Try.prog 8 #[vI q] w fun e w' => e = .returned (.bool true) ∧ Below w.heap.size w w' := by
  have h2 := fun w => right_no w h
  clear h
  go_enter Try.func8, Try.ntmps8
  go_wp2_with fail
  refine (awake_any w).mono ?_
  rintro e w1 ⟨rfl, hB⟩
  go_wp2_with fail
  refine (h2 w1).mono ?_
  rintro e w2 ⟨rfl, hB2⟩
  replace hB := bstep hB hB2
  go_wp2_with fail
  go_ret
  exact ⟨rfl, hB⟩
set_option maxRecDepth 100000 in
set_option maxHeartbeats 1000000 in
theorem lhead_cons (x : Int) (t : List Int) (w : World) (h : Ok (x :: t)) : Calls Try.prog 8 #[vI (wd (x :: t))] w fun e w' => e = .returned (.bool true) ∧ Below w.heap.size w w' := by
  have hx := h.rng x (by simp)
  have ht := ok_tail h
  have hn : x ∉ t := (List.nodup_cons.1 h.nd).1
  have h2 := fun w => right_yes w h
  have h3 : ∀ w, Calls Try.prog 13 #[vI (wd (x :: t))] w fun e w' => e = .returned (.tuple #[vI x, .bool true]) ∧ Below w.heap.size w w' := fun w => head_line w h
  have h4 : ∀ w, Calls Try.prog 16 #[vI (wd (x :: t)), vI x] w fun e w' => e = .returned (.tuple #[vI (wd t), .bool true]) ∧ Below w.heap.size w w' := fun w => drop_go (a := []) x w h
  have h5 := fun w => list_line w h
  have h6 : ∀ w, Calls Try.prog 22 #[vI (wd (x :: t))] w fun e w' => e = .returned (vI (wd t)) ∧ w = w' := fun w => by
    have := pop_any (wd (x :: t)) w
    rwa [wd_tail x t hx.1 hx.2] at this
  have h7 : ∀ w, Calls Try.prog 21 #[vI (wd (x :: t)), vI x] w fun e w' => e = .returned (.bool true) ∧ Below w.heap.size w w' := fun w => by
    have := has_line x w h
    rwa [decide_eq_true (by simp)] at this
  have h8 : ∀ w, Calls Try.prog 21 #[vI (wd t), vI x] w fun e w' => e = .returned (.bool false) ∧ Below w.heap.size w w' := fun w => by
    have := has_line x w ht
    rwa [decide_eq_false hn] at this
  obtain ⟨q, eq⟩ : ∃ q, q = wd (x :: t) := ⟨_, rfl⟩
  obtain ⟨r, er⟩ : ∃ r, r = wd t := ⟨_, rfl⟩
  obtain ⟨l, el⟩ : ∃ l, l = x :: t := ⟨_, rfl⟩
  have hl0 : l[0]? = some x := by rw [el]; rfl
  have hll : 0 < l.length := by rw [el]; simp
  rw [← eq] at h2 h3 h4 h5 h6 h7 ⊢
  rw [← er] at h4 h6 h8
  rw [← el] at h5
  clear hx ht hn h eq er el
  go_enter Try.func8, Try.ntmps8
  go_wp2_with fail
  refine (awake_any w).mono ?_
  rintro e w1 ⟨rfl, hB⟩
  go_wp2_with fail
  refine (h2 w1).mono ?_
  rintro e w2 ⟨rfl, hB2⟩
  replace hB := bstep hB hB2
  go_wp2_with fail
  refine (h3 w2).mono ?_
  rintro e w3 ⟨rfl, hB3⟩
  replace hB := bstep hB hB3
  go_wp2_with fail
  refine (h4 w3).mono ?_
  rintro e w4 ⟨rfl, hB4⟩
  replace hB := bstep hB hB4
  go_wp2_with fail
  refine (h5 w4).mono ?_
  rintro e w5 ⟨A, c, rfl, hc, hI, hB5⟩
  replace hB := bstep hB hB5
  obtain ⟨b, off, rfl, hb, hd⟩ := hI 0 x hl0
  rw [Nat.add_zero] at hd
  have hl1 : (0 : Int) < (l.length : Int) := by omega
  have hl2 : ((l.length : Int) == 0) = false := by rw [beq_eq_false_iff_ne]; omega
  have hl3 : (l.length == 0) = false := by rw [beq_eq_false_iff_ne]; omega
  clear h2 h3 h4 h5 hI hl0 hB2 hB3 hB4 hB5
  go_wp2_with (first
    | (go_at_call 22; refine (h6 _).mono ?_; rintro e w6 ⟨rfl, rfl⟩)
    | (go_at_call_of 21 (vI q); refine (h7 _).mono ?_; rintro e w7 ⟨rfl, hB7⟩)
    | (go_at_call_of 21 (vI r); refine (h8 _).mono ?_; rintro e w8 ⟨rfl, hB8⟩))
  go_ret
  exact ⟨rfl, bstep (bstep hB hB7) hB8⟩
set_option maxRecDepth 100000 in
set_option maxHeartbeats 1000000 in
theorem lhead_nil (w : World) : Calls Try.prog 8 #[vI 0] w fun e w' => e = .returned (.bool true) ∧ Below w.heap.size w w' := by
  have h2 : ∀ w, Calls Try.prog 11 #[vI 0] w fun e w' => e = .returned (.bool true) ∧ Below w.heap.size w w' := fun w => right_yes (l := []) w Ok.nil
  have h3 : ∀ w, Calls Try.prog 13 #[vI 0] w fun e w' => e = .returned (headV []) ∧ Below w.heap.size w w' := fun w => head_line (l := []) w Ok.nil
  have h4 : ∀ w, Calls Try.prog 16 #[vI 0, vI 0] w fun e w' => e = .returned (.tuple #[vI 0, .bool false]) ∧ Below w.heap.size w w' := fun w => drop_no (l := []) 0 w Ok.nil (by simp)
  have h5 : ∀ w, Calls Try.prog 20 #[vI 0] w fun e w' => ∃ A c, e = .returned (.slice A 0 c) ∧ Below w.heap.size w w' := fun w => by
    have h : Calls Try.prog 20 #[vI 0] w (RetInts w []) := list_line (l := []) w Ok.nil
    refine h.mono ?_
    rintro e w' ⟨A, c, he, _, _, hB⟩
    exact ⟨A, c, he, hB⟩
  unfold headV at h3
  go_enter Try.func8, Try.ntmps8
  go_wp2_with fail
  refine (awake_any w).mono ?_
  rintro e w1 ⟨rfl, hB⟩
  go_wp2_with fail
  refine (h2 w1).mono ?_
  rintro e w2 ⟨rfl, hB2⟩
  replace hB := bstep hB hB2
  go_wp2_with fail
  refine (h3 w2).mono ?_
  rintro e w3 ⟨rfl, hB3⟩
  replace hB := bstep hB hB3
  go_wp2_with fail
  refine (h4 w3).mono ?_
  rintro e w4 ⟨rfl, hB4⟩
  replace hB := bstep hB hB4
  go_wp2_with fail
  refine (h5 w4).mono ?_
  rintro e w5 ⟨A, c, rfl, hB5⟩
  replace hB := bstep hB hB5
  go_wp2_with fail
  go_ret
  exact ⟨rfl, hB⟩
theorem lhead_any (q : Int) (w : World) : Calls Try.prog 8 #[vI q] w fun e w' => e = .returned (.bool true) ∧ Below w.heap.size w w' := by
  by_cases h : Rt q
  · obtain ⟨l, hO, rfl, _⟩ := h.line
    cases l with
    | nil => exact lhead_nil w
    | cons x t => exact lhead_cons x t w hO
  · exact lhead_no q w h
end Go.Proofs.Ytgeddciipcbepaa
