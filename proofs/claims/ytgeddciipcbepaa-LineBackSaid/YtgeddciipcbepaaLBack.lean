/- LineBack: the law answers true, whatever its words and number; nothing that was there changes. -/
import Derived.Test.YtgeddciipcbepaaLHead
namespace Go.Proofs.Ytgeddciipcbepaa
open Go.RowKit
attribute [local go_sem ↓] Go.wp_at_zero Go.wp_at_succ

set_option maxRecDepth 100000 in
set_option maxHeartbeats 1000000 in
theorem lback_no1 (q r x : Int) (w : World) (h : ¬ Rt q) : Calls Try.prog 6 #[vI q, vI r, vI x] w fun e w' => e = .returned (.bool true) ∧ Below w.heap.size w w' := by
  have h2 := fun w => right_no w h
  clear h
  go_enter Try.func6, Try.ntmps6
  go_wp2_with fail
  refine (awake_any w).mono ?_
  rintro e w1 ⟨rfl, hB⟩
  go_wp2_with (first | (go_at_call 11; refine (h2 _).mono ?_; rintro e w2 ⟨rfl, hB2⟩))
  go_ret
  exact ⟨rfl, bstep hB hB2⟩
set_option maxRecDepth 100000 in
set_option maxHeartbeats 1000000 in
theorem lback_no2 (q r x : Int) (w : World) (h : Rt q) (h' : ¬ Rt r) : Calls Try.prog 6 #[vI q, vI r, vI x] w fun e w' => e = .returned (.bool true) ∧ Below w.heap.size w w' := by
  have h2 := fun w => right_any q w
  have h3 := fun w => right_no w h'
  rw [decide_eq_true h] at h2
  clear h h'
  go_enter Try.func6, Try.ntmps6
  go_wp2_with fail
  refine (awake_any w).mono ?_
  rintro e w1 ⟨rfl, hB⟩
  go_wp2_with (first | (go_at_call_of 11 (vI q); refine (h2 _).mono ?_; rintro e w2 ⟨rfl, hB2⟩) | (go_at_call_of 11 (vI r); refine (h3 _).mono ?_; rintro e w3 ⟨rfl, hB3⟩))
  go_ret
  exact ⟨rfl, bstep (bstep hB hB2) hB3⟩
set_option maxRecDepth 100000 in
set_option maxHeartbeats 4000000 in
theorem lback_go {l m : List Int} (x : Int) (w : World) (h : Ok l) (h' : Ok m) : Calls Try.prog 6 #[vI (wd l), vI (wd m), vI x] w fun e w' => e = .returned (.bool true) ∧ Below w.heap.size w w' := by
  have h2 := fun w => right_yes w h
  have h3 := fun w => right_yes w h'
  have hsame := Lib.hid (show (wd l == wd m) = decide (l = m) by
    by_cases e : l = m
    · rw [e]; simp
    · rw [decide_eq_false e, beq_eq_false_iff_ne]
      exact fun k => e (wd_inj h h' k))
  have hl1 := fun w => list_line w h
  have hl2 := fun w => list_line w h'
  have hll := h.len
  by_cases hO : Ok (l ++ [x])
  · have h4 := fun w => push_go x w hO
    have hn : x ∉ l := ((ok_snoc h).1 hO).2.2.2
    have h5 : ∀ w, Calls Try.prog 16 #[vI (wd (l ++ [x])), vI x] w fun e w' => e = .returned (.tuple #[vI (wd l), .bool true]) ∧ Below w.heap.size w w' := fun w => by
      have := drop_go (a := l) (b := []) x w hO
      rwa [List.append_nil] at this
    have h6 := fun w => len_line w hO
    have h7 := fun w => len_line w h
    have h8 := fun w => has_line x w hO
    have h9 := fun w => has_line x w h
    rw [decide_eq_true (by simp)] at h8
    rw [decide_eq_false hn] at h9
    obtain ⟨n2, en2⟩ : ∃ n, n = (l ++ [x]).length := ⟨_, rfl⟩
    obtain ⟨n1, en1⟩ : ∃ n, n = l.length := ⟨_, rfl⟩
    have hn2 : n2 = n1 + 1 := by rw [en2, en1]; simp
    obtain ⟨y, ey⟩ : ∃ y, y = wd (l ++ [x]) := ⟨_, rfl⟩
    obtain ⟨r, er⟩ : ∃ y, y = wd m := ⟨_, rfl⟩
    obtain ⟨q, eq⟩ : ∃ y, y = wd l := ⟨_, rfl⟩
    rw [← ey] at h4 h5 h6 h8
    rw [← eq] at h2 h4 h5 h7 h9 hl1 hsame ⊢
    rw [← er] at h3 hl2 hsame ⊢
    rw [← en2, hn2] at h6
    have hl15 := hll
    rw [← en1] at h7 hll
    have a0 : (((n1 + 1 : Nat) : Int) != (n1 : Int) + 1) = false := by simp
    have a1 : ((n1 : Int) + 1 != (n1 : Int) + 1) = false := by simp
    clear ey er eq hn en1 en2 h h' hO hn2
    go_enter Try.func6, Try.ntmps6
    go_wp2_with fail
    refine (awake_any w).mono ?_
    rintro e w1 ⟨rfl, hB⟩
    go_wp2_with (first
      | (go_at_call_of 11 (vI q); refine (h2 _).mono ?_; rintro e w2 ⟨rfl, hB2⟩)
      | (go_at_call_of 11 (vI r); refine (h3 _).mono ?_; rintro e w3 ⟨rfl, hB3⟩)
      | (go_at_call 14; refine (h4 _).mono ?_; rintro e w4 ⟨rfl, hB4⟩)
      | (go_at_call 16; refine (h5 _).mono ?_; rintro e w5 ⟨rfl, hB5⟩)
      | (go_at_call_of 18 (vI y); refine (h6 _).mono ?_; rintro e w6 ⟨rfl, hB6⟩)
      | (go_at_call_of 18 (vI q); refine (h7 _).mono ?_; rintro e w7 ⟨rfl, hB7⟩)
      | (go_at_call_of 21 (vI y); refine (h8 _).mono ?_; rintro e w8 ⟨rfl, hB8⟩)
      | (go_at_call_of 21 (vI q); refine (h9 _).mono ?_; rintro e w9 ⟨rfl, hB9⟩))
    replace hB := bstep (bstep (bstep (bstep (bstep (bstep (bstep (bstep hB hB2) hB3) hB4) hB5) hB6) hB7) hB8) hB9
    clear h2 h3 h4 h5 h6 h7 h8 h9 hB2 hB3 hB4 hB5 hB6 hB7 hB8 hB9
    have HI := Lib.hid (fun (A A2 : Option Addr) (c c2 : Nat) w => ints_any A A2 c c2 l m w)
    obtain ⟨d, ed⟩ : ∃ d, d = decide (l = m) := ⟨_, rfl⟩
    rw [← ed] at hsame HI
    clear ed
    refine (hl1 w9).mono ?_
    rintro e w10 ⟨A10, c10, rfl, hc10, hI10, hB10⟩
    replace hB := bstep hB hB10
    go_wp2_with fail
    refine (hl2 w10).mono ?_
    rintro e w11 ⟨A11, c11, rfl, hc11, hI11, hB11⟩
    replace hB := bstep hB hB11
    go_wp2_with fail
    refine (HI.out A10 A11 c10 c11 w11 (hI10.on hB11) hI11 (by omega)).mono ?_
    rintro e w12 ⟨rfl, hB12⟩
    replace hB := bstep hB hB12
    go_wp2_with fail
    go_ret
    exact ⟨ret_bool (by rw [hsame.out]; simp), hB⟩
  · have h4 := fun w => push_no x w h hO
    obtain ⟨r, er⟩ : ∃ y, y = wd m := ⟨_, rfl⟩
    obtain ⟨q, eq⟩ : ∃ y, y = wd l := ⟨_, rfl⟩
    rw [← eq] at h2 h4 hl1 hsame ⊢
    rw [← er] at h3 hl2 hsame ⊢
    clear er eq h h' hO
    go_enter Try.func6, Try.ntmps6
    go_wp2_with fail
    refine (awake_any w).mono ?_
    rintro e w1 ⟨rfl, hB⟩
    go_wp2_with (first
      | (go_at_call_of 11 (vI q); refine (h2 _).mono ?_; rintro e w2 ⟨rfl, hB2⟩)
      | (go_at_call_of 11 (vI r); refine (h3 _).mono ?_; rintro e w3 ⟨rfl, hB3⟩)
      | (go_at_call 14; refine (h4 _).mono ?_; rintro e w4 ⟨rfl, hB4⟩))
    replace hB := bstep (bstep (bstep hB hB2) hB3) hB4
    clear h2 h3 h4 hB2 hB3 hB4
    have HI := Lib.hid (fun (A A2 : Option Addr) (c c2 : Nat) w => ints_any A A2 c c2 l m w)
    obtain ⟨d, ed⟩ : ∃ d, d = decide (l = m) := ⟨_, rfl⟩
    rw [← ed] at hsame HI
    clear ed
    refine (hl1 w4).mono ?_
    rintro e w10 ⟨A10, c10, rfl, hc10, hI10, hB10⟩
    replace hB := bstep hB hB10
    go_wp2_with fail
    refine (hl2 w10).mono ?_
    rintro e w11 ⟨A11, c11, rfl, hc11, hI11, hB11⟩
    replace hB := bstep hB hB11
    go_wp2_with fail
    refine (HI.out A10 A11 c10 c11 w11 (hI10.on hB11) hI11 (by omega)).mono ?_
    rintro e w12 ⟨rfl, hB12⟩
    replace hB := bstep hB hB12
    go_wp2_with fail
    go_ret
    exact ⟨ret_bool (by rw [hsame.out]; simp), hB⟩
theorem lback_any (q r x : Int) (w : World) : Calls Try.prog 6 #[vI q, vI r, vI x] w fun e w' => e = .returned (.bool true) ∧ Below w.heap.size w w' := by
  by_cases h : Rt q
  · by_cases h' : Rt r
    · obtain ⟨l, hO, rfl, _⟩ := h.line
      obtain ⟨m, hO', rfl, _⟩ := h'.line
      exact lback_go x w hO hO'
    · exact lback_no2 q r x w h h'
  · exact lback_no1 q r x w h
end Go.Proofs.Ytgeddciipcbepaa
