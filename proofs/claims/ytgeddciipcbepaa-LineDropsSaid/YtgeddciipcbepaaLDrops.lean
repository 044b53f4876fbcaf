/- LineDrops: the law answers true, whatever its word and numbers; nothing that was there changes. -/
import Derived.Test.YtgeddciipcbepaaLHead
namespace Go.Proofs.Ytgeddciipcbepaa
open Go.RowKit
attribute [local go_sem ↓] Go.wp_at_zero Go.wp_at_succ

theorem less_comm (l : List Int) (a b : Int) : less (less l a) b = less (less l b) a := by
  unfold less
  rw [List.filter_filter, List.filter_filter]
  congr 1
  funext y
  exact Bool.and_comm _ _
theorem drop_step {l : List Int} {k : Nat} (h : Ok l) (hk : k < l.length) : 0 < wd (l.drop k) ∧ wd (l.drop k) / 16 = wd (l.drop (k + 1)) := by
  have hx := h.rng l[k] (List.getElem_mem hk)
  have h2 := (h.sub (List.drop_sublist (k + 1) l)).lo
  rw [List.drop_eq_getElem_cons hk]
  simp only [wd]
  omega
set_option maxRecDepth 100000 in
set_option maxHeartbeats 1000000 in
theorem ldrops_no (q a b : Int) (w : World) (h : ¬ Rt q) : Calls Try.prog 7 #[vI q, vI a, vI b] w fun e w' => e = .returned (.bool true) ∧ Below w.heap.size w w' := by
  have h2 := fun w => right_no w h
  clear h
  go_enter Try.func7, Try.ntmps7
  go_wp2_with fail
  refine (awake_any w).mono ?_
  rintro e w1 ⟨rfl, hB⟩
  go_wp2_with fail
  refine (h2 w1).mono ?_
  rintro e w2 ⟨rfl, hB2⟩
  replace hB := bstep hB hB2
  go_wp2_with fail
  go_ret
  exact ⟨rfl, hB⟩
set_option maxRecDepth 100000 in
set_option maxHeartbeats 1000000 in
theorem ldrops_go {l : List Int} (a b : Int) (w : World) (h : Ok l) : Calls Try.prog 7 #[vI (wd l), vI a, vI b] w fun e w' => e = .returned (.bool true) ∧ Below w.heap.size w w' := by
  have h2 := fun w => right_yes w h
  have ha := ok_less h a
  have hb := ok_less h b
  have hab := ok_less ha b
  have h3 := fun w => drop_any a w h
  have h4 := fun w => drop_any b w ha
  have h5 := fun w => drop_any b w h
  have h6 := fun w => drop_any a w hb
  rw [less_comm l b a] at h6
  have h7 := fun w => len_line w h
  have h8 := fun w => right_yes w hab
  have Hl := Lib.hid (h.lo)
  have Hs := Lib.hid (fun k (hk : k < l.length) => drop_step h hk)
  have hn := h.len
  have He := Lib.hid (show wd (l.drop l.length) = 0 by rw [List.drop_length]; rfl)
  have H0 := Lib.hid (show wd (l.drop 0) = wd l by rw [List.drop_zero])
  obtain ⟨d1, ed1⟩ : ∃ d, d = decide (a ∈ l) := ⟨_, rfl⟩
  obtain ⟨d2, ed2⟩ : ∃ d, d = decide (b ∈ less l a) := ⟨_, rfl⟩
  obtain ⟨d3, ed3⟩ : ∃ d, d = decide (b ∈ l) := ⟨_, rfl⟩
  obtain ⟨d4, ed4⟩ : ∃ d, d = decide (a ∈ less l b) := ⟨_, rfl⟩
  obtain ⟨y, ey⟩ : ∃ y, y = wd (less (less l a) b) := ⟨_, rfl⟩
  obtain ⟨u, eu⟩ : ∃ y, y = wd (less l b) := ⟨_, rfl⟩
  obtain ⟨x, ex⟩ : ∃ y, y = wd (less l a) := ⟨_, rfl⟩
  obtain ⟨q, eq⟩ : ∃ y, y = wd l := ⟨_, rfl⟩
  rw [← ed1, ← ex, ← eq] at h3
  rw [← ed2, ← ex, ← ey] at h4
  rw [← ed3, ← eu, ← eq] at h5
  rw [← ed4, ← eu, ← ey] at h6
  rw [← eq] at h2 h7 H0 Hl ⊢
  rw [← ey] at h8
  clear ed1 ed2 ed3 ed4 ey eu ex eq ha hb hab h
  go_enter Try.func7, Try.ntmps7
  go_wp2_with fail
  refine (awake_any w).mono ?_
  rintro e w1 ⟨rfl, hB⟩
  go_wp2_with fail
  refine (h2 w1).mono ?_
  rintro e w2 ⟨rfl, hB2⟩
  replace hB := bstep hB hB2
  go_wp2_with fail
  refine (h3 w2).mono ?_
  rintro e w3 ⟨rfl, hB3⟩
  replace hB := bstep hB hB3
  go_wp2_with fail
  refine (h4 w3).mono ?_
  rintro e w4 ⟨rfl, hB4⟩
  replace hB := bstep hB hB4
  go_wp2_with fail
  refine (h5 w4).mono ?_
  rintro e w5 ⟨rfl, hB5⟩
  replace hB := bstep hB hB5
  go_wp2_with fail
  refine (h6 w5).mono ?_
  rintro e w6 ⟨rfl, hB6⟩
  replace hB := bstep hB hB6
  go_wp2_with fail
  refine (h7 w6).mono ?_
  rintro e w7 ⟨rfl, hB7⟩
  replace hB := bstep hB hB7
  clear h2 h3 h4 h5 h6 h7 hB2 hB3 hB4 hB5 hB6 hB7
  go_wp2_with fail
  go_loopw [17, 18] (fun z i wr => ∃ k : Nat, k ≤ l.length ∧ i = .int .i64 k ∧ z = vI (wd (l.drop k)) ∧ Below w.heap.size w wr) (fun _ i => fun _ => l.length - (intOf i).toNat)
  case atStart => exact ⟨0, Nat.zero_le _, rfl, by rw [H0.out], hB⟩
  case round =>
    obtain ⟨k, hk, rfl, rfl, hB2⟩ := hrel
    by_cases hlt : k < l.length
    · obtain ⟨s1, s2⟩ := Hs.out k hlt
      have hk1 : (k : Int) < (l.length : Int) := by omega
      obtain ⟨z, ez⟩ : ∃ z, z = wd (l.drop k) := ⟨_, rfl⟩
      obtain ⟨z2, ez2⟩ : ∃ z, z = wd (l.drop (k + 1)) := ⟨_, rfl⟩
      rw [← ez] at s1 s2 ⊢
      rw [← ez2] at s2
      have hz : (z == 0) = false := by rw [beq_eq_false_iff_ne]; omega
      have hp := fun w => pop_any z w
      rw [s2] at hp
      have Ez := Lib.hid ez2
      clear s1 s2 ez ez2
      go_wp2_with (first | (go_at_call 22; refine (hp _).mono ?_; rintro e w6 ⟨rfl, rfl⟩))
      go_roundw
      case rel => exact ⟨k + 1, by omega, by go_num, by rw [Ez.out], hB2⟩
      case measure => simp [intOf]; omega
    · obtain rfl : k = l.length := by omega
      rw [He.out]
      go_wp2_with (first | (go_at_call 11; refine (h8 _).mono ?_; rintro e w6 ⟨rfl, hB6⟩))
      go_ret
      exact ⟨rfl, bthen hB2 hB6 hB2.size⟩
theorem ldrops_any (q a b : Int) (w : World) : Calls Try.prog 7 #[vI q, vI a, vI b] w fun e w' => e = .returned (.bool true) ∧ Below w.heap.size w w' := by
  by_cases h : Rt q
  · obtain ⟨l, hO, rfl, _⟩ := h.line
    exact ldrops_go a b w hO
  · exact ldrops_no q a b w h
end Go.Proofs.Ytgeddciipcbepaa
