/- Whether one stands there; a line with one more, and without its first one. -/
import Derived.Test.YtgeddciipcbepaaList
namespace Go.Proofs.Ytgeddciipcbepaa
open Go.RowKit
attribute [local go_sem ↓] Go.wp_at_zero Go.wp_at_succ

theorem has_any (q who : Int) (w : World) : Calls Try.prog 21 #[vI q, vI who] w fun e w' => e = .returned (.bool (decide (who ∈ lst q))) ∧ Below w.heap.size w w' := by
  by_cases h : who ∈ lst q
  · have hp := place_any q who w
    have e1 : placeV (lst q) who = .tuple #[vI ((lst q).idxOf who : Nat), .bool true] := if_pos h
    rw [e1] at hp
    rw [decide_eq_true h]
    clear e1 h
    go_enter Try.func21, Try.ntmps21
    go_wp2_with fail
    refine hp.mono ?_
    rintro e w1 ⟨rfl, hB⟩
    go_wp2_with fail
    go_ret
    exact ⟨rfl, hB⟩
  · have hp := place_any q who w
    rw [placeV_out h] at hp
    rw [decide_eq_false h]
    clear h
    go_enter Try.func21, Try.ntmps21
    go_wp2_with fail
    refine hp.mono ?_
    rintro e w1 ⟨rfl, hB⟩
    go_wp2_with fail
    go_ret
    exact ⟨rfl, hB⟩
theorem pop_any (q : Int) (w : World) : Calls Try.prog 22 #[vI q] w fun e w' => e = .returned (vI (q / 16)) ∧ w = w' := by
  go_enter Try.func22, Try.ntmps22
  go_wp2_with fail
  go_ret
  exact ⟨rfl, rfl⟩
theorem ok_snoc {l : List Int} {x : Int} (h : Ok l) : Ok (l ++ [x]) ↔ 0 ≤ x ∧ x ≤ 14 ∧ l.length ≠ 15 ∧ x ∉ l := by
  constructor
  · intro k
    have h1 := k.rng x (by simp)
    have h2 := k.len
    have h3 := k.nd
    rw [List.nodup_append] at h3
    simp at h2
    exact ⟨h1.1, h1.2, by omega, fun e => h3.2.2 x e x (by simp) rfl⟩
  · rintro ⟨h0, h1, h2, h3⟩
    exact h.snoc h0 h1 h3 (by have := h.len; omega)
theorem push_walk {l : List Int} {x : Int} (h : Ok (l ++ [x])) : bits .or .i64 (wd l) (wrap64 ((x + 1) * 2 ^ (l.length * 4))) = wd (l ++ [x]) := by
  have h1 := h.rng x (by simp)
  have h2 := h.hi
  have e : (2 : Int) ^ (l.length * 4) = p16 l.length := by rw [p16_eq, Nat.mul_comm]
  have h3 := wd_hi (ok_pre h).rng
  rw [wd_snoc] at h2 ⊢
  rw [← e] at h2 h3 ⊢
  have h4 := (ok_pre h).lo
  have h5 : 0 ≤ (x + 1) * 2 ^ (l.length * 4) := Int.mul_nonneg (by omega) (Int.le_of_lt (Int.pow_pos (by omega)))
  have hw : wrap64 ((x + 1) * 2 ^ (l.length * 4)) = (x + 1) * 2 ^ (l.length * 4) := by unfold wrap64; omega
  rw [hw]
  exact or_add h4 h3 (by omega) (by omega)
theorem ret_I {a b : Int} {c : Bool} (h : a = b) : Ending.returned (.tuple #[vI a, .bool c]) = .returned (.tuple #[vI b, .bool c]) := by rw [h]
set_option maxHeartbeats 1000000 in
theorem push_go {l : List Int} (x : Int) (w : World) (h : Ok (l ++ [x])) : Calls Try.prog 14 #[vI (wd l), vI x] w fun e w' => e = .returned (.tuple #[vI (wd (l ++ [x])), .bool true]) ∧ Below w.heap.size w w' := by
  obtain ⟨h0, h1, h2, h3⟩ := (ok_snoc (ok_pre h)).1 h
  have hl := len_any (wd l) w
  have hh := fun w => has_any (wd l) x w
  rw [lst_wd (ok_pre h), decide_eq_false h3] at hh
  rw [lst_wd (ok_pre h)] at hl
  have hw := Lib.hid (push_walk h)
  have n15 : l.length < 15 := by have := (ok_pre h).len; omega
  obtain ⟨n, hn⟩ : ∃ n, l.length = n := ⟨_, rfl⟩
  obtain ⟨q, hq⟩ : ∃ q, wd l = q := ⟨_, rfl⟩
  obtain ⟨r, hr⟩ : ∃ r, wd (l ++ [x]) = r := ⟨_, rfl⟩
  rw [hn] at hl hw h2 n15
  rw [hq] at hl hh hw ⊢
  rw [hr] at hw ⊢
  clear h3 h hn hq hr
  have a0 : decide (x < 0) = false := by simpa using h0
  have a1 : decide (14 < x) = false := by simpa using h1
  have a2 : ((n : Int) == 15) = false := by rw [beq_eq_false_iff_ne]; omega
  have a3 : (n == 15) = false := by rw [beq_eq_false_iff_ne]; omega
  go_enter Try.func14, Try.ntmps14
  go_wp2_with fail
  refine hl.mono ?_
  rintro e w1 ⟨rfl, hB⟩
  go_wp2_with (first | (go_at_call 21; refine (hh _).mono ?_; rintro e w2 ⟨rfl, hB2⟩))
  go_ret2
  exact ⟨ret_I hw.out, bstep hB hB2⟩
set_option maxHeartbeats 1000000 in
theorem push_no {l : List Int} (x : Int) (w : World) (h : Ok l) (h2 : ¬ Ok (l ++ [x])) : Calls Try.prog 14 #[vI (wd l), vI x] w fun e w' => e = .returned (.tuple #[vI (wd l), .bool false]) ∧ Below w.heap.size w w' := by
  have hl := len_any (wd l) w
  have hh := fun w => has_any (wd l) x w
  rw [lst_wd h] at hl hh
  have n15 := h.len
  have hc : x < 0 ∨ 14 < x ∨ l.length = 15 ∨ x ∈ l := by
    rw [ok_snoc h] at h2
    by_cases c0 : x < 0
    · exact .inl c0
    · by_cases c1 : 14 < x
      · exact .inr (.inl c1)
      · by_cases c2 : l.length = 15
        · exact .inr (.inr (.inl c2))
        · refine .inr (.inr (.inr ?_))
          refine Classical.byContradiction fun c3 => h2 ⟨by omega, by omega, c2, c3⟩
  obtain ⟨n, hn⟩ : ∃ n, l.length = n := ⟨_, rfl⟩
  obtain ⟨q, hq⟩ : ∃ q, wd l = q := ⟨_, rfl⟩
  obtain ⟨d, hd⟩ : ∃ d, decide (x ∈ l) = d := ⟨_, rfl⟩
  have hc : decide (x < 0) = true ∨ (decide (x < 0) = false ∧ decide (14 < x) = true) ∨ (decide (x < 0) = false ∧ decide (14 < x) = false ∧ n = 15) ∨ (decide (x < 0) = false ∧ decide (14 < x) = false ∧ n < 15 ∧ d = true) := by
    by_cases c0 : x < 0
    · exact .inl (by simpa using c0)
    · by_cases c1 : 14 < x
      · exact .inr (.inl ⟨by simpa using c0, by simpa using c1⟩)
      · by_cases c2 : l.length = 15
        · exact .inr (.inr (.inl ⟨by simpa using c0, by simpa using c1, hn ▸ c2⟩))
        · refine .inr (.inr (.inr ⟨by simpa using c0, by simpa using c1, by omega, ?_⟩))
          rcases hc with hc | hc | hc | hc
          · omega
          · omega
          · omega
          · rw [← hd]; exact decide_eq_true hc
  rw [hn] at hl n15
  rw [hq] at hl hh ⊢
  rw [hd] at hh
  clear h2 h hn hq hd
  rcases hc with a0 | ⟨a0, a1⟩ | ⟨a0, a1, rfl⟩ | ⟨a0, a1, a2, rfl⟩
  · clear hh
    go_enter Try.func14, Try.ntmps14
    go_wp2_with fail
    refine hl.mono ?_
    rintro e w1 ⟨rfl, hB⟩
    go_wp2_with fail
    go_ret2
    exact ⟨rfl, hB⟩
  · clear hh
    go_enter Try.func14, Try.ntmps14
    go_wp2_with fail
    refine hl.mono ?_
    rintro e w1 ⟨rfl, hB⟩
    go_wp2_with fail
    go_ret2
    exact ⟨rfl, hB⟩
  · clear hh
    go_enter Try.func14, Try.ntmps14
    go_wp2_with fail
    refine hl.mono ?_
    rintro e w1 ⟨rfl, hB⟩
    go_wp2_with fail
    go_ret2
    exact ⟨rfl, hB⟩
  · have a3 : ((n : Int) == 15) = false := by rw [beq_eq_false_iff_ne]; omega
    have a4 : (n == 15) = false := by rw [beq_eq_false_iff_ne]; omega
    go_enter Try.func14, Try.ntmps14
    go_wp2_with fail
    refine hl.mono ?_
    rintro e w1 ⟨rfl, hB⟩
    go_wp2_with (first | (go_at_call 21; refine (hh _).mono ?_; rintro e w2 ⟨rfl, hB2⟩))
    go_ret2
    exact ⟨rfl, bstep hB hB2⟩
end Go.Proofs.Ytgeddciipcbepaa
