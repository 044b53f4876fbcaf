/- A line without one. -/
import Derived.Test.YtgeddciipcbepaaPush
namespace Go.Proofs.Ytgeddciipcbepaa
open Go.RowKit
attribute [local go_sem ↓] Go.wp_at_zero Go.wp_at_succ

/-- without x -/
def less (l : List Int) (x : Int) : List Int := l.filter fun y => y != x
theorem less_out {l : List Int} {x : Int} (h : x ∉ l) : less l x = l := by
  unfold less
  rw [List.filter_eq_self]
  intro y hy
  simp
  exact fun e => h (e ▸ hy)
theorem less_in {a b : List Int} {x : Int} (h : (a ++ x :: b).Nodup) : less (a ++ x :: b) x = a ++ b := by
  rw [List.nodup_append] at h
  obtain ⟨h1, h2, h3⟩ := h
  have n1 : x ∉ a := fun e => h3 x e x (by simp) rfl
  have n2 := (List.nodup_cons.1 h2).1
  have e1 := less_out n1
  have e2 := less_out n2
  unfold less at *
  rw [List.filter_append, List.filter_cons, e1, e2]
  simp
theorem ok_less {l : List Int} (h : Ok l) (x : Int) : Ok (less l x) := ok_filter h _
theorem mem_split {l : List Int} {x : Int} (h : x ∈ l) : ∃ a b, l = a ++ x :: b ∧ x ∉ a := by
  induction l with
  | nil => cases h
  | cons y t ih =>
    by_cases e : x = y
    · subst e
      exact ⟨[], t, rfl, by simp⟩
    · obtain ⟨a, b, rfl, h2⟩ := ih (by simpa [e] using h)
      exact ⟨y :: a, b, rfl, by simp [e, h2]⟩
theorem drop_walk {a b : List Int} {x : Int} (h : Ok (a ++ x :: b)) :
    bits .or .i64 (bits .and .i64 (wd (a ++ x :: b)) (wrap64 (wrap64 (2 ^ (a.length * 4)) - 1))) (wrap64 (wd (a ++ x :: b) / 2 ^ (a.length * 4) / 16 * 2 ^ (a.length * 4))) = wd (a ++ b) := by
  have hab : Ok (a ++ b) := h.sub (List.Sublist.append_left (List.sublist_cons_self x b) a)
  have hx := h.rng x (by simp)
  have hl := h.len
  simp at hl
  have e : (2 : Int) ^ (a.length * 4) = p16 a.length := by rw [p16_eq, Nat.mul_comm]
  have ha := ok_pre h
  have hb := ok_tail (ok_suf h)
  have hp1 := p16_pos a.length
  have hp2 := p16_le (show a.length ≤ 14 by omega)
  have e14 : p16 14 = 72057594037927936 := by decide
  rw [e14] at hp2
  have w1 : wrap64 (wrap64 (p16 a.length) - 1) = p16 a.length - 1 := by unfold wrap64; omega
  have h1 := and_low (x := wd (a ++ x :: b)) (k := a.length * 4) (by omega)
  have h2 := wd_mod a (x :: b) ha.rng
  have h3 := wd_div a (x :: b) ha.rng
  rw [e] at h1 ⊢
  rw [w1, h1, h2, h3, wd_tail x b hx.1 hx.2, ← e]
  have h4 := hab.hi
  have h5 := wd_hi ha.rng
  rw [wd_append, Int.mul_comm, ← e] at h4
  rw [← e] at h5
  have h6 := ha.lo
  have h7 : 0 ≤ wd b * 2 ^ (a.length * 4) := Int.mul_nonneg hb.lo (Int.le_of_lt (Int.pow_pos (by omega)))
  have w2 : wrap64 (wd b * 2 ^ (a.length * 4)) = wd b * 2 ^ (a.length * 4) := by unfold wrap64; omega
  rw [w2, or_add h6 h5 hb.lo (by omega), wd_append, ← e, Int.mul_comm]
set_option maxHeartbeats 1000000 in
theorem drop_no {l : List Int} (x : Int) (w : World) (h : Ok l) (hx : x ∉ l) : Calls Try.prog 16 #[vI (wd l), vI x] w fun e w' => e = .returned (.tuple #[vI (wd l), .bool false]) ∧ Below w.heap.size w w' := by
  have hp := place_any (wd l) x w
  rw [lst_wd h, placeV_out hx] at hp
  go_enter Try.func16, Try.ntmps16
  go_wp2_with fail
  refine hp.mono ?_
  rintro e w1 ⟨rfl, hB⟩
  go_wp2_with fail
  go_ret2
  exact ⟨rfl, hB⟩
set_option maxHeartbeats 1000000 in
theorem drop_go {a b : List Int} (x : Int) (w : World) (h : Ok (a ++ x :: b)) : Calls Try.prog 16 #[vI (wd (a ++ x :: b)), vI x] w fun e w' => e = .returned (.tuple #[vI (wd (a ++ b)), .bool true]) ∧ Below w.heap.size w w' := by
  have hp := place_any (wd (a ++ x :: b)) x w
  have h3 := h.nd
  rw [List.nodup_append] at h3
  have n1 : x ∉ a := fun e => h3.2.2 x e x (by simp) rfl
  rw [lst_wd h, placeV_in a b n1] at hp
  have hn := h.len
  simp at hn
  obtain ⟨n, en⟩ : ∃ n, n = a.length := ⟨_, rfl⟩
  obtain ⟨q, eq⟩ : ∃ q, q = wd (a ++ x :: b) := ⟨_, rfl⟩
  rw [← en, ← eq] at hp
  rw [← eq]
  have hn2 : n ≤ 14 := by omega
  have hw := Lib.hid (drop_walk h)
  rw [← en, ← eq] at hw
  clear h3 n1 hn en eq
  go_enter Try.func16, Try.ntmps16
  go_wp2_with fail
  refine hp.mono ?_
  rintro e w1 ⟨rfl, hB⟩
  go_wp2_with (first | (go_at_call 22; refine (pop_any _ _).mono ?_; rintro e w2 ⟨rfl, rfl⟩))
  go_ret2
  exact ⟨ret_I hw.out, hB⟩
theorem drop_any {l : List Int} (x : Int) (w : World) (h : Ok l) : Calls Try.prog 16 #[vI (wd l), vI x] w fun e w' => e = .returned (.tuple #[vI (wd (less l x)), .bool (decide (x ∈ l))]) ∧ Below w.heap.size w w' := by
  by_cases hx : x ∈ l
  · obtain ⟨a, b, rfl, _⟩ := mem_split hx
    rw [decide_eq_true hx, less_in h.nd]
    exact drop_go x w h
  · rw [decide_eq_false hx, less_out hx]
    exact drop_no x w h hx
theorem push_any {l : List Int} (x : Int) (w : World) (h : Ok l) : Calls Try.prog 14 #[vI (wd l), vI x] w fun e w' => e = .returned (.tuple #[vI (wd (if Ok (l ++ [x]) then l ++ [x] else l)), .bool (decide (Ok (l ++ [x])))]) ∧ Below w.heap.size w w' := by
  by_cases h2 : Ok (l ++ [x])
  · rw [if_pos h2, decide_eq_true h2]
    exact push_go x w h2
  · rw [if_neg h2, decide_eq_false h2]
    exact push_no x w h h2
end Go.Proofs.Ytgeddciipcbepaa
