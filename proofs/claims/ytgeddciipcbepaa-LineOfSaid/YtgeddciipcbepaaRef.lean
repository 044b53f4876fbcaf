/- The document's own answers on lines: whether a list is one, its word, a word's digits. -/
import Derived.Test.YtgeddciipcbepaaOf
namespace Go.Proofs.Ytgeddciipcbepaa
open Go.RowKit
attribute [local go_sem ↓] Go.wp_at_zero Go.wp_at_succ

theorem ok_step {l : List Int} {k : Nat} {x : Int} (hx : l[k]? = some x) (h : (∀ y ∈ l.take k, 0 ≤ y ∧ y ≤ 14) ∧ (l.take k).Nodup) (h0 : 0 ≤ x) (h1 : x ≤ 14) (hn : x ∉ l.take k) :
    (∀ y ∈ l.take (k + 1), 0 ≤ y ∧ y ≤ 14) ∧ (l.take (k + 1)).Nodup := by
  rw [List.take_add_one, hx]
  simp only [Option.toList_some]
  constructor
  · intro y hy
    rcases List.mem_append.1 hy with hy | hy
    · exact h.1 y hy
    · simp at hy; omega
  · rw [List.nodup_append]
    refine ⟨h.2, by simp, ?_⟩
    intro a ha b hb
    simp at hb
    subst hb
    exact fun e => hn (e ▸ ha)
theorem IS.at {w : World} {M b off : Nat} {xs : List Int} (h : IS w M (some ⟨b, off, none⟩) xs) {j : Nat} {y : Int} (hy : xs[j]? = some y) : b < M ∧ w.cell? ⟨b, off + j, none⟩ = some (vI y) := by
  obtain ⟨b2, off2, e, h1, h2⟩ := h j y hy
  injection e with e
  injection e with e1 e2
  subst e1 e2
  exact ⟨h1, h2⟩
theorem not_rng {xs : List Int} {k : Nat} {x : Int} (hx : xs[k]? = some x) (h : ¬ (0 ≤ x ∧ x ≤ 14)) : ¬ Ok xs := fun e => h (e.rng x (List.mem_of_getElem? hx))
theorem not_nd {xs : List Int} {j k : Nat} {x : Int} (hjk : j < k) (hx : xs[k]? = some x) (hy : xs[j]? = some x) : ¬ Ok xs := fun e => by
  have h1 := List.take_sublist (k + 1) xs
  have h2 := h1.nodup e.nd
  rw [List.take_add_one, hx, List.nodup_append] at h2
  refine h2.2.2 x ?_ x (by simp) rfl
  have : (xs.take k)[j]? = some x := by rw [List.getElem?_take_of_lt hjk]; exact hy
  exact List.mem_of_getElem? this
set_option maxRecDepth 100000 in
set_option maxHeartbeats 2000000 in
theorem can_any (A : Option Addr) (c : Nat) (xs : List Int) (w : World) (hl : xs.length ≤ 1000000) (h : IS w w.heap.size A xs) : Calls Try.prog 26 #[.slice A xs.length c] w fun e w' => e = .returned (.bool (decide (Ok xs))) ∧ Below w.heap.size w w' := by
  obtain ⟨v, ev⟩ : ∃ v, v = decide (Ok xs) := ⟨_, rfl⟩
  rw [← ev]
  have Ev := Lib.hid ev
  clear ev
  go_enter Try.func26, Try.ntmps26
  go_wp2_with fail
  go_loopw [3] (fun i wr => ∃ k : Nat, k ≤ xs.length ∧ i = .int .i64 k ∧ ((∀ y ∈ xs.take k, 0 ≤ y ∧ y ≤ 14) ∧ (xs.take k).Nodup) ∧ Below w.heap.size w wr) (fun i => fun _ => xs.length - (intOf i).toNat)
  case atStart => exact ⟨0, Nat.zero_le _, rfl, ⟨by simp, by simp⟩, Below.refl _ _⟩
  case round =>
    obtain ⟨k, hk, rfl, hO, hB⟩ := hrel
    by_cases hlt : k < xs.length
    · obtain ⟨x, hx⟩ := num_some hlt
      obtain ⟨b, off, rfl, hb, hd⟩ := h k x hx
      have hc := (hB.cell (p := ⟨b, off + k, none⟩) hb).trans hd
      have hk1 : (k : Int) < (xs.length : Int) := by omega
      have hk0 : (0 : Int) ≤ (k : Int) := Int.natCast_nonneg _
      have Hx := Lib.hid hx
      have Ho := Lib.hid hO
      clear hx hd hO
      by_cases h0 : x < 0
      · have Hr := Lib.hid (decide_eq_false (not_rng Hx.out (by omega)))
        have a0 : decide (x < 0) = true := by simpa using h0
        go_wp2_with fail
        go_ret
        exact ⟨ret_bool (by rw [Ev.out, Hr.out]), hB⟩
      · by_cases h1 : 14 < x
        · have Hr := Lib.hid (decide_eq_false (not_rng Hx.out (by omega)))
          have a0 : decide (x < 0) = false := by simpa using h0
          have a1 : decide (14 < x) = true := by simpa using h1
          go_wp2_with fail
          go_ret
          exact ⟨ret_bool (by rw [Ev.out, Hr.out]), hB⟩
        · have a0 : decide (x < 0) = false := by simpa using h0
          have a1 : decide (14 < x) = false := by simpa using h1
          have Hx01 := Lib.hid (show 0 ≤ x ∧ x ≤ 14 by omega)
          clear h0 h1
          go_wp2_with fail
          go_loopw [4] (fun i wr => ∃ j : Nat, j ≤ k ∧ i = .int .i64 j ∧ x ∉ xs.take j ∧ Below w.heap.size w wr) (fun i => fun _ => k - (intOf i).toNat)
          case atStart => exact ⟨0, Nat.zero_le _, rfl, by simp, hB⟩
          case round =>
            obtain ⟨j, hj, rfl, hn, hB2⟩ := hrel
            clear hc
            by_cases hjk : j < k
            · obtain ⟨y, hy⟩ := num_some (show j < xs.length by omega)
              have hcx := (hB2.cell (p := ⟨b, off + k, none⟩) hb).trans (h.at Hx.out).2
              have hcy := (hB2.cell (p := ⟨b, off + j, none⟩) hb).trans (h.at hy).2
              have hj1 : (j : Int) < (k : Int) := by omega
              have hj0 : (0 : Int) ≤ (j : Int) := Int.natCast_nonneg _
              have hj2 : (j : Int) < (xs.length : Int) := by omega
              have Hy := Lib.hid hy
              have Hn := Lib.hid hn
              clear hy hn
              by_cases e : y = x
              · have Hr := Lib.hid (decide_eq_false (not_nd hjk Hx.out (e ▸ Hy.out)))
                have e1 : (y == x) = true := by simpa using e
                clear e
                go_wp2_with fail
                go_quiet (fail)
                go_wp2
                go_ret
                exact ⟨ret_bool (by rw [Ev.out, Hr.out]), bdrew hB2 _⟩
              · have e1 : (y == x) = false := by simpa using e
                have He := Lib.hid e
                clear e
                go_wp2_with fail
                go_quiet (fail)
                go_wp2
                go_roundw
                case rel =>
                  refine ⟨j + 1, by omega, by go_num, fun e => ?_, bdrew hB2 _⟩
                  rw [List.take_add_one, Hy.out] at e
                  rcases List.mem_append.1 e with e | e
                  · exact Hn.out e
                  · simp at e
                    exact He.out e.symm
                case measure => simp [intOf]; omega
            · obtain rfl : j = k := by omega
              have Hn := Lib.hid hn
              clear hn
              go_wp2_with fail
              go_roundw
              case rel => exact ⟨j + 1, by omega, by go_num, ok_step Hx.out Ho.out Hx01.out.1 Hx01.out.2 Hn.out, hB2⟩
              case measure => simp [intOf]; omega
    · obtain rfl : k = xs.length := by omega
      rw [List.take_length] at hO
      have Ho := Lib.hid hO
      clear hO
      by_cases h15 : xs.length ≤ 15
      · have a15 : decide ((xs.length : Int) ≤ 15) = true := decide_eq_true (by omega)
        have Hr := Lib.hid (decide_eq_true (Ok.mk Ho.out.1 Ho.out.2 h15))
        go_wp2_with fail
        go_ret
        exact ⟨ret_bool (by rw [Ev.out, Hr.out]), hB⟩
      · have a15 : decide ((xs.length : Int) ≤ 15) = false := decide_eq_false (by omega)
        have Hr := Lib.hid (decide_eq_false (fun e : Ok xs => h15 e.len))
        go_wp2_with fail
        go_ret
        exact ⟨ret_bool (by rw [Ev.out, Hr.out]), hB⟩
end Go.Proofs.Ytgeddciipcbepaa
