/- The law RingRoom, walked. -/
import Derived.Test.YtjngmfeogmjneaaTurns
namespace Go.Proofs.Ytjngmfeogmjneaa
open Go.RowKit
attribute [local go_sem ↓] Go.wp_at_zero Go.wp_at_succ

set_option maxRecDepth 100000 in
set_option maxHeartbeats 1000000 in
theorem room_long (m : Nat) (A : Option Addr) (n c : Nat) (w : World) (hl : 80 < n) :
    Calls Try.prog 8 #[.slice A n c, .int .u8 m] w (fun e w' => e = .returned (.bool true) ∧ Below w.heap.size w w') := by
  go_enter Try.func8, Try.ntmps8
  go_wp2_with fail
  refine (awake_any _).mono ?_
  rintro e w1 ⟨rfl, hB1⟩
  go_wp2_with fail
  go_ret
  exact ⟨rfl, hB1⟩
theorem is_take {w : World} {N : Nat} {A : Option Addr} {xs : List Int} (h : IS w N A xs) (m : Nat) : IS w N A (xs.take m) := by
  intro k x hk
  rw [List.getElem?_take] at hk
  split at hk
  · exact h k x hk
  · cases hk
theorem ints_at (A A2 : Option Addr) (n c n2 c2 : Nat) (xs ys : List Int) (w : World) (hn : xs.length = n) (hn2 : ys.length = n2) (h : IS w w.heap.size A xs) (h2 : IS w w.heap.size A2 ys) (hl : n ≤ 1000000) :
    Calls Try.prog 18 #[.slice A n c, .slice A2 n2 c2] w (fun e w' => e = .returned (.bool (decide (xs = ys))) ∧ Below w.heap.size w w') := by
  subst hn hn2
  exact ints_any A A2 c c2 xs ys w h h2 hl
theorem not_empty {l : List Int} {H : Nat} (h : l.length = H) : (!l.isEmpty) = decide ((0 : Int) < (H : Int)) := by
  subst h
  cases l with
  | nil => rfl
  | cons x l => rw [decide_eq_true (by rw [List.length_cons]; omega)]; rfl
theorem Mine.drew {w0 w : World} {g gb room : Nat} {l : List Int} (h : Mine w0 w g gb room l) : Mine w0 w.drew g gb room l := h.drewN 1
theorem room_step {l : List Int} {k N : Nat} {x : Int} (h : l[k]? = some x) : pushL N ((l.take k).take N) x = (l.take (k + 1)).take N := by
  obtain ⟨hk, _⟩ := List.getElem?_eq_some_iff.1 h
  rw [List.take_take, List.take_take]
  by_cases hN : k < N
  · rw [Nat.min_eq_right (by omega), Nat.min_eq_right (by omega), pushL_room (by simp; omega), take_snoc h]
  · rw [Nat.min_eq_left (by omega), Nat.min_eq_left (by omega), pushL_full (by simp; omega)]
theorem room_told {l : List Int} {k N : Nat} {x : Int} (h : l[k]? = some x) : decide (((l.take k).take N).length < N) = decide (k < N) := by
  obtain ⟨hk, _⟩ := List.getElem?_eq_some_iff.1 h
  by_cases hN : k < N
  · rw [decide_eq_true hN, decide_eq_true (by simp; omega)]
  · rw [decide_eq_false hN, decide_eq_false (by simp; omega)]
set_option maxRecDepth 100000 in
set_option maxHeartbeats 2000000 in
theorem room_go (m : Nat) (A : Option Addr) (c : Nat) (l : List Int) (w : World) (hm : m < 256) (hc : l.length ≤ c) (hl : l.length ≤ 80) (hI : IS w w.heap.size A l) :
    Calls Try.prog 8 #[.slice A l.length c, .int .u8 m] w (fun e w' => e = .returned (.bool true) ∧ Below w.heap.size w w') := by
  go_enter Try.func8, Try.ntmps8
  go_wp2_with fail
  refine (awake_any _).mono ?_
  rintro e w1 ⟨rfl, hB1⟩
  go_wp2_with fail
  obtain ⟨N, eN⟩ : ∃ N : Nat, N = m % 91 := ⟨_, rfl⟩
  rw [show ((m : Int) % 91) = (N : Int) by omega]
  have hN : N < 91 := by omega
  clear eN
  refine (new_mine _ w _ hB1).mono ?_
  rw [show roomN (N : Int) = N by unfold roomN; omega]
  rintro e w2 ⟨g, rfl, hM⟩
  clear hB1
  go_wp2_with fail
  go_loopw [8] (fun i wr => ∃ (k gb : Nat), k ≤ l.length ∧ i = .int .i64 k ∧ Mine w wr g gb N ((l.take k).take N)) (fun i _ => l.length - (intOf i).toNat)
  case atStart => exact ⟨0, g, Nat.zero_le _, rfl, by simpa using hM⟩
  case round =>
    obtain ⟨k, gb, hk, rfl, hM2⟩ := hrel
    clear hM
    by_cases hlt : k < l.length
    · obtain ⟨x, hx⟩ := num_some hlt
      obtain ⟨b, off, rfl, _, hd1⟩ := (hI.below hM2.below) k _ hx
      have Hx := Lib.hid hx
      clear hx
      have hk1 : (k : Int) < (l.length : Int) := by omega
      go_wp2_with fail
      refine (push_mine w g gb N x _ _ hM2).mono ?_
      rw [room_step Hx.out, room_told Hx.out]
      rintro e w3 ⟨rfl, gb3, hM3⟩
      go_wp2_with fail
      go_roundw
      case rel => exact ⟨k + 1, gb3, by omega, by go_num, hM3⟩
      case measure => simp [intOf]; omega
    · obtain rfl : k = l.length := by omega
      rw [List.take_length] at hM2
      have hk1 : ¬ (l.length : Int) < (l.length : Int) := by omega
      have hIt : IS w w.heap.size A (l.take N) := is_take hI N
      by_cases hNl : N ≤ l.length
      · have hNl2 : (N : Int) ≤ (l.length : Int) := by omega
        have hlen : (l.take N).length = N := by simp; omega
        have ht100 : (l.take N).take 100 = l.take N := List.take_of_length_le (by omega)
        have hNc : (N : Int) ≤ (c : Int) := by omega
        have hN0 : (0 : Int) ≤ (N : Int) := by omega
        have Hem := Lib.hid (show (!(l.take N).isEmpty) = decide ((0 : Int) < (N : Int)) from not_empty hlen)
        have Htl := Lib.hid (show decide ((l.take N).tail.length < N) = decide ((0 : Int) < (N : Int)) by
          rw [List.length_tail, hlen]
          by_cases h0 : 0 < N
          · rw [decide_eq_true (by omega), decide_eq_true (by omega)]
          · rw [decide_eq_false (by omega), decide_eq_false (by omega)])
        go_wp2_with fail
        have hMd := hM2.drew
        go_region_held3 (fun _ => True) (exact trivial) (first
          | (go_at_call 17; refine (len_line g gb N _ _ hMd.line).mono ?_; rw [hlen]; rintro e w7 ⟨rfl, rfl⟩)
          | (go_at_call 19; refine (all_any g gb N 100 _ _ hMd.line (by omega)).mono ?_; rw [ht100]; rintro e w7 ⟨A7, n7, c7, rfl, hn7, hc7, hI7, hB7⟩; have hM7 := hMd.on hB7; have e7 : N = n7 := (by rw [← hn7, hlen]); subst e7)
          | (go_at_call 18; refine (ints_at A7 A _ c7 _ c (l.take N) (l.take N) _ hlen hlen hI7 ((hIt.below hM7.below).more hM7.below.size) (by omega)).mono ?_; rw [decide_eq_true rfl]; rintro e w8 ⟨rfl, hB8⟩; have hM8 := hM7.on hB8))
        clear hM2 hMd hM7 hI7
        go_wp2_with fail
        refine (pop_mine w g gb N _ _ hM8).mono ?_
        rw [Hem.out]
        rintro e w9 ⟨rfl, gb9, hM9⟩
        go_wp2_with fail
        refine (push_mine w g gb9 N 7 _ _ hM9).mono ?_
        rw [Htl.out]
        rintro e w10 ⟨rfl, gb10, hM10⟩
        go_wp2_with fail
        go_ret
        exact ⟨ret_bool (by simp), hM10.below⟩
      · have hNl2 : ¬ (N : Int) ≤ (l.length : Int) := by omega
        have hlen : (l.take N).length = l.length := by simp; omega
        have ht100 : (l.take N).take 100 = l.take N := List.take_of_length_le (by omega)
        have hNc : (l.length : Int) ≤ (c : Int) := by omega
        have hN0 : (0 : Int) ≤ (l.length : Int) := by omega
        have Hem := Lib.hid (show (!(l.take N).isEmpty) = decide ((0 : Int) < (l.length : Int)) from not_empty hlen)
        have Htl := Lib.hid (show decide ((l.take N).tail.length < N) = decide ((0 : Int) < (N : Int)) by
          rw [List.length_tail, hlen]
          by_cases h0 : 0 < N
          · rw [decide_eq_true (by omega), decide_eq_true (by omega)]
          · rw [decide_eq_false (by omega), decide_eq_false (by omega)])
        go_wp2_with fail
        have hMd := hM2.drew
        go_region_held3 (fun _ => True) (exact trivial) (first
          | (go_at_call 17; refine (len_line g gb N _ _ hMd.line).mono ?_; rw [hlen]; rintro e w7 ⟨rfl, rfl⟩)
          | (go_at_call 19; refine (all_any g gb N 100 _ _ hMd.line (by omega)).mono ?_; rw [ht100]; rintro e w7 ⟨A7, n7, c7, rfl, hn7, hc7, hI7, hB7⟩; have hM7 := hMd.on hB7; have e7 : l.length = n7 := (by rw [← hn7, hlen]); subst e7)
          | (go_at_call 18; refine (ints_at A7 A _ c7 _ c (l.take N) (l.take N) _ hlen hlen hI7 ((hIt.below hM7.below).more hM7.below.size) (by omega)).mono ?_; rw [decide_eq_true rfl]; rintro e w8 ⟨rfl, hB8⟩; have hM8 := hM7.on hB8))
        clear hM2 hMd hM7 hI7
        go_wp2_with fail
        refine (pop_mine w g gb N _ _ hM8).mono ?_
        rw [Hem.out]
        rintro e w9 ⟨rfl, gb9, hM9⟩
        go_wp2_with fail
        refine (push_mine w g gb9 N 7 _ _ hM9).mono ?_
        rw [Htl.out]
        rintro e w10 ⟨rfl, gb10, hM10⟩
        go_wp2_with fail
        go_ret
        exact ⟨ret_bool (by simp), hM10.below⟩
theorem room_any (A : Option Addr) (n c : Nat) (l : List Int) (m : Int) (w : World) (hn : l.length = n) (hc : n ≤ c) (hI : IS w w.heap.size A l) (h1 : 0 ≤ m ∧ m ≤ 255) :
    Calls Try.prog 8 #[.slice A n c, .int .u8 m] w (fun e w' => e = .returned (.bool true) ∧ Below w.heap.size w w') := by
  subst hn
  obtain ⟨m, rfl⟩ := Int.eq_ofNat_of_zero_le h1.1
  by_cases hl : 80 < l.length
  · exact room_long m A _ c w hl
  · exact room_go m A c l w (by omega) hc (by omega) hI
end Go.Proofs.Ytjngmfeogmjneaa
