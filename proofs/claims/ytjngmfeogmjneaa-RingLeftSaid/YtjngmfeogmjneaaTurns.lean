/- The law RingTurns, walked. -/
import Derived.Test.YtjngmfeogmjneaaSmall
namespace Go.Proofs.Ytjngmfeogmjneaa
open Go.RowKit
attribute [local go_sem ↓] Go.wp_at_zero Go.wp_at_succ

set_option maxRecDepth 100000 in
set_option maxHeartbeats 1000000 in
theorem turns_long (m : Nat) (A : Option Addr) (n c : Nat) (w : World) (hl : 80 < n) :
    Calls Try.prog 7 #[.slice A n c, .int .u8 m] w (fun e w' => e = .returned (.bool true) ∧ Below w.heap.size w w') := by
  go_enter Try.func7, Try.ntmps7
  go_wp2_with fail
  refine (awake_any _).mono ?_
  rintro e w1 ⟨rfl, hB1⟩
  go_wp2_with fail
  go_ret
  exact ⟨rfl, hB1⟩
theorem turn_head {l : List Int} {k : Nat} {x : Int} (h : l[k]? = some x) : l.drop k ++ l.take k = x :: (l.drop (k + 1) ++ l.take k) := by
  obtain ⟨hk, rfl⟩ := List.getElem?_eq_some_iff.1 h
  rw [List.drop_eq_getElem_cons hk]; rfl
set_option maxRecDepth 100000 in
set_option maxHeartbeats 2000000 in
theorem turns_go (m : Nat) (A : Option Addr) (c : Nat) (l : List Int) (w : World) (hm : m < 256) (hl : l.length ≤ 80) (hI : IS w w.heap.size A l) :
    Calls Try.prog 7 #[.slice A l.length c, .int .u8 m] w (fun e w' => e = .returned (.bool true) ∧ Below w.heap.size w w') := by
  go_enter Try.func7, Try.ntmps7
  go_wp2_with fail
  refine (awake_any _).mono ?_
  rintro e w1 ⟨rfl, hB1⟩
  go_wp2_with fail
  refine (new_mine _ w _ hB1).mono ?_
  rw [show roomN ((l.length : Int) + (m : Int)) = l.length + m by unfold roomN; omega]
  rintro e w2 ⟨g, rfl, hM⟩
  clear hB1
  obtain ⟨room, er⟩ : ∃ room, room = l.length + m := ⟨_, rfl⟩
  have hr : l.length ≤ room := by omega
  rw [← er] at hM
  clear er
  go_wp2_with fail
  go_loopw [7] (fun i wr => ∃ (k gb : Nat), k ≤ l.length ∧ i = .int .i64 k ∧ Mine w wr g gb room (l.take k)) (fun i _ => l.length - (intOf i).toNat)
  case atStart => exact ⟨0, g, Nat.zero_le _, rfl, hM⟩
  case round =>
    obtain ⟨k, gb, hk, rfl, hM2⟩ := hrel
    clear hM
    by_cases hlt : k < l.length
    · obtain ⟨x, hx⟩ := num_some hlt
      obtain ⟨b, off, rfl, _, hd1⟩ := (hI.below hM2.below) k _ hx
      have Hx := Lib.hid hx
      clear hx
      have hk1 : (k : Int) < (l.length : Int) := by omega
      go_wp2_with fail
      refine (push_mine w g gb room x (l.take k) _ hM2).mono ?_
      rw [pushL_room (by simp; omega), ← take_snoc Hx.out]
      rintro e w3 ⟨rfl, gb3, hM3⟩
      go_wp2_with fail
      go_roundw
      case rel => exact ⟨k + 1, gb3, by omega, by go_num, hM3⟩
      case measure => simp [intOf]; omega
    · obtain rfl : k = l.length := by omega
      rw [List.take_length] at hM2
      go_wp2_with fail
      go_loopw [8] (fun i wr => ∃ (k gb : Nat), k ≤ l.length ∧ i = .int .i64 k ∧ Mine w wr g gb room (l.drop k ++ l.take k)) (fun i _ => l.length - (intOf i).toNat)
      case atStart => exact ⟨0, gb, Nat.zero_le _, rfl, by simpa using hM2⟩
      case round =>
        obtain ⟨k, gb4, hk, rfl, hM4⟩ := hrel
        clear hM2
        by_cases hlt : k < l.length
        · obtain ⟨x, hx⟩ := num_some hlt
          have Hx := Lib.hid hx
          rw [turn_head hx] at hM4
          clear hx
          have hk1 : (k : Int) < (l.length : Int) := by omega
          go_wp2_with fail
          refine (pop_mine w g gb4 room _ _ hM4).mono ?_
          rintro e w5 ⟨rfl, gb5, hM5⟩
          rw [List.tail_cons] at hM5
          obtain ⟨b, off, rfl, _, hd1⟩ := (hI.below hM5.below) k _ Hx.out
          clear hM4
          go_wp2_with fail
          refine (push_mine w g gb5 room x _ _ hM5).mono ?_
          rw [pushL_room (by simp; omega), decide_eq_true (by simp; omega), List.append_assoc, ← take_snoc Hx.out]
          rintro e w6 ⟨rfl, gb6, hM6⟩
          go_wp2_with fail
          go_roundw
          case rel => exact ⟨k + 1, gb6, by omega, by go_num, hM6⟩
          case measure => simp [intOf]; omega
        · obtain rfl : k = l.length := by omega
          rw [List.take_length, List.drop_length, List.nil_append] at hM4
          go_wp2_with fail
          refine (all_any g gb4 room 100 l _ hM4.line (by omega)).mono ?_
          rw [List.take_of_length_le (by omega)]
          rintro e w7 ⟨A7, n7, c7, rfl, hn7, hc7, hI7, hB7⟩
          subst hn7
          have hM7 := hM4.on hB7
          go_wp2_with fail
          refine (ints_any A7 A c7 c l l _ hI7 ((hI.below hM7.below).more hM7.below.size) (by omega)).mono ?_
          rw [decide_eq_true rfl]
          rintro e w8 ⟨rfl, hB8⟩
          have hM8 := hM7.on hB8
          go_wp2_with fail
          refine (len_line g gb4 room l _ hM8.line).mono ?_
          rintro e w9 ⟨rfl, rfl⟩
          go_wp2_with fail
          go_ret
          exact ⟨ret_bool (by simp), hM8.below⟩
theorem turns_any (A : Option Addr) (n c : Nat) (l : List Int) (m : Int) (w : World) (hn : l.length = n) (_hc : n ≤ c) (hI : IS w w.heap.size A l) (h1 : 0 ≤ m ∧ m ≤ 255) :
    Calls Try.prog 7 #[.slice A n c, .int .u8 m] w (fun e w' => e = .returned (.bool true) ∧ Below w.heap.size w w') := by
  subst hn
  obtain ⟨m, rfl⟩ := Int.eq_ofNat_of_zero_le h1.1
  by_cases hl : 80 < l.length
  · exact turns_long m A _ c w hl
  · exact turns_go m A c l w (by omega) (by omega) hI
end Go.Proofs.Ytjngmfeogmjneaa
