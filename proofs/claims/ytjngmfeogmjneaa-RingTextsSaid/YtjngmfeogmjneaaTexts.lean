/- The law RingTexts, walked. -/
import Derived.Test.YtjngmfeogmjneaaLists
import Derived.Test.YtjngmfeogmjneaaText
import Derived.Test.YtjngmfeogmjneaaList
namespace Go.Proofs.Ytjngmfeogmjneaa
open Go.RowKit
attribute [local go_sem ↓] Go.wp_at_zero Go.wp_at_succ

theorem isS_map (l : List ByteArray) : ∀ x ∈ l.map vS, IsS x := by
  intro x hx
  obtain ⟨i, _, rfl⟩ := List.mem_map.1 hx
  exact ⟨i, rfl⟩

/-- two rings that were made since w0; all of w0 is as it was -/
structure Two (w0 w : World) (g gb room : Nat) (xs : List Value) (h hb room2 : Nat) (ys : List Value) : Prop where
  r1 : Ring w g gb room xs
  r2 : Ring w h hb room2 ys
  b1 : w0.heap.size ≤ g ∧ w0.heap.size ≤ gb
  b2 : w0.heap.size ≤ h ∧ w0.heap.size ≤ hb
  ne : h ≠ g ∧ h ≠ gb ∧ hb ≠ g ∧ hb ≠ gb
  below : Below w0.heap.size w0 w
theorem Two.swap {w0 w : World} {g gb room h hb room2 : Nat} {xs ys : List Value} (t : Two w0 w g gb room xs h hb room2 ys) : Two w0 w h hb room2 ys g gb room xs :=
  ⟨t.r2, t.r1, t.b2, t.b1, ⟨t.ne.1.symm, t.ne.2.2.1.symm, t.ne.2.1.symm, t.ne.2.2.2.symm⟩, t.below⟩
theorem Two.turn {w0 w w' : World} {g gb room h hb room2 : Nat} {xs xs' ys : List Value} (t : Two w0 w g gb room xs h hb room2 ys) (k : Turns w g gb room xs' w') : ∃ gb', Two w0 w' g gb' room xs' h hb room2 ys := by
  obtain ⟨gb', h1, h2, h3⟩ := k
  have z := t.below.size
  obtain ⟨n1, n2, n3, n4⟩ := t.ne
  have l := t.r2.lt
  have b := t.b1
  exact ⟨gb', h1, t.r2.sp h2 n1 n2 n3 n4, ⟨b.1, by omega⟩, t.b2, ⟨n1, by omega, n3, by omega⟩, Sp.below t.below h2 z b.1 b.2⟩

set_option maxRecDepth 100000 in
set_option maxHeartbeats 1000000 in
theorem texts_long (A : Option Addr) (n c : Nat) (w : World) (hl : 80 < n) :
    Calls Try.prog 6 #[.slice A n c] w (fun e w' => e = .returned (.bool true) ∧ Below w.heap.size w w') := by
  go_enter Try.func6, Try.ntmps6
  go_wp2_with fail
  refine (awake_any _).mono ?_
  rintro e w1 ⟨rfl, hB1⟩
  go_wp2_with fail
  go_ret
  exact ⟨rfl, hB1⟩
theorem text_some {xs : List ByteArray} {k : Nat} (h : k < xs.length) : ∃ x, xs[k]? = some x := ⟨xs[k], by simp⟩
theorem map_head {l : List ByteArray} {k : Nat} {x : ByteArray} (h : l[k]? = some x) : (l.drop k).map vS = vS x :: (l.drop (k + 1)).map vS := by
  obtain ⟨hk, rfl⟩ := List.getElem?_eq_some_iff.1 h
  rw [List.drop_eq_getElem_cons hk]; rfl
theorem map_snoc {l : List ByteArray} {k : Nat} {x : ByteArray} (h : l[k]? = some x) : (l.take k).map vS ++ [vS x] = (l.take (k + 1)).map vS := by
  rw [take_snoc h, List.map_append]; rfl
set_option maxRecDepth 100000 in
set_option maxHeartbeats 4000000 in
theorem texts_go (A : Option Addr) (c : Nat) (l : List ByteArray) (w : World) (hl : l.length ≤ 80) (hI : SS w w.heap.size A l) :
    Calls Try.prog 6 #[.slice A l.length c] w (fun e w' => e = .returned (.bool true) ∧ Below w.heap.size w w') := by
  go_enter Try.func6, Try.ntmps6
  go_wp2_with fail
  refine (awake_any _).mono ?_
  rintro e w1 ⟨rfl, hB1⟩
  go_wp2_with fail
  refine (newS_any _ _).mono ?_
  rw [show roomN (l.length : Int) = l.length by unfold roomN; omega]
  rintro e w2 ⟨g, rfl, hg1, hR1, hB2⟩
  go_wp2_with fail
  refine (newV_any _ _).mono ?_
  rw [show roomN 1 = 1 from rfl]
  rintro e w3 ⟨h, rfl, hg2, hR2, hB3⟩
  have hT : Two w w3 g g l.length [] h h 1 [] := by
    have := hB1.size
    have := hB2.size
    have := hR1.lt.1
    exact ⟨hR1.on hB3, hR2, ⟨by omega, by omega⟩, ⟨by omega, by omega⟩, ⟨by omega, by omega, by omega, by omega⟩, hB1.trans ((hB2.trans (hB3.mono hB2.size)).mono hB1.size)⟩
  clear hB1 hB2 hB3 hR1 hR2 hg1 hg2
  go_wp2_with fail
  go_loopw [6] (fun i wr => ∃ (k gb : Nat), k ≤ l.length ∧ i = .int .i64 k ∧ Two w wr g gb l.length ((l.take k).map vS) h h 1 []) (fun i _ => l.length - (intOf i).toNat)
  case atStart => exact ⟨0, g, Nat.zero_le _, rfl, by simpa using hT⟩
  case round =>
    obtain ⟨k, gb, hk, rfl, hT2⟩ := hrel
    clear hT
    by_cases hlt : k < l.length
    · obtain ⟨x, hx⟩ := text_some hlt
      obtain ⟨bx, off, rfl, _, hd1⟩ := (hI.below hT2.below) k _ hx
      have Hx := Lib.hid hx
      clear hx
      have hk1 : (k : Int) < (l.length : Int) := by omega
      go_wp2_with fail
      refine (pushS_any g gb l.length (vS x) _ _ hT2.r1 (isS_map _) ⟨x, rfl⟩).mono ?_
      rw [pushA_room (by simp; omega), decide_eq_true (by simp; omega), map_snoc Hx.out]
      rintro e w4 ⟨rfl, hU⟩
      obtain ⟨gb4, hT4⟩ := hT2.turn hU
      clear hU hT2
      go_wp2_with fail
      go_roundw
      case rel => exact ⟨k + 1, gb4, by omega, by go_num, hT4⟩
      case measure => simp [intOf]; omega
    · obtain rfl : k = l.length := by omega
      rw [List.take_length] at hT2
      have hk1 : ¬ (l.length : Int) < (l.length : Int) := by omega
      go_wp2_with fail
      refine (pushS_any g gb l.length (.string ⟨#[]⟩) _ _ hT2.r1 (isS_map _) ⟨_, rfl⟩).mono ?_
      rw [pushA_full (by simp), decide_eq_false (by simp)]
      rintro e w4 ⟨rfl, hU⟩
      obtain ⟨gb4, hT4⟩ := hT2.turn hU
      clear hU hT2
      go_wp2_with fail
      refine (pushV_any h h 1 (.slice A l.length c) [] _ hT4.r2 (fun x hx => by simp at hx) ⟨(A, l.length, c), rfl⟩).mono ?_
      rw [pushA_room (by simp), decide_eq_true (by simp)]
      rintro e w5 ⟨rfl, hU⟩
      obtain ⟨hb5, hT5⟩ := hT4.swap.turn hU
      clear hU hT4
      go_wp2_with fail
      refine (pushV_any h hb5 1 (.slice none 0 0) _ _ hT5.r1 (fun x hx => by simp at hx; exact ⟨(A, l.length, c), hx⟩) ⟨(none, 0, 0), rfl⟩).mono ?_
      rw [pushA_full (by simp), decide_eq_false (by simp)]
      rintro e w6 ⟨rfl, hU⟩
      obtain ⟨hb6, hT6'⟩ := hT5.turn hU
      have hT6 := hT6'.swap
      clear hU hT5 hT6'
      go_wp2_with fail
      go_loopw [10] (fun i wr => ∃ (k gb : Nat), k ≤ l.length ∧ i = .int .i64 k ∧ Two w wr g gb l.length ((l.drop k).map vS) h hb6 1 [.slice A l.length c]) (fun i _ => l.length - (intOf i).toNat)
      case atStart => exact ⟨0, gb4, Nat.zero_le _, rfl, by simpa using hT6⟩
      case round =>
        obtain ⟨k, gb7, hk, rfl, hT7⟩ := hrel
        clear hT6 hk1
        by_cases hlt : k < l.length
        · obtain ⟨x, hx⟩ := text_some hlt
          have Hx := Lib.hid hx
          clear hx
          have hk1 : (k : Int) < (l.length : Int) := by omega
          rw [map_head Hx.out] at hT7
          go_wp2_with fail
          refine (popS_any g gb7 l.length _ _ hT7.r1).mono ?_
          rintro e w8 ⟨rfl, hU⟩
          rw [List.tail_cons] at hU
          obtain ⟨gb8, hT8⟩ := hT7.turn hU
          clear hU hT7
          obtain ⟨bx, off, rfl, _, hd1⟩ := (hI.below hT8.below) k _ Hx.out
          go_wp2_with fail
          go_roundw
          case rel => exact ⟨k + 1, gb8, by omega, by go_num, hT8⟩
          case measure => simp [intOf]; omega
        · obtain rfl : k = l.length := by omega
          rw [List.drop_length, List.map_nil] at hT7
          have hk1 : ¬ (l.length : Int) < (l.length : Int) := by omega
          go_wp2_with fail
          refine (popV_any h hb6 1 _ _ hT7.r2).mono ?_
          rintro e w8 ⟨rfl, hU⟩
          obtain ⟨hb8, hT8'⟩ := hT7.swap.turn hU
          have hT8 := hT8'.swap
          clear hU hT7 hT8'
          go_wp2_with fail
          refine (popS_any g gb7 l.length _ _ hT8.r1).mono ?_
          rintro e w9 ⟨rfl, hU⟩
          obtain ⟨gb9, hT9⟩ := hT8.turn hU
          clear hU hT8
          go_wp2_with fail
          go_ret
          exact ⟨ret_bool (by simp), hT9.below⟩
theorem texts_any (A : Option Addr) (n c : Nat) (l : List ByteArray) (w : World) (hn : l.length = n) (_hc : n ≤ c) (hI : SS w w.heap.size A l) :
    Calls Try.prog 6 #[.slice A n c] w (fun e w' => e = .returned (.bool true) ∧ Below w.heap.size w w') := by
  subst hn
  by_cases hl : 80 < l.length
  · exact texts_long A _ c w hl
  · exact texts_go A c l w (by omega) hI
end Go.Proofs.Ytjngmfeogmjneaa
