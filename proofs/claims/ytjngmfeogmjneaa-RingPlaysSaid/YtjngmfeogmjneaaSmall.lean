/- A ring of numbers that a law made for itself; what its calls tell; two lists of numbers compared; the law's own 'awake' answers true. -/
import Derived.Test.YtjngmfeogmjneaaAll
namespace Go.Proofs.Ytjngmfeogmjneaa
open Go.RowKit
attribute [local go_sem ↓] Go.wp_at_zero Go.wp_at_succ

abbrev Line (w : World) (g gb room : Nat) (l : List Int) : Prop := Ring w g gb room (l.map vI)
abbrev TurnsL (w : World) (g gb room : Nat) (l : List Int) (w' : World) : Prop := Turns w g gb room (l.map vI) w'
def pushL (room : Nat) (l : List Int) (x : Int) : List Int := if l.length < room then l ++ [x] else l
theorem pushL_room {room : Nat} {l : List Int} {x : Int} (h : l.length < room) : pushL room l x = l ++ [x] := if_pos h
theorem pushL_full {room : Nat} {l : List Int} {x : Int} (h : ¬ l.length < room) : pushL room l x = l := if_neg h
theorem push_map (room : Nat) (l : List Int) (x : Int) : pushA room (l.map vI) (vI x) = (pushL room l x).map vI := by
  unfold pushA pushL
  rw [List.length_map]
  split <;> simp
theorem push_line (g gb room : Nat) (x : Int) (l : List Int) (w : World) (h : Line w g gb room l) :
    Calls Try.prog 15 #[.pointer (some ⟨g, 0, none⟩), .int .i64 x] w (fun e w' => e = .returned (.bool (decide (l.length < room))) ∧ TurnsL w g gb room (pushL room l x) w') := by
  refine (pushI_any g gb room (vI x) (l.map vI) w h (isI_map l) ⟨x, rfl⟩).mono ?_
  rintro e w' ⟨rfl, h⟩
  rw [push_map] at h
  exact ⟨by rw [List.length_map], h⟩
theorem pop_line (g gb room : Nat) (l : List Int) (w : World) (h : Line w g gb room l) :
    Calls Try.prog 13 #[.pointer (some ⟨g, 0, none⟩)] w (fun e w' => e = .returned (.tuple #[.int .i64 (l.headD 0), .bool (!l.isEmpty)]) ∧ TurnsL w g gb room l.tail w') := by
  refine (popI_any g gb room (l.map vI) w h).mono ?_
  rintro e w' ⟨rfl, h⟩
  cases l with
  | nil => exact ⟨rfl, h⟩
  | cons x l => exact ⟨rfl, h⟩
theorem len_line (g gb room : Nat) (l : List Int) (w : World) (h : Line w g gb room l) :
    Calls Try.prog 17 #[.pointer (some ⟨g, 0, none⟩)] w (fun e w' => e = .returned (.int .i64 l.length) ∧ w' = w) := by
  obtain ⟨n, f, A, h, _⟩ := h
  have h2 := h.c2
  rw [List.length_map] at h2
  go_enter Try.func17, Try.ntmps17
  go_wp2
  go_ret
  exact ⟨rfl, rfl⟩
theorem room_line (g gb room : Nat) (l : List Int) (w : World) (h : Line w g gb room l) :
    Calls Try.prog 12 #[.pointer (some ⟨g, 0, none⟩)] w (fun e w' => e = .returned (.int .i64 room) ∧ w' = w) := by
  obtain ⟨n, f, A, h, _⟩ := h
  have h2 := h.c3
  go_enter Try.func12, Try.ntmps12
  go_wp2
  go_ret
  exact ⟨rfl, rfl⟩

/-- a ring of numbers that was made since w0; all of w0 is as it was -/
structure Mine (w0 w : World) (g gb room : Nat) (l : List Int) : Prop where
  line : Line w g gb room l
  g0 : w0.heap.size ≤ g
  gb0 : w0.heap.size ≤ gb
  below : Below w0.heap.size w0 w
theorem Mine.turn {w0 w w' : World} {g gb room : Nat} {l l' : List Int} (h : Mine w0 w g gb room l) (k : TurnsL w g gb room l' w') : ∃ gb', Mine w0 w' g gb' room l' := by
  obtain ⟨gb', h1, h2, h3⟩ := k
  have := h.below.size
  have := h.gb0
  exact ⟨gb', h1, h.g0, by omega, Sp.below h.below h2 h.below.size h.g0 h.gb0⟩
theorem Mine.on {w0 w w' : World} {g gb room : Nat} {l : List Int} (h : Mine w0 w g gb room l) (k : Below w.heap.size w w') : Mine w0 w' g gb room l :=
  ⟨h.line.on k, h.g0, h.gb0, h.below.trans (k.mono h.below.size)⟩
theorem Mine.drewN {w0 w : World} {g gb room : Nat} {l : List Int} (h : Mine w0 w g gb room l) (q : Nat) : Mine w0 (w.drewN q) g gb room l := ⟨h.line.drewN q, h.g0, h.gb0, bdrew h.below q⟩
theorem new_mine (r : Int) (w0 w : World) (hB : Below w0.heap.size w0 w) :
    Calls Try.prog 10 #[.int .i64 r] w (fun e w' => ∃ g, e = .returned (.pointer (some ⟨g, 0, none⟩)) ∧ Mine w0 w' g g (roomN r) []) := by
  refine (newI_any r w).mono ?_
  rintro e w' ⟨g, rfl, h1, h2, h3⟩
  have := hB.size
  exact ⟨g, rfl, h2, by omega, by omega, hB.trans (h3.mono hB.size)⟩
theorem push_mine (w0 : World) (g gb room : Nat) (x : Int) (l : List Int) (w : World) (h : Mine w0 w g gb room l) :
    Calls Try.prog 15 #[.pointer (some ⟨g, 0, none⟩), .int .i64 x] w (fun e w' => e = .returned (.bool (decide (l.length < room))) ∧ ∃ gb', Mine w0 w' g gb' room (pushL room l x)) :=
  (push_line g gb room x l w h.line).mono fun _ _ ⟨a, b⟩ => ⟨a, h.turn b⟩
theorem pop_mine (w0 : World) (g gb room : Nat) (l : List Int) (w : World) (h : Mine w0 w g gb room l) :
    Calls Try.prog 13 #[.pointer (some ⟨g, 0, none⟩)] w (fun e w' => e = .returned (.tuple #[.int .i64 (l.headD 0), .bool (!l.isEmpty)]) ∧ ∃ gb', Mine w0 w' g gb' room l.tail) :=
  (pop_line g gb room l w h.line).mono fun _ _ ⟨a, b⟩ => ⟨a, h.turn b⟩

theorem IS.below {w w' : World} {N : Nat} {A : Option Addr} {xs : List Int} (h : IS w N A xs) (hb : Below N w w') : IS w' N A xs := by
  intro k x hk
  obtain ⟨b, off, rfl, h1, h2⟩ := h k x hk
  exact ⟨b, off, rfl, h1, (hb.cell (p := ⟨b, off + k, none⟩) h1).trans h2⟩
theorem IS.more {w : World} {N M : Nat} {A : Option Addr} {xs : List Int} (h : IS w N A xs) (hm : N ≤ M) : IS w M A xs := by
  intro k x hk
  obtain ⟨b, off, rfl, h1, h2⟩ := h k x hk
  exact ⟨b, off, rfl, Nat.lt_of_lt_of_le h1 hm, h2⟩
theorem num_some {xs : List Int} {k : Nat} (h : k < xs.length) : ∃ x, xs[k]? = some x := ⟨xs[k], by simp⟩
theorem take_eq {xs ys : List Int} {k : Nat} {x y : Int} (h : xs.take k = ys.take k) (h1 : xs[k]? = some x) (h2 : ys[k]? = some y) (h3 : x = y) : xs.take (k + 1) = ys.take (k + 1) := by
  rw [List.take_add_one, List.take_add_one, h, h1, h2, h3]
set_option maxHeartbeats 400000 in
theorem ints_any (A A2 : Option Addr) (c c2 : Nat) (xs ys : List Int) (w : World) (h : IS w w.heap.size A xs) (h2 : IS w w.heap.size A2 ys) (hl : xs.length ≤ 1000000) :
    Calls Try.prog 18 #[.slice A xs.length c, .slice A2 ys.length c2] w (fun e w' => e = .returned (.bool (decide (xs = ys))) ∧ Below w.heap.size w w') := by
  by_cases he : xs.length = ys.length
  · have He := Lib.hid he
    rw [← he]
    clear he
    go_enter Try.func18, Try.ntmps18
    go_wp2
    go_loopw [5] (fun i wr => ∃ k : Nat, k ≤ xs.length ∧ i = .int .i64 k ∧ xs.take k = ys.take k ∧ Below w.heap.size w wr) (fun i _ => xs.length - (intOf i).toNat)
    case atStart => exact ⟨0, Nat.zero_le _, rfl, rfl, Below.refl _ _⟩
    case round =>
      obtain ⟨k, hk, rfl, hr, hB⟩ := hrel
      have Hr := Lib.hid hr
      clear hr
      by_cases hlt : k < xs.length
      · obtain ⟨x, hx⟩ := num_some hlt
        obtain ⟨y, hy⟩ := num_some (xs := ys) (k := k) (by rw [← He.out]; exact hlt)
        obtain ⟨b, off, rfl, _, hd1⟩ := (h.below hB) k _ hx
        obtain ⟨b2, off2, rfl, _, hd2⟩ := (h2.below hB) k _ hy
        have Hx := Lib.hid hx
        have Hy := Lib.hid hy
        clear hx hy
        have hk1 : (k : Int) < (xs.length : Int) := by omega
        by_cases hq : x = y
        · have hq2 : (x != y) = false := by simpa using hq
          have Hq := Lib.hid hq
          clear hq
          go_wp2
          go_quiet (fail)
          go_wp2
          go_roundw
          case rel => exact ⟨k + 1, by omega, by go_num, take_eq Hr.out Hx.out Hy.out Hq.out, bdrew hB _⟩
          case measure => simp [intOf]; omega
        · have hq2 : (x != y) = true := by simpa using hq
          have Hq := Lib.hid hq
          clear hq
          go_wp2
          go_quiet (fail)
          go_wp2
          go_ret
          refine ⟨ret_bool (decide_eq_false ?_).symm, bdrew hB _⟩
          intro e
          have h3 := Hx.out
          rw [e, Hy.out] at h3
          injection h3 with h3
          exact Hq.out h3.symm
      · obtain rfl : k = xs.length := by omega
        go_wp2
        go_ret
        refine ⟨ret_bool (decide_eq_true ?_).symm, hB⟩
        have h3 := Hr.out
        rwa [List.take_length, He.out, List.take_length] at h3
  · have hn : ((xs.length : Int) != (ys.length : Int)) = true := by rw [bne_iff_ne]; omega
    have hn2 : (xs.length != ys.length) = true := by rw [bne_iff_ne]; omega
    have Hf := Lib.hid (decide_eq_false (show ¬ xs = ys from fun e => he (by rw [e])))
    clear he
    go_enter Try.func18, Try.ntmps18
    go_wp2
    go_ret
    exact ⟨ret_bool Hf.out.symm, Below.refl _ _⟩

set_option maxRecDepth 100000 in
set_option maxHeartbeats 1000000 in
theorem awake_any (w : World) : Calls Try.prog 9 #[] w (fun e w' => e = .returned (.bool true) ∧ Below w.heap.size w w') := by
  go_enter Try.func9, Try.ntmps9
  go_wp2_with fail
  refine (new_mine 2 w w (Below.refl _ _)).mono ?_
  rw [show roomN 2 = 2 from rfl]
  rintro e w1 ⟨g, rfl, hM⟩
  go_wp2_with fail
  refine (push_mine w g g 2 1 [] _ hM).mono ?_
  rw [show pushL 2 [] 1 = [1] from rfl]
  rintro e w2 ⟨rfl, gb2, hM2⟩
  go_wp2_with fail
  refine (push_mine w g gb2 2 2 [1] _ hM2).mono ?_
  rw [show pushL 2 [1] 2 = [1, 2] from rfl]
  rintro e w3 ⟨rfl, gb3, hM3⟩
  go_wp2_with fail
  refine (push_mine w g gb3 2 3 [1, 2] _ hM3).mono ?_
  rw [show pushL 2 [1, 2] 3 = [1, 2] from rfl]
  rintro e w4 ⟨rfl, gb4, hM4⟩
  clear hM hM2 hM3
  go_wp2_with fail
  refine (pop_mine w g gb4 2 [1, 2] _ hM4).mono ?_
  rintro e w5 ⟨rfl, gb5, hM5⟩
  go_wp2_with fail
  refine (len_line g gb5 2 [2] _ hM5.line).mono ?_
  rintro e w6 ⟨rfl, rfl⟩
  go_wp2_with fail
  refine (room_line g gb5 2 [2] _ hM5.line).mono ?_
  rintro e w7 ⟨rfl, rfl⟩
  go_wp2_with fail
  go_ret
  exact ⟨rfl, hM5.below⟩
end Go.Proofs.Ytjngmfeogmjneaa
