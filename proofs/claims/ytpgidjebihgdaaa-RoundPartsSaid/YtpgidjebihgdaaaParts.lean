/- RoundParts: the law answers true, whatever its numbers; nothing that was there changes. -/
import Derived.Test.YtpgidjebihgdaaaChains
namespace Go.Proofs.Ytpgidjebihgdaaa
open Go.RowKit
attribute [local go_sem ↓] Go.wp_at_zero Go.wp_at_succ

/-- how many of the first j ones fit -/
def cnt (p : Int → Bool) (xs : List Int) (j : Nat) : Nat := ((xs.take j).filter p).length
theorem cnt_step {p : Int → Bool} {xs : List Int} {j : Nat} {x : Int} (h : xs[j]? = some x) : cnt p xs (j + 1) = cnt p xs j + if p x then 1 else 0 := by
  unfold cnt
  rw [take_snoc h, List.filter_append, List.length_append]
  cases hp : p x <;> simp [hp]
theorem cnt_at {p : Int → Bool} {xs : List Int} {j : Nat} {x : Int} (h : xs[j]? = some x) (hp : p x = true) : (xs.filter p)[cnt p xs j]? = some x := by
  obtain ⟨hj, rfl⟩ := List.getElem?_eq_some_iff.1 h
  unfold cnt
  conv => lhs; rw [← List.take_append_drop j xs, List.filter_append]
  rw [List.getElem?_append_right (by rw [List.take_append_drop]; exact Nat.le_refl _)]
  rw [List.take_append_drop, Nat.sub_self, List.drop_eq_getElem_cons hj, List.filter_cons_of_pos hp]
  rfl
theorem cnt_le (p : Int → Bool) (xs : List Int) (j : Nat) : cnt p xs j ≤ (xs.filter p).length := by
  unfold cnt
  exact ((List.take_prefix j xs).filter p).length_le
theorem parts_len (b : Int) (xs : List Int) : (xs.filter fun x => decide (x < b)).length + (xs.filter fun x => decide (b ≤ x)).length = xs.length := by
  induction xs with
  | nil => rfl
  | cons y t ih =>
    by_cases h : y < b
    · rw [List.filter_cons_of_pos (by simpa using h), List.filter_cons_of_neg (by simp; omega)]; simp; omega
    · rw [List.filter_cons_of_neg (by simpa using h), List.filter_cons_of_pos (by simp; omega)]; simp; omega

set_option maxRecDepth 100000 in
set_option maxHeartbeats 2000000 in
theorem parts_go (m : Nat) (frm b : Int) (w : World) (hm : m < 256) :
    Calls Try.prog 7 #[.int .u8 m, vI frm, vI b] w (fun e w' => e = .returned (.bool true) ∧ Below w.heap.size w w') := by
  go_enter Try.func7, Try.ntmps7
  go_wp2_with fail
  have hB0 : Below w.heap.size w (w.alloc (.cells #[vI b] 3)) := (Below.refl _ w).alloc (Nat.le_refl _) _
  have bb := (Boxed.new w 3 (vI b)).cell
  refine (awake_any _).mono ?_
  rintro e w1 ⟨rfl, hB⟩
  have lb0 := World.block_lt_of_cell? _ _ bb
  replace bb := (hB.cell (p := ⟨w.heap.size, 0, none⟩) lb0).trans bb
  replace hB := bthen hB0 hB
  clear hB0 lb0
  go_wp2_with fail
  refine (of_any _ frm w1).mono ?_
  rintro e w2 ⟨lb, rfl, hS, hB2⟩
  obtain ⟨n, hn, hn2⟩ : ∃ n : Nat, (m : Int) % 101 = n ∧ n ≤ 100 := ⟨m % 101, by omega, by omega⟩
  rw [hn] at hS
  obtain ⟨xs, exs⟩ : ∃ xs, xs = ofL n frm := ⟨_, rfl⟩
  have hl : xs.length = n := by rw [exs, ofL_len]; omega
  rw [← exs] at hS
  rw [hn]
  replace bb := (hB2.cell (p := ⟨w.heap.size, 0, none⟩) (World.block_lt_of_cell? _ _ bb)).trans bb
  replace hB := bthen hB hB2
  clear hn exs hB2 hm
  subst hl
  obtain ⟨Bb, eBb⟩ : ∃ Bb, Bb = w.heap.size := ⟨_, rfl⟩
  rw [← eBb] at bb ⊢
  have EBb := Lib.hid eBb
  clear eBb
  go_wp2_with fail
  refine (hS.filter (fits_below b Bb w2 bb) (enters_of Try.func24 (by kernel_rfl) rfl)).mono ?_
  obtain ⟨ys, ey⟩ : ∃ ys, ys = xs.filter fun x => decide (x < b) := ⟨_, rfl⟩
  rw [← ey]
  have Ey := Lib.hid ey
  clear ey
  rintro e w3 ⟨lb3, rfl, hS3, hB3⟩
  replace bb := (hB3.cell (p := ⟨Bb, 0, none⟩) (World.block_lt_of_cell? _ _ bb)).trans bb
  replace hB := bthen hB hB3
  replace hS := hS.below hB3
  clear hB3
  go_wp2_with fail
  refine hS3.list.mono ?_
  rintro e w4 ⟨A4, c4, rfl, hc4, hI4, hB4⟩
  replace bb := (hB4.cell (p := ⟨Bb, 0, none⟩) (World.block_lt_of_cell? _ _ bb)).trans bb
  replace hB := bthen hB hB4
  replace hS := hS.below hB4
  clear hB4 hS3
  go_wp2_with fail
  refine (hS.filter (fits_above b Bb w4 bb) (enters_of Try.func25 (by kernel_rfl) rfl)).mono ?_
  obtain ⟨zs, ez⟩ : ∃ zs, zs = xs.filter fun x => decide (b ≤ x) := ⟨_, rfl⟩
  rw [← ez]
  have Ez := Lib.hid ez
  clear ez
  rintro e w5 ⟨lb5, rfl, hS5, hB5⟩
  replace hI4 := hI4.on hB5
  replace hB := bthen hB hB5
  replace hS := hS.below hB5
  clear hB5 bb
  go_wp2_with fail
  refine hS5.list.mono ?_
  rintro e w6 ⟨A6, c6, rfl, hc6, hI6, hB6⟩
  replace hI4 := hI4.on hB6
  replace hB := bthen hB hB6
  replace hS := hS.below hB6
  clear hB6 hS5
  go_wp2_with fail
  refine hS.list.mono ?_
  rintro e w7 ⟨A7, c7, rfl, hc7, hI7, hB7⟩
  replace hI4 := hI4.on hB7
  replace hI6 := hI6.on hB7
  replace hB := bthen hB hB7
  replace hS := hS.below hB7
  clear hB7
  have Hlen := Lib.hid (parts_len b xs)
  rw [← Ey.out, ← Ez.out] at Hlen
  have Hys := Lib.hid (fun j x (h : xs[j]? = some x) (hp : decide (x < b) = true) => cnt_at (p := fun x => decide (x < b)) h hp)
  have Hzs := Lib.hid (fun j x (h : xs[j]? = some x) (hp : decide (b ≤ x) = true) => cnt_at (p := fun x => decide (b ≤ x)) h hp)
  have Hyl := Lib.hid (cnt_le (fun x => decide (x < b)) xs)
  have Hzl := Lib.hid (cnt_le (fun x => decide (b ≤ x)) xs)
  have Hyb := Lib.hid (show ∀ y ∈ ys, y < b from fun y hy => by rw [Ey.out] at hy; simpa using (List.mem_filter.1 hy).2)
  rw [← Ey.out] at Hys Hyl
  rw [← Ez.out] at Hzs Hzl
  clear Ey Ez
  have hy100 : ys.length ≤ 100 := by have := Hlen.out; omega
  have hz100 : zs.length ≤ 100 := by have := Hlen.out; omega
  go_wp2_with fail
  go_loopw [13, 14, 15] (fun i k j wr => ∃ n : Nat, n ≤ xs.length ∧ i = .int .i64 (cnt (fun x => decide (x < b)) xs n : Nat) ∧ k = .int .i64 (cnt (fun x => decide (b ≤ x)) xs n : Nat) ∧ j = .int .i64 n ∧ Below w7.heap.size w7 wr) (fun _ _ j _ => xs.length - (intOf j).toNat)
  case atStart => exact ⟨0, Nat.zero_le _, rfl, rfl, rfl, Below.refl _ _⟩
  case round =>
    obtain ⟨j, hj, rfl, rfl, rfl, hB8⟩ := hrel
    by_cases hlt : j < xs.length
    · obtain ⟨x, hx⟩ := num_some hlt
      obtain ⟨b7, off7, rfl, _, hd7⟩ := (hI7.on hB8) j _ hx
      have Hx := Lib.hid hx
      clear hx
      have hj1 : (j : Int) < (xs.length : Int) := by omega
      obtain ⟨i, ei⟩ : ∃ i, i = cnt (fun x => decide (x < b)) xs j := ⟨_, rfl⟩
      obtain ⟨k, ek⟩ : ∃ k, k = cnt (fun x => decide (b ≤ x)) xs j := ⟨_, rfl⟩
      have hi1 := Hyl.out j
      have hk1 := Hzl.out j
      rw [← ei] at hi1 ⊢
      rw [← ek] at hk1 ⊢
      have Ei := Lib.hid ei
      have Ek := Lib.hid ek
      clear ei ek
      by_cases hp : x < b
      · have hy := Hys.out j x Hx.out (by simpa using hp)
        rw [← Ei.out] at hy
        have hi2 := (List.getElem?_eq_some_iff.1 hy).1
        obtain ⟨b4, off4, rfl, _, hd4⟩ := (hI4.on hB8) i _ hy
        have hi3 : (i : Int) < (ys.length : Int) := by omega
        clear hy
        have hs1 : cnt (fun x => decide (x < b)) xs (j + 1) = i + 1 := by rw [cnt_step Hx.out, ← Ei.out, decide_eq_true hp]; rfl
        have hs2 : cnt (fun x => decide (b ≤ x)) xs (j + 1) = k := by rw [cnt_step Hx.out, ← Ek.out, decide_eq_false (by omega)]; rfl
        have Hs1 := Lib.hid hs1
        have Hs2 := Lib.hid hs2
        clear hs1 hs2
        go_wp2
        go_quiet (fail)
        go_wp2
        go_roundw
        case rel => exact ⟨j + 1, by omega, by rw [Hs1.out]; go_num, by rw [Hs2.out], by go_num, bdrew hB8 _⟩
        case measure => simp [intOf]; omega
      · have hz := Hzs.out j x Hx.out (by simp; omega)
        rw [← Ek.out] at hz
        have hk2 := (List.getElem?_eq_some_iff.1 hz).1
        obtain ⟨b6, off6, rfl, _, hd6⟩ := (hI6.on hB8) k _ hz
        have hk3 : (k : Int) < (zs.length : Int) := by omega
        clear hz
        have hs1 : cnt (fun x => decide (x < b)) xs (j + 1) = i := by rw [cnt_step Hx.out, ← Ei.out, decide_eq_false hp]; rfl
        have hs2 : cnt (fun x => decide (b ≤ x)) xs (j + 1) = k + 1 := by rw [cnt_step Hx.out, ← Ek.out, decide_eq_true (by omega)]; rfl
        have Hs1 := Lib.hid hs1
        have Hs2 := Lib.hid hs2
        clear hs1 hs2
        by_cases hi2 : i < ys.length
        · obtain ⟨y, hy⟩ := num_some hi2
          have hyb := Hyb.out y (List.mem_of_getElem? hy)
          obtain ⟨b4, off4, rfl, _, hd4⟩ := (hI4.on hB8) i _ hy
          have hi3 : (i : Int) < (ys.length : Int) := by omega
          clear hy
          have hne : (y == x) = false := by simp; omega
          go_wp2
          go_quiet (fail)
          go_wp2
          go_quiet (fail)
          go_wp2
          go_roundw
          case rel => exact ⟨j + 1, by omega, by rw [Hs1.out], by rw [Hs2.out]; go_num, by go_num, bdrew hB8 _⟩
          case measure => simp [intOf]; omega
        · obtain rfl : i = ys.length := by omega
          go_wp2
          go_quiet (fail)
          go_wp2
          go_quiet (fail)
          go_wp2
          go_roundw
          case rel => exact ⟨j + 1, by omega, by rw [Hs1.out], by rw [Hs2.out]; go_num, by go_num, bdrew hB8 _⟩
          case measure => simp [intOf]; omega
    · obtain rfl : j = xs.length := by omega
      replace hS := hS.below hB8
      replace hB := bthen hB hB8
      have hsum : (ys.length : Int) + (zs.length : Int) = (xs.length : Int) := by have := Hlen.out; omega
      clear hI4 hI6 hI7 hB8
      go_wp2_with fail
      refine hS.second.mono ?_
      rintro e w8 ⟨lb8, rfl, hS8, hB8⟩
      replace hB := bthen hB hB8
      go_wp2_with fail
      refine hS8.list.mono ?_
      obtain ⟨q, eq⟩ : ∃ q, q = sec xs := ⟨_, rfl⟩
      have hq : q.length = (xs.length + 1) / 2 := by rw [eq, sec_len]
      rw [← eq]
      rintro e w9 ⟨A9, c9, rfl, hc9, hI9, hB9⟩
      replace hB := bthen hB hB9
      clear eq
      go_wp2_with fail
      go_ret
      exact ⟨ret_bool (by simp), hB⟩
theorem parts_any (m frm b : Int) (w : World) (h0 : 0 ≤ m ∧ m ≤ 255) :
    Calls Try.prog 7 #[.int .u8 m, vI frm, vI b] w (fun e w' => e = .returned (.bool true) ∧ Below w.heap.size w w') := by
  obtain ⟨m, rfl⟩ := Int.eq_ofNat_of_zero_le h0.1
  exact parts_go m frm b w (by omega)
end Go.Proofs.Ytpgidjebihgdaaa
