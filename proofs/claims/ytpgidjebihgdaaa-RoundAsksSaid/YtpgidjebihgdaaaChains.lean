/- RoundChains: the law answers true, whatever its numbers; nothing that was there changes. -/
import Derived.Test.YtpgidjebihgdaaaFits
namespace Go.Proofs.Ytpgidjebihgdaaa
open Go.RowKit
attribute [local go_sem ↓] Go.wp_at_zero Go.wp_at_succ

theorem bthen {w0 w w' : World} (h : Below w0.heap.size w0 w) (k : Below w.heap.size w w') : Below w0.heap.size w0 w' := h.trans (k.mono h.size)
theorem ofL_len (many frm : Int) : (ofL many frm).length = (min many 100000).toNat := by
  unfold ofL
  split <;> simp only [List.length_append, upto_len] <;> omega
theorem take_take_min (xs : List Int) (a b : Nat) : (xs.take a).take b = xs.take (min a b) := by
  rw [List.take_take, Nat.min_comm]
theorem filter_six (xs : List Int) : (xs.filter fun x => x.tmod 2 == 0).filter (fun x => x.tmod 3 == 0) = xs.filter fun x => x.tmod 6 == 0 := by
  rw [List.filter_filter]
  congr 1
  funext x
  have h2 := Int.tmod_def x 2
  have h3 := Int.tmod_def x 3
  have h6 := Int.tmod_def x 6
  have e : (x.tmod 6 = 0) ↔ (x.tmod 3 = 0 ∧ x.tmod 2 = 0) := by
    rw [← Int.dvd_iff_tmod_eq_zero, ← Int.dvd_iff_tmod_eq_zero, ← Int.dvd_iff_tmod_eq_zero]
    omega
  rw [Bool.eq_iff_iff]
  simp only [Bool.and_eq_true, beq_iff_eq]
  exact e.symm

set_option maxRecDepth 100000 in
set_option maxHeartbeats 2000000 in
theorem chains_go (m : Nat) (frm : Int) (a b : Nat) (w : World) (hm : m < 256) (ha : a < 256) (hb : b < 256) :
    Calls Try.prog 6 #[.int .u8 m, vI frm, .int .u8 a, .int .u8 b] w (fun e w' => e = .returned (.bool true) ∧ Below w.heap.size w w') := by
  go_enter Try.func6, Try.ntmps6
  go_wp2_with fail
  refine (awake_any w).mono ?_
  rintro e w1 ⟨rfl, hB⟩
  go_wp2_with fail
  refine (of_any _ frm w1).mono ?_
  rintro e w2 ⟨lb, rfl, hS, hB2⟩
  obtain ⟨n, hn, hn2⟩ : ∃ n : Nat, (m : Int) % 101 = n ∧ n ≤ 100 := ⟨m % 101, by omega, by omega⟩
  rw [hn] at hS
  obtain ⟨xs, exs⟩ : ∃ xs, xs = ofL n frm := ⟨_, rfl⟩
  have hl : xs.length = n := by rw [exs, ofL_len]; omega
  rw [← exs] at hS
  replace hB := bthen hB hB2
  rw [hn]
  clear hn exs hB2 hm
  have Hl := Lib.hid hl
  clear hl
  go_wp2_with fail
  refine (hS.first a).mono ?_
  rw [Int.toNat_natCast]
  rintro e w3 ⟨lb3, rfl, hS3, hB3⟩
  replace hB := bthen hB hB3
  replace hS := hS.below hB3
  clear hB3
  go_wp2_with fail
  refine (hS3.first b).mono ?_
  rw [Int.toNat_natCast, take_take_min]
  rintro e w4 ⟨lb4, rfl, hS4, hB4⟩
  replace hB := bthen hB hB4
  replace hS := hS.below hB4
  clear hB4 hS3
  go_wp2_with fail
  refine hS4.list.mono ?_
  obtain ⟨x, ex⟩ : ∃ x, x = xs.take (min a b) := ⟨_, rfl⟩
  rw [← ex]
  have Ex := Lib.hid ex
  clear ex
  rintro e w5 ⟨A5, c5, rfl, _, hI5, hB5⟩
  replace hB := bthen hB hB5
  replace hS := hS.below hB5
  clear hB5 hS4
  go_wp2_with fail
  all_goals
    refine (hS.first _).mono ?_
    rw [Int.toNat_natCast]
    rintro e w6 ⟨lb6, rfl, hS6, hB6⟩
    replace hB := bthen hB hB6
    replace hS := hS.below hB6
    replace hI5 := hI5.on hB6
    clear hB6
    go_wp2_with fail
    refine hS6.list.mono ?_
    first
      | rw [show xs.take a = x by rw [Ex.out, Nat.min_eq_left (by omega)]]
      | rw [show xs.take b = x by rw [Ex.out, Nat.min_eq_right (by omega)]]
    rintro e w7 ⟨A7, c7, rfl, _, hI7, hB7⟩
    replace hB := bthen hB hB7
    replace hS := hS.below hB7
    replace hI5 := hI5.on hB7
    have hx : x.length ≤ 1000000 := by rw [Ex.out, List.length_take]; have := Hl.out; omega
    clear hB7 hS6 Ex
    go_wp2_with fail
    refine (hS.filter (fits_two w7) (enters_of Try.func21 (by kernel_rfl) rfl)).mono ?_
    rintro e w8 ⟨lb8, rfl, hS8, hB8⟩
    replace hB := bthen hB hB8
    replace hS := hS.below hB8
    replace hI5 := hI5.on hB8
    replace hI7 := hI7.on hB8
    clear hB8
    go_wp2_with fail
    refine (hS8.filter (fits_three w8) (enters_of Try.func22 (by kernel_rfl) rfl)).mono ?_
    rw [filter_six]
    obtain ⟨u, eu⟩ : ∃ u, u = xs.filter fun x => x.tmod 6 == 0 := ⟨_, rfl⟩
    rw [← eu]
    have Eu := Lib.hid eu
    clear eu
    rintro e w9 ⟨lb9, rfl, hS9, hB9⟩
    replace hB := bthen hB hB9
    replace hS := hS.below hB9
    replace hI5 := hI5.on hB9
    replace hI7 := hI7.on hB9
    clear hB9 hS8
    go_wp2_with fail
    refine hS9.list.mono ?_
    rintro e w10 ⟨A10, c10, rfl, _, hI10, hB10⟩
    replace hB := bthen hB hB10
    replace hS := hS.below hB10
    replace hI5 := hI5.on hB10
    replace hI7 := hI7.on hB10
    clear hB10 hS9
    go_wp2_with fail
    refine (hS.filter (fits_six w10) (enters_of Try.func23 (by kernel_rfl) rfl)).mono ?_
    rw [← Eu.out]
    rintro e w11 ⟨lb11, rfl, hS11, hB11⟩
    replace hB := bthen hB hB11
    replace hS := hS.below hB11
    replace hI5 := hI5.on hB11
    replace hI7 := hI7.on hB11
    replace hI10 := hI10.on hB11
    clear hB11
    go_wp2_with fail
    refine hS11.list.mono ?_
    rintro e w12 ⟨A12, c12, rfl, _, hI12, hB12⟩
    replace hB := bthen hB hB12
    replace hS := hS.below hB12
    replace hI5 := hI5.on hB12
    replace hI7 := hI7.on hB12
    replace hI10 := hI10.on hB12
    have hu : u.length ≤ 1000000 := by
      rw [Eu.out]
      have := List.length_filter_le (fun x : Int => x.tmod 6 == 0) xs
      have := Hl.out
      omega
    clear hB12 hS11 Eu
    go_wp2_with fail
    refine hS.second.mono ?_
    rintro e w13 ⟨lb13, rfl, hS13, hB13⟩
    replace hB := bthen hB hB13
    replace hS := hS.below hB13
    replace hI5 := hI5.on hB13
    replace hI7 := hI7.on hB13
    replace hI10 := hI10.on hB13
    replace hI12 := hI12.on hB13
    clear hB13
    go_wp2_with fail
    refine hS13.second.mono ?_
    rintro e w14 ⟨lb14, rfl, hS14, hB14⟩
    replace hB := bthen hB hB14
    replace hS := hS.below hB14
    replace hI5 := hI5.on hB14
    replace hI7 := hI7.on hB14
    replace hI10 := hI10.on hB14
    replace hI12 := hI12.on hB14
    clear hB14 hS13
    go_wp2_with fail
    refine hS14.list.mono ?_
    obtain ⟨q, eq⟩ : ∃ q, q = sec (sec xs) := ⟨_, rfl⟩
    rw [← eq]
    have Eq := Lib.hid eq
    clear eq
    rintro e w15 ⟨A15, c15, rfl, hc15, hI15, hB15⟩
    replace hB := bthen hB hB15
    replace hS := hS.below hB15
    replace hI5 := hI5.on hB15
    replace hI7 := hI7.on hB15
    replace hI10 := hI10.on hB15
    replace hI12 := hI12.on hB15
    clear hB15 hS14
    go_wp2_with fail
    refine hS.list.mono ?_
    rintro e w16 ⟨A16, c16, rfl, hc16, hI16, hB16⟩
    replace hB := bthen hB hB16
    replace hI5 := hI5.on hB16
    replace hI7 := hI7.on hB16
    replace hI10 := hI10.on hB16
    replace hI12 := hI12.on hB16
    replace hI15 := hI15.on hB16
    clear hB16 hS
    have hq : q.length = (xs.length + 3) / 4 := by rw [Eq.out, sec_len, sec_len]; omega
    have hqa : ∀ k : Nat, q[k]? = xs[4 * k]? := fun k => by rw [Eq.out, sec_at, sec_at]; congr 1; omega
    clear Eq
    have Hqa := Lib.hid hqa
    clear hqa
    have hl := Hl.out
    subst hl
    clear Hl
    go_wp2_with fail
    go_loopw [20] (fun i wr => ∃ k : Nat, k ≤ q.length ∧ i = .int .i64 k ∧ Below w16.heap.size w16 wr) (fun i _ => q.length - (intOf i).toNat)
    case atStart => exact ⟨0, Nat.zero_le _, rfl, Below.refl _ _⟩
    case round =>
      obtain ⟨k, hk, rfl, hB16⟩ := hrel
      by_cases hlt : k < q.length
      · obtain ⟨y, hy⟩ := num_some hlt
        have hy2 : xs[4 * k]? = some y := (Hqa.out k).symm.trans hy
        have h4 := (List.getElem?_eq_some_iff.1 hy2).1
        obtain ⟨b15, off15, rfl, _, hd1⟩ := (hI15.on hB16) k _ hy
        obtain ⟨b16, off16, rfl, _, hd2⟩ := (hI16.on hB16) _ _ hy2
        clear hy hy2
        have hk1 : (k : Int) < (q.length : Int) := by omega
        have hk4 : 4 * (k : Int) < (xs.length : Int) := by omega
        go_wp2
        go_quiet (fail)
        go_wp2
        go_roundw
        case rel => exact ⟨k + 1, by omega, by go_num, bdrew hB16 _⟩
        case measure => simp [intOf]; omega
      · obtain rfl : k = q.length := by omega
        replace hI5 := hI5.on hB16
        replace hI7 := hI7.on hB16
        replace hI10 := hI10.on hB16
        replace hI12 := hI12.on hB16
        replace hB := bthen hB hB16
        clear hI15 hI16 hB16
        go_wp2_with fail
        refine (ints_any A5 A7 c5 c7 x x _ hI5 hI7 hx).mono ?_
        rw [decide_eq_true rfl]
        rintro e w17 ⟨rfl, hB17⟩
        replace hI10 := hI10.on hB17
        replace hI12 := hI12.on hB17
        replace hB := bthen hB hB17
        clear hB17
        go_wp2_with fail
        refine (ints_any A10 A12 c10 c12 u u _ hI10 hI12 hu).mono ?_
        rw [decide_eq_true rfl]
        rintro e w18 ⟨rfl, hB18⟩
        replace hB := bthen hB hB18
        go_wp2_with fail
        go_ret
        exact ⟨ret_bool (by simp), hB⟩
theorem chains_any (m frm a b : Int) (w : World) (h0 : 0 ≤ m ∧ m ≤ 255) (h2 : 0 ≤ a ∧ a ≤ 255) (h3 : 0 ≤ b ∧ b ≤ 255) :
    Calls Try.prog 6 #[.int .u8 m, vI frm, .int .u8 a, .int .u8 b] w (fun e w' => e = .returned (.bool true) ∧ Below w.heap.size w w') := by
  obtain ⟨m, rfl⟩ := Int.eq_ofNat_of_zero_le h0.1
  obtain ⟨a, rfl⟩ := Int.eq_ofNat_of_zero_le h2.1
  obtain ⟨b, rfl⟩ := Int.eq_ofNat_of_zero_le h3.1
  exact chains_go m frm a b w (by omega) (by omega) (by omega)
end Go.Proofs.Ytpgidjebihgdaaa
