/- LineOrder: the law answers true, whatever its numbers; nothing that was there changes. -/
import Derived.Test.YtgeddciipcbepaaWin
import Derived.Test.YtgeddciipcbepaaLTells
namespace Go.Proofs.Ytgeddciipcbepaa
open Go.RowKit
attribute [local go_sem ↓] Go.wp_at_zero Go.wp_at_succ

set_option maxRecDepth 100000 in
set_option maxHeartbeats 1000000 in
theorem lorder_many (A : Option Addr) (n c : Nat) (w : World) (h : 60 < n) : Calls Try.prog 5 #[.slice A n c] w fun e w' => e = .returned (.bool true) ∧ Below w.heap.size w w' := by
  have h2 : (60 : Int) < (n : Int) := by omega
  go_enter Try.func5, Try.ntmps5
  go_wp2_with fail
  refine (awake_any w).mono ?_
  rintro e w1 ⟨rfl, hB⟩
  go_wp2_with fail
  go_ret
  exact ⟨rfl, hB⟩
set_option maxRecDepth 100000 in
set_option maxHeartbeats 4000000 in
theorem lorder_go (A0 : Option Addr) (c0 : Nat) (xs : List Int) (w : World) (hl : xs.length ≤ 60) (hI : IS w w.heap.size A0 xs) : Calls Try.prog 5 #[.slice A0 xs.length c0] w fun e w' => e = .returned (.bool true) ∧ Below w.heap.size w w' := by
  go_enter Try.func5, Try.ntmps5
  go_wp2_with fail
  refine (awake_any w).mono ?_
  rintro e w1 ⟨rfl, hB⟩
  go_wp2_with fail
  go_loopw [4, 5, 6] (fun q v i wr => ∃ (k : Nat) (m : List Int) (A : Option Addr) (n c : Nat), k ≤ xs.length ∧ i = .int .i64 k ∧ Ok m ∧ q = vI (wd m) ∧ v = .slice A n c ∧ Win w wr A n c m) (fun _ _ i => fun _ => xs.length - (intOf i).toNat)
  case atStart => exact ⟨0, [], none, 0, 0, Nat.zero_le _, rfl, Ok.nil, rfl, rfl, Win.nil hB⟩
  case round =>
    obtain ⟨k, m, A, n, c, hk, rfl, hO, rfl, rfl, hW⟩ := hrel
    have hn15 : n ≤ 15 := by have := hO.len; have := hW.len; omega
    by_cases hlt : k < xs.length
    · obtain ⟨z, hz⟩ := num_some hlt
      obtain ⟨b0, off0, rfl, hb0, hd0⟩ := hI k z hz
      have hd := (hW.below.cell (p := ⟨b0, off0 + k, none⟩) hb0).trans hd0
      have hk1 : (k : Int) < (xs.length : Int) := by omega
      have hk0 : (0 : Int) ≤ (k : Int) := Int.natCast_nonneg _
      clear hz hd0
      by_cases hz0 : 0 ≤ z
      · have a0 : decide (0 ≤ z) = true := decide_eq_true hz0
        by_cases hO2 : Ok (m ++ [z])
        · have hp := push_go z wr hO2
          have hne : wd (m ++ [z]) ≠ wd m := fun e => by
            have := wd_inj hO2 hO e
            have := congrArg List.length this
            simp at this
          have Ho2 := Lib.hid hO2
          obtain ⟨q, eq⟩ : ∃ y, y = wd m := ⟨_, rfl⟩
          obtain ⟨q2, eq2⟩ : ∃ y, y = wd (m ++ [z]) := ⟨_, rfl⟩
          rw [← eq2, ← eq] at hp hne
          rw [← eq]
          have a1 : (q2 != q) = true := by simpa using hne
          have a2 : (q2 == q) = false := by simpa using hne
          have Eq2 := Lib.hid eq2
          clear hO hO2 hne eq eq2
          go_wp2_with (first
            | (go_at_call 14; refine hp.mono ?_; rintro e w2 ⟨rfl, hB2⟩; have hW2 := hW.on hB2; have hd2 := (hB2.cell (p := ⟨b0, off0 + k, none⟩) (Nat.lt_of_lt_of_le hb0 hW.below.size)).trans hd)
            | (at_builtin; refine hW2.app (by omega) rfl _ _ rfl rfl _ rfl ?_))
          intro A' c' w3 hW3
          go_wp2
          go_roundw
          case rel => exact ⟨k + 1, m ++ [z], A', n + 1, c', by omega, by go_num, Ho2.out, by rw [Eq2.out], rfl, hW3⟩
          case measure => simp [intOf]; omega
        · have hp := push_no z wr hO hO2
          have Ho := Lib.hid hO
          obtain ⟨q, eq⟩ : ∃ y, y = wd m := ⟨_, rfl⟩
          rw [← eq] at hp ⊢
          have Eq := Lib.hid eq
          clear hO hO2 eq
          go_wp2_with (first | (go_at_call 14; refine hp.mono ?_; rintro e w2 ⟨rfl, hB2⟩))
          go_roundw
          case rel => exact ⟨k + 1, m, A, n, c, by omega, by go_num, Ho.out, by rw [Eq.out], rfl, hW.on hB2⟩
          case measure => simp [intOf]; omega
      · have a0 : decide (0 ≤ z) = false := decide_eq_false hz0
        by_cases hz1 : z = -1
        · subst hz1
          have hp := pop_any (wd m) wr
          cases m with
          | nil =>
            obtain rfl : n = 0 := hW.len.symm
            have e0 : wd [] / 16 = 0 := by decide
            have e1 : wd [] = 0 := rfl
            rw [e0, e1] at hp
            rw [e1]
            clear e0 e1 hO
            go_wp2_with (first | (go_at_call 22; refine hp.mono ?_; rintro e w2 ⟨rfl, rfl⟩))
            go_roundw
            case rel => exact ⟨k + 1, [], A, 0, c, by omega, by go_num, Ok.nil, rfl, rfl, hW⟩
            case measure => simp [intOf]; omega
          | cons x t =>
            have hx := hO.rng x (by simp)
            rw [wd_tail x t hx.1 hx.2] at hp
            have ht := Lib.hid (ok_tail hO)
            have hn1 : 0 < n := by have := hW.len; simp at this; omega
            have hn0 : (0 : Int) < (n : Int) := by omega
            have hn2 : 1 ≤ n := hn1
            have hnc := hW.nc
            obtain ⟨q, eq⟩ : ∃ y, y = wd (x :: t) := ⟨_, rfl⟩
            obtain ⟨r, er⟩ : ∃ y, y = wd t := ⟨_, rfl⟩
            rw [← eq, ← er] at hp
            rw [← eq]
            have Er := Lib.hid er
            clear hx hO eq er
            obtain ⟨b, off, rfl⟩ : ∃ b off, A = some ⟨b, off, none⟩ := by
              cases hA : A with
              | none => have := hW.nn hA; omega
              | some a =>
                obtain ⟨b, off, e, _⟩ := hW.pl a hA
                exact ⟨b, off, by rw [e]⟩
            by_cases hc1 : c = 1
            · obtain ⟨hW2, rfl⟩ := hW.tail1 hc1
              subst hc1
              obtain rfl : n = 1 := by omega
              replace hW2 : Win w wr (some ⟨b, off, none⟩) 0 0 [] := hW2
              go_wp2_with (first | (go_at_call 22; refine hp.mono ?_; rintro e w2 ⟨rfl, rfl⟩))
              go_roundw
              case rel => exact ⟨k + 1, [], _, 0, 0, by omega, by go_num, ht.out, by rw [Er.out], rfl, hW2⟩
              case measure => simp [intOf]; omega
            · have hW2 := hW.tail
              have hc2 : 1 < c := by omega
              have hc3 : (1 : Int) < (c : Int) := by omega
              have hc4 : ((c : Int) == 1) = false := by rw [beq_eq_false_iff_ne]; omega
              go_wp2_with (first | (go_at_call 22; refine hp.mono ?_; rintro e w2 ⟨rfl, rfl⟩))
              go_roundw
              case rel => exact ⟨k + 1, t, _, n - 1, c - 1, by omega, by go_num, ht.out, by rw [Er.out], rfl, hW2⟩
              case measure => simp [intOf]; omega
        · have a1 : (z == -1) = false := by rw [beq_eq_false_iff_ne]; exact hz1
          obtain ⟨u, eu⟩ : ∃ u, u = wrap64 (-2 - z) := ⟨_, rfl⟩
          have hp := drop_any u wr hO
          have hm := ok_less hO u
          have hlen := hW.len
          obtain ⟨d, ed⟩ : ∃ d, d = decide (u ∈ m) := ⟨_, rfl⟩
          have hh : ∀ w2, IS w2 w2.heap.size A m → Calls Try.prog 17 #[.slice A n c, vI u] w2 fun e w' => e = .returned (.bool d) ∧ Below w2.heap.size w2 w' := fun w2 hI => by
            rw [ed]
            exact rhas_any A n c m u w2 hlen (by omega) hI
          have hr : ∀ w2, IS w2 w2.heap.size A m → Calls Try.prog 24 #[.slice A n c, vI u] w2 fun e w' => ∃ v, e = .returned v ∧ Mine w2 w' v (less m u) := fun w2 hI => rdrop_mine A n c m u w2 hlen (by omega) hI
          rw [← ed] at hp
          obtain ⟨q, eq⟩ : ∃ y, y = wd m := ⟨_, rfl⟩
          obtain ⟨q2, eq2⟩ : ∃ y, y = wd (less m u) := ⟨_, rfl⟩
          rw [← eq, ← eq2] at hp
          rw [← eq]
          have Eq2 := Lib.hid eq2
          have Hm := Lib.hid hm
          have hdd : (d != d) = false := by simp
          clear eq eq2 ed hm hlen hO
          rw [eu] at hp hh hr
          go_wp2_with (first
            | (go_at_call 16; refine hp.mono ?_; rintro e w2 ⟨rfl, hB2⟩; have hW2 := hW.on hB2)
            | (go_at_call 17; refine (hh w2 hW2.is).mono ?_; rintro e w3 ⟨rfl, hB3⟩; have hW3 := hW2.on hB3)
            | (go_at_call 24; refine (hr w3 hW3.is).mono ?_; rintro e w4 ⟨v, rfl, hM4⟩))
          obtain ⟨A2, c2, rfl⟩ := hM4.form
          have hW4 := win_mine hM4 hW3.below
          go_roundw
          case rel => exact ⟨k + 1, less m (wrap64 (-2 - z)), A2, _, c2, by omega, by go_num, by have := Hm.out; rwa [eu] at this, by rw [Eq2.out, eu], rfl, hW4⟩
          case measure => simp [intOf]; omega
    · obtain rfl : k = xs.length := by omega
      have hlen := hW.len
      have hI := hW.is
      have hB2 := hW.below
      cases m with
      | nil =>
        obtain rfl : n = 0 := hlen.symm
        have h2 : ∀ w, Calls Try.prog 11 #[vI 0] w fun e w' => e = .returned (.bool true) ∧ Below w.heap.size w w' := fun w => right_yes (l := []) w Ok.nil
        have h3 : ∀ w, Calls Try.prog 13 #[vI 0] w fun e w' => e = .returned (.tuple #[.int .i64 0, .bool false]) ∧ Below w.heap.size w w' := fun w => head_line (l := []) w Ok.nil
        have h4 : ∀ w, Calls Try.prog 20 #[vI 0] w (RetN w 0 []) := fun w => retN (xs := []) rfl (list_line (l := []) w Ok.nil)
        have e1 : wd [] = 0 := rfl
        rw [e1]
        clear e1 hO hW hlen hI
        go_wp2_with fail
        refine (h3 wr).mono ?_
        rintro e w2 ⟨rfl, hB3⟩
        replace hB2 := bthen hB2 hB3 hB2.size
        go_wp2_with fail
        refine (h2 w2).mono ?_
        rintro e w3 ⟨rfl, hB4⟩
        replace hB2 := bthen hB2 hB4 hB2.size
        go_wp2_with fail
        refine (h4 w3).mono ?_
        rintro e w4 ⟨A4, c4, rfl, hc4, hI4, hB5⟩
        replace hB2 := bthen hB2 hB5 hB2.size
        go_wp2_with fail
        refine (ints_n _ _ 0 0 _ _ [] w4 rfl rfl (by omega) hI4 (is_nil rfl)).mono ?_
        rintro e w5 ⟨rfl, hB6⟩
        replace hB2 := bthen hB2 hB6 hB2.size
        clear h2 h3 h4 hc4 hI4 hB3 hB4 hB5 hB6
        go_wp2_with fail
        go_ret
        exact ⟨rfl, hB2⟩
      | cons x t =>
        have h2 := fun w => right_yes w hO
        have h3 : ∀ w, Calls Try.prog 13 #[vI (wd (x :: t))] w fun e w' => e = .returned (.tuple #[vI x, .bool true]) ∧ Below w.heap.size w w' := fun w => head_line w hO
        have h4 := fun w => retN hlen.symm (list_line w hO)
        have hn1 : 0 < n := by rw [← hlen]; simp
        have hn0 : (0 : Int) < (n : Int) := by omega
        obtain ⟨q, eq⟩ : ∃ y, y = wd (x :: t) := ⟨_, rfl⟩
        obtain ⟨m, em⟩ : ∃ m, m = x :: t := ⟨_, rfl⟩
        have h0 : m[0]? = some x := by rw [em]; rfl
        rw [← eq] at h2 h3 h4 ⊢
        rw [← em] at h4 hI hlen
        have H0 := Lib.hid h0
        have Hl := Lib.hid hlen
        clear eq em h0 hO hW hlen
        obtain ⟨b, off, rfl, _, _⟩ := hI 0 x H0.out
        go_wp2_with fail
        refine (h3 wr).mono ?_
        rintro e w2 ⟨rfl, hB3⟩
        replace hB2 := bthen hB2 hB3 hB2.size
        replace hI := hI.on hB3
        go_wp2_with fail
        refine (h2 w2).mono ?_
        rintro e w3 ⟨rfl, hB4⟩
        replace hB2 := bthen hB2 hB4 hB2.size
        replace hI := hI.on hB4
        go_wp2_with fail
        refine (h4 w3).mono ?_
        rintro e w4 ⟨A4, c4, rfl, hc4, hI4, hB5⟩
        replace hB2 := bthen hB2 hB5 hB2.size
        replace hI := hI.on hB5
        go_wp2_with fail
        refine (ints_n _ _ n n _ _ m w4 Hl.out Hl.out (by omega) hI4 hI).mono ?_
        rintro e w5 ⟨rfl, hB6⟩
        replace hB2 := bthen hB2 hB6 hB2.size
        replace hI := hI.on hB6
        have hd := (hI.at H0.out).2
        rw [Nat.add_zero] at hd
        clear h2 h3 h4 hc4 hI4 hB3 hB4 hB5 hB6 hI
        go_wp2_with fail
        go_ret
        exact ⟨rfl, hB2⟩
theorem lorder_any (A : Option Addr) (n c : Nat) (xs : List Int) (w : World) (hl : xs.length = n) (hI : IS w w.heap.size A xs) : Calls Try.prog 5 #[.slice A n c] w fun e w' => e = .returned (.bool true) ∧ Below w.heap.size w w' := by
  subst hl
  by_cases h : xs.length ≤ 60
  · exact lorder_go A c xs w h hI
  · exact lorder_many A _ c w (by omega)
end Go.Proofs.Ytgeddciipcbepaa
