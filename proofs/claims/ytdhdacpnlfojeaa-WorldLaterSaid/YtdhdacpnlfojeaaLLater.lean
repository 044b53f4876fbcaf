/- WorldLater: the law answers true, whatever is told ahead and however many are asked; nothing that was there changes. -/
import Derived.Test.YtdhdacpnlfojeaaLOrder
import Derived.Test.YtdhdacpnlfojeaaLFull
namespace Go.Proofs.Ytdhdacpnlfojeaa
open Go.RowKit
attribute [local go_sem ↓] Go.wp_at_zero Go.wp_at_succ

theorem next_later {l : List Bool} {h k : Nat} {x : Bool} (hx : l[k]? = some x) (hk : k < h) : nextA ((l.take h).drop k) = x := by
  unfold nextA
  rw [List.headD_eq_head?_getD, List.head?_drop, List.getElem?_take_of_lt hk, hx]
  rfl
theorem next_none {l : List Bool} {h k : Nat} (hk : h ≤ k) : nextA ((l.take h).drop k) = true := by
  unfold nextA
  rw [List.drop_eq_nil_of_le (by rw [List.length_take]; omega)]
  rfl
theorem feed_later {l : List Bool} {k m : Nat} {x : Bool} (h : l[k]? = some x) (hl : l.length ≤ 60) (hm : m ≤ k) : feedA ((l.take k).drop m) x = (l.take (k + 1)).drop m := by
  have hk := (List.getElem?_eq_some_iff.1 h).1
  have h1 : ((l.take k).drop m).length < 1000 := by rw [List.length_drop, List.length_take]; omega
  rw [feedA_room h1, take_snoc h, List.drop_append_of_le_length (by rw [List.length_take]; omega)]
theorem drop_min {l : List Bool} (h n : Nat) : (l.take h).drop n = (l.take h).drop (min n h) := by
  by_cases e : n ≤ h
  · rw [Nat.min_eq_left e]
  · rw [Nat.min_eq_right (by omega), List.drop_eq_nil_of_le (by rw [List.length_take]; omega), List.drop_eq_nil_of_le (by rw [List.length_take]; omega)]
theorem BS.drop {w : World} {N b off m : Nat} {l : List Bool} (h : BS w N (some ⟨b, off, none⟩) l) : BS w N (some ⟨b, off + m, none⟩) (l.drop m) := by
  intro k x hk
  rw [List.getElem?_drop] at hk
  obtain ⟨b2, off2, e, h1, h2⟩ := h _ x hk
  injection e with e
  injection e with e1 e2
  subst e1 e2
  exact ⟨b, off + m, rfl, h1, by rw [Nat.add_assoc]; exact h2⟩
theorem BS.dropO {w : World} {N m : Nat} {A : Option Addr} {l : List Bool} (h : BS w N A l) : BS w N (Option.map (fun x => x.add m) A) (l.drop m) := by
  intro k x hk
  have hk2 := hk
  rw [List.getElem?_drop] at hk2
  obtain ⟨b, off, rfl, _, _⟩ := h _ x hk2
  obtain ⟨b2, off2, e, r⟩ := h.drop k x hk
  exact ⟨b2, off2, by rw [← e]; simp [Addr.add], r⟩
theorem BS.end {w : World} {N m : Nat} {A : Option Addr} {l : List Bool} (h : l.length ≤ m) : BS w N A (l.drop m) := by
  intro k x hk
  rw [List.drop_eq_nil_of_le h] at hk
  simp at hk
set_option maxRecDepth 100000 in
set_option maxHeartbeats 2000000 in
theorem llater_any (A : Option Addr) (n c : Nat) (l : List Bool) (asked : Int) (w : World) (hl : l.length = n) (hcc : n ≤ c) (hI : BS w w.heap.size A l) (a0 : 0 ≤ asked ∧ asked ≤ 255) :
    Calls Try.prog 6 #[.slice A n c, .int .u8 asked] w fun e w' => e = .returned (.bool true) ∧ Below w.heap.size w w' := by
  subst hl
  obtain ⟨a, rfl⟩ := Int.eq_ofNat_of_zero_le a0.1
  go_enter Try.func6, Try.ntmps6
  go_wp2_with fail
  refine (awake_any w).mono ?_
  rintro e w1 ⟨rfl, hB⟩
  go_wp2_with fail
  refine (new_m w w1 hB).mono ?_
  rintro e w2 ⟨gw, rfl, hW, _⟩
  clear hB
  by_cases h60 : 60 < l.length
  · have d1 : (60 : Int) < (l.length : Int) := by omega
    go_wp2_with fail
    go_ret
    exact ⟨rfl, hW.below⟩
  have d1 : ¬ (60 : Int) < (l.length : Int) := by omega
  have d2 : l.length ≤ 60 := by omega
  go_wp2_with fail
  clear d1 h60
  rw [show ((l.length : Int) / 2) = ((l.length / 2 : Nat) : Int) by omega]
  obtain ⟨H, eH⟩ : ∃ H, H = l.length / 2 := ⟨_, rfl⟩
  have hH : H ≤ l.length := by omega
  have hH2 : H < l.length ∨ l.length = 0 := by omega
  rw [← eH]
  clear eH
  go_loopw [8] (fun i wr => ∃ k : Nat, k ≤ H ∧ i = .int .i64 k ∧ Wm No w wr gw (l.take k) 0 0) (fun i _ => H - (intOf i).toNat)
  case atStart => exact ⟨0, Nat.zero_le _, rfl, by rw [List.take_zero]; exact hW⟩
  case round =>
    clear hW
    obtain ⟨k, hk, rfl, hW⟩ := hrel
    by_cases hlk : k < H
    · obtain ⟨x, hx⟩ := flag_some (show k < l.length by omega)
      obtain ⟨b, off, rfl, hb, hd1⟩ := hI k x hx
      have hc := (hW.below.cell (p := ⟨b, off + k, none⟩) hb).trans hd1
      have hk1 : (k : Int) < (H : Int) := by omega
      have hk2 : (k : Int) < (l.length : Int) := by omega
      have hf := feed_m gw x _ _ _ _ hW
      rw [(feed_take hx d2).1, (feed_take hx d2).2] at hf
      clear hx hd1 hW hI
      go_wp2_with fail
      refine hf.mono ?_
      rintro e w3 ⟨rfl, hW, _⟩
      clear hf
      go_wp2_with fail
      go_roundw
      case rel => exact ⟨k + 1, by omega, by go_num, hW⟩
      case measure => simp [intOf]; omega
    · obtain rfl : k = H := by omega
      clear hlk
      go_wp2_with fail
      rw [show ((a : Int) % 70) = ((a % 70 : Nat) : Int) by omega]
      obtain ⟨K, eK⟩ : ∃ K, K = a % 70 := ⟨_, rfl⟩
      have hK : K ≤ 69 := by omega
      rw [← eK]
      clear eK
      go_loopw [10, 11] (fun i x wr => ∃ (j : Nat) (y n : Int), j ≤ K ∧ i = .int .i64 j ∧ y ≤ j ∧ n ≤ j ∧ Wm No w wr gw ((l.take k).drop j) y n) (fun i _ _ => K - (intOf i).toNat)
      case atStart => exact ⟨0, 0, 0, Nat.zero_le _, rfl, by decide, by decide, hW⟩
      case round =>
        clear hW
        obtain ⟨j, y, n, hj, rfl, hyj, hnj, hW⟩ := hrel
        by_cases hjk : j < K
        · have hj1 : (j : Int) < (K : Int) := by omega
          have hf := next_m gw _ _ _ _ hW (by omega) (by omega)
          have hg := good_le ((l.take k).drop j) hyj
          have hb := bad_le ((l.take k).drop j) hnj
          rw [List.tail_drop] at hf
          by_cases hjH : j < k
          · obtain ⟨x, hx⟩ := flag_some (show j < l.length by omega)
            obtain ⟨b, off, rfl, hb1, hd1⟩ := hI j x hx
            have hc := (hW.below.cell (p := ⟨b, off + j, none⟩) hb1).trans hd1
            rw [next_later hx hjH] at hf
            obtain ⟨y', ey⟩ : ∃ y', y' = goodA ((l.take k).drop j) y := ⟨_, rfl⟩
            obtain ⟨n', en⟩ : ∃ n', n' = badA ((l.take k).drop j) n := ⟨_, rfl⟩
            rw [← ey, ← en] at hf
            rw [← ey] at hg
            rw [← en] at hb
            clear ey en hx hd1 hW hI
            have q1 : ¬ (k : Int) ≤ (j : Int) := by omega
            have q2 : (if (l.length : Int) - 1 < (j : Int) then (l.length : Int) - 1 else (j : Int)) = (j : Int) := by rw [if_neg (by omega)]
            have q3 : ¬ (l.length : Int) - 1 < (j : Int) := by omega
            have q4 : (j : Int) < (l.length : Int) := by omega
            go_wp2_with fail
            refine hf.mono ?_
            rintro e w3 ⟨rfl, hW, _⟩
            clear hf hc
            cases x with
            | true =>
              go_wp2_with fail
              go_roundw
              case rel => exact ⟨j + 1, y', n', by omega, by go_num, hg, hb, hW⟩
              case measure => simp [intOf]; omega
            | false =>
              go_wp2_with fail
              go_roundw
              case rel => exact ⟨j + 1, y', n', by omega, by go_num, hg, hb, hW⟩
              case measure => simp [intOf]; omega
          · rw [next_none (by omega)] at hf
            obtain ⟨y', ey⟩ : ∃ y', y' = goodA ((l.take k).drop j) y := ⟨_, rfl⟩
            obtain ⟨n', en⟩ : ∃ n', n' = badA ((l.take k).drop j) n := ⟨_, rfl⟩
            rw [← ey, ← en] at hf
            rw [← ey] at hg
            rw [← en] at hb
            clear ey en hW hI
            have q1 : (k : Int) ≤ (j : Int) := by omega
            go_wp2_with fail
            refine hf.mono ?_
            rintro e w3 ⟨rfl, hW, _⟩
            clear hf
            go_wp2_with fail
            go_roundw
            case rel => exact ⟨j + 1, y', n', by omega, by go_num, hg, hb, hW⟩
            case measure => simp [intOf]; omega
        · obtain rfl : j = K := by omega
          rw [drop_min] at hW
          obtain ⟨m, em⟩ : ∃ m, m = min j k := ⟨_, rfl⟩
          rw [← em] at hW
          have hm : m ≤ k := by omega
          have Em := Lib.hid em
          clear em hjk
          go_wp2_with fail
          go_loopw [12] (fun i wr => ∃ (t : Nat), k ≤ t ∧ t ≤ l.length ∧ i = .int .i64 t ∧ Wm No w wr gw ((l.take t).drop m) y n) (fun i _ => l.length - (intOf i).toNat)
          case atStart => exact ⟨k, Nat.le_refl _, hH, rfl, hW⟩
          case round =>
            clear hW
            obtain ⟨t, ht, ht2, rfl, hW⟩ := hrel
            by_cases htl : t < l.length
            · obtain ⟨x, hx⟩ := flag_some htl
              obtain ⟨b, off, rfl, hb, hd1⟩ := hI t x hx
              have hc := (hW.below.cell (p := ⟨b, off + t, none⟩) hb).trans hd1
              have hk2 : (t : Int) < (l.length : Int) := by omega
              have hf := feed_m gw x _ _ _ _ hW
              rw [feed_later hx d2 (by omega)] at hf
              clear hx hd1 hW hI
              go_wp2_with fail
              refine hf.mono ?_
              rintro e w3 ⟨rfl, hW, _⟩
              clear hf
              go_wp2_with fail
              go_roundw
              case rel => exact ⟨t + 1, by omega, by omega, by go_num, hW⟩
              case measure => simp [intOf]; omega
            · obtain rfl : t = l.length := by omega
              rw [List.take_length] at hW
              clear htl
              have ho := ahead_m gw _ _ _ _ hW
              unfold RetBools at ho
              have hlen : (l.drop m).length = l.length - m := List.length_drop ..
              rw [hlen] at ho
              have hb := hW.below
              have hml : m ≤ l.length := by omega
              have q0 : (0 : Int) ≤ (m : Int) := Int.natCast_nonneg _
              have q1 : (m : Int) ≤ (l.length : Int) := by omega
              have q2 : (m : Int) ≤ (c : Int) := by omega
              by_cases hjk : j ≤ k
              · obtain rfl : m = j := by have := Em.out; omega
                have q3 : ¬ (k : Int) < (m : Int) := by omega
                by_cases hmc : m = c
                · have q4 : ((m : Int) == (c : Int)) = true := by simp; omega
                  have hS := BS.end (w := wr) (N := wr.heap.size) (A := A) (l := l) (m := m) (by omega)
                  have hl0 : l.length - m = 0 := by omega
                  rw [hl0] at ho
                  go_wp2_with fail
                  refine ho.mono ?_
                  rintro e w5 ⟨A5, c5, rfl, _, hS5, _, hb5⟩
                  have hb2 := bools_any A5 A c5 0 0 0 _ _ w5 hS5 (hS.on hb5) (by omega) (by omega) (by omega)
                  rw [decide_eq_true rfl] at hb2
                  clear ho hS hS5
                  go_wp2_with fail
                  refine hb2.mono ?_
                  rintro e w6 ⟨rfl, hb6⟩
                  clear hb2
                  go_wp2_with fail
                  go_ret
                  exact ⟨rfl, bstep (hb.trans (hb5.mono hb.size)) hb6⟩
                · have q4 : ((m : Int) == (c : Int)) = false := by simp; omega
                  have q5 : (m == c) = false := by simp; omega
                  have hS := ((hI.below hb).more hb.size).dropO (m := m)
                  go_wp2_with fail
                  refine ho.mono ?_
                  rintro e w5 ⟨A5, c5, rfl, _, hS5, _, hb5⟩
                  have hb2 := bools_any A5 (Option.map (fun x => x.add m) A) c5 (c - m) (l.length - m) (l.length - m) _ _ w5 hS5 (hS.on hb5) (by omega) hlen hlen
                  rw [decide_eq_true rfl] at hb2
                  clear ho hS hS5
                  go_wp2_with fail
                  refine hb2.mono ?_
                  rintro e w6 ⟨rfl, hb6⟩
                  clear hb2
                  go_wp2_with fail
                  go_ret
                  exact ⟨rfl, bstep (hb.trans (hb5.mono hb.size)) hb6⟩
              · obtain rfl : m = k := by have := Em.out; omega
                have q3 : (m : Int) < (j : Int) := by omega
                by_cases hmc : m = c
                · have q4 : ((m : Int) == (c : Int)) = true := by simp; omega
                  have hS := BS.end (w := wr) (N := wr.heap.size) (A := A) (l := l) (m := m) (by omega)
                  have hl0 : l.length - m = 0 := by omega
                  rw [hl0] at ho
                  go_wp2_with fail
                  refine ho.mono ?_
                  rintro e w5 ⟨A5, c5, rfl, _, hS5, _, hb5⟩
                  have hb2 := bools_any A5 A c5 0 0 0 _ _ w5 hS5 (hS.on hb5) (by omega) (by omega) (by omega)
                  rw [decide_eq_true rfl] at hb2
                  clear ho hS hS5
                  go_wp2_with fail
                  refine hb2.mono ?_
                  rintro e w6 ⟨rfl, hb6⟩
                  clear hb2
                  go_wp2_with fail
                  go_ret
                  exact ⟨rfl, bstep (hb.trans (hb5.mono hb.size)) hb6⟩
                · have q4 : ((m : Int) == (c : Int)) = false := by simp; omega
                  have q5 : (m == c) = false := by simp; omega
                  have hS := ((hI.below hb).more hb.size).dropO (m := m)
                  go_wp2_with fail
                  refine ho.mono ?_
                  rintro e w5 ⟨A5, c5, rfl, _, hS5, _, hb5⟩
                  have hb2 := bools_any A5 (Option.map (fun x => x.add m) A) c5 (c - m) (l.length - m) (l.length - m) _ _ w5 hS5 (hS.on hb5) (by omega) hlen hlen
                  rw [decide_eq_true rfl] at hb2
                  clear ho hS hS5
                  go_wp2_with fail
                  refine hb2.mono ?_
                  rintro e w6 ⟨rfl, hb6⟩
                  clear hb2
                  go_wp2_with fail
                  go_ret
                  exact ⟨rfl, bstep (hb.trans (hb5.mono hb.size)) hb6⟩
end Go.Proofs.Ytdhdacpnlfojeaa
