/- WorldOrder: the law answers true, whatever is told ahead; nothing that was there changes. -/
import Derived.Test.YtdhdacpnlfojeaaMine
namespace Go.Proofs.Ytdhdacpnlfojeaa
open Go.RowKit
attribute [local go_sem ↓] Go.wp_at_zero Go.wp_at_succ

theorem feed_take {l : List Bool} {k : Nat} {x : Bool} (h : l[k]? = some x) (hl : l.length ≤ 60) : feedA (l.take k) x = l.take (k + 1) ∧ decide ((l.take k).length < 1000) = true := by
  have hk := (List.getElem?_eq_some_iff.1 h).1
  have h1 : (l.take k).length < 1000 := by rw [List.length_take]; omega
  exact ⟨by rw [feedA_room h1, take_snoc h], decide_eq_true h1⟩
theorem next_drop {l : List Bool} {k : Nat} {x : Bool} (h : l[k]? = some x) : nextA (l.drop k) = x ∧ (l.drop k).tail = l.drop (k + 1) := by
  have hk := (List.getElem?_eq_some_iff.1 h).1
  refine ⟨?_, by rw [List.tail_drop]⟩
  unfold nextA
  rw [List.headD_eq_head?_getD, List.head?_drop, h]
  rfl
set_option maxRecDepth 100000 in
set_option maxHeartbeats 2000000 in
theorem lorder_any (A : Option Addr) (n c : Nat) (l : List Bool) (w : World) (hl : l.length = n) (hI : BS w w.heap.size A l) :
    Calls Try.prog 4 #[.slice A n c] w fun e w' => e = .returned (.bool true) ∧ Below w.heap.size w w' := by
  subst hl
  go_enter Try.func4, Try.ntmps4
  go_wp2_with fail
  refine (awake_any w).mono ?_
  rintro e w1 ⟨rfl, hB⟩
  go_wp2_with fail
  refine (new_m w w1 hB).mono ?_
  rintro e w2 ⟨gw, rfl, hW, _⟩
  clear hB
  by_cases h60 : 60 < l.length
  · have d1 : (60 : Int) < (l.length : Int) := by omega
    go_wp2_with fail
    go_ret
    exact ⟨rfl, hW.below⟩
  have d1 : ¬ (60 : Int) < (l.length : Int) := by omega
  have d2 : l.length ≤ 60 := by omega
  go_wp2_with fail
  clear d1 h60
  go_loopw [5] (fun i wr => ∃ k : Nat, k ≤ l.length ∧ i = .int .i64 k ∧ Wm No w wr gw (l.take k) 0 0) (fun i _ => l.length - (intOf i).toNat)
  case atStart => exact ⟨0, Nat.zero_le _, rfl, by rw [List.take_zero]; exact hW⟩
  case round =>
    clear hW
    obtain ⟨k, hk, rfl, hW⟩ := hrel
    by_cases hlk : k < l.length
    · obtain ⟨x, hx⟩ := flag_some hlk
      obtain ⟨b, off, rfl, hb, hd1⟩ := hI k x hx
      have hc := (hW.below.cell (p := ⟨b, off + k, none⟩) hb).trans hd1
      have hk1 : (k : Int) < (l.length : Int) := by omega
      have hf := feed_m gw x _ _ _ _ hW
      rw [(feed_take hx d2).1, (feed_take hx d2).2] at hf
      clear hx hd1 hW hI
      go_wp2_with fail
      refine hf.mono ?_
      rintro e w3 ⟨rfl, hW, _⟩
      clear hf
      go_wp2_with fail
      go_roundw
      case rel => exact ⟨k + 1, by omega, by go_num, hW⟩
      case measure => simp [intOf]; omega
    · obtain rfl : k = l.length := by omega
      rw [List.take_length] at hW
      go_wp2_with fail
      refine (ahead_m gw l 0 0 _ hW).mono ?_
      rintro e w3 ⟨A2, c2, rfl, hc2, hS2, hnw, hB3⟩
      have hW3 : Wm (fun k => ∃ a, A2 = some a ∧ k = a.block) w w3 gw (l.drop 0) (((0 : Nat) : Int) - (0 : Nat)) (0 : Nat) :=
        hW.newR hB3 (fun k hk => by obtain ⟨a, h1, rfl⟩ := hk; exact .inr (hnw a h1))
      clear hW hB3
      go_wp2_with fail
      go_loopw [7, 8, 9] (fun m i x wr => ∃ k f : Nat, k ≤ l.length ∧ f ≤ k ∧ i = .int .i64 k ∧ m = .int .i64 f ∧ Wm (fun k => ∃ a, A2 = some a ∧ k = a.block) w wr gw (l.drop k) ((k : Int) - f) f ∧ BS wr wr.heap.size A2 l) (fun _ i _ _ => l.length - (intOf i).toNat)
      case atStart => exact ⟨0, 0, Nat.zero_le _, Nat.le_refl _, rfl, rfl, hW3, hS2⟩
      case round =>
        clear hW3 hS2 hnw
        obtain ⟨k, f, hk, hfk, rfl, rfl, hW, hS⟩ := hrel
        by_cases hlk : k < l.length
        · obtain ⟨x, hx⟩ := flag_some hlk
          obtain ⟨b, off, rfl, hb, hd1⟩ := hI k x hx
          have hk1 : (k : Int) < (l.length : Int) := by omega
          have hf := next_m gw _ _ _ _ hW (by omega) (by omega)
          unfold goodA badA at hf
          rw [(next_drop hx).1, (next_drop hx).2] at hf
          clear hx hW
          go_wp2_with fail
          refine hf.mono ?_
          rintro e w4 ⟨rfl, hW, hK⟩
          have hS4 : BS w4 w4.heap.size A2 l := fun j z hj => by
            obtain ⟨b, off, rfl, h1, h2⟩ := hS j z hj
            exact ⟨b, off, rfl, Nat.lt_of_lt_of_le h1 hK.1, (World.cell?_of_block (w := wr) (a := ⟨b, off + j, none⟩) (hK.2 b ⟨_, rfl, rfl⟩)).trans h2⟩
          clear hf hS hK
          have hc := (hW.below.cell (p := ⟨b, off + k, none⟩) hb).trans hd1
          clear hd1
          cases x with
          | true =>
            go_wp2_with fail
            go_roundw
            case rel => exact ⟨k + 1, f, by omega, by omega, by go_num, rfl, by rw [show (((k + 1 : Nat)) : Int) - f = (k : Int) - f + 1 by omega]; exact hW, hS4⟩
            case measure => simp [intOf]; omega
          | false =>
            go_wp2_with fail
            go_roundw
            case rel => exact ⟨k + 1, f + 1, by omega, by omega, by go_num, by go_num, by rw [show (((k + 1 : Nat)) : Int) - ((f + 1 : Nat) : Int) = (k : Int) - f by omega]; exact hW, hS4⟩
            case measure => simp [intOf]; omega
        · obtain rfl : k = l.length := by omega
          rw [List.drop_length] at hW
          have hf := next_m gw [] _ _ _ hW (by omega) (by omega)
          clear hW
          go_wp2_with fail
          refine hf.mono ?_
          rintro e w4 ⟨rfl, hW, hK⟩
          have hS4 : BS w4 w4.heap.size A2 l := fun j z hj => by
            obtain ⟨b, off, rfl, h1, h2⟩ := hS j z hj
            exact ⟨b, off, rfl, Nat.lt_of_lt_of_le h1 hK.1, (World.cell?_of_block (w := wr) (a := ⟨b, off + j, none⟩) (hK.2 b ⟨_, rfl, rfl⟩)).trans h2⟩
          clear hf hS hK
          replace hW : Wm (fun k => ∃ a, A2 = some a ∧ k = a.block) w w4 gw [] ((l.length : Int) - f + 1) f := hW
          go_wp2_with fail
          refine (asked_m gw _ _ _ _ hW).mono ?_
          rintro e w5 ⟨rfl, q, rfl⟩
          replace hW := hW.drewN q
          replace hS4 : BS (w4.drewN q) (w4.drewN q).heap.size A2 l := hS4
          obtain ⟨w5, ew⟩ : ∃ w5, w5 = w4.drewN q := ⟨_, rfl⟩
          rw [← ew] at hW hS4 ⊢
          clear ew
          have hb := bools_any A2 A c2 c l.length l.length l l w5 hS4 ((hI.below hW.below).more hW.below.size) (by omega) rfl rfl
          rw [decide_eq_true rfl] at hb
          go_wp2_with fail
          refine hb.mono ?_
          rintro e w6 ⟨rfl, hB6⟩
          replace hW := hW.on hB6
          clear hb hS4
          have h5 := ahead_m gw [] _ _ w6 hW
          have hb := hW.below
          clear hW
          go_wp2_with fail
          refine h5.mono ?_
          rintro e w7 ⟨A7, c7, rfl, _, _, _, hb7⟩
          clear h5
          go_wp2_with fail
          go_ret
          exact ⟨rfl, bstep hb hb7⟩
end Go.Proofs.Ytdhdacpnlfojeaa
