/- The word of any numbers; whether a word is a line's. -/
import Derived.Test.YtgeddciipcbepaaDrop
namespace Go.Proofs.Ytgeddciipcbepaa
open Go.RowKit
attribute [local go_sem ↓] Go.wp_at_zero Go.wp_at_succ

def ofV (l : List Int) : Value := if Ok l then .tuple #[vI (wd l), .bool true] else .tuple #[.int .i64 0, .bool false]
theorem ofV_ok {l : List Int} (h : Ok l) : ofV l = .tuple #[vI (wd l), .bool true] := if_pos h
theorem ofV_no {l : List Int} (h : ¬ Ok l) : ofV l = .tuple #[.int .i64 0, .bool false] := if_neg h
set_option maxHeartbeats 1000000 in
theorem of_any (A : Option Addr) (c : Nat) (xs : List Int) (w : World) (hl : xs.length ≤ 1000000) (h : IS w w.heap.size A xs) : Calls Try.prog 25 #[.slice A xs.length c] w fun e w' => e = .returned (ofV xs) ∧ Below w.heap.size w w' := by
  obtain ⟨v, ev⟩ : ∃ v, v = ofV xs := ⟨_, rfl⟩
  rw [← ev]
  have Ev := Lib.hid ev
  clear ev
  go_enter Try.func25, Try.ntmps25
  go_wp2_with fail
  go_loopw [4, 11] (fun q i wr => ∃ k : Nat, k ≤ xs.length ∧ i = .int .i64 k ∧ Ok (xs.take k) ∧ q = vI (wd (xs.take k)) ∧ Below w.heap.size w wr) (fun _ i => fun _ => xs.length - (intOf i).toNat)
  case atStart => exact ⟨0, Nat.zero_le _, rfl, Ok.nil, rfl, Below.refl _ _⟩
  case round =>
    obtain ⟨k, hk, rfl, hO, rfl, hB⟩ := hrel
    by_cases hlt : k < xs.length
    · obtain ⟨x, hx⟩ := num_some hlt
      obtain ⟨b, off, rfl, hb, hd⟩ := h k x hx
      have hc := (hB.cell (p := ⟨b, off + k, none⟩) hb).trans hd
      have hx2 : xs.take (k + 1) = xs.take k ++ [x] := by rw [List.take_add_one, hx]; rfl
      have hk1 : (k : Int) < (xs.length : Int) := by omega
      have hk0 : (0 : Int) ≤ (k : Int) := Int.natCast_nonneg _
      have hp := push_any x wr hO
      rw [← hx2] at hp
      have Hk := Lib.hid (And.intro hO hlt)
      clear hx hx2 hd hO
      by_cases hO2 : Ok (xs.take (k + 1))
      · rw [if_pos hO2, decide_eq_true hO2] at hp
        have Ho := Lib.hid hO2
        clear hO2
        obtain ⟨r, er⟩ : ∃ r, r = wd (xs.take (k + 1)) := ⟨_, rfl⟩
        rw [← er] at hp
        have Er := Lib.hid er
        clear er
        go_wp2_with (first | (go_at_call 14; refine hp.mono ?_; rintro e w2 ⟨rfl, hB2⟩))
        go_roundw
        case rel => exact ⟨k + 1, by omega, by go_num, Ho.out, by rw [Er.out], bthen hB hB2 hB.size⟩
        case measure => simp [intOf]; omega
      · rw [if_neg hO2, decide_eq_false hO2] at hp
        have Ho := Lib.hid (ofV_no (not_ok_of hO2))
        clear hO2
        go_wp2_with (first | (go_at_call 14; refine hp.mono ?_; rintro e w2 ⟨rfl, hB2⟩))
        go_ret2
        exact ⟨by rw [Ev.out, Ho.out]; rfl, bthen hB hB2 hB.size⟩
    · obtain rfl : k = xs.length := by omega
      rw [List.take_length] at hO ⊢
      have Ho := Lib.hid (ofV_ok hO)
      clear hO
      go_wp2_with fail
      go_ret2
      exact ⟨by rw [Ev.out, Ho.out]; rfl, hB⟩
set_option maxHeartbeats 1000000 in
theorem right_walk (q : Int) (v : Bool) (z : Int) (w : World) (n : Nat) (A0 : (A : Option Addr) → (c : Nat) → (w' : World) → Prop)
    (hl : Calls Try.prog 20 #[vI q] w fun e w' => ∃ A c, e = .returned (.slice A n c) ∧ A0 A c w' ∧ Below w.heap.size w w')
    (ho : ∀ A c w', A0 A c w' → Calls Try.prog 25 #[.slice A n c] w' fun e w2 => e = .returned (.tuple #[vI z, .bool v]) ∧ Below w'.heap.size w' w2) (r : Bool) (hr : r = (v && z == q)) :
    Calls Try.prog 11 #[vI q] w fun e w' => e = .returned (.bool r) ∧ Below w.heap.size w w' := by
  subst hr
  go_enter Try.func11, Try.ntmps11
  go_wp2_with fail
  refine hl.mono ?_
  rintro e w1 ⟨A, c, rfl, hA, hB⟩
  have h2 := ho A c w1 hA
  clear hA ho
  go_wp2_with fail
  refine h2.mono ?_
  rintro e w2 ⟨rfl, hB2⟩
  cases v with
  | true =>
    go_wp2_with fail
    go_ret
    exact ⟨ret_bool (by simp), bstep hB hB2⟩
  | false =>
    go_wp2_with fail
    go_ret
    exact ⟨ret_bool (by simp), bstep hB hB2⟩
theorem right_any (q : Int) (w : World) : Calls Try.prog 11 #[vI q] w fun e w' => e = .returned (.bool (decide (Rt q))) ∧ Below w.heap.size w w' := by
  have hl := list_any q w
  have hll := lst_len q
  have hl2 : Calls Try.prog 20 #[vI q] w fun e w' => ∃ A c, e = .returned (.slice A (lst q).length c) ∧ IS w' w'.heap.size A (lst q) ∧ Below w.heap.size w w' := by
    refine hl.mono ?_
    rintro e w' ⟨A, c, he, _, h1, h2⟩
    exact ⟨A, c, he, h1, h2⟩
  by_cases h : Ok (lst q)
  · refine right_walk q true (wd (lst q)) w _ _ hl2 (fun A c w' hA => ?_) _ ?_
    · have := of_any A c (lst q) w' (by omega) hA
      rw [ofV_ok h] at this
      exact this
    · by_cases e : wd (lst q) = q
      · rw [decide_eq_true (show Rt q from ⟨h, e⟩), e]; simp
      · rw [decide_eq_false (show ¬ Rt q from fun k => e k.2)]; simp [e]
  · refine right_walk q false 0 w _ _ hl2 (fun A c w' hA => ?_) _ ?_
    · have := of_any A c (lst q) w' (by omega) hA
      rw [ofV_no h] at this
      exact this
    · rw [decide_eq_false (show ¬ Rt q from fun k => h k.1)]; rfl
end Go.Proofs.Ytgeddciipcbepaa
