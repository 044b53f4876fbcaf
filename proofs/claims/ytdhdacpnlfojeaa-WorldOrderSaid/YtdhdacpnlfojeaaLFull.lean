/- WorldFull: the law answers true, however many are told and asked; nothing that was there changes. -/
import Derived.Test.YtdhdacpnlfojeaaMine
namespace Go.Proofs.Ytdhdacpnlfojeaa
open Go.RowKit
attribute [local go_sem ↓] Go.wp_at_zero Go.wp_at_succ

theorem feed_len (xs : List Bool) (x : Bool) : (feedA xs x).length = min (xs.length + 1) (max 1000 xs.length) := by
  unfold feedA
  split
  · rw [List.length_append, List.length_singleton]; omega
  · omega
theorem good_le (xs : List Bool) {y : Int} {k : Nat} (h : y ≤ k) : goodA xs y ≤ (k + 1 : Nat) := by unfold goodA; split <;> omega
theorem bad_le (xs : List Bool) {y : Int} {k : Nat} (h : y ≤ k) : badA xs y ≤ (k + 1 : Nat) := by unfold badA; split <;> omega
set_option maxRecDepth 100000 in
set_option maxHeartbeats 2000000 in
theorem lfull_any (more asked : Int) (w : World) (m0 : 0 ≤ more ∧ more ≤ 255) (a0 : 0 ≤ asked ∧ asked ≤ 255) :
    Calls Try.prog 5 #[.int .u8 more, .int .u8 asked] w fun e w' => e = .returned (.bool true) ∧ Below w.heap.size w w' := by
  obtain ⟨m, rfl⟩ := Int.eq_ofNat_of_zero_le m0.1
  obtain ⟨a, rfl⟩ := Int.eq_ofNat_of_zero_le a0.1
  go_enter Try.func5, Try.ntmps5
  go_wp2_with fail
  refine (awake_any w).mono ?_
  rintro e w1 ⟨rfl, hB⟩
  go_wp2_with fail
  refine (new_m w w1 hB).mono ?_
  rintro e w2 ⟨gw, rfl, hW, _⟩
  clear hB
  go_wp2_with fail
  rw [show (990 + (m : Int) % 21) = ((990 + m % 21 : Nat) : Int) by omega, show ((a : Int) % 10) = ((a % 10 : Nat) : Int) by omega]
  obtain ⟨N, eN⟩ : ∃ N, N = 990 + m % 21 := ⟨_, rfl⟩
  obtain ⟨K, eK⟩ : ∃ K, K = a % 10 := ⟨_, rfl⟩
  have hN : 990 ≤ N ∧ N ≤ 1010 := by omega
  have hK : K ≤ 9 := by omega
  rw [← eN, ← eK]
  clear eN eK
  go_loopw [9, 10] (fun f i wr => ∃ (k : Nat) (xs : List Bool), k ≤ N ∧ i = .int .i64 k ∧ f = .int .i64 xs.length ∧ xs.length = min k 1000 ∧ Wm No w wr gw xs 0 0) (fun _ i _ => N - (intOf i).toNat)
  case atStart => exact ⟨0, [], Nat.zero_le _, rfl, rfl, rfl, hW⟩
  case round =>
    clear hW
    obtain ⟨k, xs, hk, rfl, rfl, hx, hW⟩ := hrel
    by_cases hlk : k < N
    · have hk1 : (k : Int) < (N : Int) := by omega
      have hf := fun x => feed_m gw x _ _ _ _ hW
      have hl := fun x => feed_len xs x
      have hd : decide (xs.length < 1000) = decide (k < 1000) := by rw [Bool.eq_iff_iff]; simp; omega
      rw [hd] at hf
      clear hW
      obtain ⟨L, eL⟩ : ∃ L, L = xs.length := ⟨_, rfl⟩
      rw [← eL] at hx hl hd ⊢
      clear hd eL
      go_wp2_with fail
      refine (hf _).mono ?_
      rintro e w3 ⟨rfl, hW, _⟩
      have hl2 := hl ((k : Int) % 3 == 0)
      clear hf hl
      by_cases hk2 : k < 1000
      · rw [decide_eq_true hk2]
        have HW := Lib.hid hW
        clear hW
        go_wp2_with fail
        go_roundw
        case rel => exact ⟨k + 1, _, by omega, by go_num, by go_num, by omega, HW.out⟩
        case measure => simp [intOf]; omega
      · rw [decide_eq_false hk2]
        go_wp2_with fail
        go_roundw
        case rel => exact ⟨k + 1, _, by omega, by go_num, by go_num, by omega, hW⟩
        case measure => simp [intOf]; omega
    · obtain rfl : k = N := by omega
      obtain ⟨F, eF⟩ : ∃ F, F = xs.length := ⟨_, rfl⟩
      rw [← eF] at hx ⊢
      have hF : 990 ≤ F ∧ F ≤ 1000 := by omega
      have Hx := Lib.hid hx
      clear hx
      go_wp2_with fail
      go_loopw [11] (fun i wr => ∃ (j : Nat) (ys : List Bool) (y n : Int), j ≤ K ∧ i = .int .i64 j ∧ ys.length + j = F ∧ y ≤ j ∧ n ≤ j ∧ Wm No w wr gw ys y n) (fun i _ => K - (intOf i).toNat)
      case atStart => exact ⟨0, xs, 0, 0, Nat.zero_le _, rfl, by omega, by decide, by decide, hW⟩
      case round =>
        clear hW eF hlk
        obtain ⟨j, ys, y, n, hj, rfl, hy, hyj, hnj, hW⟩ := hrel
        by_cases hjk : j < K
        · have hj1 : (j : Int) < (K : Int) := by omega
          have hf := next_m gw _ _ _ _ hW (by omega) (by omega)
          have hg := good_le ys hyj
          have hb := bad_le ys hnj
          have hl : ys.tail.length + (j + 1) = F := by rw [List.length_tail]; omega
          clear hW
          obtain ⟨zs, ez⟩ : ∃ zs, zs = ys.tail := ⟨_, rfl⟩
          obtain ⟨y', ey⟩ : ∃ y', y' = goodA ys y := ⟨_, rfl⟩
          obtain ⟨n', en⟩ : ∃ n', n' = badA ys n := ⟨_, rfl⟩
          rw [← ez, ← ey, ← en] at hf
          rw [← ey] at hg
          rw [← en] at hb
          rw [← ez] at hl
          clear ez ey en
          go_wp2_with fail
          refine hf.mono ?_
          rintro e w3 ⟨rfl, hW, _⟩
          clear hf
          go_wp2_with fail
          go_roundw
          case rel => exact ⟨j + 1, zs, y', n', by omega, by go_num, hl, hg, hb, hW⟩
          case measure => simp [intOf]; omega
        · obtain rfl : j = K := by omega
          clear hjk
          have h5 := ahead_m gw _ _ _ _ hW
          have hf := fun W h => feed_m (R := No) (w0 := w) gw true ys y n W h
          obtain ⟨L, eL⟩ : ∃ L, L = ys.length := ⟨_, rfl⟩
          rw [← eL] at hf hy
          unfold RetBools at h5
          rw [← eL] at h5
          have e1 : (F : Int) - (j : Int) = (L : Int) := by omega
          have e2 : ((F : Int) == min (k : Int) 1000) = true := by have := Hx.out; simp; omega
          clear eL hy
          have HW := Lib.hid hW
          clear hW
          by_cases hk2 : k ≤ 1000
          · obtain rfl : F = k := by have := Hx.out; omega
            go_wp2_with fail
            refine h5.mono ?_
            rintro e w5 ⟨A, c, rfl, _, _, _, hb5⟩
            have h6 := hf w5 (HW.out.on hb5)
            have hb := HW.out.below
            replace hb := hb.trans (hb5.mono hb.size)
            clear h5 hf hb5
            by_cases hL : L < 1000
            · rw [decide_eq_true hL] at h6
              have e3 : (L : Int) < 1000 := by omega
              go_wp2_with fail
              refine h6.mono ?_
              rintro e w6 ⟨rfl, hW6, _⟩
              clear h6
              go_wp2_with fail
              go_ret
              exact ⟨rfl, hW6.below⟩
            · rw [decide_eq_false hL] at h6
              have e3 : decide ((L : Int) < 1000) = false := by simp; omega
              go_wp2_with fail
              refine h6.mono ?_
              rintro e w6 ⟨rfl, hW6, _⟩
              clear h6
              go_wp2_with fail
              go_ret
              exact ⟨rfl, hW6.below⟩
          · obtain rfl : F = 1000 := by have := Hx.out; omega
            rw [show (((1000 : Nat)) : Int) = 1000 from rfl] at e1 e2 ⊢
            go_wp2_with fail
            refine h5.mono ?_
            rintro e w5 ⟨A, c, rfl, _, _, _, hb5⟩
            have h6 := hf w5 (HW.out.on hb5)
            have hb := HW.out.below
            replace hb := hb.trans (hb5.mono hb.size)
            clear h5 hf hb5
            by_cases hL : L < 1000
            · rw [decide_eq_true hL] at h6
              have e3 : (L : Int) < 1000 := by omega
              go_wp2_with fail
              refine h6.mono ?_
              rintro e w6 ⟨rfl, hW6, _⟩
              clear h6
              go_wp2_with fail
              go_ret
              exact ⟨rfl, hW6.below⟩
            · rw [decide_eq_false hL] at h6
              have e3 : decide ((L : Int) < 1000) = false := by simp; omega
              go_wp2_with fail
              refine h6.mono ?_
              rintro e w6 ⟨rfl, hW6, _⟩
              clear h6
              go_wp2_with fail
              go_ret
              exact ⟨rfl, hW6.below⟩
end Go.Proofs.Ytdhdacpnlfojeaa
