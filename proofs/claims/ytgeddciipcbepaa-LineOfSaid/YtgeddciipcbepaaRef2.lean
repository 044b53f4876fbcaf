/- The document's own answers on lines: a line's word; a word's digits; whether somebody is there; without somebody. -/
import Derived.Test.YtgeddciipcbepaaRef
namespace Go.Proofs.Ytgeddciipcbepaa
open Go.RowKit
attribute [local go_sem ↓] Go.wp_at_zero Go.wp_at_succ

theorem wd_take {l : List Int} {k : Nat} {x : Int} (hx : l[k]? = some x) : wd (l.take (k + 1)) = wd (l.take k) + (x + 1) * p16 k := by
  have hk := (List.getElem?_eq_some_iff.1 hx).1
  rw [List.take_add_one, hx]
  simp only [Option.toList_some]
  rw [wd_snoc, List.length_take, Nat.min_eq_left (by omega)]
set_option maxHeartbeats 1000000 in
theorem word_any (A : Option Addr) (c : Nat) (xs : List Int) (w : World) (h : IS w w.heap.size A xs) (hO : Ok xs) : Calls Try.prog 23 #[.slice A xs.length c] w fun e w' => e = .returned (vI (wd xs)) ∧ Below w.heap.size w w' := by
  have hl := hO.len
  have Ho := Lib.hid hO
  clear hO
  go_enter Try.func23, Try.ntmps23
  go_wp2_with fail
  go_loopw [3, 4, 5] (fun n p i wr => ∃ k : Nat, k ≤ xs.length ∧ i = .int .i64 k ∧ n = vI (wd (xs.take k)) ∧ p = vI (p16 k) ∧ Below w.heap.size w wr) (fun _ _ i => fun _ => xs.length - (intOf i).toNat)
  case atStart => exact ⟨0, Nat.zero_le _, rfl, rfl, rfl, Below.refl _ _⟩
  case round =>
    obtain ⟨k, hk, rfl, rfl, rfl, hB⟩ := hrel
    by_cases hlt : k < xs.length
    · obtain ⟨x, hx⟩ := num_some hlt
      obtain ⟨b, off, rfl, hb, hd⟩ := h k x hx
      have hc := (hB.cell (p := ⟨b, off + k, none⟩) hb).trans hd
      have hk1 : (k : Int) < (xs.length : Int) := by omega
      have hk0 : (0 : Int) ≤ (k : Int) := Int.natCast_nonneg _
      have hr := Ho.out.rng x (List.mem_of_getElem? hx)
      have hp1 := p16_pos k
      have hp2 := p16_le (show k ≤ 14 by omega)
      rw [show p16 14 = 72057594037927936 by decide] at hp2
      have ho1 := (Ho.out.sub (List.take_sublist k xs)).lo
      have ho2 := (Ho.out.sub (List.take_sublist k xs)).hi
      have ho3 := (Ho.out.sub (List.take_sublist (k + 1) xs)).hi
      have hw := wd_take hx
      have hm := Int.mul_nonneg (show 0 ≤ x + 1 by omega) (Int.le_of_lt hp1)
      obtain ⟨p, hp⟩ : ∃ p, p = p16 k := ⟨_, rfl⟩
      obtain ⟨n, hn⟩ : ∃ n, n = wd (xs.take k) := ⟨_, rfl⟩
      obtain ⟨m, hm2⟩ : ∃ m, m = wd (xs.take (k + 1)) := ⟨_, rfl⟩
      rw [← hp] at hp1 hp2 hw hm ⊢
      rw [← hn] at ho1 ho2 hw ⊢
      rw [← hm2] at ho3 hw
      have hm3 : (x + 1) * p ≤ 9223372036854775807 := by omega
      have Hw := Lib.hid hw
      have Hm := Lib.hid hm2
      have Hp := Lib.hid hp
      have hm4 : n + (x + 1) * p ≤ 9223372036854775807 := by omega
      have e1 : wrap64 ((x + 1) * p) = (x + 1) * p := by unfold wrap64; omega
      have e2 : wrap64 (n + (x + 1) * p) = n + (x + 1) * p := by unfold wrap64; omega
      have e3 : wrap64 (p * 16) = p * 16 := by unfold wrap64; omega
      clear hx hd hw hm2 hp hn
      go_wp2_with fail
      go_roundw
      case rel =>
        refine ⟨k + 1, by omega, by go_num, ?_, ?_, hB⟩
        · rw [← Hm.out, Hw.out]
        · rw [p16_succ, ← Hp.out, Int.mul_comm]
      case measure => simp [intOf]; omega
    · obtain rfl : k = xs.length := by omega
      rw [List.take_length]
      go_wp2_with fail
      go_ret
      exact ⟨rfl, hB⟩
set_option maxHeartbeats 1000000 in
theorem rlist_any (q : Int) (w : World) (h0 : 0 ≤ q) (h1 : q ≤ 9223372036854775807) : Calls Try.prog 12 #[vI q] w (RetInts w (dl 16 q)) := by
  go_enter Try.func12, Try.ntmps12
  go_wp2_with fail
  go_loopw [0, 3] (fun z v wr => ∃ k : Nat, k ≤ (dl 16 q).length ∧ z = .int .i64 (q / p16 k) ∧ Mine w wr v ((dl 16 q).take k)) (fun z _ => fun _ => (intOf z).toNat)
  case atStart => exact ⟨0, Nat.zero_le _, by rw [p16_zero, Int.ediv_one], Mine.nil (Below.refl _ _)⟩
  case round =>
    obtain ⟨k, hk, rfl, hM⟩ := hrel
    obtain ⟨A, c, rfl⟩ := hM.form
    have hp := p16_pos k
    have z0 : 0 ≤ q / p16 k := Int.ediv_nonneg h0 (Int.le_of_lt hp)
    have z1 : q / p16 k ≤ 9223372036854775807 := Int.le_trans (Int.ediv_le_self _ h0) h1
    have hk16 := dl_len 16 q
    have He := Lib.hid (fun h => dl_end (n := 16) hk h)
    have Ha := Lib.hid (fun (hz : 0 < q / p16 k) (h : dg q k ≠ 0) => dl_at hk (show k < 16 from Nat.lt_of_le_of_ne (Nat.le_trans hk hk16) (fun e => by
      rw [e, show p16 16 = 18446744073709551616 by decide] at hz
      omega)) h)
    have Hs := Lib.hid (show q / p16 k / 16 = q / p16 (k + 1) by rw [p16_succ, Int.mul_comm, ← Int.ediv_ediv_of_nonneg (by omega)])
    have Hd := Lib.hid (show dg q k = q / p16 k % 16 from rfl)
    have hkl : ((dl 16 q).take k).length = k := by rw [List.length_take]; omega
    rw [hkl] at hM ⊢
    have Hkl := Lib.hid hkl
    obtain ⟨z, ez⟩ : ∃ z, z = q / p16 k := ⟨_, rfl⟩
    rw [← ez] at z0 z1 Ha Hs Hd ⊢
    clear hkl ez hp
    have hk16 : k ≤ 16 := Nat.le_trans hk hk16
    have Hk := Lib.hid hk
    clear hk
    by_cases hz : 0 < z
    · by_cases hd : 0 < z % 16
      · have hx := Ha.out hz (by rw [Hd.out]; omega)
        rw [Hd.out] at hx
        have Hx := Lib.hid hx
        clear hx
        have a0 : decide (0 < z) = true := by simpa using hz
        have a1 : decide (0 < z % 16) = true := by simpa using hd
        have a2 : decide (0 < z.tmod 16) = true := by rw [Int.tmod_eq_emod_of_nonneg z0]; exact a1
        go_wp2_with (at_builtin; refine hM.app Hkl.out (by omega) rfl _ _ rfl rfl _ _ rfl ?_)
        intro A2 c2 w2 hM2
        rw [← take_snoc Hx.out] at hM2
        go_wp2
        go_roundw
        case rel => exact ⟨k + 1, (List.getElem?_eq_some_iff.1 Hx.out).1, by rw [← Hs.out], hM2⟩
        case measure => simp [intOf]; omega
      · have hx := He.out (by rw [Hd.out]; omega)
        have Hx := Lib.hid hx
        clear hx
        have a0 : decide (0 < z) = true := by simpa using hz
        have a1 : decide (0 < z % 16) = false := by simpa using hd
        rw [← Hx.out, List.take_length] at hM
        have hl16 := Hx.out ▸ hk16
        go_wp2_with fail
        go_ret
        have := hM.ret
        rw [← Hx.out]
        exact this
    · have hx := He.out (by rw [Hd.out]; omega)
      have Hx := Lib.hid hx
      clear hx
      have a0 : decide (0 < z) = false := by simpa using hz
      rw [← Hx.out, List.take_length] at hM
      go_wp2_with fail
      go_ret
      have := hM.ret
      rw [← Hx.out]
      exact this
theorem rlist_neg (q : Int) (w : World) (h : q < 0) : Calls Try.prog 12 #[vI q] w (RetInts w []) := by
  have a0 : decide (0 < q) = false := by simpa using (show q ≤ 0 by omega)
  go_enter Try.func12, Try.ntmps12
  go_wp2_with fail
  go_loopw [0, 3] (fun z v wr => z = .int .i64 q ∧ Mine w wr v []) (fun _ _ => fun _ => 0)
  case atStart => exact ⟨rfl, Mine.nil (Below.refl _ _)⟩
  case round =>
    obtain ⟨rfl, hM⟩ := hrel
    obtain ⟨A, c, rfl⟩ := hM.form
    go_wp2_with fail
    go_ret
    exact hM.ret
end Go.Proofs.Ytgeddciipcbepaa
