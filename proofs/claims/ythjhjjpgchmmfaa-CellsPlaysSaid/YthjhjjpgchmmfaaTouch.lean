/- The law CellsTouch, walked. -/
import Derived.Test.YthjhjjpgchmmfaaLast
namespace Go.Proofs.Ythjhjjpgchmmfaa
open Go.RowKit
attribute [local go_sem ↓] Go.wp_at_zero Go.wp_at_succ

theorem St.opS_hit {s : St} {o : OpT} (h : s.has o.i = true) (h0 : 0 ≤ o.k) (h4 : o.k < 4) : (s.opS o).t = s.t + 1 := by
  unfold St.opS
  split
  · rw [St.loadS_in h]
  split
  · rw [St.storeS_in h]; rfl
  split
  · unfold St.casS
    split
    · rfl
    · rw [St.loadS_in h]
  split
  · rw [St.addS_in h]; rfl
  · omega
theorem St.opS_miss {s : St} {o : OpT} (h : s.has o.i = false ∨ 4 ≤ o.k) : (s.opS o).t = s.t := by
  rcases h with h | h
  · unfold St.opS
    rw [St.loadS_out h, St.storeS_out h, St.casS_no (St.casA_out h), St.loadS_out h, St.addS_out h]
    simp
  · unfold St.opS
    rw [if_neg (by omega), if_neg (by omega), if_neg (by omega), if_neg (by omega)]

set_option maxRecDepth 100000 in
set_option maxHeartbeats 1000000 in
theorem touch_long (m : Nat) (A : Option Addr) (n c : Nat) (w : World) (hm : m < 256) (hl : 60 < n) :
    Calls Try.prog 8 #[.int .u8 m, .slice A n c] w (fun e w' => e = .returned (.bool true) ∧ Below w.heap.size w w') := by
  go_enter Try.func8, Try.ntmps8
  go_wp2_with fail
  refine (awake_any _).mono ?_
  rintro e w1 ⟨rfl, hB1⟩
  go_wp2_with fail
  refine (some_any m none 0 0 [] _ hm rfl (by omega) (fun k o hk => by simp at hk)).mono ?_
  rintro e w2 ⟨g, gw, c3, rfl, hg1, hgw1, hM, hB2⟩
  go_wp2_with fail
  go_ret
  exact ⟨rfl, hB1.trans (hB2.mono hB1.size)⟩
set_option maxRecDepth 100000 in
set_option maxHeartbeats 2000000 in
theorem touch_go (m : Nat) (A : Option Addr) (c : Nat) (l : List OpT) (w : World) (hm : m < 256) (hl : l.length ≤ 60) (hO : OS w w.heap.size A l) (hK : ∀ o ∈ l, 0 ≤ o.k) :
    Calls Try.prog 8 #[.int .u8 m, .slice A l.length c] w (fun e w' => e = .returned (.bool true) ∧ Below w.heap.size w w') := by
  go_enter Try.func8, Try.ntmps8
  go_wp2_with fail
  refine (awake_any _).mono ?_
  rintro e w1 ⟨rfl, hB1⟩
  go_wp2_with fail
  refine (some_any m none 0 0 [] _ hm rfl (by omega) (fun k o hk => by simp at hk)).mono ?_
  rintro e w2 ⟨g, gw, c3, rfl, hg1, hgw1, hM, hB2⟩
  have hg : w.heap.size ≤ g := Nat.le_trans hB1.size hg1
  have hgw : w.heap.size ≤ gw := Nat.le_trans hB1.size hgw1
  have hB := hB1.trans (hB2.mono hB1.size)
  clear hg1 hgw1 hB1 hB2
  have hN1 : 1 ≤ manyN m := by unfold manyN; omega
  have hN2 : manyN m ≤ 100 := by unfold manyN; omega
  obtain ⟨N, hN⟩ : ∃ N, N = manyN m := ⟨_, rfl⟩
  rw [← hN] at hM hN1 hN2
  clear hN
  go_wp2_with fail
  go_loopw [7, 8] (fun nn j wr => ∃ (k : Nat), k ≤ l.length ∧ j = .int .i64 k ∧ nn = .int .i64 ((St.new N).run (l.take k)).t ∧ MemAt wr g gw c3 ((St.new N).run (l.take k)) ∧ Below w.heap.size w wr) (fun _ j _ => l.length - (intOf j).toNat)
  case atStart => exact ⟨0, Nat.zero_le _, rfl, rfl, hM, hB⟩
  case round =>
    obtain ⟨k, hk, rfl, rfl, hM2, hB2⟩ := hrel
    clear hM hB
    have ht : ((St.new N).run (l.take k)).t ≤ 60 := newRun_t N _ (by simp; omega)
    have hlen : ((St.new N).run (l.take k)).ws.length = N := by rw [(St.run_len _ _).1]; simp [St.new]
    by_cases hlt : k < l.length
    · obtain ⟨o, ho⟩ := op_some hlt
      have Ho := Lib.hid ho
      have HT := Lib.hid (St.run_take (s := St.new N) ho)
      have hk0 := hK o (List.mem_of_getElem? ho)
      obtain ⟨s5, es5⟩ : ∃ s5, s5 = (St.new N).run (l.take k) := ⟨_, rfl⟩
      rw [← es5] at hM2 HT ht hlen ⊢
      clear es5
      obtain ⟨b, off, rfl, hbl, d1, d2, d3, d4⟩ := (hO.below hB2) k o ho
      clear ho
      have hk1 : (k : Int) < (l.length : Int) := by omega
      go_wp2_with fail
      refine (do_any g gw _ s5 o _ hM2 (by omega)).mono ?_
      rintro e w6 ⟨rfl, hM6, hs6⟩
      have hB6 := Sp.below hB2 hs6 hB2.size hg hgw
      obtain ⟨b', off', hA', _, f1, f2, f3, f4⟩ := (hO.below hB6) k o Ho.out
      injection hA' with hA'
      injection hA' with hA1 hA2
      subst hA1 hA2
      have hlen6 : (s5.opS o).ws.length = N := (s5.opS_len o).1.trans hlen
      have ht6 : (s5.opS o).t < 1000000 := by have := (s5.opS_len o).2.2; omega
      clear d1 d2 d3 d4 hB2 hM2 hs6
      obtain ⟨s6, es6⟩ : ∃ s6, s6 = s5.opS o := ⟨_, rfl⟩
      have HE := Lib.hid es6
      rw [← es6] at hM6 hlen6 ht6
      clear es6
      go_wp2_with fail
      by_cases hi : 0 ≤ o.i
      · by_cases hiN : o.i < N
        · by_cases hk4 : o.k < 4
          · have hh : s5.has o.i = true := by simp [St.has, hi, hlen, hiN]
            have Ht : RowKit.Hid (s6.t = s5.t + 1) := Lib.hid (show s6.t = s5.t + 1 by rw [HE.out]; exact St.opS_hit hh hk0 hk4)
            clear hh
            go_quiet (first | (go_at_call 17; refine Calls.quiet_of_same (many_any g gw c3 s6 _ (hM6.drewN _))))
            go_wp2_with fail
            refine (words_any g gw c3 s6 _ (hM6.drewN _) (by omega) (by omega)).mono ?_
            rintro e w7 ⟨b7, c7, rfl, hb7, hn7, hB7⟩
            have hM7 := (hM6.drewN nq).on hB7
            have hB8 : Below w.heap.size w w7 := (bdrew hB6 nq).trans (hB7.mono (bdrew hB6 nq).size)
            clear hM6 hB6 hB7 hn7
            go_wp2_with fail
            go_roundw
            case rel => exact ⟨k + 1, by omega, by go_num, by rw [HT.out, ← HE.out, Ht.out]; rfl, by rw [HT.out, ← HE.out]; exact hM7, hB8⟩
            case measure => simp [intOf]; omega
          · have Ht : RowKit.Hid (s6.t = s5.t) := Lib.hid (show s6.t = s5.t by rw [HE.out]; exact St.opS_miss (.inr (by omega)))
            go_quiet (first | (go_at_call 17; refine Calls.quiet_of_same (many_any g gw c3 s6 _ (hM6.drewN _))))
            go_wp2_with fail
            refine (words_any g gw c3 s6 _ (hM6.drewN _) (by omega) (by omega)).mono ?_
            rintro e w7 ⟨b7, c7, rfl, hb7, hn7, hB7⟩
            have hM7 := (hM6.drewN nq).on hB7
            have hB8 : Below w.heap.size w w7 := (bdrew hB6 nq).trans (hB7.mono (bdrew hB6 nq).size)
            clear hM6 hB6 hB7 hn7
            go_wp2_with fail
            go_roundw
            case rel => exact ⟨k + 1, by omega, by go_num, by rw [HT.out, ← HE.out, Ht.out], by rw [HT.out, ← HE.out]; exact hM7, hB8⟩
            case measure => simp [intOf]; omega
        · have hh : s5.has o.i = false := by simp [St.has, hi, hlen]; omega
          have Ht : RowKit.Hid (s6.t = s5.t) := Lib.hid (show s6.t = s5.t by rw [HE.out]; exact St.opS_miss (.inl hh))
          clear hh
          go_quiet (first | (go_at_call 17; refine Calls.quiet_of_same (many_any g gw c3 s6 _ (hM6.drewN _))))
          go_wp2_with fail
          refine (words_any g gw c3 s6 _ (hM6.drewN _) (by omega) (by omega)).mono ?_
          rintro e w7 ⟨b7, c7, rfl, hb7, hn7, hB7⟩
          have hM7 := (hM6.drewN nq).on hB7
          have hB8 : Below w.heap.size w w7 := (bdrew hB6 nq).trans (hB7.mono (bdrew hB6 nq).size)
          clear hM6 hB6 hB7 hn7
          go_wp2_with fail
          go_roundw
          case rel => exact ⟨k + 1, by omega, by go_num, by rw [HT.out, ← HE.out, Ht.out], by rw [HT.out, ← HE.out]; exact hM7, hB8⟩
          case measure => simp [intOf]; omega
      · have hh : s5.has o.i = false := by simp [St.has, hi]
        have Ht : RowKit.Hid (s6.t = s5.t) := Lib.hid (show s6.t = s5.t by rw [HE.out]; exact St.opS_miss (.inl hh))
        clear hh
        go_quiet (first | (go_at_call 17; refine Calls.quiet_of_same (many_any g gw c3 s6 _ (hM6.drewN _))))
        go_wp2_with fail
        refine (words_any g gw c3 s6 _ (hM6.drewN _) (by omega) (by omega)).mono ?_
        rintro e w7 ⟨b7, c7, rfl, hb7, hn7, hB7⟩
        have hM7 := (hM6.drewN nq).on hB7
        have hB8 : Below w.heap.size w w7 := (bdrew hB6 nq).trans (hB7.mono (bdrew hB6 nq).size)
        clear hM6 hB6 hB7 hn7
        go_wp2_with fail
        go_roundw
        case rel => exact ⟨k + 1, by omega, by go_num, by rw [HT.out, ← HE.out, Ht.out], by rw [HT.out, ← HE.out]; exact hM7, hB8⟩
        case measure => simp [intOf]; omega
    · obtain rfl : k = l.length := by omega
      rw [List.take_length] at hM2 ht ⊢
      go_wp2_with fail
      refine (touched_any g gw c3 _ _ hM2).mono ?_
      rintro e w7 ⟨rfl, rfl⟩
      go_wp2_with fail
      go_ret
      exact ⟨ret_bool (by simp), hB2⟩
theorem touch_any (m : Int) (A : Option Addr) (n c : Nat) (l : List OpT) (w : World) (hn : l.length = n) (_hc : n ≤ c) (hO : OS w w.heap.size A l) (hK : ∀ o ∈ l, 0 ≤ o.k) (h1 : 0 ≤ m ∧ m ≤ 255) :
    Calls Try.prog 8 #[.int .u8 m, .slice A n c] w (fun e w' => e = .returned (.bool true) ∧ Below w.heap.size w w') := by
  subst hn
  obtain ⟨m, rfl⟩ := Int.eq_ofNat_of_zero_le h1.1
  by_cases hl : 60 < l.length
  · exact touch_long m A _ c w (by omega) hl
  · exact touch_go m A c l w (by omega) (by omega) hO hK
end Go.Proofs.Ythjhjjpgchmmfaa
