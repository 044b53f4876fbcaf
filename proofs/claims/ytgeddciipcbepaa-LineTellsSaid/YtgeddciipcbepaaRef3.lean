/- The document's own answers on lines: whether a word is one; a list's word; whether somebody is there; without somebody. -/
import Derived.Test.YtgeddciipcbepaaRef2
namespace Go.Proofs.Ytgeddciipcbepaa
open Go.RowKit
attribute [local go_sem ↓] Go.wp_at_zero Go.wp_at_succ

theorem ret_V {a b : Value} (h : a = b) : Ending.returned a = .returned b := by rw [h]
set_option maxHeartbeats 1000000 in
theorem rof_any (A : Option Addr) (c : Nat) (xs : List Int) (w : World) (hl : xs.length ≤ 1000000) (h : IS w w.heap.size A xs) : Calls Try.prog 15 #[.slice A xs.length c] w fun e w' => e = .returned (ofV xs) ∧ Below w.heap.size w w' := by
  have h1 := can_any A c xs w hl h
  by_cases hO : Ok xs
  · have h2 := fun w' (hb : Below w.heap.size w w') => word_any A c xs w' (h.on hb) hO
    rw [decide_eq_true hO] at h1
    rw [ofV_ok hO]
    clear hO h
    obtain ⟨z, ez⟩ : ∃ z, z = wd xs := ⟨_, rfl⟩
    rw [← ez] at h2 ⊢
    clear ez
    go_enter Try.func15, Try.ntmps15
    go_wp2_with fail
    refine h1.mono ?_
    rintro e w1 ⟨rfl, hB⟩
    have h3 := h2 w1 hB
    clear h2
    go_wp2_with (first | (go_at_call 23; refine h3.mono ?_; rintro e w2 ⟨rfl, hB2⟩))
    go_ret2
    exact ⟨rfl, bstep hB hB2⟩
  · rw [decide_eq_false hO] at h1
    rw [ofV_no hO]
    clear hO h
    go_enter Try.func15, Try.ntmps15
    go_wp2_with fail
    refine h1.mono ?_
    rintro e w1 ⟨rfl, hB⟩
    go_wp2_with fail
    go_ret2
    exact ⟨rfl, hB⟩
theorem rt_of {q : Int} (h : wd (dl 16 q) = q) (hO : Ok (dl 16 q)) : Rt q := by
  have := rt_wd hO
  rwa [h] at this
theorem of_rt {q : Int} (h : Rt q) : dl 16 q = lst q ∧ 0 ≤ q ∧ q < 1152921504606846976 := by
  have h1 := h.1
  have h2 := h.2
  have h3 : dl 16 (wd (lst q)) = lst q := dl_wd 16 _ (Nat.le_succ_of_le h1.len) h1.rng
  have h4 := h1.lo
  have h5 := h1.hi
  rw [h2] at h3 h4 h5
  exact ⟨h3, h4, h5⟩
set_option maxHeartbeats 1000000 in
theorem rright_any (q : Int) (w : World) (h1 : q ≤ 9223372036854775807) : Calls Try.prog 10 #[vI q] w fun e w' => e = .returned (.bool (decide (Rt q))) ∧ Below w.heap.size w w' := by
  by_cases h0 : q < 0
  · have hl := rlist_neg q w h0
    have a0 : decide (0 ≤ q) = false := by simpa using h0
    have hR : ¬ Rt q := fun e => by have := (of_rt e).2.1; omega
    rw [decide_eq_false hR]
    have hn : Ok ([] : List Int) := Ok.nil
    clear hR
    go_enter Try.func10, Try.ntmps10
    go_wp2_with fail
    refine hl.mono ?_
    rintro e w1 ⟨A, c, rfl, hc, hI, hB⟩
    have h2 := can_any A c [] w1 (by simp) hI
    rw [decide_eq_true hn] at h2
    clear hn
    go_wp2_with fail
    refine h2.mono ?_
    rintro e w2 ⟨rfl, hB2⟩
    go_wp2_with fail
    go_ret
    exact ⟨rfl, bstep hB hB2⟩
  · have h0 : 0 ≤ q := by omega
    have hl := rlist_any q w h0 h1
    have hlen := dl_len 16 q
    have a0 : decide (0 ≤ q) = true := by simpa using h0
    by_cases hO : Ok (dl 16 q)
    · have Hr := Lib.hid (show (wd (dl 16 q) == q) = decide (Rt q) by
        by_cases e : wd (dl 16 q) = q
        · rw [decide_eq_true (rt_of e hO)]; simpa using e
        · rw [decide_eq_false (fun k => e (by rw [(of_rt k).1]; exact k.2))]; simpa using e)
      obtain ⟨m, em⟩ : ∃ m, m = dl 16 q := ⟨_, rfl⟩
      rw [← em] at hO hl hlen Hr
      obtain ⟨v, ev⟩ : ∃ v, v = decide (Rt q) := ⟨_, rfl⟩
      rw [← ev] at Hr ⊢
      clear em ev
      have Ho := Lib.hid hO
      clear hO
      go_enter Try.func10, Try.ntmps10
      go_wp2_with fail
      refine hl.mono ?_
      rintro e w1 ⟨A, c, rfl, hc, hI, hB⟩
      have h2 := can_any A c m w1 (by omega) hI
      rw [decide_eq_true Ho.out] at h2
      go_wp2_with fail
      refine h2.mono ?_
      rintro e w2 ⟨rfl, hB2⟩
      have h3 := word_any A c m w2 (hI.on hB2) Ho.out
      obtain ⟨z, ez⟩ : ∃ z, z = wd m := ⟨_, rfl⟩
      rw [← ez] at h3 Hr
      clear ez
      go_wp2_with (first | (go_at_call 23; refine h3.mono ?_; rintro e w3 ⟨rfl, hB3⟩))
      go_ret
      exact ⟨ret_bool (by rw [← Hr.out]), bstep (bstep hB hB2) hB3⟩
    · have hR : ¬ Rt q := fun e => hO (by rw [(of_rt e).1]; exact e.1)
      rw [decide_eq_false hR]
      obtain ⟨m, em⟩ : ∃ m, m = dl 16 q := ⟨_, rfl⟩
      rw [← em] at hO hl hlen
      clear em hR
      have Ho := Lib.hid (decide_eq_false hO)
      clear hO
      go_enter Try.func10, Try.ntmps10
      go_wp2_with fail
      refine hl.mono ?_
      rintro e w1 ⟨A, c, rfl, hc, hI, hB⟩
      have h2 := can_any A c m w1 (by omega) hI
      rw [Ho.out] at h2
      go_wp2_with fail
      refine h2.mono ?_
      rintro e w2 ⟨rfl, hB2⟩
      go_wp2_with fail
      go_ret
      exact ⟨rfl, bstep hB hB2⟩
set_option maxHeartbeats 1000000 in
theorem rhas_any (A : Option Addr) (n c : Nat) (xs : List Int) (x : Int) (w : World) (hn : xs.length = n) (hl : n ≤ 1000000) (h : IS w w.heap.size A xs) : Calls Try.prog 17 #[.slice A n c, vI x] w fun e w' => e = .returned (.bool (decide (x ∈ xs))) ∧ Below w.heap.size w w' := by
  subst hn
  obtain ⟨v, ev⟩ : ∃ v, v = decide (x ∈ xs) := ⟨_, rfl⟩
  rw [← ev]
  have Ev := Lib.hid ev
  clear ev
  go_enter Try.func17, Try.ntmps17
  go_wp2_with fail
  go_loopw [5] (fun i wr => ∃ k : Nat, k ≤ xs.length ∧ i = .int .i64 k ∧ x ∉ xs.take k ∧ Below w.heap.size w wr) (fun i => fun _ => xs.length - (intOf i).toNat)
  case atStart => exact ⟨0, Nat.zero_le _, rfl, by simp, Below.refl _ _⟩
  case round =>
    obtain ⟨k, hk, rfl, hN, hB⟩ := hrel
    have Hn := Lib.hid hN
    clear hN
    by_cases hlt : k < xs.length
    · obtain ⟨y, hy⟩ := num_some hlt
      obtain ⟨b, off, rfl, hb, hd⟩ := h k y hy
      have hc := (hB.cell (p := ⟨b, off + k, none⟩) hb).trans hd
      have hk1 : (k : Int) < (xs.length : Int) := by omega
      have hk0 : (0 : Int) ≤ (k : Int) := Int.natCast_nonneg _
      have Hy := Lib.hid hy
      clear hy hd
      by_cases e : y = x
      · have e1 : (y == x) = true := by simpa using e
        have He := Lib.hid e
        clear e
        go_wp2_with fail
        go_ret
        exact ⟨ret_bool (by rw [Ev.out]; exact (decide_eq_true (He.out ▸ List.mem_of_getElem? Hy.out)).symm), hB⟩
      · have e1 : (y == x) = false := by simpa using e
        have He := Lib.hid e
        clear e
        go_wp2_with fail
        go_roundw
        case rel =>
          refine ⟨k + 1, by omega, by go_num, fun e => ?_, hB⟩
          rw [List.take_add_one, Hy.out] at e
          rcases List.mem_append.1 e with e | e
          · exact Hn.out e
          · simp at e
            exact He.out e.symm
        case measure => simp [intOf]; omega
    · obtain rfl : k = xs.length := by omega
      go_wp2_with fail
      go_ret
      exact ⟨ret_bool (by rw [Ev.out]; exact (decide_eq_false (by have := Hn.out; rwa [List.take_length] at this)).symm), hB⟩
theorem less_take {l : List Int} {k : Nat} {x y : Int} (hy : l[k]? = some y) : less (l.take (k + 1)) x = if y = x then less (l.take k) x else less (l.take k) x ++ [y] := by
  rw [List.take_add_one, hy]
  unfold less
  simp only [Option.toList_some, List.filter_append]
  split
  · rename_i e; simp [e]
  · rename_i e; simp [e]
theorem less_len (l : List Int) (x : Int) : (less l x).length ≤ l.length := List.length_filter_le _ _
set_option maxRecDepth 100000 in
set_option maxHeartbeats 1000000 in
theorem rdrop_mine (A : Option Addr) (n c : Nat) (xs : List Int) (x : Int) (w : World) (hn : xs.length = n) (hl : n ≤ 1000) (h : IS w w.heap.size A xs) : Calls Try.prog 24 #[.slice A n c, vI x] w fun e w' => ∃ v, e = .returned v ∧ Mine w w' v (less xs x) := by
  subst hn
  go_enter Try.func24, Try.ntmps24
  go_wp2_with fail
  go_loopw [5, 6] (fun v i wr => ∃ k : Nat, k ≤ xs.length ∧ i = .int .i64 k ∧ Mine w wr v (less (xs.take k) x)) (fun _ i => fun _ => xs.length - (intOf i).toNat)
  case atStart => exact ⟨0, Nat.zero_le _, rfl, Mine.nil (Below.refl _ _)⟩
  case round =>
    obtain ⟨k, hk, rfl, hM⟩ := hrel
    obtain ⟨A2, c2, rfl⟩ := hM.form
    obtain ⟨n, hn⟩ : ∃ n, (less (xs.take k) x).length = n := ⟨_, rfl⟩
    have hn2 : n ≤ 1000 := by
      rw [← hn]
      have h1 := less_len (xs.take k) x
      rw [List.length_take] at h1
      omega
    rw [hn] at hM ⊢
    have Hn := Lib.hid hn
    clear hn
    by_cases hlt : k < xs.length
    · obtain ⟨y, hy⟩ := num_some hlt
      obtain ⟨b, off, rfl, hb, hd⟩ := h k y hy
      have hc := (hM.below.cell (p := ⟨b, off + k, none⟩) hb).trans hd
      have hk1 : (k : Int) < (xs.length : Int) := by omega
      have hk0 : (0 : Int) ≤ (k : Int) := Int.natCast_nonneg _
      have hlt2 := less_take (x := x) hy
      clear hy hd
      by_cases e : y = x
      · have e1 : (y != x) = false := by simpa using e
        rw [if_pos e] at hlt2
        have Ht := Lib.hid hlt2
        clear e hlt2
        go_wp2_with fail
        go_roundw
        case rel => exact ⟨k + 1, by omega, by go_num, by rw [Ht.out]; exact hM⟩
        case measure => simp [intOf]; omega
      · have e1 : (y != x) = true := by simpa using e
        rw [if_neg e] at hlt2
        have Ht := Lib.hid hlt2
        clear e hlt2
        go_wp2_with (at_builtin; refine hM.app Hn.out (by omega) rfl _ _ rfl rfl _ _ rfl ?_)
        intro A3 c3 w3 hM3
        rw [← Ht.out] at hM3
        go_wp2
        go_roundw
        case rel => exact ⟨k + 1, by omega, by go_num, hM3⟩
        case measure => simp [intOf]; omega
    · obtain rfl : k = xs.length := by omega
      rw [List.take_length] at hM
      go_wp2_with fail
      go_ret
      exact ⟨_, rfl, hM⟩
theorem rdrop_any (A : Option Addr) (n c : Nat) (xs : List Int) (x : Int) (w : World) (hn : xs.length = n) (hl : n ≤ 1000) (h : IS w w.heap.size A xs) : Calls Try.prog 24 #[.slice A n c, vI x] w (RetInts w (less xs x)) := by
  refine (rdrop_mine A n c xs x w hn hl h).mono ?_
  rintro e w' ⟨v, rfl, hM⟩
  obtain ⟨A2, c2, rfl⟩ := hM.form
  exact hM.ret
end Go.Proofs.Ytgeddciipcbepaa
