/- PinTurns: the law answers true, whatever the words, the epoch, the turn, how much later; nothing that was there changes. -/
import Derived.Test.YtfddeiodihhblaaMine
namespace Go.Proofs.Ytfddeiodihhblaa
open Go.RowKit
attribute [local go_sem ↓] Go.wp_at_zero Go.wp_at_succ

/-- the words turned by u, the first k -/
def turned (l : List Int) (u : Int) (k : Nat) : List Int := (List.range k).map fun (i : Nat) => l.getD (((i : Int) + u) % (l.length : Int)).toNat 0
theorem turned_len (l : List Int) (u : Int) (k : Nat) : (turned l u k).length = k := by simp [turned]
theorem turned_place {l : List Int} {u : Int} (hl : l.length ≠ 0) (i : Nat) : ∃ j : Nat, ((i : Int) + u) % (l.length : Int) = j ∧ j < l.length := by
  have h1 := Int.emod_nonneg ((i : Int) + u) (show (l.length : Int) ≠ 0 by omega)
  have h2 := Int.emod_lt_of_pos ((i : Int) + u) (show (0 : Int) < l.length by omega)
  exact ⟨(((i : Int) + u) % (l.length : Int)).toNat, by omega, by omega⟩
theorem turned_step {l : List Int} {u : Int} {k j : Nat} {x : Int} (hj : ((k : Int) + u) % (l.length : Int) = j) (hx : l[j]? = some x) : turned l u (k + 1) = turned l u k ++ [x] := by
  unfold turned
  rw [List.range_succ, List.map_append, List.map_cons, List.map_nil, hj, Int.toNat_natCast, List.getD_eq_getElem?_getD, hx]
  rfl
theorem turned_mem {l : List Int} {u : Int} (hl : l.length ≠ 0) (x : Int) : x ∈ turned l u l.length ↔ x ∈ l := by
  unfold turned
  rw [List.mem_map]
  constructor
  · rintro ⟨i, _, rfl⟩
    obtain ⟨j, h1, h2⟩ := turned_place (u := u) hl i
    rw [h1, Int.toNat_natCast, List.getD_eq_getElem?_getD, List.getElem?_eq_getElem h2]
    exact List.getElem_mem h2
  · intro hx
    obtain ⟨j, hj⟩ := List.mem_iff_getElem?.1 hx
    have hj2 := (List.getElem?_eq_some_iff.1 hj).1
    have h1 := Int.emod_nonneg ((j : Int) - u) (show (l.length : Int) ≠ 0 by omega)
    have h2 := Int.emod_lt_of_pos ((j : Int) - u) (show (0 : Int) < l.length by omega)
    refine ⟨(((j : Int) - u) % (l.length : Int)).toNat, by rw [List.mem_range]; omega, ?_⟩
    rw [Int.toNat_of_nonneg h1, Int.emod_add_emod, Int.sub_add_cancel, Int.emod_eq_of_lt (by omega) (by omega), Int.toNat_natCast, List.getD_eq_getElem?_getD, hj]
    rfl
theorem rng_turned {l : List Int} {u : Int} (hR : Rng l) (hl : l.length ≠ 0) : Rng (turned l u l.length) := fun x hx => hR x ((turned_mem hl x).1 hx)
theorem lw_turned {l : List Int} {u : Int} (hR : Rng l) (hl : l.length ≠ 0) : lw (turned l u l.length) = lw l := lw_eq (rng_turned hR hl) ((lw_is hR).same (turned_mem hl))
theorem free_turned {l : List Int} {u e : Int} (hR : Rng l) (hl : l.length ≠ 0) : freeB (turned l u l.length) (-1) e = freeB l (-1) e := by
  rw [free_lw (lw_is (rng_turned hR hl)), lw_turned hR hl, free_lw (lw_is hR)]
/-- one more, at a later epoch than the least one -/
theorem rng_more {l : List Int} {z : Int} (hR : Rng l) (hz : Wd z) : Rng (l ++ [z]) := fun x hx => by
  rcases List.mem_append.1 hx with h | h
  · exact hR x h
  · simp at h; subst h; exact hz
theorem lw_more {l : List Int} {z : Int} (hR : Rng l) (hz : Wd z) (h0 : lw l ≠ 0) (hle : lw l ≤ z) : lw (l ++ [z]) = lw l := by
  have h := lw_is hR
  refine lw_eq (rng_more hR hz) ⟨fun e => absurd e h0, fun e => ⟨by simp [(h.pos e).1], (h.pos e).2⟩, fun e x hx hx0 => ?_⟩
  rcases List.mem_append.1 hx with h1 | h1
  · exact h.le e x h1 hx0
  · simp at h1; subst h1; exact hle
theorem free_last {l : List Int} {z e : Int} : freeB (l ++ [z]) l.length e = freeB l (-1) e := by
  rw [Bool.eq_iff_iff, free_true, free_true]
  constructor
  · intro h k x hk hb
    have h1 := (List.getElem?_eq_some_iff.1 hk).1
    have := h k x (by rw [List.getElem?_append_left h1]; exact hk) hb
    omega
  · intro h k x hk hb
    by_cases hkl : k < l.length
    · rw [List.getElem?_append_left hkl] at hk
      have := h k x hk hb
      omega
    · have h1 := (List.getElem?_eq_some_iff.1 hk).1
      simp at h1
      omega
theorem free_more {l : List Int} {z e : Int} (hR : Rng l) (hz : Wd z) (h0 : lw l ≠ 0) (hle : lw l ≤ z) (he : e < lw l - 1) : freeB (l ++ [z]) (-1) e = true := by
  rw [free_lw (lw_is (rng_more hR hz)), lw_more hR hz h0 hle]
  exact decide_eq_true (.inr he)
/-- turned round they are the same words -/
structure Same (l T : List Int) (e : Int) : Prop where
  len : T.length = l.length
  rng : Rng T
  lw : lw T = lw l
  free : freeB T (-1) e = freeB l (-1) e
theorem same_turned {l : List Int} (u e : Int) (hR : Rng l) : Same l (turned l u l.length) e := by
  by_cases hl : l.length = 0
  · obtain rfl := List.eq_nil_of_length_eq_zero hl
    exact ⟨rfl, hR, rfl, rfl⟩
  · exact ⟨turned_len l u _, rng_turned hR hl, lw_turned hR hl, free_turned hR hl⟩
set_option maxRecDepth 100000 in
set_option maxHeartbeats 8000000 in
theorem lturns_any (A : Option Addr) (n c : Nat) (l : List Int) (e u y : Int) (w : World) (hl : l.length = n) (hn : n ≤ 9223372036854775807) (u0 : 0 ≤ u) (u1 : u ≤ 255) (y0 : 0 ≤ y) (y1 : y ≤ 255) (hI : IS w w.heap.size A l) :
    Calls Try.prog 6 #[.slice A n c, vI e, .int .u8 u, .int .u8 y] w fun r w' => r = .returned (.bool true) ∧ Below w.heap.size w w' := by
  subst hl
  go_enter Try.func6, Try.ntmps6
  go_wp2_with fail
  refine (awake_any w).mono ?_
  rintro r w1 ⟨rfl, hB⟩
  replace hI := hI.on hB
  go_wp2_with fail
  refine (few_any A c l w1 hI hn).mono ?_
  rintro r w2 ⟨⟨q, rfl, hq⟩, rfl⟩
  have Hq := Lib.hid hq
  clear hq
  cases q with
  | false =>
    go_wp2_with fail
    go_ret
    exact ⟨rfl, hB⟩
  | true =>
    have hR := (Hq.out rfl).1
    have hlen := (Hq.out rfl).2
    have hlen2 : l.length ≤ 1000000 := by omega
    clear Hq hn
    by_cases h1 : e < 0
    · have d1 : decide (e < 0) = true := by simpa using h1
      go_wp2_with fail
      go_ret
      exact ⟨rfl, hB⟩
    have d1 : decide (e < 0) = false := by simpa using h1
    by_cases h2 : 1099511627776 < e
    · have d2 : decide (1099511627776 < e) = true := by simpa using h2
      go_wp2_with fail
      go_ret
      exact ⟨rfl, hB⟩
    have d2 : decide (1099511627776 < e) = false := by simpa using h2
    go_wp2_with fail
    clear d1 d2
    go_loopw [11, 12] (fun v i wr => ∃ (k : Nat) (A7 : Option Addr) (c7 : Nat), k ≤ l.length ∧ i = .int .i64 k ∧ v = .slice A7 k c7 ∧ Mine w1 wr (.slice A7 k c7) (turned l u k)) (fun _ i => fun _ => l.length - (intOf i).toNat)
    case atStart => exact ⟨0, none, 0, Nat.zero_le _, rfl, rfl, Mine.nil (Below.refl _ _)⟩
    case round =>
      obtain ⟨k, A7, c7, hk, rfl, rfl, hM⟩ := hrel
      by_cases hlt : k < l.length
      · obtain ⟨j, hj, hj2⟩ := turned_place (u := u) (show l.length ≠ 0 by omega) k
        obtain ⟨x, hx⟩ := num_some hj2
        obtain ⟨b, off, rfl, hb, hd⟩ := hI j x hx
        have hd1 := (hM.below.cell (p := ⟨b, off + j, none⟩) hb).trans hd
        have hk1 : (k : Int) < (l.length : Int) := by omega
        have hj3 : (j : Int) < (l.length : Int) := by omega
        have Ht := Lib.hid (turned_step hj hx)
        clear hx hd
        go_wp2_with (at_builtin; refine hM.app (turned_len l u k) (by omega) rfl _ _ rfl rfl _ _ rfl ?_)
        intro A8 c8 w8 hM8
        rw [← Ht.out] at hM8
        go_wp2_with fail
        go_roundw
        case rel => exact ⟨k + 1, A8, c8, by omega, by go_num, rfl, hM8⟩
        case measure => simp [intOf]; omega
      · obtain rfl : k = l.length := by omega
        have hS := same_turned u e hR
        obtain ⟨T, eT⟩ : ∃ T, T = turned l u l.length := ⟨_, rfl⟩
        rw [← eT] at hM hS
        clear eT
        obtain ⟨s1, s2, s3, s4⟩ := hS
        obtain ⟨_, hI7, hB7, _⟩ := hM.inv
        replace hB := bstep hB hB7
        replace hI := hI.on hB7
        clear hM hB7
        have hls := fun w => least_any A c l w
        have hlt := fun w => least_any A7 c7 T w
        have hfe := fun w => free_any A c l (-1) e w
        have hft := fun w => free_any A7 c7 T (-1) e w
        rw [s1, s3] at hlt
        rw [s1, s4] at hft
        clear s3 s4 s1
        have hmo := fun z h1 h2 h3 => lw_more (l := l) (z := z) hR h1 h2 h3
        have hmf := fun z h1 h2 h3 h4 => free_more (l := l) (z := z) (e := e) hR h1 h2 h3 h4
        have hm0 := (lw_is hR).zero
        have hmp := (lw_is hR).pos
        have hmw := lw_wd hR
        obtain ⟨m, em⟩ : ∃ m, lw l = m := ⟨_, rfl⟩
        obtain ⟨fe, ef⟩ : ∃ f, freeB l (-1) e = f := ⟨_, rfl⟩
        rw [em] at hls hlt hmo hmf hm0 hmp hmw
        rw [ef] at hfe hft
        have hfl := fun z => free_last (l := l) (z := z) (e := e)
        rw [ef] at hfl
        clear em ef
        by_cases h0 : m = 0
        · subst h0
          rw [epN_zero, epB_zero] at hls hlt
          clear hmo hmf hfl hm0 hmp hmw
          cases fe with
          | false =>
            go_wp2_with fail
            refine (hls _ hI hR hlen2).mono ?_
            rintro r v ⟨rfl, hB3⟩
            replace hB := bstep hB hB3
            replace hI := hI.on hB3
            replace hI7 := hI7.on hB3
            clear hB3
            go_wp2_with fail
            refine (hlt _ hI7 s2 hlen2).mono ?_
            rintro r v ⟨rfl, hB3⟩
            replace hB := bstep hB hB3
            replace hI := hI.on hB3
            replace hI7 := hI7.on hB3
            clear hB3
            go_wp2_with fail
            refine (hft _ hI7 s2 hlen2).mono ?_
            rintro r v ⟨rfl, hB3⟩
            replace hB := bstep hB hB3
            replace hI := hI.on hB3
            replace hI7 := hI7.on hB3
            clear hB3
            go_wp2_with fail
            refine (hfe _ hI hR hlen2).mono ?_
            rintro r v ⟨rfl, hB3⟩
            replace hB := bstep hB hB3
            replace hI := hI.on hB3
            clear hB3
            go_wp2_with fail
            go_ret
            exact ⟨rfl, hB⟩
          | true =>
            go_wp2_with fail
            refine (hls _ hI hR hlen2).mono ?_
            rintro r v ⟨rfl, hB3⟩
            replace hB := bstep hB hB3
            replace hI := hI.on hB3
            replace hI7 := hI7.on hB3
            clear hB3
            go_wp2_with fail
            refine (hlt _ hI7 s2 hlen2).mono ?_
            rintro r v ⟨rfl, hB3⟩
            replace hB := bstep hB hB3
            replace hI := hI.on hB3
            replace hI7 := hI7.on hB3
            clear hB3
            go_wp2_with fail
            refine (hft _ hI7 s2 hlen2).mono ?_
            rintro r v ⟨rfl, hB3⟩
            replace hB := bstep hB hB3
            replace hI := hI.on hB3
            replace hI7 := hI7.on hB3
            clear hB3
            go_wp2_with fail
            refine (hfe _ hI hR hlen2).mono ?_
            rintro r v ⟨rfl, hB3⟩
            replace hB := bstep hB hB3
            replace hI := hI.on hB3
            clear hB3
            go_wp2_with fail
            go_ret
            exact ⟨rfl, hB⟩
        · rw [epN_pos h0, epB_pos h0] at hls hlt
          obtain ⟨hml, hm1⟩ := hmp h0
          obtain ⟨i0, hi0⟩ := List.mem_iff_getElem?.1 hml
          obtain ⟨b, off, rfl, _, _⟩ := hI i0 m hi0
          have ln := (List.getElem?_eq_some_iff.1 hi0).1
          clear hm0 hmp hml hi0
          obtain ⟨a, ea⟩ : ∃ a, a = m - 1 := ⟨_, rfl⟩
          rw [← ea] at hls hlt hmf
          have haa : (a != a) = false := by simp
          have haa2 : (a == a) = true := by simp
          by_cases hbig : 1099511627476 < a
          · have d3 : decide (1099511627476 < a) = true := by simpa using hbig
            clear hmo hmf hfl
            cases fe with
            | false =>
              go_wp2_with fail
              refine (hls _ hI hR hlen2).mono ?_
              rintro r v ⟨rfl, hB3⟩
              replace hB := bstep hB hB3
              replace hI := hI.on hB3
              replace hI7 := hI7.on hB3
              clear hB3
              go_wp2_with fail
              refine (hlt _ hI7 s2 hlen2).mono ?_
              rintro r v ⟨rfl, hB3⟩
              replace hB := bstep hB hB3
              replace hI := hI.on hB3
              replace hI7 := hI7.on hB3
              clear hB3
              go_wp2_with fail
              refine (hft _ hI7 s2 hlen2).mono ?_
              rintro r v ⟨rfl, hB3⟩
              replace hB := bstep hB hB3
              replace hI := hI.on hB3
              replace hI7 := hI7.on hB3
              clear hB3
              go_wp2_with fail
              refine (hfe _ hI hR hlen2).mono ?_
              rintro r v ⟨rfl, hB3⟩
              replace hB := bstep hB hB3
              replace hI := hI.on hB3
              clear hB3
              go_wp2_with fail
              go_ret
              exact ⟨rfl, hB⟩
            | true =>
              go_wp2_with fail
              refine (hls _ hI hR hlen2).mono ?_
              rintro r v ⟨rfl, hB3⟩
              replace hB := bstep hB hB3
              replace hI := hI.on hB3
              replace hI7 := hI7.on hB3
              clear hB3
              go_wp2_with fail
              refine (hlt _ hI7 s2 hlen2).mono ?_
              rintro r v ⟨rfl, hB3⟩
              replace hB := bstep hB hB3
              replace hI := hI.on hB3
              replace hI7 := hI7.on hB3
              clear hB3
              go_wp2_with fail
              refine (hft _ hI7 s2 hlen2).mono ?_
              rintro r v ⟨rfl, hB3⟩
              replace hB := bstep hB hB3
              replace hI := hI.on hB3
              replace hI7 := hI7.on hB3
              clear hB3
              go_wp2_with fail
              refine (hfe _ hI hR hlen2).mono ?_
              rintro r v ⟨rfl, hB3⟩
              replace hB := bstep hB hB3
              replace hI := hI.on hB3
              clear hB3
              go_wp2_with fail
              go_ret
              exact ⟨rfl, hB⟩
          have d3 : decide (1099511627476 < a) = false := by simpa using hbig
          have hzw : Wd (m + y) := ⟨by omega, by omega⟩
          have hz := hmo (m + y) hzw h0 (by omega)
          have hz2 := hfl (m + y)
          have hz3 := fun h => hmf (m + y) hzw h0 (by omega) h
          have hRm := rng_more hR hzw
          have hwo := fun w => word_any (a + y) w (by omega) (by omega)
          rw [show a + y + 1 = m + y by omega] at hwo
          have hlm := fun A c w => least_any A c (l ++ [m + y]) w
          rw [hz, epN_pos h0, epB_pos h0, ← ea] at hlm
          have hfm := fun A c w => free_any A c (l ++ [m + y]) l.length e w
          rw [hz2] at hfm
          have hfm2 := fun A c w => free_any A c (l ++ [m + y]) (-1) e w
          have hll : (l ++ [m + y]).length = l.length + 1 := by simp
          rw [hll] at hlm hfm hfm2
          clear hmo hmf hfl hz hz2 hll
          have hay0 : 0 ≤ a := by omega
          have hay1 : a ≤ 1099511627476 := by omega
          obtain ⟨z, ez⟩ : ∃ z, z = m + y := ⟨_, rfl⟩
          rw [← ez] at hlm hfm hfm2 hRm hwo hz3
          have hl3 : l.length + 1 ≤ 1000000 := by omega
          clear ez ea hzw
          by_cases hea : e < a
          · rw [hz3 hea] at hfm2
            have d4 : decide (a ≤ e) = false := decide_eq_false (by omega)
            clear hz3
            cases fe with
            | false =>
              go_wp2_with fail
              refine (hls _ hI hR hlen2).mono ?_
              rintro r v ⟨rfl, hB3⟩
              replace hB := bstep hB hB3
              replace hI := hI.on hB3
              replace hI7 := hI7.on hB3
              clear hB3
              go_wp2_with fail
              refine (hlt _ hI7 s2 hlen2).mono ?_
              rintro r v ⟨rfl, hB3⟩
              replace hB := bstep hB hB3
              replace hI := hI.on hB3
              replace hI7 := hI7.on hB3
              clear hB3
              go_wp2_with fail
              refine (hft _ hI7 s2 hlen2).mono ?_
              rintro r v ⟨rfl, hB3⟩
              replace hB := bstep hB hB3
              replace hI := hI.on hB3
              replace hI7 := hI7.on hB3
              clear hB3
              go_wp2_with fail
              refine (hfe _ hI hR hlen2).mono ?_
              rintro r v ⟨rfl, hB3⟩
              replace hB := bstep hB hB3
              replace hI := hI.on hB3
              clear hB3
              clear hls hlt hft hI7
              go_wp2_with (at_builtin; refine (mine_empty v).appAll (n := 0) (m := l.length) rfl (by omega) (Nat.zero_add l.length) rfl _ _ rfl rfl l rfl b off c rfl (fun k y hy => ((hI.on (bnew v _)).at hy).2) (List.nil_append l) ?_)
              intro A9 c9 w9 hM9
              go_wp2_with fail
              refine (hwo _).mono ?_
              rintro r w10 ⟨rfl, rfl⟩
              go_wp2_with (at_builtin; refine hM9.app rfl (by omega) rfl _ _ rfl rfl _ _ rfl ?_)
              intro A8 c8 w8 hM8
              obtain ⟨_, hI8, hB8, _⟩ := hM8.inv
              replace hB := bstep hB hB8
              replace hI := hI.on hB8
              clear hM8 hM9 hB8
              go_wp2_with fail
              refine (hlm _ _ _ hI8 hRm (by simpa using hl3)).mono ?_
              rintro r v ⟨rfl, hB3⟩
              replace hB := bstep hB hB3
              replace hI := hI.on hB3
              replace hI8 := hI8.on hB3
              clear hB3
              go_wp2_with fail
              refine (hfm _ _ _ hI8 hRm (by simpa using hl3)).mono ?_
              rintro r v ⟨rfl, hB3⟩
              replace hB := bstep hB hB3
              replace hI := hI.on hB3
              replace hI8 := hI8.on hB3
              clear hB3
              go_wp2_with fail
              refine (hfe _ hI hR hlen2).mono ?_
              rintro r v ⟨rfl, hB3⟩
              replace hB := bstep hB hB3
              replace hI := hI.on hB3
              replace hI8 := hI8.on hB3
              clear hB3
              go_wp2_with fail
              refine (hfm2 _ _ _ hI8 hRm (by simpa using hl3)).mono ?_
              rintro r v ⟨rfl, hB3⟩
              replace hB := bstep hB hB3
              clear hB3
              go_wp2_with fail
              go_ret
              exact ⟨rfl, hB⟩
            | true =>
              go_wp2_with fail
              refine (hls _ hI hR hlen2).mono ?_
              rintro r v ⟨rfl, hB3⟩
              replace hB := bstep hB hB3
              replace hI := hI.on hB3
              replace hI7 := hI7.on hB3
              clear hB3
              go_wp2_with fail
              refine (hlt _ hI7 s2 hlen2).mono ?_
              rintro r v ⟨rfl, hB3⟩
              replace hB := bstep hB hB3
              replace hI := hI.on hB3
              replace hI7 := hI7.on hB3
              clear hB3
              go_wp2_with fail
              refine (hft _ hI7 s2 hlen2).mono ?_
              rintro r v ⟨rfl, hB3⟩
              replace hB := bstep hB hB3
              replace hI := hI.on hB3
              replace hI7 := hI7.on hB3
              clear hB3
              go_wp2_with fail
              refine (hfe _ hI hR hlen2).mono ?_
              rintro r v ⟨rfl, hB3⟩
              replace hB := bstep hB hB3
              replace hI := hI.on hB3
              clear hB3
              clear hls hlt hft hI7
              go_wp2_with (at_builtin; refine (mine_empty v).appAll (n := 0) (m := l.length) rfl (by omega) (Nat.zero_add l.length) rfl _ _ rfl rfl l rfl b off c rfl (fun k y hy => ((hI.on (bnew v _)).at hy).2) (List.nil_append l) ?_)
              intro A9 c9 w9 hM9
              go_wp2_with fail
              refine (hwo _).mono ?_
              rintro r w10 ⟨rfl, rfl⟩
              go_wp2_with (at_builtin; refine hM9.app rfl (by omega) rfl _ _ rfl rfl _ _ rfl ?_)
              intro A8 c8 w8 hM8
              obtain ⟨_, hI8, hB8, _⟩ := hM8.inv
              replace hB := bstep hB hB8
              replace hI := hI.on hB8
              clear hM8 hM9 hB8
              go_wp2_with fail
              refine (hlm _ _ _ hI8 hRm (by simpa using hl3)).mono ?_
              rintro r v ⟨rfl, hB3⟩
              replace hB := bstep hB hB3
              replace hI := hI.on hB3
              replace hI8 := hI8.on hB3
              clear hB3
              go_wp2_with fail
              refine (hfm _ _ _ hI8 hRm (by simpa using hl3)).mono ?_
              rintro r v ⟨rfl, hB3⟩
              replace hB := bstep hB hB3
              replace hI := hI.on hB3
              replace hI8 := hI8.on hB3
              clear hB3
              go_wp2_with fail
              refine (hfe _ hI hR hlen2).mono ?_
              rintro r v ⟨rfl, hB3⟩
              replace hB := bstep hB hB3
              replace hI := hI.on hB3
              replace hI8 := hI8.on hB3
              clear hB3
              go_wp2_with fail
              refine (hfm2 _ _ _ hI8 hRm (by simpa using hl3)).mono ?_
              rintro r v ⟨rfl, hB3⟩
              replace hB := bstep hB hB3
              clear hB3
              go_wp2_with fail
              go_ret
              exact ⟨rfl, hB⟩
          · have d4 : decide (a ≤ e) = true := decide_eq_true (by omega)
            clear hz3 hfm2
            cases fe with
            | false =>
              go_wp2_with fail
              refine (hls _ hI hR hlen2).mono ?_
              rintro r v ⟨rfl, hB3⟩
              replace hB := bstep hB hB3
              replace hI := hI.on hB3
              replace hI7 := hI7.on hB3
              clear hB3
              go_wp2_with fail
              refine (hlt _ hI7 s2 hlen2).mono ?_
              rintro r v ⟨rfl, hB3⟩
              replace hB := bstep hB hB3
              replace hI := hI.on hB3
              replace hI7 := hI7.on hB3
              clear hB3
              go_wp2_with fail
              refine (hft _ hI7 s2 hlen2).mono ?_
              rintro r v ⟨rfl, hB3⟩
              replace hB := bstep hB hB3
              replace hI := hI.on hB3
              replace hI7 := hI7.on hB3
              clear hB3
              go_wp2_with fail
              refine (hfe _ hI hR hlen2).mono ?_
              rintro r v ⟨rfl, hB3⟩
              replace hB := bstep hB hB3
              replace hI := hI.on hB3
              clear hB3
              clear hls hlt hft hI7
              go_wp2_with (at_builtin; refine (mine_empty v).appAll (n := 0) (m := l.length) rfl (by omega) (Nat.zero_add l.length) rfl _ _ rfl rfl l rfl b off c rfl (fun k y hy => ((hI.on (bnew v _)).at hy).2) (List.nil_append l) ?_)
              intro A9 c9 w9 hM9
              go_wp2_with fail
              refine (hwo _).mono ?_
              rintro r w10 ⟨rfl, rfl⟩
              go_wp2_with (at_builtin; refine hM9.app rfl (by omega) rfl _ _ rfl rfl _ _ rfl ?_)
              intro A8 c8 w8 hM8
              obtain ⟨_, hI8, hB8, _⟩ := hM8.inv
              replace hB := bstep hB hB8
              replace hI := hI.on hB8
              clear hM8 hM9 hB8
              go_wp2_with fail
              refine (hlm _ _ _ hI8 hRm (by simpa using hl3)).mono ?_
              rintro r v ⟨rfl, hB3⟩
              replace hB := bstep hB hB3
              replace hI := hI.on hB3
              replace hI8 := hI8.on hB3
              clear hB3
              go_wp2_with fail
              refine (hfm _ _ _ hI8 hRm (by simpa using hl3)).mono ?_
              rintro r v ⟨rfl, hB3⟩
              replace hB := bstep hB hB3
              replace hI := hI.on hB3
              replace hI8 := hI8.on hB3
              clear hB3
              go_wp2_with fail
              refine (hfe _ hI hR hlen2).mono ?_
              rintro r v ⟨rfl, hB3⟩
              replace hB := bstep hB hB3
              replace hI := hI.on hB3
              replace hI8 := hI8.on hB3
              clear hB3
              go_wp2_with fail
              go_ret
              exact ⟨rfl, hB⟩
            | true =>
              go_wp2_with fail
              refine (hls _ hI hR hlen2).mono ?_
              rintro r v ⟨rfl, hB3⟩
              replace hB := bstep hB hB3
              replace hI := hI.on hB3
              replace hI7 := hI7.on hB3
              clear hB3
              go_wp2_with fail
              refine (hlt _ hI7 s2 hlen2).mono ?_
              rintro r v ⟨rfl, hB3⟩
              replace hB := bstep hB hB3
              replace hI := hI.on hB3
              replace hI7 := hI7.on hB3
              clear hB3
              go_wp2_with fail
              refine (hft _ hI7 s2 hlen2).mono ?_
              rintro r v ⟨rfl, hB3⟩
              replace hB := bstep hB hB3
              replace hI := hI.on hB3
              replace hI7 := hI7.on hB3
              clear hB3
              go_wp2_with fail
              refine (hfe _ hI hR hlen2).mono ?_
              rintro r v ⟨rfl, hB3⟩
              replace hB := bstep hB hB3
              replace hI := hI.on hB3
              clear hB3
              clear hls hlt hft hI7
              go_wp2_with (at_builtin; refine (mine_empty v).appAll (n := 0) (m := l.length) rfl (by omega) (Nat.zero_add l.length) rfl _ _ rfl rfl l rfl b off c rfl (fun k y hy => ((hI.on (bnew v _)).at hy).2) (List.nil_append l) ?_)
              intro A9 c9 w9 hM9
              go_wp2_with fail
              refine (hwo _).mono ?_
              rintro r w10 ⟨rfl, rfl⟩
              go_wp2_with (at_builtin; refine hM9.app rfl (by omega) rfl _ _ rfl rfl _ _ rfl ?_)
              intro A8 c8 w8 hM8
              obtain ⟨_, hI8, hB8, _⟩ := hM8.inv
              replace hB := bstep hB hB8
              replace hI := hI.on hB8
              clear hM8 hM9 hB8
              go_wp2_with fail
              refine (hlm _ _ _ hI8 hRm (by simpa using hl3)).mono ?_
              rintro r v ⟨rfl, hB3⟩
              replace hB := bstep hB hB3
              replace hI := hI.on hB3
              replace hI8 := hI8.on hB3
              clear hB3
              go_wp2_with fail
              refine (hfm _ _ _ hI8 hRm (by simpa using hl3)).mono ?_
              rintro r v ⟨rfl, hB3⟩
              replace hB := bstep hB hB3
              replace hI := hI.on hB3
              replace hI8 := hI8.on hB3
              clear hB3
              go_wp2_with fail
              refine (hfe _ hI hR hlen2).mono ?_
              rintro r v ⟨rfl, hB3⟩
              replace hB := bstep hB hB3
              replace hI := hI.on hB3
              replace hI8 := hI8.on hB3
              clear hB3
              go_wp2_with fail
              go_ret
              exact ⟨rfl, hB⟩

end Go.Proofs.Ytfddeiodihhblaa
