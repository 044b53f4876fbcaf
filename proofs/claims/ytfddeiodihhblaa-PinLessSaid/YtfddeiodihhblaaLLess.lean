/- PinLess: the law answers true, whatever the words, the epochs, the place; nothing that was there changes. -/
import Derived.Test.YtfddeiodihhblaaMine
namespace Go.Proofs.Ytfddeiodihhblaa
open Go.RowKit
attribute [local go_sem ↓] Go.wp_at_zero Go.wp_at_succ

theorem free_set {l : List Int} {k : Nat} {e : Int} (hk : k < l.length) : freeB (l.set k 0) (-1) e = freeB l k e := by
  rw [Bool.eq_iff_iff, free_true, free_true]
  constructor
  · intro h j x hj hb
    apply Classical.byContradiction
    intro hn
    have := h j x (by rw [List.getElem?_set_ne (by omega)]; exact hj) hb
    omega
  · intro h j x hj hb
    by_cases e1 : j = k
    · subst e1
      rw [List.getElem?_set_self hk] at hj
      injection hj with hj
      rw [← hj, blk_zero] at hb
      cases hb
    · rw [List.getElem?_set_ne (by omega)] at hj
      have := h j x hj hb
      omega
theorem free_self {l : List Int} {s e : Int} (h : freeB l (-1) e = true) : freeB l s e = true := by
  rw [free_true]
  intro k x hk hb
  rw [free_mem.1 h x (List.mem_of_getElem? hk)] at hb
  cases hb
theorem rng_set {l : List Int} {k : Nat} (h : Rng l) : Rng (l.set k 0) := fun x hx => by
  rcases List.mem_or_eq_of_mem_set hx with h1 | h1
  · exact h x h1
  · subst h1; exact ⟨by omega, by omega⟩
/-- what the program tells, of words that may be: all that the law asks of it -/
structure Less (l : List Int) (e f : Int) (a : Int) (p fe ff : Bool) : Prop where
  le : ff = true → fe = true
  none : p = false → fe = true ∧ ff = true
  some : p = true → decide (e < a) = fe
  nil : l.length = 0 → p = false
theorem less_is {l : List Int} {e f : Int} (hR : Rng l) (h : e ≤ f) : Less l e f (epN (lw l)) (epB (lw l)) (freeB l (-1) e) (freeB l (-1) f) := by
  have h1 := lw_is hR
  have he := free_lw (e := e) h1
  have hf := free_lw (e := f) h1
  rw [he, hf]
  by_cases h0 : lw l = 0
  · rw [h0]
    exact ⟨fun _ => by simp, fun _ => by simp, (fun h => by cases h), fun _ => rfl⟩
  · rw [epN_pos h0, epB_pos h0]
    refine ⟨fun h => ?_, (fun h => by cases h), fun _ => ?_, fun hn => absurd (by rw [List.eq_nil_of_length_eq_zero hn]; rfl) h0⟩
    · rw [decide_eq_true_eq] at h ⊢
      omega
    · rw [decide_eq_decide]
      omega
set_option maxRecDepth 100000 in
set_option maxHeartbeats 8000000 in
theorem lless_any (A : Option Addr) (n c : Nat) (l : List Int) (e f u : Int) (w : World) (hl : l.length = n) (hn : n ≤ 9223372036854775807) (u0 : 0 ≤ u) (u1 : u ≤ 255) (hI : IS w w.heap.size A l) :
    Calls Try.prog 5 #[.slice A n c, vI e, vI f, .int .u8 u] w fun r w' => r = .returned (.bool true) ∧ Below w.heap.size w w' := by
  subst hl
  go_enter Try.func5, Try.ntmps5
  go_wp2_with fail
  refine (awake_any w).mono ?_
  rintro r w1 ⟨rfl, hB⟩
  replace hI := hI.on hB
  go_wp2_with fail
  refine (few_any A c l w1 hI hn).mono ?_
  rintro r w2 ⟨⟨q, rfl, hq⟩, rfl⟩
  have Hq := Lib.hid hq
  clear hq
  cases q with
  | false =>
    go_wp2_with fail
    go_ret
    exact ⟨rfl, hB⟩
  | true =>
    have hR := (Hq.out rfl).1
    have hlen := (Hq.out rfl).2
    have hlen2 : l.length ≤ 1000000 := by omega
    clear Hq
    by_cases h1 : e < 0
    · have d1 : decide (e < 0) = true := by simpa using h1
      go_wp2_with fail
      go_ret
      exact ⟨rfl, hB⟩
    have d1 : decide (e < 0) = false := by simpa using h1
    by_cases h2 : 1099511627776 < e
    · have d2 : decide (1099511627776 < e) = true := by simpa using h2
      go_wp2_with fail
      go_ret
      exact ⟨rfl, hB⟩
    have d2 : decide (1099511627776 < e) = false := by simpa using h2
    by_cases h3 : f < e
    · have d3 : decide (f < e) = true := by simpa using h3
      go_wp2_with fail
      go_ret
      exact ⟨rfl, hB⟩
    have d3 : decide (f < e) = false := by simpa using h3
    by_cases h4 : 1099511627776 < f
    · have d4 : decide (1099511627776 < f) = true := by simpa using h4
      go_wp2_with fail
      go_ret
      exact ⟨rfl, hB⟩
    have d4 : decide (1099511627776 < f) = false := by simpa using h4
    have hL := less_is (l := l) hR (show e ≤ f by omega)
    have hfe := fun w => free_any A c l (-1) e w
    have hff := fun w => free_any A c l (-1) f w
    have hls := fun w => least_any A c l w
    obtain ⟨a, ea⟩ : ∃ a, epN (lw l) = a := ⟨_, rfl⟩
    obtain ⟨p, ep⟩ : ∃ p, epB (lw l) = p := ⟨_, rfl⟩
    obtain ⟨fe, efe⟩ : ∃ x, freeB l (-1) e = x := ⟨_, rfl⟩
    obtain ⟨ff, eff⟩ : ∃ x, freeB l (-1) f = x := ⟨_, rfl⟩
    rw [ea, ep, efe, eff] at hL
    rw [ea, ep] at hls
    rw [efe] at hfe
    rw [eff] at hff
    obtain ⟨l1, l2, l3, l4⟩ := hL
    have Efe := Lib.hid efe
    clear ea ep efe eff
    cases p with
    | false =>
      obtain ⟨rfl, rfl⟩ := l2 rfl
      clear l1 l2 l3 l4
      go_wp2_with fail
      refine (hls _ hI hR hlen2).mono ?_
      rintro r v ⟨rfl, hB3⟩
      replace hB := bstep hB hB3
      replace hI := hI.on hB3
      clear hB3
      go_wp2_with fail
      refine (hff _ hI hR hlen2).mono ?_
      rintro r v ⟨rfl, hB3⟩
      replace hB := bstep hB hB3
      replace hI := hI.on hB3
      clear hB3
      go_wp2_with fail
      refine (hfe _ hI hR hlen2).mono ?_
      rintro r v ⟨rfl, hB3⟩
      replace hB := bstep hB hB3
      replace hI := hI.on hB3
      clear hB3
      go_wp2_with fail
      refine (hff _ hI hR hlen2).mono ?_
      rintro r v ⟨rfl, hB3⟩
      replace hB := bstep hB hB3
      replace hI := hI.on hB3
      clear hB3
      clear hls hff d1 d2 d3 d4
      by_cases hn0 : l.length = 0
      · have hn1 : ((l.length : Int) == 0) = true := by rw [beq_iff_eq]; omega
        go_wp2_with fail
        go_ret
        exact ⟨rfl, hB⟩
      have ln : l.length ≠ 0 := hn0
      have hn1 : ((l.length : Int) == 0) = false := by rw [beq_eq_false_iff_ne]; omega
      have hn2 : (0 : Int) < (l.length : Int) := by omega
      obtain ⟨k, hk, hkl⟩ : ∃ k : Nat, u % (l.length : Int) = k ∧ k < l.length := ⟨(u % (l.length : Int)).toNat, by rw [Int.toNat_of_nonneg (Int.emod_nonneg _ (by omega))], by have := Int.emod_lt_of_pos u hn2; have := Int.emod_nonneg u (show (l.length : Int) ≠ 0 by omega); omega⟩
      have hrs := fun A c w => free_any A c (l.set k 0) (-1) e w
      have hrk := fun w => free_any A c l k e w
      rw [free_set hkl, List.length_set] at hrs
      have hgs := free_self (l := l) (s := k) (e := e)
      rw [Efe.out] at hgs
      obtain ⟨g, eg⟩ : ∃ g, g = freeB l k e := ⟨_, rfl⟩
      rw [← eg] at hrs hrk hgs
      clear eg
      have hRs := rng_set (k := k) hR
      obtain rfl : g = true := hgs rfl
      clear hgs
      obtain ⟨x0, hx0⟩ := num_some (show 0 < l.length by omega)
      obtain ⟨b, off, rfl, _, _⟩ := hI 0 x0 hx0
      clear hx0
      go_wp2_with (at_builtin; rw [hk]; refine (mine_empty v).appAll (n := 0) (m := l.length) rfl (by omega) (Nat.zero_add l.length) rfl _ _ rfl rfl l rfl b off c rfl (fun k y hy => ((hI.on (bnew v _)).at hy).2) (List.nil_append l) ?_)
      intro A7 c7 w7 hM7
      obtain ⟨g7, x7, rfl, p1, p2, p3, p4⟩ := hM7.place hkl
      obtain ⟨p5, p6⟩ := p4 0
      replace hB := bstep hB p6
      replace hI := hI.on p6
      clear p6 p4
      go_wp2_with fail
      clear p2 p3
      refine (hrs _ _ _ p5 hRs hlen2).mono ?_
      rintro r v2 ⟨rfl, hB3⟩
      replace hB := bstep hB hB3
      replace hI := hI.on hB3
      replace p5 := p5.on hB3
      clear hB3
      go_wp2_with fail
      refine (hrk _ hI hR hlen2).mono ?_
      rintro r v ⟨rfl, hB3⟩
      replace hB := bstep hB hB3
      replace p5 := p5.on hB3
      replace hI := hI.on hB3
      clear hB3
      go_wp2_with fail
      refine (hfe _ hI hR hlen2).mono ?_
      rintro r v ⟨rfl, hB3⟩
      replace hB := bstep hB hB3
      replace p5 := p5.on hB3
      replace hI := hI.on hB3
      clear hB3
      clear hrk hfe
      go_wp2_with fail
      refine (hrs _ _ _ p5 hRs hlen2).mono ?_
      rintro r v3 ⟨rfl, hB3⟩
      replace hB := bstep hB hB3
      go_wp2_with fail
      go_ret
      exact ⟨rfl, hB⟩
    | true =>
      replace l3 := l3 rfl
      have ln : l.length ≠ 0 := fun h => (by cases l4 h)
      clear l2 l4
      cases fe with
      | true =>
        clear l1
        have l3d := l3
        cases ff with
        | true =>
          go_wp2_with fail
          refine (hls _ hI hR hlen2).mono ?_
          rintro r v ⟨rfl, hB3⟩
          replace hB := bstep hB hB3
          replace hI := hI.on hB3
          clear hB3
          go_wp2_with fail
          refine (hff _ hI hR hlen2).mono ?_
          rintro r v ⟨rfl, hB3⟩
          replace hB := bstep hB hB3
          replace hI := hI.on hB3
          clear hB3
          go_wp2_with fail
          refine (hfe _ hI hR hlen2).mono ?_
          rintro r v ⟨rfl, hB3⟩
          replace hB := bstep hB hB3
          replace hI := hI.on hB3
          clear hB3
          go_wp2_with fail
          refine (hfe _ hI hR hlen2).mono ?_
          rintro r v ⟨rfl, hB3⟩
          replace hB := bstep hB hB3
          replace hI := hI.on hB3
          clear hB3
          clear hls hff d1 d2 d3 d4
          have hn1 : ((l.length : Int) == 0) = false := by rw [beq_eq_false_iff_ne]; omega
          have hn2 : (0 : Int) < (l.length : Int) := by omega
          obtain ⟨k, hk, hkl⟩ : ∃ k : Nat, u % (l.length : Int) = k ∧ k < l.length := ⟨(u % (l.length : Int)).toNat, by rw [Int.toNat_of_nonneg (Int.emod_nonneg _ (by omega))], by have := Int.emod_lt_of_pos u hn2; have := Int.emod_nonneg u (show (l.length : Int) ≠ 0 by omega); omega⟩
          have hrs := fun A c w => free_any A c (l.set k 0) (-1) e w
          have hrk := fun w => free_any A c l k e w
          rw [free_set hkl, List.length_set] at hrs
          have hgs := free_self (l := l) (s := k) (e := e)
          rw [Efe.out] at hgs
          obtain ⟨g, eg⟩ : ∃ g, g = freeB l k e := ⟨_, rfl⟩
          rw [← eg] at hrs hrk hgs
          clear eg
          have hRs := rng_set (k := k) hR
          obtain rfl : g = true := hgs rfl
          clear hgs
          obtain ⟨x0, hx0⟩ := num_some (show 0 < l.length by omega)
          obtain ⟨b, off, rfl, _, _⟩ := hI 0 x0 hx0
          clear hx0
          go_wp2_with (at_builtin; rw [hk]; refine (mine_empty v).appAll (n := 0) (m := l.length) rfl (by omega) (Nat.zero_add l.length) rfl _ _ rfl rfl l rfl b off c rfl (fun k y hy => ((hI.on (bnew v _)).at hy).2) (List.nil_append l) ?_)
          intro A7 c7 w7 hM7
          obtain ⟨g7, x7, rfl, p1, p2, p3, p4⟩ := hM7.place hkl
          obtain ⟨p5, p6⟩ := p4 0
          replace hB := bstep hB p6
          replace hI := hI.on p6
          clear p6 p4
          go_wp2_with fail
          clear p2 p3
          refine (hrs _ _ _ p5 hRs hlen2).mono ?_
          rintro r v2 ⟨rfl, hB3⟩
          replace hB := bstep hB hB3
          replace hI := hI.on hB3
          replace p5 := p5.on hB3
          clear hB3
          go_wp2_with fail
          refine (hrk _ hI hR hlen2).mono ?_
          rintro r v ⟨rfl, hB3⟩
          replace hB := bstep hB hB3
          replace p5 := p5.on hB3
          replace hI := hI.on hB3
          clear hB3
          go_wp2_with fail
          refine (hfe _ hI hR hlen2).mono ?_
          rintro r v ⟨rfl, hB3⟩
          replace hB := bstep hB hB3
          replace p5 := p5.on hB3
          replace hI := hI.on hB3
          clear hB3
          clear hrk hfe
          go_wp2_with fail
          refine (hrs _ _ _ p5 hRs hlen2).mono ?_
          rintro r v3 ⟨rfl, hB3⟩
          replace hB := bstep hB hB3
          go_wp2_with fail
          go_ret
          exact ⟨rfl, hB⟩
        | false =>
          go_wp2_with fail
          refine (hls _ hI hR hlen2).mono ?_
          rintro r v ⟨rfl, hB3⟩
          replace hB := bstep hB hB3
          replace hI := hI.on hB3
          clear hB3
          go_wp2_with fail
          refine (hff _ hI hR hlen2).mono ?_
          rintro r v ⟨rfl, hB3⟩
          replace hB := bstep hB hB3
          replace hI := hI.on hB3
          clear hB3
          go_wp2_with fail
          refine (hfe _ hI hR hlen2).mono ?_
          rintro r v ⟨rfl, hB3⟩
          replace hB := bstep hB hB3
          replace hI := hI.on hB3
          clear hB3
          clear hls hff d1 d2 d3 d4
          have hn1 : ((l.length : Int) == 0) = false := by rw [beq_eq_false_iff_ne]; omega
          have hn2 : (0 : Int) < (l.length : Int) := by omega
          obtain ⟨k, hk, hkl⟩ : ∃ k : Nat, u % (l.length : Int) = k ∧ k < l.length := ⟨(u % (l.length : Int)).toNat, by rw [Int.toNat_of_nonneg (Int.emod_nonneg _ (by omega))], by have := Int.emod_lt_of_pos u hn2; have := Int.emod_nonneg u (show (l.length : Int) ≠ 0 by omega); omega⟩
          have hrs := fun A c w => free_any A c (l.set k 0) (-1) e w
          have hrk := fun w => free_any A c l k e w
          rw [free_set hkl, List.length_set] at hrs
          have hgs := free_self (l := l) (s := k) (e := e)
          rw [Efe.out] at hgs
          obtain ⟨g, eg⟩ : ∃ g, g = freeB l k e := ⟨_, rfl⟩
          rw [← eg] at hrs hrk hgs
          clear eg
          have hRs := rng_set (k := k) hR
          obtain rfl : g = true := hgs rfl
          clear hgs
          obtain ⟨x0, hx0⟩ := num_some (show 0 < l.length by omega)
          obtain ⟨b, off, rfl, _, _⟩ := hI 0 x0 hx0
          clear hx0
          go_wp2_with (at_builtin; rw [hk]; refine (mine_empty v).appAll (n := 0) (m := l.length) rfl (by omega) (Nat.zero_add l.length) rfl _ _ rfl rfl l rfl b off c rfl (fun k y hy => ((hI.on (bnew v _)).at hy).2) (List.nil_append l) ?_)
          intro A7 c7 w7 hM7
          obtain ⟨g7, x7, rfl, p1, p2, p3, p4⟩ := hM7.place hkl
          obtain ⟨p5, p6⟩ := p4 0
          replace hB := bstep hB p6
          replace hI := hI.on p6
          clear p6 p4
          go_wp2_with fail
          clear p2 p3
          refine (hrs _ _ _ p5 hRs hlen2).mono ?_
          rintro r v2 ⟨rfl, hB3⟩
          replace hB := bstep hB hB3
          replace hI := hI.on hB3
          replace p5 := p5.on hB3
          clear hB3
          go_wp2_with fail
          refine (hrk _ hI hR hlen2).mono ?_
          rintro r v ⟨rfl, hB3⟩
          replace hB := bstep hB hB3
          replace p5 := p5.on hB3
          replace hI := hI.on hB3
          clear hB3
          go_wp2_with fail
          refine (hfe _ hI hR hlen2).mono ?_
          rintro r v ⟨rfl, hB3⟩
          replace hB := bstep hB hB3
          replace p5 := p5.on hB3
          replace hI := hI.on hB3
          clear hB3
          clear hrk hfe
          go_wp2_with fail
          refine (hrs _ _ _ p5 hRs hlen2).mono ?_
          rintro r v3 ⟨rfl, hB3⟩
          replace hB := bstep hB hB3
          go_wp2_with fail
          go_ret
          exact ⟨rfl, hB⟩
      | false =>
        obtain rfl : ff = false := by
          cases ff with
          | true => cases l1 rfl
          | false => rfl
        clear l1
        go_wp2_with fail
        refine (hls _ hI hR hlen2).mono ?_
        rintro r v ⟨rfl, hB3⟩
        replace hB := bstep hB hB3
        replace hI := hI.on hB3
        clear hB3
        go_wp2_with fail
        refine (hff _ hI hR hlen2).mono ?_
        rintro r v ⟨rfl, hB3⟩
        replace hB := bstep hB hB3
        replace hI := hI.on hB3
        clear hB3
        go_wp2_with fail
        refine (hfe _ hI hR hlen2).mono ?_
        rintro r v ⟨rfl, hB3⟩
        replace hB := bstep hB hB3
        replace hI := hI.on hB3
        clear hB3
        clear hls hff d1 d2 d3 d4
        have hn1 : ((l.length : Int) == 0) = false := by rw [beq_eq_false_iff_ne]; omega
        have hn2 : (0 : Int) < (l.length : Int) := by omega
        obtain ⟨k, hk, hkl⟩ : ∃ k : Nat, u % (l.length : Int) = k ∧ k < l.length := ⟨(u % (l.length : Int)).toNat, by rw [Int.toNat_of_nonneg (Int.emod_nonneg _ (by omega))], by have := Int.emod_lt_of_pos u hn2; have := Int.emod_nonneg u (show (l.length : Int) ≠ 0 by omega); omega⟩
        have hrs := fun A c w => free_any A c (l.set k 0) (-1) e w
        have hrk := fun w => free_any A c l k e w
        rw [free_set hkl, List.length_set] at hrs
        have hgs := free_self (l := l) (s := k) (e := e)
        rw [Efe.out] at hgs
        obtain ⟨g, eg⟩ : ∃ g, g = freeB l k e := ⟨_, rfl⟩
        rw [← eg] at hrs hrk hgs
        clear eg
        have hRs := rng_set (k := k) hR
        clear hgs
        obtain ⟨x0, hx0⟩ := num_some (show 0 < l.length by omega)
        obtain ⟨b, off, rfl, _, _⟩ := hI 0 x0 hx0
        clear hx0
        go_wp2_with (at_builtin; rw [hk]; refine (mine_empty v).appAll (n := 0) (m := l.length) rfl (by omega) (Nat.zero_add l.length) rfl _ _ rfl rfl l rfl b off c rfl (fun k y hy => ((hI.on (bnew v _)).at hy).2) (List.nil_append l) ?_)
        intro A7 c7 w7 hM7
        obtain ⟨g7, x7, rfl, p1, p2, p3, p4⟩ := hM7.place hkl
        obtain ⟨p5, p6⟩ := p4 0
        replace hB := bstep hB p6
        replace hI := hI.on p6
        clear p6 p4
        go_wp2_with fail
        clear p2 p3
        refine (hrs _ _ _ p5 hRs hlen2).mono ?_
        rintro r v2 ⟨rfl, hB3⟩
        replace hB := bstep hB hB3
        replace hI := hI.on hB3
        replace p5 := p5.on hB3
        clear hB3
        go_wp2_with fail
        refine (hrk _ hI hR hlen2).mono ?_
        rintro r v ⟨rfl, hB3⟩
        replace hB := bstep hB hB3
        replace p5 := p5.on hB3
        replace hI := hI.on hB3
        clear hB3
        go_wp2_with fail
        refine (hfe _ hI hR hlen2).mono ?_
        rintro r v ⟨rfl, hB3⟩
        replace hB := bstep hB hB3
        replace p5 := p5.on hB3
        replace hI := hI.on hB3
        clear hB3
        go_wp2_with fail
        go_ret
        exact ⟨rfl, hB⟩
end Go.Proofs.Ytfddeiodihhblaa
