/- WorldPlays: the law answers true, whatever is told ahead and asked; nothing that was there changes. -/
import Derived.Test.YtdhdacpnlfojeaaRef
import Derived.Test.YtdhdacpnlfojeaaLFull
namespace Go.Proofs.Ytdhdacpnlfojeaa
open Go.RowKit
attribute [local go_sem ↓] Go.wp_at_zero Go.wp_at_succ

/-- the bytes xs lie in the slice at A, below M -/
def US (w : World) (M : Nat) (A : Option Addr) (xs : List Int) : Prop := ∀ (k : Nat) x, xs[k]? = some x → ∃ b off, A = some ⟨b, off, none⟩ ∧ b < M ∧ w.cell? ⟨b, off + k, none⟩ = some (.int .u8 x)
theorem byte_some {xs : List Int} {k : Nat} (h : k < xs.length) : ∃ x, xs[k]? = some x := ⟨xs[k], by simp⟩
/-- both worlds, made since w0 -/
def Both (w0 w : World) (gw r : Nat) (xs : List Bool) (y n : Int) : Prop := ∃ A c, Wm (Rb r A) w0 w gw xs y n ∧ RefW w0 w r A c xs y n
theorem both_feed {w0 w : World} {gw r : Nat} {xs : List Bool} {y n : Int} {A : Option Addr} {c : Nat} (x : Bool) (h : Wm (Rb r A) w0 w gw xs y n) (hr : RefW w0 w r A c xs y n) :
    Calls Try.prog 9 #[ptr gw, vB x] w fun e w' => e = .returned (.bool (decide (xs.length < 1000))) ∧ Wm (Rb r A) w0 w' gw (feedA xs x) y n ∧ RefW w0 w' r A c xs y n := by
  refine (feed_m gw x xs y n w h).mono ?_
  rintro e w' ⟨rfl, h1, h2, h3⟩
  exact ⟨rfl, h1, hr.keep h2 h3⟩
theorem both_next {w0 w : World} {gw r : Nat} {xs : List Bool} {y n : Int} {A : Option Addr} {c : Nat} (h : Wm (Rb r A) w0 w gw xs y n) (hr : RefW w0 w r A c xs y n) (hy : y < 1000000) (hn : n < 1000000) :
    Calls Try.prog 11 #[ptr gw] w fun e w' => e = .returned (vB (nextA xs)) ∧ Wm (Rb r A) w0 w' gw xs.tail (goodA xs y) (badA xs n) ∧ RefW w0 w' r A c xs y n := by
  refine (next_m gw xs y n w h hy hn).mono ?_
  rintro e w' ⟨rfl, h1, h2, h3⟩
  exact ⟨rfl, h1, hr.keep h2 h3⟩
theorem both_ends {w0 w w' : World} {gw r : Nat} {xs zs : List Bool} {y n y' n' : Int} {A : Option Addr} {c : Nat} {v : Value} {e : Ending} (h : Wm (Rb r A) w0 w gw zs y' n') (hr : RefW w0 w r A c xs y n) (he : EndsR w0 w r A zs y' n' v e w') : e = .returned v ∧ Both w0 w' gw r zs y' n' := by
  obtain ⟨rfl, A', c', h1, h2, h3⟩ := he
  exact ⟨rfl, A', c', h.other h2 (fun k hk => (hr.lt hk).1) (fun k hk => (h3 k hk).imp id (fun e => ⟨e, (h1.lt hk).2⟩)), h1⟩
theorem both_refFeed {w0 w : World} {gw r : Nat} {xs : List Bool} {y n : Int} {A : Option Addr} {c : Nat} (x : Bool) (hl : xs.length ≤ 1000) (h : Wm (Rb r A) w0 w gw (feedA xs x) y n) (hr : RefW w0 w r A c xs y n) :
    Calls Try.prog 10 #[ptr r, vB x] w fun e w' => e = .returned (.bool (decide (xs.length < 1000))) ∧ Both w0 w' gw r (feedA xs x) y n :=
  (refFeed_any w0 r A c x xs y n w hr hl).mono fun _ _ he => both_ends h hr he
theorem both_refNext {w0 w : World} {gw r : Nat} {xs : List Bool} {y n : Int} {A : Option Addr} {c : Nat} (hl : xs.length ≤ 1000) (h : Wm (Rb r A) w0 w gw xs.tail (goodA xs y) (badA xs n)) (hr : RefW w0 w r A c xs y n) (hy : y < 1000000) (hn : n < 1000000) (hy0 : 0 ≤ y) (hn0 : 0 ≤ n) :
    Calls Try.prog 12 #[ptr r] w fun e w' => e = .returned (vB (nextA xs)) ∧ Both w0 w' gw r xs.tail (goodA xs y) (badA xs n) :=
  (refNext_any w0 r A c xs y n w hr hl hy hn hy0 hn0).mono fun _ _ he => both_ends h hr he
theorem Both.on {w0 w w' : World} {gw r : Nat} {xs : List Bool} {y n : Int} (h : Both w0 w gw r xs y n) (hb : Below w.heap.size w w') : Both w0 w' gw r xs y n := by
  obtain ⟨A, c, h1, h2⟩ := h
  exact ⟨A, c, h1.on hb, h2.on hb⟩
theorem Both.below {w0 w : World} {gw r : Nat} {xs : List Bool} {y n : Int} (h : Both w0 w gw r xs y n) : Below w0.heap.size w0 w := by
  obtain ⟨A, c, h1, h2⟩ := h
  exact h1.below

set_option maxRecDepth 100000 in
set_option maxHeartbeats 4000000 in
theorem lplays_any (A : Option Addr) (n c : Nat) (l : List Int) (w : World) (hl : l.length = n) (hI : US w w.heap.size A l) :
    Calls Try.prog 3 #[.slice A n c] w fun e w' => e = .returned (.bool true) ∧ Below w.heap.size w w' := by
  subst hl
  go_enter Try.func3, Try.ntmps3
  go_wp2_with fail
  refine (awake_any w).mono ?_
  rintro e w1 ⟨rfl, hB⟩
  go_wp2_with fail
  refine (new_m w w1 hB).mono ?_
  rintro e w2 ⟨gw, rfl, hW, _⟩
  clear hB
  have hr0 := ref_new w w2 hW.below.size
  have hB0 : Both w (w2.alloc (.cells #[.slice none 0 0, vI 0, vI 0] 29)) gw w2.heap.size [] 0 0 := by
    refine ⟨none, 0, hW.newR (bnew _ _) (fun k hk => ?_), hr0⟩
    have := hr0.lt hk
    rcases hk with rfl | ⟨a, e, _⟩
    · exact .inr ⟨Nat.le_refl _, by simp⟩
    · cases e
  clear hr0
  by_cases h60 : 60 < l.length
  · have d1 : (60 : Int) < (l.length : Int) := by omega
    have hb := hB0.below
    clear hB0
    go_wp2_with fail
    go_ret
    exact ⟨rfl, hb⟩
  have d1 : ¬ (60 : Int) < (l.length : Int) := by omega
  have d2 : l.length ≤ 60 := by omega
  clear h60 hW
  have HB0 := Lib.hid hB0
  clear hB0
  go_wp2_with fail
  replace HB0 := HB0.out
  clear d1
  obtain ⟨r, er⟩ : ∃ r, r = w2.heap.size := ⟨_, rfl⟩
  obtain ⟨W, eW⟩ : ∃ W, W = w2.alloc (.cells #[.slice none 0 0, vI 0, vI 0] 29) := ⟨_, rfl⟩
  rw [← er, ← eW] at HB0
  rw [← er]
  try rw [← eW]
  clear er eW
  go_loopw [6, 7, 8, 9, 10] (fun i _ _ _ _ wr => ∃ (k : Nat) (xs : List Bool) (y n : Int), k ≤ l.length ∧ i = .int .i64 k ∧ xs.length ≤ k ∧ y ≤ k ∧ n ≤ k ∧ Both w wr gw r xs y n) (fun i _ _ _ _ => fun _ => l.length - (intOf i).toNat)
  case atStart => exact ⟨0, [], 0, 0, Nat.zero_le _, rfl, Nat.zero_le _, by decide, by decide, HB0⟩
  case round =>
    clear HB0
    obtain ⟨k, xs, y, n, hk, rfl, hxk, hyk, hnk, hW⟩ := hrel
    by_cases hlk : k < l.length
    · obtain ⟨x, hx⟩ := byte_some hlk
      obtain ⟨b, off, rfl, hb, hd1⟩ := hI k x hx
      have hc := (hW.below.cell (p := ⟨b, off + k, none⟩) hb).trans hd1
      have hk1 : (k : Int) < (l.length : Int) := by omega
      have hk0 : (0 : Int) ≤ (k : Int) := Int.natCast_nonneg _
      obtain ⟨A3, c3, hW3, hR3⟩ := hW
      have h1000 : xs.length ≤ 1000 := by omega
      obtain ⟨y0, n0⟩ := hW3.pos
      clear hx
      by_cases hx2 : x < 2
      · obtain ⟨p, ep⟩ : ∃ p, (x == 1) = p := ⟨_, rfl⟩
        have ep2 : (decide (x = 1)) = p := by rw [← ep]; rfl
        have hf := both_feed p hW3 hR3
        have hg := fun W h1 h2 => both_refFeed (w0 := w) (w := W) (gw := gw) (r := r) (xs := xs) (y := y) (n := n) (A := A3) (c := c3) p h1000 h1 h2
        have hz : (feedA xs p).length ≤ k + 1 := by rw [feed_len]; omega
        obtain ⟨zs, ez⟩ : ∃ zs, zs = feedA xs p := ⟨_, rfl⟩
        obtain ⟨v, ev⟩ : ∃ v, v = decide (xs.length < 1000) := ⟨_, rfl⟩
        rw [← ez, ← ev] at hf hg
        rw [← ez] at hz
        clear ez ev hW3 hR3
        go_wp2_with fail
        refine hf.mono ?_
        rintro e w3 ⟨rfl, h1, h2⟩
        have hc := (h1.below.cell (p := ⟨b, off + k, none⟩) hb).trans hd1
        go_wp2_with fail
        refine (hg w3 h1 h2).mono ?_
        rintro e w4 ⟨rfl, hB4⟩
        clear hf hg h1 h2 hc hd1 ep ep2
        obtain ⟨y2, ey⟩ : ∃ y2, y2 = y := ⟨_, rfl⟩
        obtain ⟨n2, en⟩ : ∃ n2, n2 = n := ⟨_, rfl⟩
        rw [← ey, ← en] at hB4
        have hy2 : y2 ≤ ((k + 1 : Nat) : Int) := by omega
        have hn2 : n2 ≤ ((k + 1 : Nat) : Int) := by omega
        clear ey en hyk hnk y0 n0
        obtain ⟨A4, c4, hW4, hR4⟩ := hB4
        go_wp2_with fail
        refine (asked_m gw _ _ _ _ hW4).mono ?_
        rintro e w5 ⟨rfl, q, rfl⟩
        replace hW4 := hW4.drewN q
        replace hR4 := hR4.drewN q
        obtain ⟨w5, ew⟩ : ∃ w5, w5 = w4.drewN q := ⟨_, rfl⟩
        rw [← ew] at hW4 hR4 ⊢
        clear ew
        have s0 := hR4.c0
        have s1 := hR4.c1
        have s2 := hR4.c2
        have lr := hR4.lr
        go_wp2_with fail
        go_region_held3 (fun w' => w'.cell? ⟨r, 0, none⟩ = some (.slice A4 zs.length c4) ∧ w'.cell? ⟨r, 1, none⟩ = some (vI y2) ∧ w'.cell? ⟨r, 2, none⟩ = some (vI n2)) (go_keep) (first
          | (go_at_call 15; refine (ahead_m gw _ _ _ _ (hW4.drewN _)).mono ?_; rintro e w7 ⟨A7, c7, rfl, hc7, hS7, _, hB7⟩; have hW7 := (hW4.drewN _).on hB7; have hR7 := (hR4.drewN _).on hB7; have x0 := hR7.c0; have x1 := hR7.c1; have x2 := hR7.c2; have hIS7 := hR7.win.is)
          | (go_at_call 14; refine (bools_any A7 A4 c7 c4 _ _ zs zs _ hS7 hIS7 (by omega) rfl rfl).mono ?_; rw [decide_eq_true rfl]; rintro e w8 ⟨rfl, hB8⟩; have hW8 := hW7.on hB8; have hR8 := hR7.on hB8; have x3 := hR8.c0; have x4 := hR8.c1; have x5 := hR8.c2))
        go_wp2_with fail
        go_roundw
        case rel => exact ⟨k + 1, zs, y2, n2, by omega, by go_num, hz, hy2, hn2, A4, c4, hW8, hR8⟩
        case measure => simp [intOf]; omega
      · have hf := both_next hW3 hR3 (by omega) (by omega)
        have hg := fun W h1 h2 => both_refNext (w0 := w) (w := W) (gw := gw) (r := r) (xs := xs) (y := y) (n := n) (A := A3) (c := c3) h1000 h1 h2 (by omega) (by omega) y0 n0
        have hz : xs.tail.length ≤ k + 1 := by rw [List.length_tail]; omega
        have hy2 := good_le xs hyk
        have hn2 := bad_le xs hnk
        obtain ⟨zs, ez⟩ : ∃ zs, zs = xs.tail := ⟨_, rfl⟩
        obtain ⟨v, ev⟩ : ∃ v, v = nextA xs := ⟨_, rfl⟩
        obtain ⟨y2, ey⟩ : ∃ y2, y2 = goodA xs y := ⟨_, rfl⟩
        obtain ⟨n2, en⟩ : ∃ n2, n2 = badA xs n := ⟨_, rfl⟩
        rw [← ez, ← ev, ← ey, ← en] at hf hg
        rw [← ez] at hz
        rw [← ey] at hy2
        rw [← en] at hn2
        clear ez ev ey en hW3 hR3
        go_wp2_with fail
        refine hf.mono ?_
        rintro e w3 ⟨rfl, h1, h2⟩
        go_wp2_with fail
        refine (hg w3 h1 h2).mono ?_
        rintro e w4 ⟨rfl, hB4⟩
        clear hf hg h1 h2 hc hd1 hyk hnk y0 n0
        obtain ⟨A4, c4, hW4, hR4⟩ := hB4
        go_wp2_with fail
        refine (asked_m gw _ _ _ _ hW4).mono ?_
        rintro e w5 ⟨rfl, q, rfl⟩
        replace hW4 := hW4.drewN q
        replace hR4 := hR4.drewN q
        obtain ⟨w5, ew⟩ : ∃ w5, w5 = w4.drewN q := ⟨_, rfl⟩
        rw [← ew] at hW4 hR4 ⊢
        clear ew
        have s0 := hR4.c0
        have s1 := hR4.c1
        have s2 := hR4.c2
        have lr := hR4.lr
        go_wp2_with fail
        go_region_held3 (fun w' => w'.cell? ⟨r, 0, none⟩ = some (.slice A4 zs.length c4) ∧ w'.cell? ⟨r, 1, none⟩ = some (vI y2) ∧ w'.cell? ⟨r, 2, none⟩ = some (vI n2)) (go_keep) (first
          | (go_at_call 15; refine (ahead_m gw _ _ _ _ (hW4.drewN _)).mono ?_; rintro e w7 ⟨A7, c7, rfl, hc7, hS7, _, hB7⟩; have hW7 := (hW4.drewN _).on hB7; have hR7 := (hR4.drewN _).on hB7; have x0 := hR7.c0; have x1 := hR7.c1; have x2 := hR7.c2; have hIS7 := hR7.win.is)
          | (go_at_call 14; refine (bools_any A7 A4 c7 c4 _ _ zs zs _ hS7 hIS7 (by omega) rfl rfl).mono ?_; rw [decide_eq_true rfl]; rintro e w8 ⟨rfl, hB8⟩; have hW8 := hW7.on hB8; have hR8 := hR7.on hB8; have x3 := hR8.c0; have x4 := hR8.c1; have x5 := hR8.c2))
        go_wp2_with fail
        go_roundw
        case rel => exact ⟨k + 1, zs, y2, n2, by omega, by go_num, hz, hy2, hn2, A4, c4, hW8, hR8⟩
        case measure => simp [intOf]; omega
    · obtain rfl : k = l.length := by omega
      go_wp2_with fail
      go_ret
      exact ⟨rfl, hW.below⟩
end Go.Proofs.Ytdhdacpnlfojeaa
