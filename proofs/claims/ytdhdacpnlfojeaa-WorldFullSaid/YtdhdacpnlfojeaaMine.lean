/- A world that a law made; lists of bools compared; the chapter's example. -/
import Derived.Test.YtdhdacpnlfojeaaWorld
namespace Go.Proofs.Ytdhdacpnlfojeaa
open Go.RowKit
attribute [local go_sem ↓] Go.wp_at_zero Go.wp_at_succ

theorem BS.below {w w' : World} {N : Nat} {A : Option Addr} {xs : List Bool} (h : BS w N A xs) (hb : Below N w w') : BS w' N A xs := by
  intro k x hk
  obtain ⟨b, off, rfl, h1, h2⟩ := h k x hk
  exact ⟨b, off, rfl, h1, (hb.cell (p := ⟨b, off + k, none⟩) h1).trans h2⟩
theorem BS.more {w : World} {N M : Nat} {A : Option Addr} {xs : List Bool} (h : BS w N A xs) (hm : N ≤ M) : BS w M A xs := by
  intro k x hk
  obtain ⟨b, off, rfl, h1, h2⟩ := h k x hk
  exact ⟨b, off, rfl, Nat.lt_of_lt_of_le h1 hm, h2⟩
theorem BS.on {w w' : World} {A : Option Addr} {xs : List Bool} (h : BS w w.heap.size A xs) (hb : Below w.heap.size w w') : BS w' w'.heap.size A xs := (h.below hb).more hb.size
theorem BS.spx {w w' : World} {A : Option Addr} {xs : List Bool} {X : Nat → Prop} (h : BS w w.heap.size A xs) (hs : SpX X w w') (ha : ∀ a, A = some a → ¬ X a.block) : BS w' w'.heap.size A xs := by
  intro k x hk
  obtain ⟨b, off, rfl, h1, h2⟩ := h k x hk
  exact ⟨b, off, rfl, Nat.lt_of_lt_of_le h1 hs.size, (World.cell?_of_block (w := w) (a := ⟨b, off + k, none⟩) (hs.block b h1 (ha _ rfl))).trans h2⟩
theorem flag_some {xs : List Bool} {k : Nat} (h : k < xs.length) : ∃ x, xs[k]? = some x := ⟨xs[k], by simp⟩
theorem take_eq {xs ys : List Bool} {k : Nat} {x y : Bool} (hr : xs.take k = ys.take k) (hx : xs[k]? = some x) (hy : ys[k]? = some y) (h : x = y) : xs.take (k + 1) = ys.take (k + 1) := by
  rw [take_snoc hx, take_snoc hy, hr, h]

set_option maxHeartbeats 400000 in
theorem bools_any (A A2 : Option Addr) (c c2 n m : Nat) (xs ys : List Bool) (w : World) (h : BS w w.heap.size A xs) (h2 : BS w w.heap.size A2 ys) (hl : xs.length ≤ 1000000) (hn : xs.length = n) (hm : ys.length = m) :
    Calls Try.prog 14 #[.slice A n c, .slice A2 m c2] w (fun e w' => e = .returned (.bool (decide (xs = ys))) ∧ Below w.heap.size w w') := by
  subst hn hm
  by_cases he : xs.length = ys.length
  · have He := Lib.hid he
    rw [← he]
    clear he
    go_enter Try.func14, Try.ntmps14
    go_wp2
    go_loopw [5] (fun i wr => ∃ k : Nat, k ≤ xs.length ∧ i = .int .i64 k ∧ xs.take k = ys.take k ∧ Below w.heap.size w wr) (fun i _ => xs.length - (intOf i).toNat)
    case atStart => exact ⟨0, Nat.zero_le _, rfl, rfl, Below.refl _ _⟩
    case round =>
      obtain ⟨k, hk, rfl, hr, hB⟩ := hrel
      have Hr := Lib.hid hr
      clear hr
      by_cases hlt : k < xs.length
      · obtain ⟨x, hx⟩ := flag_some hlt
        obtain ⟨y, hy⟩ := flag_some (xs := ys) (k := k) (by rw [← He.out]; exact hlt)
        obtain ⟨b, off, rfl, _, hd1⟩ := (h.below hB) k _ hx
        obtain ⟨b2, off2, rfl, _, hd2⟩ := (h2.below hB) k _ hy
        have Hx := Lib.hid hx
        have Hy := Lib.hid hy
        clear hx hy
        have hk1 : (k : Int) < (xs.length : Int) := by omega
        by_cases hq : x = y
        · subst hq
          go_wp2
          go_quiet (fail)
          go_wp2
          go_roundw
          case rel => exact ⟨k + 1, by omega, by go_num, take_eq Hr.out Hx.out Hy.out rfl, bdrew hB _⟩
          case measure => simp [intOf]; omega
        · obtain rfl : y = !x := by cases x <;> cases y <;> simp_all
          clear hq
          go_wp2
          go_quiet (fail)
          go_wp2
          go_ret
          refine ⟨ret_B (decide_eq_false ?_).symm, bdrew hB _⟩
          intro e
          have h3 := Hx.out
          rw [e, Hy.out] at h3
          injection h3 with h3
          cases x <;> cases h3
      · obtain rfl : k = xs.length := by omega
        go_wp2
        go_ret
        refine ⟨ret_B (decide_eq_true ?_).symm, hB⟩
        have h3 := Hr.out
        rwa [List.take_length, He.out, List.take_length] at h3
  · have hn : ((xs.length : Int) != (ys.length : Int)) = true := by rw [bne_iff_ne]; omega
    have hn2 : (xs.length != ys.length) = true := by rw [bne_iff_ne]; omega
    have Hf := Lib.hid (decide_eq_false (show ¬ xs = ys from fun e => he (by rw [e])))
    clear he
    go_enter Try.func14, Try.ntmps14
    go_wp2
    go_ret
    exact ⟨ret_B Hf.out.symm, Below.refl _ _⟩

/-- a world made since w0, in block gw; the blocks of R are none of its own -/
def Wm (R : Nat → Prop) (w0 w : World) (gw : Nat) (xs : List Bool) (y n : Int) : Prop :=
  ∃ g gb, WorldAt w gw g gb xs y n ∧ w0.heap.size ≤ gw ∧ w0.heap.size ≤ g ∧ w0.heap.size ≤ gb ∧ Below w0.heap.size w0 w ∧ ∀ k, R k → k < w.heap.size ∧ ¬ Of3 gw g gb k
theorem Wm.below {R : Nat → Prop} {w0 w : World} {gw : Nat} {xs : List Bool} {y n : Int} (h : Wm R w0 w gw xs y n) : Below w0.heap.size w0 w := by
  obtain ⟨_, _, _, _, _, _, h, _⟩ := h
  exact h
theorem Wm.le {R : Nat → Prop} {w0 w : World} {gw : Nat} {xs : List Bool} {y n : Int} (h : Wm R w0 w gw xs y n) : xs.length ≤ 1000 := by
  obtain ⟨_, _, h, _⟩ := h
  exact h.le
theorem Wm.pos {R : Nat → Prop} {w0 w : World} {gw : Nat} {xs : List Bool} {y n : Int} (h : Wm R w0 w gw xs y n) : 0 ≤ y ∧ 0 ≤ n := by
  obtain ⟨_, _, h, _⟩ := h
  exact ⟨h.y0, h.n0⟩
theorem Wm.on {R : Nat → Prop} {w0 w w' : World} {gw : Nat} {xs : List Bool} {y n : Int} (h : Wm R w0 w gw xs y n) (hb : Below w.heap.size w w') : Wm R w0 w' gw xs y n := by
  obtain ⟨g, gb, h1, h2, h3, h4, h5, h6⟩ := h
  exact ⟨g, gb, h1.on hb, h2, h3, h4, h5.trans (hb.mono h5.size), fun k hk => ⟨Nat.lt_of_lt_of_le (h6 k hk).1 hb.size, (h6 k hk).2⟩⟩
theorem Wm.less {R R' : Nat → Prop} {w0 w : World} {gw : Nat} {xs : List Bool} {y n : Int} (h : Wm R w0 w gw xs y n) (hr : ∀ k, R' k → R k) : Wm R' w0 w gw xs y n := by
  obtain ⟨g, gb, h1, h2, h3, h4, h5, h6⟩ := h
  exact ⟨g, gb, h1, h2, h3, h4, h5, fun k hk => h6 k (hr k hk)⟩
/-- new blocks are none of its own -/
theorem Wm.newR {R R' : Nat → Prop} {w0 w w' : World} {gw : Nat} {xs : List Bool} {y n : Int} (h : Wm R w0 w gw xs y n) (hb : Below w.heap.size w w') (hr : ∀ k, R' k → R k ∨ (w.heap.size ≤ k ∧ k < w'.heap.size)) : Wm R' w0 w' gw xs y n := by
  obtain ⟨g, gb, h1, h2, h3, h4, h5, h6⟩ := h
  refine ⟨g, gb, h1.on hb, h2, h3, h4, h5.trans (hb.mono h5.size), fun k hk => ?_⟩
  rcases hr k hk with e | e
  · exact ⟨Nat.lt_of_lt_of_le (h6 k e).1 hb.size, (h6 k e).2⟩
  · have := h1.lw
    have := h1.ring.lt
    exact ⟨e.2, by unfold Of3; omega⟩
/-- the blocks of R turned alone -/
theorem Wm.other {R R' : Nat → Prop} {w0 w w' : World} {gw : Nat} {xs : List Bool} {y n : Int} (h : Wm R w0 w gw xs y n) (hs : SpX R w w') (h0 : ∀ k, R k → w0.heap.size ≤ k) (hr : ∀ k, R' k → R k ∨ (w.heap.size ≤ k ∧ k < w'.heap.size)) : Wm R' w0 w' gw xs y n := by
  obtain ⟨g, gb, h1, h2, h3, h4, h5, h6⟩ := h
  refine ⟨g, gb, h1.spx hs (fun e => (h6 _ e).2 (.inl rfl)) (fun e => (h6 _ e).2 (.inr (.inl rfl))) (fun e => (h6 _ e).2 (.inr (.inr rfl))), h2, h3, h4, SpX.below h5 hs h5.size h0, fun k hk => ?_⟩
  rcases hr k hk with e | e
  · exact ⟨Nat.lt_of_lt_of_le (h6 k e).1 hs.size, (h6 k e).2⟩
  · have := h1.lw
    have := h1.ring.lt
    exact ⟨e.2, by unfold Of3; omega⟩
/-- the blocks of R are as they were -/
def KeptR (R : Nat → Prop) (w w' : World) : Prop := w.heap.size ≤ w'.heap.size ∧ ∀ k, R k → w'.heap[k]? = w.heap[k]?
theorem Wm.turn {R : Nat → Prop} {w0 w w' : World} {gw g gb gb' : Nat} {xs xs' : List Bool} {y n y' n' : Int} (h : WorldAt w gw g gb xs y n ∧ w0.heap.size ≤ gw ∧ w0.heap.size ≤ g ∧ w0.heap.size ≤ gb ∧ Below w0.heap.size w0 w ∧ ∀ k, R k → k < w.heap.size ∧ ¬ Of3 gw g gb k)
    (h' : WorldAt w' gw g gb' xs' y' n') (hs : SpX (Of3 gw g gb) w w') (hg : gb' = gb ∨ w.heap.size ≤ gb') : Wm R w0 w' gw xs' y' n' ∧ KeptR R w w' := by
  obtain ⟨h1, h2, h3, h4, h5, h6⟩ := h
  have := h5.size
  refine ⟨⟨g, gb', h', h2, h3, by omega, SpX.below h5 hs h5.size (fun k hk => by unfold Of3 at hk; omega), fun k hk => ?_⟩, hs.size, fun k hk => hs.block k (h6 k hk).1 (h6 k hk).2⟩
  obtain ⟨e1, e2⟩ := h6 k hk
  refine ⟨Nat.lt_of_lt_of_le e1 hs.size, fun e => ?_⟩
  unfold Of3 at e e2
  omega
theorem feed_m {R : Nat → Prop} {w0 : World} (gw : Nat) (x : Bool) (xs : List Bool) (y n : Int) (w : World) (h : Wm R w0 w gw xs y n) :
    Calls Try.prog 9 #[ptr gw, vB x] w fun e w' => e = .returned (.bool (decide (xs.length < 1000))) ∧ Wm R w0 w' gw (feedA xs x) y n ∧ KeptR R w w' := by
  obtain ⟨g, gb, h⟩ := h
  refine (feed_any gw g gb x xs y n w h.1).mono ?_
  rintro e w' ⟨rfl, gb', h', hs, hg⟩
  exact ⟨rfl, Wm.turn h h' hs hg⟩
theorem next_m {R : Nat → Prop} {w0 : World} (gw : Nat) (xs : List Bool) (y n : Int) (w : World) (h : Wm R w0 w gw xs y n) (hy : y < 1000000) (hn : n < 1000000) :
    Calls Try.prog 11 #[ptr gw] w fun e w' => e = .returned (vB (nextA xs)) ∧ Wm R w0 w' gw xs.tail (goodA xs y) (badA xs n) ∧ KeptR R w w' := by
  obtain ⟨g, gb, h⟩ := h
  refine (next_any gw g gb xs y n w h.1 hy hn).mono ?_
  rintro e w' ⟨rfl, gb', h', hs, hg⟩
  exact ⟨rfl, Wm.turn h h' hs hg⟩
theorem ahead_m {R : Nat → Prop} {w0 : World} (gw : Nat) (xs : List Bool) (y n : Int) (w : World) (h : Wm R w0 w gw xs y n) :
    Calls Try.prog 15 #[ptr gw] w (RetBools w xs) := by
  obtain ⟨g, gb, h⟩ := h
  exact ahead_any gw g gb xs y n w h.1
theorem asked_m {R : Nat → Prop} {w0 : World} (gw : Nat) (xs : List Bool) (y n : Int) (w : World) (h : Wm R w0 w gw xs y n) :
    Calls Try.prog 13 #[ptr gw] w fun e w' => e = .returned (.tuple #[vI y, vI n]) ∧ ∃ q, w' = w.drewN q := by
  obtain ⟨g, gb, h⟩ := h
  exact asked_any gw g gb xs y n w h.1
theorem Wm.drewN {R : Nat → Prop} {w0 w : World} {gw : Nat} {xs : List Bool} {y n : Int} (h : Wm R w0 w gw xs y n) (q : Nat) : Wm R w0 (w.drewN q) gw xs y n := by
  obtain ⟨g, gb, h1, h2, h3, h4, h5, h6⟩ := h
  exact ⟨g, gb, h1.drewN q, h2, h3, h4, bdrew h5 q, h6⟩
/-- no block -/
def No : Nat → Prop := fun _ => False
theorem new_m (w0 w : World) (hb : Below w0.heap.size w0 w) : Calls Try.prog 8 #[] w fun e w' => ∃ gw, e = .returned (ptr gw) ∧ Wm No w0 w' gw [] 0 0 ∧ Below w.heap.size w w' := by
  refine (new_any w).mono ?_
  rintro e w' ⟨gw, g, rfl, h1, h2, h, hb2⟩
  have := hb.size
  exact ⟨gw, rfl, ⟨g, g, h, by omega, by omega, by omega, hb.trans (hb2.mono hb.size), fun k hk => hk.elim⟩, hb2⟩

set_option maxHeartbeats 1000000 in
theorem awake_any (w : World) : Calls Try.prog 7 #[] w fun e w' => e = .returned (.bool true) ∧ Below w.heap.size w w' := by
  go_enter Try.func7, Try.ntmps7
  go_wp2_with fail
  refine (new_m w w (Below.refl _ _)).mono ?_
  rintro e w1 ⟨gw, rfl, h, _⟩
  go_wp2_with fail
  refine (feed_m gw false [] 0 0 w1 h).mono ?_
  rintro e w2 ⟨rfl, h2, _⟩
  clear h
  go_wp2_with fail
  refine (next_m gw [false] 0 0 w2 h2 (by decide) (by decide)).mono ?_
  rintro e w3 ⟨rfl, h3, _⟩
  clear h2
  go_wp2_with fail
  refine (next_m gw [] 0 1 w3 h3 (by decide) (by decide)).mono ?_
  rintro e w4 ⟨rfl, h4, _⟩
  clear h3
  have h5 := ahead_m gw [] 1 1 w4 h4
  have hb := h4.below
  clear h4
  go_wp2_with fail
  refine h5.mono ?_
  rintro e w5 ⟨A, c, rfl, _, _, _, hb5⟩
  clear h5
  go_wp2_with fail
  go_ret
  exact ⟨rfl, bstep hb hb5⟩
end Go.Proofs.Ytdhdacpnlfojeaa
