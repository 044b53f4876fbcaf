/- The document's own world: what its calls tell and leave. -/
import Derived.Test.YtdhdacpnlfojeaaWin
namespace Go.Proofs.Ytdhdacpnlfojeaa
open Go.RowKit
attribute [local go_sem ↓] Go.wp_at_zero Go.wp_at_succ

/-- the document's world in block r, made since w0 -/
structure RefW (w0 w : World) (r : Nat) (A : Option Addr) (c : Nat) (xs : List Bool) (y n : Int) : Prop where
  lr : r < w.heap.size
  r0 : w0.heap.size ≤ r
  sz : w0.heap.size ≤ w.heap.size
  c0 : w.cell? ⟨r, 0, none⟩ = some (.slice A xs.length c)
  c1 : w.cell? ⟨r, 1, none⟩ = some (vI y)
  c2 : w.cell? ⟨r, 2, none⟩ = some (vI n)
  fz : ∀ j, w.frozen? ⟨r, j, none⟩ = false
  win : Win w0 w A xs.length c xs
  ne : ¬ Blk A r
/-- its blocks -/
def Rb (r : Nat) (A : Option Addr) : Nat → Prop := fun k => k = r ∨ Blk A k
theorem RefW.keep {w0 w w' : World} {r : Nat} {A : Option Addr} {c : Nat} {xs : List Bool} {y n : Int} (h : RefW w0 w r A c xs y n) (hz : w.heap.size ≤ w'.heap.size) (hb : ∀ k, Rb r A k → w'.heap[k]? = w.heap[k]?) : RefW w0 w' r A c xs y n := by
  have e := hb r (.inl rfl)
  have e1 : ∀ j, w'.cell? ⟨r, j, none⟩ = w.cell? ⟨r, j, none⟩ := fun j => World.cell?_of_block (w := w) e
  exact ⟨Nat.lt_of_lt_of_le h.lr hz, h.r0, Nat.le_trans h.sz hz, (e1 0).trans h.c0, (e1 1).trans h.c1, (e1 2).trans h.c2, fun j => (World.frozen?_of_block (w := w) (a := ⟨r, j, none⟩) e).trans (h.fz j), h.win.keep hz (fun k _ hk => hb k (.inr hk)), h.ne⟩
theorem RefW.lt {w0 w : World} {r : Nat} {A : Option Addr} {c : Nat} {xs : List Bool} {y n : Int} (h : RefW w0 w r A c xs y n) {k : Nat} (hk : Rb r A k) : w0.heap.size ≤ k ∧ k < w.heap.size := by
  rcases hk with rfl | hk
  · exact ⟨h.r0, h.lr⟩
  · exact h.win.lt hk
theorem RefW.on {w0 w w' : World} {r : Nat} {A : Option Addr} {c : Nat} {xs : List Bool} {y n : Int} (h : RefW w0 w r A c xs y n) (hb : Below w.heap.size w w') : RefW w0 w' r A c xs y n := h.keep hb.size (fun k hk => hb.block k (h.lt hk).2)
theorem RefW.drewN {w0 w : World} {r : Nat} {A : Option Addr} {c : Nat} {xs : List Bool} {y n : Int} (h : RefW w0 w r A c xs y n) (q : Nat) : RefW w0 (w.drewN q) r A c xs y n := h.keep (Nat.le_refl _) (fun _ _ => rfl)
/-- the slice turned, and stands in the box -/
theorem RefW.put {w0 w w4 : World} {r : Nat} {A A' : Option Addr} {c c' : Nat} {xs xs' : List Bool} {y n : Int} (h : RefW w0 w r A c xs y n) (hs : SpX (Blk A) w w4) (hw : Win w0 w4 A' xs'.length c' xs') (hA : ∀ k, Blk A' k → Blk A k ∨ w.heap.size ≤ k) :
    RefW w0 (w4.setCell ⟨r, 0, none⟩ (.slice A' xs'.length c')) r A' c' xs' y n ∧ SpX (Rb r A) w (w4.setCell ⟨r, 0, none⟩ (.slice A' xs'.length c')) ∧ w4.cell? ⟨r, 0, none⟩ = some (.slice A xs.length c) ∧ w4.frozen? ⟨r, 0, none⟩ = false := by
  have e := hs.block r h.lr h.ne
  have e1 : ∀ j, w4.cell? ⟨r, j, none⟩ = w.cell? ⟨r, j, none⟩ := fun j => World.cell?_of_block (w := w) e
  have e2 : ∀ j v, j ≠ 0 → (w4.setCell ⟨r, 0, none⟩ v).cell? ⟨r, j, none⟩ = w4.cell? ⟨r, j, none⟩ := fun j v hj => World.cell?_setCell_other _ _ _ _ (by intro e; injection e with _ e; exact hj e.symm)
  have f1 : ∀ j, w4.frozen? ⟨r, j, none⟩ = false := fun j => (World.frozen?_of_block (w := w) (a := ⟨r, j, none⟩) e).trans (h.fz j)
  have hne : ¬ Blk A' r := fun e => (hA r e).elim h.ne (fun e => by have := h.lr; omega)
  have hsz := hs.size
  refine ⟨⟨by have := h.lr; simp [World.setCell]; omega, h.r0, by have := h.sz; simp [World.setCell]; omega, World.cell?_setCell_same' _ _ _ (by rw [e1, h.c0]; rfl), (e2 1 _ (by decide)).trans ((e1 1).trans h.c1), (e2 2 _ (by decide)).trans ((e1 2).trans h.c2), fun j => by simpa using f1 j,
    hw.keep (by simp [World.setCell]) (fun k _ hk => Below.heap_setCell _ _ _ _ (fun e => by have e : k = r := e; exact hne (e ▸ hk))), hne⟩, ?_, (e1 0).trans h.c0, f1 0⟩
  have hs2 : SpX (Rb r A) w w4 := ⟨hs.os, hs.tape, hs.output, hs.size, fun k hk hx => hs.block k hk (fun e => hx (.inr e))⟩
  exact hs2.set r _ _ (.inl rfl)
theorem RefW.set1 {w0 w : World} {r : Nat} {A : Option Addr} {c : Nat} {xs : List Bool} {y n : Int} (h : RefW w0 w r A c xs y n) : RefW w0 (w.setCell ⟨r, 1, none⟩ (vI (y + 1))) r A c xs (y + 1) n := by
  have e2 : ∀ j v, j ≠ 1 → (w.setCell ⟨r, 1, none⟩ v).cell? ⟨r, j, none⟩ = w.cell? ⟨r, j, none⟩ := fun j v hj => World.cell?_setCell_other _ _ _ _ (by intro e; injection e with _ e; exact hj e.symm)
  exact ⟨by simpa [World.setCell] using h.lr, h.r0, by simpa [World.setCell] using h.sz, (e2 0 _ (by decide)).trans h.c0, World.cell?_setCell_same' _ _ _ (by rw [h.c1]; rfl), (e2 2 _ (by decide)).trans h.c2, fun j => by simpa using h.fz j,
    h.win.keep (by simp [World.setCell]) (fun k _ hk => Below.heap_setCell _ _ _ _ (fun e => by have e : k = r := e; exact h.ne (e ▸ hk))), h.ne⟩
theorem RefW.set2 {w0 w : World} {r : Nat} {A : Option Addr} {c : Nat} {xs : List Bool} {y n : Int} (h : RefW w0 w r A c xs y n) : RefW w0 (w.setCell ⟨r, 2, none⟩ (vI (n + 1))) r A c xs y (n + 1) := by
  have e2 : ∀ j v, j ≠ 2 → (w.setCell ⟨r, 2, none⟩ v).cell? ⟨r, j, none⟩ = w.cell? ⟨r, j, none⟩ := fun j v hj => World.cell?_setCell_other _ _ _ _ (by intro e; injection e with _ e; exact hj e.symm)
  exact ⟨by simpa [World.setCell] using h.lr, h.r0, by simpa [World.setCell] using h.sz, (e2 0 _ (by decide)).trans h.c0, (e2 1 _ (by decide)).trans h.c1, World.cell?_setCell_same' _ _ _ (by rw [h.c2]; rfl), fun j => by simpa using h.fz j,
    h.win.keep (by simp [World.setCell]) (fun k _ hk => Below.heap_setCell _ _ _ _ (fun e => by have e : k = r := e; exact h.ne (e ▸ hk))), h.ne⟩
/-- a call told v and left the document's world so -/
def EndsR (w0 w : World) (r : Nat) (A : Option Addr) (xs : List Bool) (y n : Int) (v : Value) (e : Ending) (w' : World) : Prop :=
  e = .returned v ∧ ∃ A' c', RefW w0 w' r A' c' xs y n ∧ SpX (Rb r A) w w' ∧ (∀ k, Rb r A' k → Rb r A k ∨ w.heap.size ≤ k)
theorem ref_new (w0 w : World) (h0 : w0.heap.size ≤ w.heap.size) : RefW w0 (w.alloc (.cells #[.slice none 0 0, vI 0, vI 0] 29)) w.heap.size none 0 [] 0 0 := by
  have hn : (w.alloc (.cells #[.slice none 0 0, vI 0, vI 0] 29)).heap[w.heap.size]? = some (.cells #[.slice none 0 0, vI 0, vI 0] 29 (0, 0)) := heap_alloc_new w _
  exact ⟨(Array.getElem?_eq_some_iff.1 hn).1, h0, by simp; omega, cell_of_row _ _ 0 _ 29 (0, 0) hn, cell_of_row _ _ 1 _ 29 (0, 0) hn, cell_of_row _ _ 2 _ 29 (0, 0) hn, fun j => frozen_row hn j, Win.nil _ _, fun e => by obtain ⟨a, e, _⟩ := e; cases e⟩

set_option maxHeartbeats 1000000 in
theorem refFeed_any (w0 : World) (r : Nat) (A : Option Addr) (c : Nat) (x : Bool) (xs : List Bool) (y n : Int) (w : World) (h : RefW w0 w r A c xs y n) (hl : xs.length ≤ 1000) :
    Calls Try.prog 10 #[ptr r, vB x] w (EndsR w0 w r A (feedA xs x) y n (.bool (decide (xs.length < 1000)))) := by
  have h0 := h.c0
  by_cases hlt : xs.length < 1000
  · rw [decide_eq_true hlt, feedA_room hlt]
    have q1 : ¬ (1000 : Int) ≤ (xs.length : Int) := by omega
    go_enter Try.func10, Try.ntmps10
    go_wp2_with (first | (at_builtin; refine h.win.app h.sz (by omega) rfl _ _ rfl rfl x rfl ?_))
    intro A' c' w4 hW hs hA
    have hlen : (xs ++ [x]).length = xs.length + 1 := by simp
    rw [← hlen] at hW ⊢
    obtain ⟨k1, k2, k3, k4⟩ := h.put hs hW hA
    have K1 := Lib.hid k1
    have K2 := Lib.hid k2
    clear k1 k2 h0
    obtain ⟨L, eL⟩ : ∃ L, L = (xs ++ [x]).length := ⟨_, rfl⟩
    rw [← eL] at hW K1 K2 ⊢
    clear eL hlen q1
    go_wp2_with fail
    go_ret
    exact ⟨rfl, A', c', K1.out, K2.out, fun k hk => hk.elim (fun e => .inl (.inl e)) (fun e => (hA k e).imp .inr id)⟩
  · rw [decide_eq_false hlt, feedA_full hlt]
    have q1 : (1000 : Int) ≤ (xs.length : Int) := by omega
    go_enter Try.func10, Try.ntmps10
    go_wp2
    go_ret
    exact ⟨rfl, A, c, h, SpX.refl _ _, fun k hk => .inl hk⟩
set_option maxHeartbeats 1000000 in
theorem refNext_any (w0 : World) (r : Nat) (A : Option Addr) (c : Nat) (xs : List Bool) (y n : Int) (w : World) (h : RefW w0 w r A c xs y n) (hl : xs.length ≤ 1000) (hy : y < 1000000) (hn : n < 1000000) (hy0 : 0 ≤ y) (hn0 : 0 ≤ n) :
    Calls Try.prog 12 #[ptr r] w (EndsR w0 w r A xs.tail (goodA xs y) (badA xs n) (vB (nextA xs))) := by
  have h0 := h.c0
  have h1 := h.c1
  have h2 := h.c2
  have f0 := h.fz 0
  have f1 := h.fz 1
  have f2 := h.fz 2
  cases xs with
  | nil =>
    go_enter Try.func12, Try.ntmps12
    go_wp2
    go_ret
    exact ⟨rfl, A, c, h.set1, (SpX.refl _ _).set r _ _ (.inl rfl), fun k hk => .inl hk⟩
  | cons x t =>
    cases A with
    | none =>
      have := h.win.nn rfl
      have := h.win.nc
      simp at this
      omega
    | some a =>
      obtain ⟨b, off, rfl, k1, k2, k3, k4, k5⟩ := h.win.pl a rfl
      have hx := k5 0 x rfl
      rw [Nat.add_zero] at hx
      have hc := h.win.nc
      rw [List.length_cons] at hc h0
      have q1 : (0 : Int) < (t.length : Int) + 1 := by omega
      by_cases hc1 : c = 1
      · obtain ⟨kw, rfl⟩ := h.win.tail1 hc1
        have kp := h.put (xs' := []) (c' := 0) (SpX.refl _ w) kw (fun k hk => .inl hk)
        subst hc1
        obtain ⟨m1, m2, _, _⟩ := kp
        have M1 := Lib.hid m1
        have M2 := Lib.hid m2
        clear m1 m2 kw
        go_enter Try.func12, Try.ntmps12
        cases x with
        | true =>
          go_wp2_with fail
          go_ret
          exact ⟨rfl, _, _, M1.out.set1, M2.out.set r _ _ (.inl rfl), fun k hk => .inl hk⟩
        | false =>
          go_wp2_with fail
          go_ret
          exact ⟨rfl, _, _, M1.out.set2, M2.out.set r _ _ (.inl rfl), fun k hk => .inl hk⟩
      · have kp := h.put (SpX.refl _ w) h.win.tail (fun k hk => .inl (by obtain ⟨a, e, rfl⟩ := hk; injection e with e; subst e; exact ⟨_, rfl, rfl⟩))
        have hc2 : ((1 : Int) == (c : Int)) = false := by simp; omega
        have hc3 : (1 == c) = false := by simp; omega
        obtain ⟨m1, m2, _, _⟩ := kp
        have M1 := Lib.hid m1
        have M2 := Lib.hid m2
        clear m1 m2
        go_enter Try.func12, Try.ntmps12
        cases x with
        | true =>
          go_wp2_with fail
          go_ret
          exact ⟨rfl, _, _, M1.out.set1, M2.out.set r _ _ (.inl rfl), fun k hk => .inl (by rcases hk with hk | ⟨a, e, rfl⟩; exact .inl hk; injection e with e; subst e; exact .inr ⟨_, rfl, rfl⟩)⟩
        | false =>
          go_wp2_with fail
          go_ret
          exact ⟨rfl, _, _, M1.out.set2, M2.out.set r _ _ (.inl rfl), fun k hk => .inl (by rcases hk with hk | ⟨a, e, rfl⟩; exact .inl hk; injection e with e; subst e; exact .inr ⟨_, rfl, rfl⟩)⟩
end Go.Proofs.Ytdhdacpnlfojeaa
