/- A ring as the list of what stands in it; where it lies; what stands by it. -/
import Derived.Test.YtdhdacpnlfojeaaRows
import Derived.WalkKit
import Derived.WalkSpells
import Derived.WalkLawsBesides
import Derived.Deep.RegionHeld3
import Derived.Deep.DrawnRows
import Derived.Deep.QuietTactic
import Derived.BigQuiet
import Derived.Lib.Hide
import Derived.Laws.AppendOwn
namespace Go.Proofs.Ytdhdacpnlfojeaa
open Go.RowKit
attribute [local go_sem ↓] Go.wp_at_zero Go.wp_at_succ

/-- a ring in block g: n places in block gb, the first one's place, those that stand there, the room -/
structure RingAt (w : World) (g gb n first room : Nat) (A : Option Addr) (xs : List Value) : Prop where
  lg : g < w.heap.size
  c0 : w.cell? ⟨g, 0, none⟩ = some (.slice A n n)
  c1 : w.cell? ⟨g, 1, none⟩ = some (.int .i64 first)
  c2 : w.cell? ⟨g, 2, none⟩ = some (.int .i64 xs.length)
  c3 : w.cell? ⟨g, 3, none⟩ = some (.int .i64 room)
  fg : ∀ j, w.frozen? ⟨g, j, none⟩ = false
  nr : n ≤ room
  xn : xs.length ≤ n
  rm : room ≤ 1000000
  pl : 0 < n → A = some ⟨gb, 0, none⟩ ∧ first < n ∧ gb < w.heap.size ∧ g ≠ gb ∧ ∀ j, w.frozen? ⟨gb, j, none⟩ = false
  has : ∀ j, j < n → ∃ v, w.cell? ⟨gb, j, none⟩ = some v
  ic : ∀ (k : Nat) x, xs[k]? = some x → w.cell? ⟨gb, (first + k) % n, none⟩ = some x

/-- all blocks but g and gb are as they were -/
structure Sp (g gb : Nat) (w w' : World) : Prop where
  os : w'.os = w.os
  tape : w'.tape = w.tape
  output : w'.output = w.output
  size : w.heap.size ≤ w'.heap.size
  block : ∀ k, k < w.heap.size → k ≠ g → k ≠ gb → w'.heap[k]? = w.heap[k]?
theorem Sp.refl (g gb : Nat) (w : World) : Sp g gb w w := ⟨rfl, rfl, rfl, Nat.le_refl _, fun _ _ _ _ => rfl⟩
theorem Sp.trans {g gb : Nat} {a b c : World} (h : Sp g gb a b) (k : Sp g gb b c) : Sp g gb a c :=
  ⟨k.os.trans h.os, k.tape.trans h.tape, k.output.trans h.output, Nat.le_trans h.size k.size, fun i hi h1 h2 => (k.block i (Nat.lt_of_lt_of_le hi h.size) h1 h2).trans (h.block i hi h1 h2)⟩
theorem Sp.next {g gb gc : Nat} {a b c : World} (h : Sp g gb a b) (k : Sp g gc b c) (hg : gc = gb ∨ a.heap.size ≤ gc) : Sp g gb a c :=
  ⟨k.os.trans h.os, k.tape.trans h.tape, k.output.trans h.output, Nat.le_trans h.size k.size, fun i hi h1 h2 => (k.block i (Nat.lt_of_lt_of_le hi h.size) h1 (by omega)).trans (h.block i hi h1 h2)⟩
theorem Sp.wide {g : Nat} {a b : World} (h : Sp g g a b) (gb : Nat) : Sp g gb a b := ⟨h.os, h.tape, h.output, h.size, fun k hk h1 _ => h.block k hk h1 h1⟩
theorem Sp.of_below {g gb : Nat} {a b : World} (h : Below a.heap.size a b) : Sp g gb a b := ⟨h.os, h.tape, h.output, h.size, fun k hk _ _ => h.block k hk⟩
theorem Sp.alloc {g gb : Nat} {a b : World} (h : Sp g gb a b) (o : Obj) : Sp g gb a (b.alloc o) := h.trans (.of_below ((Below.refl _ _).alloc (Nat.le_refl _) _))
theorem Sp.drew {g gb : Nat} {a b : World} (h : Sp g gb a b) : Sp g gb a b.drew := ⟨h.os, h.tape, h.output, h.size, h.block⟩
theorem Sp.drewN {g gb : Nat} {a b : World} (h : Sp g gb a b) (n : Nat) : Sp g gb a (b.drewN n) := ⟨h.os, h.tape, h.output, h.size, h.block⟩
theorem Sp.set1 {g gb : Nat} {a b : World} (h : Sp g gb a b) (j : Nat) (v : Value) : Sp g gb a (b.setCell ⟨g, j, none⟩ v) :=
  h.trans ⟨rfl, rfl, rfl, by simp [World.setCell], fun k _ h1 _ => Below.heap_setCell _ _ _ _ h1⟩
theorem Sp.set2 {g gb : Nat} {a b : World} (h : Sp g gb a b) (j : Nat) (v : Value) : Sp g gb a (b.setCell ⟨gb, j, none⟩ v) :=
  h.trans ⟨rfl, rfl, rfl, by simp [World.setCell], fun k _ _ h2 => Below.heap_setCell _ _ _ _ h2⟩
theorem Sp.cell {g gb : Nat} {a b : World} (h : Sp g gb a b) {k : Nat} (j : Nat) (hk : k < a.heap.size) (h1 : k ≠ g) (h2 : k ≠ gb) : b.cell? ⟨k, j, none⟩ = a.cell? ⟨k, j, none⟩ :=
  World.cell?_of_block (w := a) (h.block k hk h1 h2)
theorem Sp.frozen {g gb : Nat} {a b : World} (h : Sp g gb a b) {k : Nat} (j : Nat) (hk : k < a.heap.size) (h1 : k ≠ g) (h2 : k ≠ gb) : b.frozen? ⟨k, j, none⟩ = a.frozen? ⟨k, j, none⟩ :=
  World.frozen?_of_block (w := a) (h.block k hk h1 h2)
/-- behind a call that turns only a ring made from block B on, all below B is as it was -/
theorem Sp.below {g gb B : Nat} {w a b : World} (hB : Below B w a) (h : Sp g gb a b) (hs : B ≤ a.heap.size) (h1 : B ≤ g) (h2 : B ≤ gb) : Below B w b :=
  hB.trans ⟨h.os, h.tape, h.output, h.size, fun k hk => h.block k (by omega) (by omega) (by omega)⟩

/-- a ring stands where its own two blocks are as they were -/
theorem RingAt.of_blocks {w w' : World} {g gb n first room : Nat} {A : Option Addr} {xs : List Value} (h : RingAt w g gb n first room A xs)
    (hz : w.heap.size ≤ w'.heap.size) (h1 : w'.heap[g]? = w.heap[g]?) (h2 : 0 < n → w'.heap[gb]? = w.heap[gb]?) : RingAt w' g gb n first room A xs := by
  have e1 : ∀ j, w'.cell? ⟨g, j, none⟩ = w.cell? ⟨g, j, none⟩ := fun j => World.cell?_of_block (w := w) h1
  have e2 : 0 < n → ∀ j, w'.cell? ⟨gb, j, none⟩ = w.cell? ⟨gb, j, none⟩ := fun hn j => World.cell?_of_block (w := w) (h2 hn)
  refine ⟨Nat.lt_of_lt_of_le h.lg hz, (e1 0).trans h.c0, (e1 1).trans h.c1, (e1 2).trans h.c2, (e1 3).trans h.c3, fun j => (World.frozen?_of_block (w := w) (a := ⟨g, j, none⟩) h1).trans (h.fg j), h.nr, h.xn, h.rm, fun hn => ?_, fun j hj => ?_, fun k x hk => ?_⟩
  · obtain ⟨a, b, c, d, e⟩ := h.pl hn
    exact ⟨a, b, Nat.lt_of_lt_of_le c hz, d, fun j => (World.frozen?_of_block (w := w) (a := ⟨gb, j, none⟩) (h2 hn)).trans (e j)⟩
  · rw [e2 (by omega)]; exact h.has j hj
  · have := (List.getElem?_eq_some_iff.1 hk).1
    rw [e2 (by have := h.xn; omega)]; exact h.ic k x hk
theorem RingAt.sp {w w' : World} {g gb n first room g2 gb2 : Nat} {A : Option Addr} {xs : List Value} (h : RingAt w g gb n first room A xs) (hs : Sp g2 gb2 w w')
    (h1 : g ≠ g2) (h2 : g ≠ gb2) (h3 : 0 < n → gb ≠ g2) (h4 : 0 < n → gb ≠ gb2) : RingAt w' g gb n first room A xs :=
  h.of_blocks hs.size (hs.block g h.lg h1 h2) fun hn => hs.block gb (h.pl hn).2.2.1 (h3 hn) (h4 hn)
theorem RingAt.below {w w' : World} {g gb n first room B : Nat} {A : Option Addr} {xs : List Value} (h : RingAt w g gb n first room A xs) (hb : Below B w w') (h1 : g < B) (h2 : 0 < n → gb < B) : RingAt w' g gb n first room A xs :=
  h.of_blocks hb.size (hb.block g h1) fun hn => hb.block gb (h2 hn)
theorem RingAt.on {w w' : World} {g gb n first room : Nat} {A : Option Addr} {xs : List Value} (h : RingAt w g gb n first room A xs) (hb : Below w.heap.size w w') : RingAt w' g gb n first room A xs :=
  h.below hb h.lg fun hn => (h.pl hn).2.2.1
theorem RingAt.alloc {w : World} {g gb n first room : Nat} {A : Option Addr} {xs : List Value} (h : RingAt w g gb n first room A xs) (o : Obj) : RingAt (w.alloc o) g gb n first room A xs := h.on ((Below.refl _ _).alloc (Nat.le_refl _) _)
theorem RingAt.drewN {w : World} {g gb n first room : Nat} {A : Option Addr} {xs : List Value} (h : RingAt w g gb n first room A xs) (m : Nat) : RingAt (w.drewN m) g gb n first room A xs := h.of_blocks (Nat.le_refl _) rfl fun _ => rfl
theorem RingAt.drew {w : World} {g gb n first room : Nat} {A : Option Addr} {xs : List Value} (h : RingAt w g gb n first room A xs) : RingAt w.drew g gb n first room A xs := h.of_blocks (Nat.le_refl _) rfl fun _ => rfl

/-- a ring, whatever its places -/
def Ring (w : World) (g gb room : Nat) (xs : List Value) : Prop := ∃ n first A, RingAt w g gb n first room A xs ∧ (n = 0 → gb = g)
/-- a call turned the ring in g alone; its places lie where they lay, or are new -/
def Turns (w : World) (g gb room : Nat) (xs : List Value) (w' : World) : Prop := ∃ gb', Ring w' g gb' room xs ∧ Sp g gb w w' ∧ (gb' = gb ∨ w.heap.size ≤ gb')
theorem ret_int {k : IntKind} {a b : Int} (h : a = b) : Ending.returned (.int k a) = .returned (.int k b) := by rw [h]
theorem ret_bool {a b : Bool} (h : a = b) : Ending.returned (.bool a) = .returned (.bool b) := by rw [h]
theorem bdrew {N : Nat} {a w : World} (h : Below N a w) (n : Nat) : Below N a (w.drewN n) := ⟨h.os, h.tape, h.output, h.size, h.block⟩
theorem mod_next (a k n : Nat) : ((a + 1) % n + k) % n = (a + (k + 1)) % n := by
  rw [Nat.mod_add_mod]; congr 1; omega
theorem mod_ne {a k m n : Nat} (hk : k < m) (hm : m < n) : (a + k) % n ≠ (a + m) % n := by
  intro e
  have h1 := Nat.div_add_mod (a + k) n
  have h2 := Nat.div_add_mod (a + m) n
  rw [e] at h1
  have h3 : n * ((a + m) / n) = n * ((a + k) / n) + (m - k) := by omega
  have h4 : n ∣ m - k := by
    refine (Nat.dvd_add_right (Nat.dvd_mul_right n ((a + k) / n))).1 ?_
    rw [← h3]
    exact Nat.dvd_mul_right _ _
  have := Nat.le_of_dvd (by omega) h4
  omega

/-- one more stands behind, where there is a place -/
theorem RingAt.push {w : World} {g gb n first room : Nat} {A : Option Addr} {xs : List Value} (h : RingAt w g gb n first room A xs) (hl : xs.length < n) (x : Value) :
    RingAt ((w.setCell ⟨gb, (first + xs.length) % n, none⟩ x).setCell ⟨g, 2, none⟩ (.int .i64 (xs.length + 1 : Nat))) g gb n first room A (xs ++ [x]) := by
  have hn : 0 < n := by omega
  obtain ⟨ha, hf, hb, hne, hz⟩ := h.pl hn
  have hm : (first + xs.length) % n < n := Nat.mod_lt _ hn
  have e1 : ∀ j, (w.setCell ⟨gb, (first + xs.length) % n, none⟩ x).cell? ⟨g, j, none⟩ = w.cell? ⟨g, j, none⟩ := fun j => World.cell?_setCell_other _ _ _ _ (by intro e; injection e with e _; exact hne e.symm)
  have e2 : ∀ j v, j ≠ 2 → ((w.setCell ⟨gb, (first + xs.length) % n, none⟩ x).setCell ⟨g, 2, none⟩ v).cell? ⟨g, j, none⟩ = w.cell? ⟨g, j, none⟩ := fun j v hj => (World.cell?_setCell_other _ _ _ _ (by intro e; injection e with _ e; exact hj e.symm)).trans (e1 j)
  have e3 : ∀ j v, ((w.setCell ⟨gb, (first + xs.length) % n, none⟩ x).setCell ⟨g, 2, none⟩ v).cell? ⟨gb, j, none⟩ = (w.setCell ⟨gb, (first + xs.length) % n, none⟩ x).cell? ⟨gb, j, none⟩ := fun j v => World.cell?_setCell_other _ _ _ _ (by intro e; injection e with e _; exact hne e)
  obtain ⟨v0, hv0⟩ := h.has _ hm
  have e4 : (w.setCell ⟨gb, (first + xs.length) % n, none⟩ x).cell? ⟨gb, (first + xs.length) % n, none⟩ = some x := World.cell?_setCell_same' _ _ _ (by rw [hv0]; rfl)
  refine ⟨by simpa [World.setCell] using h.lg, (e2 0 _ (by decide)).trans h.c0, (e2 1 _ (by decide)).trans h.c1, ?_, (e2 3 _ (by decide)).trans h.c3, fun j => ?_, h.nr, by simp; omega, h.rm, fun _ => ⟨ha, hf, by simpa [World.setCell] using hb, hne, fun j => ?_⟩, fun j hj => ?_, fun k y hk => ?_⟩
  · rw [List.length_append]
    exact World.cell?_setCell_same' _ _ _ (by rw [e1, h.c2]; rfl)
  · simpa using h.fg j
  · simpa using hz j
  · rw [e3]
    by_cases e : j = (first + xs.length) % n
    · subst e; exact ⟨x, e4⟩
    · rw [World.cell?_setCell_other _ _ _ _ (by intro e'; injection e' with _ e'; exact e e'.symm)]
      exact h.has j hj
  · rw [e3]
    have hkl := (List.getElem?_eq_some_iff.1 hk).1
    simp at hkl
    by_cases e : k = xs.length
    · subst e
      rw [List.getElem?_append_right (Nat.le_refl _)] at hk
      simp at hk
      subst hk
      exact e4
    · rw [List.getElem?_append_left (by omega)] at hk
      rw [World.cell?_setCell_other _ _ _ _ (by intro e'; injection e' with _ e'; exact mod_ne (a := first) (show k < xs.length by omega) hl e'.symm)]
      exact h.ic k y hk

/-- the first one goes -/
theorem RingAt.pop {w : World} {g gb n first room : Nat} {A : Option Addr} {x : Value} {xs : List Value} (h : RingAt w g gb n first room A (x :: xs)) (z : Value) (q : Nat) :
    RingAt ((((w.setCell ⟨gb, first, none⟩ z).drewN q).setCell ⟨g, 1, none⟩ (.int .i64 ((first + 1) % n : Nat))).setCell ⟨g, 2, none⟩ (.int .i64 xs.length)) g gb n ((first + 1) % n) room A xs := by
  have hxn := h.xn
  simp at hxn
  have hn : 0 < n := by omega
  obtain ⟨ha, hf, hb, hne, hz⟩ := h.pl hn
  have e1 : ∀ j, ((w.setCell ⟨gb, first, none⟩ z).drewN q).cell? ⟨g, j, none⟩ = w.cell? ⟨g, j, none⟩ := fun j => World.cell?_setCell_other _ _ _ _ (by intro e; injection e with e _; exact hne e.symm)
  have e2 : ∀ j v u, j ≠ 1 → j ≠ 2 → ((((w.setCell ⟨gb, first, none⟩ z).drewN q).setCell ⟨g, 1, none⟩ u).setCell ⟨g, 2, none⟩ v).cell? ⟨g, j, none⟩ = w.cell? ⟨g, j, none⟩ := fun j v u h1 h2 =>
    (World.cell?_setCell_other _ _ _ _ (by intro e; injection e with _ e; exact h2 e.symm)).trans ((World.cell?_setCell_other _ _ _ _ (by intro e; injection e with _ e; exact h1 e.symm)).trans (e1 j))
  have e3 : ∀ j v u, ((((w.setCell ⟨gb, first, none⟩ z).drewN q).setCell ⟨g, 1, none⟩ u).setCell ⟨g, 2, none⟩ v).cell? ⟨gb, j, none⟩ = (w.setCell ⟨gb, first, none⟩ z).cell? ⟨gb, j, none⟩ := fun j v u =>
    (World.cell?_setCell_other _ _ _ _ (by intro e; injection e with e _; exact hne e)).trans (World.cell?_setCell_other _ _ _ _ (by intro e; injection e with e _; exact hne e))
  refine ⟨by simpa [World.setCell] using h.lg, (e2 0 _ _ (by decide) (by decide)).trans h.c0, ?_, ?_, (e2 3 _ _ (by decide) (by decide)).trans h.c3, fun j => ?_, h.nr, by omega, h.rm, fun _ => ⟨ha, Nat.mod_lt _ hn, by simpa [World.setCell] using hb, hne, fun j => ?_⟩, fun j hj => ?_, fun k y hk => ?_⟩
  · rw [World.cell?_setCell_other _ _ _ _ (by intro e; injection e with _ e; cases e)]
    exact World.cell?_setCell_same' _ _ _ (by rw [e1, h.c1]; rfl)
  · exact World.cell?_setCell_same' _ _ _ (by rw [World.cell?_setCell_other _ _ _ _ (by intro e; injection e with _ e; cases e), e1, h.c2]; rfl)
  · simpa using h.fg j
  · simpa using hz j
  · rw [e3]
    by_cases e : j = first
    · subst e
      obtain ⟨v0, hv0⟩ := h.has _ hf
      exact ⟨z, World.cell?_setCell_same' _ _ _ (by rw [hv0]; rfl)⟩
    · rw [World.cell?_setCell_other _ _ _ _ (by intro e'; injection e' with _ e'; exact e e'.symm)]
      exact h.has j hj
  · rw [e3, mod_next]
    have hkl := (List.getElem?_eq_some_iff.1 hk).1
    have hff : first = (first + 0) % n := by rw [Nat.add_zero, Nat.mod_eq_of_lt hf]
    rw [World.cell?_setCell_other _ _ _ _ (by intro e'; injection e' with _ e'; exact mod_ne (a := first) (show 0 < k + 1 by omega) (show k + 1 < n by omega) (hff.symm.trans e'))]
    exact h.ic (k + 1) y hk

/-- block b holds m places of which the first k are as the list's -/
structure Half (w : World) (b m k : Nat) (xs : List Value) : Prop where
  lt : b < w.heap.size
  free : ∀ j, w.frozen? ⟨b, j, none⟩ = false
  has : ∀ j, j < m → ∃ v, w.cell? ⟨b, j, none⟩ = some v
  ic : ∀ (j : Nat) x, j < k → xs[j]? = some x → w.cell? ⟨b, j, none⟩ = some x
theorem frozen_row {w : World} {b : Nat} {cs : Array Value} {T : TypeId} (hb : w.heap[b]? = some (.cells cs T (0, 0))) (j : Nat) : w.frozen? ⟨b, j, none⟩ = false := by simp [World.frozen?, hb]
theorem Half.made (w : World) (z : Value) (m : Nat) (xs : List Value) (T : TypeId) : Half (w.alloc (.cells (madeCells #[z] m) T)) w.heap.size m 0 xs := by
  have hb : (w.alloc (.cells (madeCells #[z] m) T)).heap[w.heap.size]? = some (.cells (madeCells #[z] m) T (0, 0)) := heap_alloc_new w _
  refine ⟨(Array.getElem?_eq_some_iff.1 hb).1, fun j => frozen_row hb j, fun j hj => ⟨z, ?_⟩, fun j x hj => by omega⟩
  rw [cell_of_row _ _ j _ T (0, 0) hb]
  simp [madeCells, Nat.mod_one, hj]
theorem Half.on {w w' : World} {b m k : Nat} {xs : List Value} (h : Half w b m k xs) (hb : w'.heap[b]? = w.heap[b]?) (hz : w.heap.size ≤ w'.heap.size) : Half w' b m k xs := by
  have e1 : ∀ j, w'.cell? ⟨b, j, none⟩ = w.cell? ⟨b, j, none⟩ := fun j => World.cell?_of_block (w := w) hb
  exact ⟨Nat.lt_of_lt_of_le h.lt hz, fun j => (World.frozen?_of_block (w := w) (a := ⟨b, j, none⟩) hb).trans (h.free j), fun j hj => by rw [e1]; exact h.has j hj, fun j x hj hx => by rw [e1]; exact h.ic j x hj hx⟩
theorem Half.drewN {w : World} {b m k : Nat} {xs : List Value} (h : Half w b m k xs) (q : Nat) : Half (w.drewN q) b m k xs := h.on rfl (Nat.le_refl _)
theorem Half.put {w : World} {b m k : Nat} {xs : List Value} {x : Value} (h : Half w b m k xs) (hk : k < m) (hx : xs[k]? = some x) : Half (w.setCell ⟨b, k, none⟩ x) b m (k + 1) xs := by
  obtain ⟨v0, hv0⟩ := h.has k hk
  have e4 : (w.setCell ⟨b, k, none⟩ x).cell? ⟨b, k, none⟩ = some x := World.cell?_setCell_same' _ _ _ (by rw [hv0]; rfl)
  have e5 : ∀ j, j ≠ k → (w.setCell ⟨b, k, none⟩ x).cell? ⟨b, j, none⟩ = w.cell? ⟨b, j, none⟩ := fun j hj => World.cell?_setCell_other _ _ _ _ (by intro e'; injection e' with _ e'; exact hj e'.symm)
  refine ⟨by simpa [World.setCell] using h.lt, fun j => by simpa using h.free j, fun j hj => ?_, fun j y hj hy => ?_⟩
  · by_cases e : j = k
    · subst e; exact ⟨x, e4⟩
    · rw [e5 j e]; exact h.has j hj
  · by_cases e : j = k
    · subst e; rw [hx] at hy; injection hy with hy; subst hy; exact e4
    · rw [e5 j e]; exact h.ic j y (by omega) hy
/-- the ring moves into the wider block -/
theorem RingAt.wider {w : World} {g gb n first room b m : Nat} {A : Option Addr} {xs : List Value} (h : RingAt w g gb n first room A xs) (hh : Half w b m xs.length xs) (hg : g ≠ b) (hl : xs.length ≤ m) (hm : 0 < m) (hr : m ≤ room) :
    RingAt ((w.setCell ⟨g, 0, none⟩ (.slice (some ⟨b, 0, none⟩) m m)).setCell ⟨g, 1, none⟩ (.int .i64 0)) g b m 0 room (some ⟨b, 0, none⟩) xs := by
  have e2 : ∀ j v u, j ≠ 0 → j ≠ 1 → ((w.setCell ⟨g, 0, none⟩ u).setCell ⟨g, 1, none⟩ v).cell? ⟨g, j, none⟩ = w.cell? ⟨g, j, none⟩ := fun j v u h1 h2 =>
    (World.cell?_setCell_other _ _ _ _ (by intro e; injection e with _ e; exact h2 e.symm)).trans (World.cell?_setCell_other _ _ _ _ (by intro e; injection e with _ e; exact h1 e.symm))
  have e3 : ∀ j v u, ((w.setCell ⟨g, 0, none⟩ u).setCell ⟨g, 1, none⟩ v).cell? ⟨b, j, none⟩ = w.cell? ⟨b, j, none⟩ := fun j v u =>
    (World.cell?_setCell_other _ _ _ _ (by intro e; injection e with e _; exact hg e)).trans (World.cell?_setCell_other _ _ _ _ (by intro e; injection e with e _; exact hg e))
  refine ⟨by simpa [World.setCell] using h.lg, ?_, ?_, (e2 2 _ _ (by decide) (by decide)).trans h.c2, (e2 3 _ _ (by decide) (by decide)).trans h.c3, fun j => ?_, hr, hl, h.rm, fun _ => ⟨rfl, hm, by simpa [World.setCell] using hh.lt, hg, fun j => ?_⟩, fun j hj => ?_, fun k y hk => ?_⟩
  · rw [World.cell?_setCell_other _ _ _ _ (by intro e; injection e with _ e; cases e)]
    exact World.cell?_setCell_same' _ _ _ (by rw [h.c0]; rfl)
  · exact World.cell?_setCell_same' _ _ _ (by rw [World.cell?_setCell_other _ _ _ _ (by intro e; injection e with _ e; cases e), h.c1]; rfl)
  · simpa using h.fg j
  · simpa using hh.free j
  · rw [e3]; exact hh.has j hj
  · have hkl := (List.getElem?_eq_some_iff.1 hk).1
    rw [e3, Nat.zero_add, Nat.mod_eq_of_lt (by omega)]
    exact hh.ic k y hkl hk
/-- a new ring -/
theorem ring_new (w : World) (room : Nat) (T : TypeId) (hr : room ≤ 1000000) : RingAt (w.alloc (.cells #[.slice none 0 0, .int .i64 0, .int .i64 0, .int .i64 room] T)) w.heap.size w.heap.size 0 0 room none [] := by
  have hb : (w.alloc (.cells #[.slice none 0 0, .int .i64 0, .int .i64 0, .int .i64 room] T)).heap[w.heap.size]? = some (.cells #[.slice none 0 0, .int .i64 0, .int .i64 0, .int .i64 room] T (0, 0)) := heap_alloc_new w _
  exact ⟨(Array.getElem?_eq_some_iff.1 hb).1, cell_of_row _ _ 0 _ T (0, 0) hb, cell_of_row _ _ 1 _ T (0, 0) hb, cell_of_row _ _ 2 _ T (0, 0) hb, cell_of_row _ _ 3 _ T (0, 0) hb, fun j => frozen_row hb j,
    Nat.zero_le _, Nat.le_refl _, hr, fun h => by omega, fun j h => by omega, fun k x h => by simp at h⟩
def roomN (r : Int) : Nat := (min (max r 0) 1000000).toNat
theorem roomN_le (r : Int) : roomN r ≤ 1000000 := by unfold roomN; omega
/-- what New hands back -/
def TellsNew (w : World) (room : Nat) (e : Ending) (w' : World) : Prop := ∃ g, e = .returned (.pointer (some ⟨g, 0, none⟩)) ∧ w.heap.size ≤ g ∧ Ring w' g g room [] ∧ Below w.heap.size w w'
/-- what stands there behind a Push -/
def pushA (room : Nat) (xs : List Value) (x : Value) : List Value := if xs.length < room then xs ++ [x] else xs
theorem pushA_room {room : Nat} {xs : List Value} {x : Value} (h : xs.length < room) : pushA room xs x = xs ++ [x] := if_pos h
theorem pushA_full {room : Nat} {xs : List Value} {x : Value} (h : ¬ xs.length < room) : pushA room xs x = xs := if_neg h
theorem Ring.le {w : World} {g gb room : Nat} {xs : List Value} (h : Ring w g gb room xs) : xs.length ≤ room := by
  obtain ⟨n, f, A, h, _⟩ := h
  exact Nat.le_trans h.xn h.nr
theorem Ring.room_le {w : World} {g gb room : Nat} {xs : List Value} (h : Ring w g gb room xs) : room ≤ 1000000 := by
  obtain ⟨n, f, A, h, _⟩ := h
  exact h.rm
theorem Ring.same {w : World} {g gb room : Nat} {xs : List Value} (h : Ring w g gb room xs) (q : Nat) : Turns w g gb room xs (w.drewN q) := by
  obtain ⟨n, f, A, h, e⟩ := h
  exact ⟨gb, ⟨n, f, A, h.drewN q, e⟩, (Sp.refl _ _ _).drewN q, .inl rfl⟩
theorem Ring.lt {w : World} {g gb room : Nat} {xs : List Value} (h : Ring w g gb room xs) : g < w.heap.size ∧ gb < w.heap.size := by
  obtain ⟨n, f, A, h, e⟩ := h
  refine ⟨h.lg, ?_⟩
  rcases Nat.eq_zero_or_pos n with hn | hn
  · rw [e hn]; exact h.lg
  · exact (h.pl hn).2.2.1
theorem Ring.of_blocks {w w' : World} {g gb room : Nat} {xs : List Value} (h : Ring w g gb room xs) (hz : w.heap.size ≤ w'.heap.size) (h1 : w'.heap[g]? = w.heap[g]?) (h2 : w'.heap[gb]? = w.heap[gb]?) : Ring w' g gb room xs := by
  obtain ⟨n, f, A, h, e⟩ := h
  exact ⟨n, f, A, h.of_blocks hz h1 fun _ => h2, e⟩
theorem Ring.on {w w' : World} {g gb room : Nat} {xs : List Value} (h : Ring w g gb room xs) (hb : Below w.heap.size w w') : Ring w' g gb room xs :=
  h.of_blocks hb.size (hb.block _ h.lt.1) (hb.block _ h.lt.2)
theorem Ring.sp {w w' : World} {g gb room g2 gb2 : Nat} {xs : List Value} (h : Ring w g gb room xs) (hs : Sp g2 gb2 w w') (h1 : g ≠ g2) (h2 : g ≠ gb2) (h3 : gb ≠ g2) (h4 : gb ≠ gb2) : Ring w' g gb room xs :=
  h.of_blocks hs.size (hs.block _ h.lt.1 h1 h2) (hs.block _ h.lt.2 h3 h4)
theorem Ring.drewN {w : World} {g gb room : Nat} {xs : List Value} (h : Ring w g gb room xs) (q : Nat) : Ring (w.drewN q) g gb room xs := h.of_blocks (Nat.le_refl _) rfl rfl
theorem Ring.alloc {w : World} {g gb room : Nat} {xs : List Value} (h : Ring w g gb room xs) (o : Obj) : Ring (w.alloc o) g gb room xs := h.on ((Below.refl _ _).alloc (Nat.le_refl _) _)
end Go.Proofs.Ytdhdacpnlfojeaa
