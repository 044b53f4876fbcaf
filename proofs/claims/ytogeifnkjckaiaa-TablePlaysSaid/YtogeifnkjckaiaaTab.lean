/- A table: its header in block g, its tree beside it; Z: the blocks that are none of its tree's. -/
import Derived.Test.YtogeifnkjckaiaaTree
namespace Go.Proofs.Ytogeifnkjckaiaa
open Go.RowKit

theorem frozen_row {w : World} {b : Nat} {cs : Array Value} {T : TypeId} (hb : w.heap[b]? = some (.cells cs T (0, 0))) (j : Nat) : w.frozen? ⟨b, j, none⟩ = false := by simp [World.frozen?, hb]
/-- all blocks but g are as they were -/
structure Sp (g : Nat) (w w' : World) : Prop where
  os : w'.os = w.os
  tape : w'.tape = w.tape
  output : w'.output = w.output
  size : w.heap.size ≤ w'.heap.size
  block : ∀ k, k < w.heap.size → k ≠ g → w'.heap[k]? = w.heap[k]?
theorem Sp.refl (g : Nat) (w : World) : Sp g w w := ⟨rfl, rfl, rfl, Nat.le_refl _, fun _ _ _ => rfl⟩
theorem Sp.trans {g : Nat} {a b c : World} (h : Sp g a b) (k : Sp g b c) : Sp g a c :=
  ⟨k.os.trans h.os, k.tape.trans h.tape, k.output.trans h.output, Nat.le_trans h.size k.size, fun i hi h1 => (k.block i (Nat.lt_of_lt_of_le hi h.size) h1).trans (h.block i hi h1)⟩
theorem Sp.of_below {g : Nat} {a b : World} (h : Below a.heap.size a b) : Sp g a b := ⟨h.os, h.tape, h.output, h.size, fun k hk _ => h.block k hk⟩
theorem Sp.drewN {g : Nat} {a b : World} (h : Sp g a b) (n : Nat) : Sp g a (b.drewN n) := ⟨h.os, h.tape, h.output, h.size, h.block⟩
theorem Sp.drew {g : Nat} {a b : World} (h : Sp g a b) : Sp g a b.drew := ⟨h.os, h.tape, h.output, h.size, h.block⟩
theorem Sp.set {g : Nat} {a b : World} (h : Sp g a b) (j : Nat) (v : Value) : Sp g a (b.setCell ⟨g, j, none⟩ v) :=
  h.trans ⟨rfl, rfl, rfl, by simp [World.setCell], fun k _ h1 => Below.heap_setCell _ _ _ _ h1⟩
theorem Sp.cell {g : Nat} {a b : World} (h : Sp g a b) {k : Nat} (j : Nat) (hk : k < a.heap.size) (h1 : k ≠ g) : b.cell? ⟨k, j, none⟩ = a.cell? ⟨k, j, none⟩ :=
  World.cell?_of_block (w := a) (h.block k hk h1)
theorem Sp.frozen {g : Nat} {a b : World} (h : Sp g a b) {k : Nat} (j : Nat) (hk : k < a.heap.size) (h1 : k ≠ g) : b.frozen? ⟨k, j, none⟩ = a.frozen? ⟨k, j, none⟩ :=
  World.frozen?_of_block (w := a) (h.block k hk h1)
/-- behind a call that turns only a table made from block B on, all below B is as it was -/
theorem Sp.below {g B : Nat} {w a b : World} (hB : Below B w a) (h : Sp g a b) (hs : B ≤ a.heap.size) (h1 : B ≤ g) : Below B w b :=
  hB.trans ⟨h.os, h.tape, h.output, h.size, fun k hk => h.block k (by omega) (by omega)⟩

section
variable {K V : Type} [Key K]
structure TabAt (eK : K → Value) (eV : V → Value) (Z : List Nat) (w : World) (g : Nat) (A : Option Addr) (t : Tr K V) (xs : List (K × V)) : Prop where
  gz : g ∈ Z
  zl : ∀ k ∈ Z, k < w.heap.size
  c0 : w.cell? ⟨g, 0, none⟩ = some (.pointer A)
  c1 : w.cell? ⟨g, 1, none⟩ = some (.int .i64 xs.length)
  fz : ∀ j, w.frozen? ⟨g, j, none⟩ = false
  tr : TreeAt eK eV (fun k => k ∉ Z) w A t
  tl : t.toL = xs
  rs : Rises xs
def Tab (eK : K → Value) (eV : V → Value) (Z : List Nat) (w : World) (g : Nat) (xs : List (K × V)) : Prop := ∃ A t, TabAt eK eV Z w g A t xs
variable {eK : K → Value} {eV : V → Value} {Z : List Nat} {g : Nat} {A : Option Addr} {t : Tr K V} {xs : List (K × V)}
theorem TabAt.new {w : World} (h : TabAt eK eV Z w g A t xs) : ∀ j, w.heap.size ≤ j → j ∉ Z := fun j hj e => by have := h.zl j e; omega
theorem Tab.lt {w : World} (h : Tab eK eV Z w g xs) : g < w.heap.size := by obtain ⟨A, t, h⟩ := h; exact h.zl g h.gz
theorem Tab.gz {w : World} (h : Tab eK eV Z w g xs) : g ∈ Z := by obtain ⟨A, t, h⟩ := h; exact h.gz
theorem Tab.zl {w : World} (h : Tab eK eV Z w g xs) : ∀ k ∈ Z, k < w.heap.size := by obtain ⟨A, t, h⟩ := h; exact h.zl
theorem Tab.rs {w : World} (h : Tab eK eV Z w g xs) : Rises xs := by obtain ⟨A, t, h⟩ := h; exact h.rs
theorem TabAt.kept {w w' : World} (h : TabAt eK eV Z w g A t xs) (hs : w.heap.size ≤ w'.heap.size) (hg : w'.heap[g]? = w.heap[g]?) (hk : ∀ k, k ∉ Z → k < w.heap.size → w'.heap[k]? = w.heap[k]?) : TabAt eK eV Z w' g A t xs :=
  ⟨h.gz, fun k hk => Nat.lt_of_lt_of_le (h.zl k hk) hs, (World.cell?_of_block (w := w) hg).trans h.c0, (World.cell?_of_block (w := w) hg).trans h.c1, fun j => (World.frozen?_of_block (w := w) (a := ⟨g, j, none⟩) hg).trans (h.fz j), h.tr.kept hs hk, h.tl, h.rs⟩
theorem TabAt.below {w w' : World} (h : TabAt eK eV Z w g A t xs) (hb : Below w.heap.size w w') : TabAt eK eV Z w' g A t xs :=
  h.kept hb.size (hb.block _ (h.zl _ h.gz)) fun k _ hk => hb.block k hk
theorem Tab.kept {w w' : World} (h : Tab eK eV Z w g xs) (hs : w.heap.size ≤ w'.heap.size) (hg : w'.heap[g]? = w.heap[g]?) (hk : ∀ k, k ∉ Z → k < w.heap.size → w'.heap[k]? = w.heap[k]?) : Tab eK eV Z w' g xs := by
  obtain ⟨A, t, h⟩ := h; exact ⟨A, t, h.kept hs hg hk⟩
theorem Tab.below {w w' : World} (h : Tab eK eV Z w g xs) (hb : Below w.heap.size w w') : Tab eK eV Z w' g xs := by
  obtain ⟨A, t, h⟩ := h; exact ⟨A, t, h.below hb⟩
/-- another table's call, or a store to a block that is none of its own -/
theorem Tab.sp {w w' : World} {b : Nat} (h : Tab eK eV Z w g xs) (hs : Sp b w w') (hb : b ∈ Z) (hg : g ≠ b) : Tab eK eV Z w' g xs :=
  h.kept hs.size (hs.block g h.lt hg) fun k hk hl => hs.block k hl (fun e => hk (e ▸ hb))
theorem Tab.set {w : World} {b : Nat} (h : Tab eK eV Z w g xs) (j : Nat) (v : Value) (hb : b ∈ Z) (hg : g ≠ b) : Tab eK eV Z (w.setCell ⟨b, j, none⟩ v) g xs :=
  h.sp ((Sp.refl b w).set j v) hb hg
/-- a new block that is none of its own -/
theorem TabAt.more {w w' : World} {b : Nat} (h : TabAt eK eV Z w g A t xs) (hb : Below w.heap.size w w') (h1 : w.heap.size ≤ b) (h2 : b < w'.heap.size) : TabAt eK eV (b :: Z) w' g A t xs :=
  ⟨List.mem_cons_of_mem _ h.gz, fun k hk => (List.mem_cons.1 hk).elim (fun e => e ▸ h2) (fun hk => Nat.lt_of_lt_of_le (h.zl k hk) hb.size), (h.below hb).c0, (h.below hb).c1, (h.below hb).fz,
    (h.tr.less (E' := fun k => k ∉ b :: Z) fun k hk hl e => (List.mem_cons.1 e).elim (fun e => by omega) hk).below hb, h.tl, h.rs⟩
theorem Tab.more {w w' : World} {b : Nat} (h : Tab eK eV Z w g xs) (hb : Below w.heap.size w w') (h1 : w.heap.size ≤ b) (h2 : b < w'.heap.size) : Tab eK eV (b :: Z) w' g xs := by
  obtain ⟨A, t, h⟩ := h; exact ⟨A, t, h.more hb h1 h2⟩
theorem Tab.box {w : World} (h : Tab eK eV Z w g xs) (o : Obj) : Tab eK eV (w.heap.size :: Z) (w.alloc o) g xs := h.more (bnew w o) (Nat.le_refl _) (by simp)
/-- a table's tree and number turned -/
theorem TabAt.turn {w w3 : World} {A3 : Option Addr} {t3 : Tr K V} (h : TabAt eK eV Z w g A t xs) (hb : Below w.heap.size w w3) (h3 : TreeAt eK eV (fun k => k ∉ Z) w3 A3 t3) (hr : Rises t3.toL) (n : Int) (hn : n = (t3.toL.length : Int)) :
    TabAt eK eV Z ((w3.setCell ⟨g, 0, none⟩ (.pointer A3)).setCell ⟨g, 1, none⟩ (.int .i64 n)) g A3 t3 t3.toL ∧ Sp g w ((w3.setCell ⟨g, 0, none⟩ (.pointer A3)).setCell ⟨g, 1, none⟩ (.int .i64 n)) := by
  subst hn
  have hB := h.below hb
  have hs := (((Sp.refl g w3).set 0 (.pointer A3)).set 1 (.int .i64 (t3.toL.length : Int)))
  refine ⟨⟨h.gz, fun k hk => Nat.lt_of_lt_of_le (hB.zl k hk) hs.size, ?_, ?_, fun j => ?_, h3.kept hs.size fun k hk hl => hs.block k hl (fun e => hk (e ▸ h.gz)), rfl, hr⟩, (Sp.of_below hb).trans hs⟩
  · rw [World.cell?_setCell_other _ _ _ _ (by intro e; injection e with _ e; cases e)]
    exact World.cell?_setCell_same' _ _ _ (by rw [hB.c0]; rfl)
  · exact World.cell?_setCell_same' _ _ _ (by rw [World.cell?_setCell_other _ _ _ _ (by intro e; injection e with _ e; cases e), hB.c1]; rfl)
  · simpa using hB.fz j
/-- a table's tree turned -/
theorem TabAt.turn1 {w w3 : World} {A3 : Option Addr} {t3 : Tr K V} (h : TabAt eK eV Z w g A t xs) (hb : Below w.heap.size w w3) (h3 : TreeAt eK eV (fun k => k ∉ Z) w3 A3 t3) (hr : Rises t3.toL) (hn : xs.length = t3.toL.length) :
    TabAt eK eV Z (w3.setCell ⟨g, 0, none⟩ (.pointer A3)) g A3 t3 t3.toL ∧ Sp g w (w3.setCell ⟨g, 0, none⟩ (.pointer A3)) := by
  have hB := h.below hb
  have hs := (Sp.refl g w3).set 0 (.pointer A3)
  refine ⟨⟨h.gz, fun k hk => Nat.lt_of_lt_of_le (hB.zl k hk) hs.size, ?_, ?_, fun j => ?_, h3.kept hs.size fun k hk hl => hs.block k hl (fun e => hk (e ▸ h.gz)), rfl, hr⟩, (Sp.of_below hb).trans hs⟩
  · exact World.cell?_setCell_same' _ _ _ (by rw [hB.c0]; rfl)
  · rw [World.cell?_setCell_other _ _ _ _ (by intro e; injection e with _ e; cases e), ← hn]
    exact hB.c1
  · simpa using hB.fz j
/-- a new table -/
theorem tab_new (w : World) (T : TypeId) : Tab (K := K) (V := V) eK eV [w.heap.size] (w.alloc (.cells #[.pointer none, .int .i64 0] T)) w.heap.size [] := by
  have hb := heap_alloc_new w (.cells #[.pointer none, .int .i64 0] T)
  exact ⟨none, .nil, by simp, fun k hk => by simp at hk; simp [hk], cell_of_row _ _ 0 _ T (0, 0) hb, cell_of_row _ _ 1 _ T (0, 0) hb, fun j => frozen_row hb j, rfl, rfl, List.Pairwise.nil⟩
/-- a call turned the table in g alone -/
def Turned (eK : K → Value) (eV : V → Value) (Z : List Nat) (w : World) (g : Nat) (r : Value) (xs : List (K × V)) (e : Ending) (w' : World) : Prop := e = .returned r ∧ Tab eK eV Z w' g xs ∧ Sp g w w'
end
end Go.Proofs.Ytogeifnkjckaiaa
