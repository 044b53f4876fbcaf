/- A block that holds a row of values, and what keeps it; no condition. -/
import Derived.Test.YtalmadeibnekoaaLow
import Derived.Deep.MidRow
import Derived.Laws.Rows
import Derived.Laws.StructEq
namespace Go.Proofs.Ytalmadeibnekoaa
open Go.RowKit
attribute [local go_sem ↓] Go.wp_at_zero Go.wp_at_succ

def RowAt (W : World) (b : Nat) (t : TypeId) (vs : Array Value) : Prop := W.heap[b]? = some (.cells vs t (0, 0))
theorem RowAt.lt {W : World} {b : Nat} {t : TypeId} {vs : Array Value} (h : RowAt W b t vs) : b < W.heap.size := (Array.getElem?_eq_some_iff.1 h).1
theorem RowAt.cell {W : World} {b : Nat} {t : TypeId} {vs : Array Value} (h : RowAt W b t vs) (j : Nat) {v : Value} (hv : vs[j]? = some v) : W.cell? ⟨b, j, none⟩ = some v := by
  rw [cell_of_row W b j vs t (0, 0) h, hv]
theorem RowAt.frozen {W : World} {b : Nat} {t : TypeId} {vs : Array Value} (h : RowAt W b t vs) (j : Nat) : W.frozen? ⟨b, j, none⟩ = false := frozen_of_row W b j vs t h
theorem RowAt.drew {W : World} {b : Nat} {t : TypeId} {vs : Array Value} (h : RowAt W b t vs) : RowAt W.drew b t vs := h
theorem RowAt.alloc {W : World} {b : Nat} {t : TypeId} {vs : Array Value} (h : RowAt W b t vs) (o : Obj) : RowAt (W.alloc o) b t vs := (Below.heap_alloc W o b h.lt).trans h
theorem RowAt.new (W : World) (t : TypeId) (vs : Array Value) : RowAt (W.alloc (.cells vs t)) W.heap.size t vs := Go.heap_alloc_new W _
theorem RowAt.below {W W1 : World} {n b : Nat} {t : TypeId} {vs : Array Value} (h : RowAt W b t vs) (hB : Below n W W1) (hb : b < n) : RowAt W1 b t vs := (hB.block b hb).trans h
theorem RowAt.set {W : World} {b : Nat} {t : TypeId} {vs : Array Value} (h : RowAt W b t vs) (us : Array Value) : RowAt (W.setRow b us) b t us := setRow_heap W b vs us t (0, 0) h
theorem RowAt.other {W : World} {b c : Nat} {t : TypeId} {vs : Array Value} (h : RowAt W b t vs) (hne : b ≠ c) (us : Array Value) : RowAt (W.setRow c us) b t vs := (setRow_other W c b us hne).trans h
theorem RowAt.put {W : World} {b : Nat} {t : TypeId} {vs : Array Value} (h : RowAt W b t vs) (i : Nat) (v : Value) : RowAt (W.setCell ⟨b, i, none⟩ v) b t (vs.setIfInBounds i v) := heap_setCell_same W b i vs t v h
theorem RowAt.putOther {W : World} {b : Nat} {t : TypeId} {vs : Array Value} (h : RowAt W b t vs) (a : Addr) (hne : b ≠ a.block) (v : Value) : RowAt (W.setCell a v) b t vs := (heap_setCell_other W a b v hne).trans h
theorem RowAt.there {W : World} {b : Nat} {t : TypeId} {vs : Array Value} (h : RowAt W b t vs) : W.there b 0 vs.size := fun j hj => by
  rw [Nat.zero_add]
  exact ⟨by rw [h.cell j (Array.getElem?_eq_getElem hj)]; rfl, h.frozen j⟩
theorem below_setRow {n b : Nat} {A W : World} (h : Below n A W) (hb : n ≤ b) (us : Array Value) : Below n A (W.setRow b us) :=
  ⟨h.os, h.tape, h.output, by simpa using h.size, fun k hk => (setRow_other W b k us (by omega)).trans (h.block k hk)⟩
/-- a whole row stored cell by cell is the row set -/
theorem setCells_row {P : Program} {W : World} {b : Nat} {t ty : TypeId} {vs : Array Value} (h : RowAt W b t vs) (us : Array Value) (hi : (P.info? ty).map (·.size) = some us.size) (hs : vs.size = us.size) (h1 : us.all (·.oneCell') = true) :
    W.setCells b 0 us.toList = W.setRow b us := by
  have e1 := run_storeVar_row (P := P) W b t ty vs us h hi hs h1
  have e2 := run_storeVar_mid (P := P) W b 0 ty us (by rw [← hs]; exact h.there) hi h1
  rw [e1] at e2
  injection e2 with _ e
  exact e.symm
theorem cell_setCells {W : World} {b c : Nat} (hne : b ≠ c) (o j : Nat) (vs : List Value) : (W.setCells c o vs).cell? ⟨b, j, none⟩ = W.cell? ⟨b, j, none⟩ :=
  World.cell?_setCells_out c vs o W _ (fun e _ => absurd e hne)
end Go.Proofs.Ytalmadeibnekoaa
