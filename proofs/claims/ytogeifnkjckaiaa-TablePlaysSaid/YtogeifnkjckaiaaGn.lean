/- What a law keeps while it ranges: all below n0; the iterator's own blocks are new. -/
import Derived.Test.YtogeifnkjckaiaaSeq
import Derived.Test.YtogeifnkjckaiaaTab
namespace Go.Proofs.Ytogeifnkjckaiaa
open Go.RowKit Go.Shelf

structure Gn (n0 : Nat) (w : World) (Y : Set') (V : World) : Prop where
  os : V.os = w.os
  tape : V.tape = w.tape
  output : V.output = w.output
  size : w.heap.size ≤ V.heap.size
  block : ∀ k, k < n0 → V.heap[k]? = w.heap[k]?
  new : ∀ k, Y k → w.heap.size ≤ k ∧ k < V.heap.size
theorem Gn.refl (n0 : Nat) (w : World) : Gn n0 w (fun _ => False) w := ⟨rfl, rfl, rfl, Nat.le_refl _, fun _ _ => rfl, fun _ h => h.elim⟩
theorem Gn.grow {n0 : Nat} {w A B : World} {X X' : Set'} (h : Gn n0 w X A) (hn : n0 ≤ w.heap.size) (hg : Grow X A X' B) : Gn n0 w X' B :=
  ⟨hg.os.trans h.os, hg.tape.trans h.tape, hg.output.trans h.output, Nat.le_trans h.size hg.size, fun k hk => (hg.block k (by have := h.size; omega) (fun e => by have := (h.new k e).1; omega)).trans (h.block k hk),
    fun k hk => (hg.new k hk).elim (fun e => ⟨(h.new k e).1, Nat.lt_of_lt_of_le (h.new k e).2 hg.size⟩) (fun e => ⟨Nat.le_trans h.size e.1, e.2⟩)⟩
theorem Gn.below {n0 : Nat} {w V : World} {Y : Set'} (h : Gn n0 w Y V) : Below n0 w V := ⟨h.os, h.tape, h.output, h.size, h.block⟩
theorem Gn.more {n0 : Nat} {w V V' : World} {Y : Set'} (h : Gn n0 w Y V) (hb : Below n0 V V') : Gn n0 w Y V' :=
  ⟨hb.os.trans h.os, hb.tape.trans h.tape, hb.output.trans h.output, Nat.le_trans h.size hb.size, fun k hk => (hb.block k hk).trans (h.block k hk), fun k hk => ⟨(h.new k hk).1, Nat.lt_of_lt_of_le (h.new k hk).2 hb.size⟩⟩
theorem Gn.set {n0 : Nat} {w V : World} {Y : Set'} (h : Gn n0 w Y V) (b j : Nat) (v : Value) (hb : n0 ≤ b) : Gn n0 w Y (V.setCell ⟨b, j, none⟩ v) :=
  h.more ((Below.refl _ _).setCell hb _)
theorem Gn.sp {n0 : Nat} {w V V' : World} {Y : Set'} {g : Nat} (h : Gn n0 w Y V) (hs : Sp g V V') (hg : n0 ≤ g) (hn : n0 ≤ w.heap.size) : Gn n0 w Y V' :=
  h.more ⟨hs.os, hs.tape, hs.output, hs.size, fun k hk => hs.block k (by have := h.size; omega) (by omega)⟩
theorem Gn.put {n0 : Nat} {w V : World} {Y : Set'} (h : Gn n0 w Y V) (hn : n0 ≤ w.heap.size) (D : Nat) (o : Obj) (hD : Y D) : Gn n0 w Y (V.putObj D o) := h.grow hn (Grow.putObj _ _ _ hD)
/-- a box that is none of the iterator's own -/
theorem Gn.boxed {n0 : Nat} {w A B : World} {X X' : Set'} {b : Nat} {t : TypeId} {v : Value} (h : Gn n0 w X A) (hb : b < w.heap.size) (hv : Boxed A b t v) (hg : Grow X A X' B) : Boxed B b t v :=
  boxed_grow hv hg (fun e => by have := (h.new b e).1; omega)
/-- a table that is none of the iterator's own -/
theorem tab_grow {K V : Type} [Key K] {eK : K → Value} {eV : V → Value} {Z : List Nat} {g : Nat} {xs : List (K × V)} {A B : World} {X X' : Set'} (ht : Tab eK eV Z A g xs) (hX : ∀ k, X k → k ∈ Z ∧ k ≠ g) (hg : Grow X A X' B) : Tab eK eV Z B g xs :=
  ht.kept hg.size (hg.block g ht.lt fun e => (hX g e).2 rfl) fun k hk hl => hg.block k hl fun e => hk (hX k e).1
end Go.Proofs.Ytogeifnkjckaiaa
