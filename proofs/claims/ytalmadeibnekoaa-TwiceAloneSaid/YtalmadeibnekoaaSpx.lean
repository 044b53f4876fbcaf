/- All blocks but some are as they were; what stands by that. -/
import Derived.Test.YtalmadeibnekoaaLst
import Derived.Test.YtalmadeibnekoaaLsl
namespace Go.Proofs.Ytalmadeibnekoaa
open Go.RowKit
attribute [local go_sem ↓] Go.wp_at_zero Go.wp_at_succ

/-- all blocks but those of X are as they were -/
structure SpX (X : List Nat) (w w' : World) : Prop where
  os : w'.os = w.os
  tape : w'.tape = w.tape
  output : w'.output = w.output
  size : w.heap.size ≤ w'.heap.size
  block : ∀ k, k < w.heap.size → k ∉ X → w'.heap[k]? = w.heap[k]?
theorem SpX.refl (X : List Nat) (w : World) : SpX X w w := ⟨rfl, rfl, rfl, Nat.le_refl _, fun _ _ _ => rfl⟩
theorem SpX.trans {X : List Nat} {a b c : World} (h : SpX X a b) (k : SpX X b c) : SpX X a c :=
  ⟨k.os.trans h.os, k.tape.trans h.tape, k.output.trans h.output, Nat.le_trans h.size k.size, fun i hi h1 => (k.block i (Nat.lt_of_lt_of_le hi h.size) h1).trans (h.block i hi h1)⟩
theorem SpX.more {X Y : List Nat} {a b : World} (h : SpX X a b) (hs : ∀ k, k ∈ X → k ∈ Y) : SpX Y a b := ⟨h.os, h.tape, h.output, h.size, fun k hk hn => h.block k hk fun hx => hn (hs k hx)⟩
theorem SpX.of_below {X : List Nat} {a b : World} (h : Below a.heap.size a b) : SpX X a b := ⟨h.os, h.tape, h.output, h.size, fun k hk _ => h.block k hk⟩
theorem SpX.on {X : List Nat} {a b c : World} (h : SpX X a b) (k : Below b.heap.size b c) : SpX X a c := h.trans (.of_below k)
theorem SpX.alloc {X : List Nat} {a b : World} (h : SpX X a b) (o : Obj) : SpX X a (b.alloc o) := h.on ((Below.refl _ _).alloc (Nat.le_refl _) _)
theorem SpX.drew {X : List Nat} {a b : World} (h : SpX X a b) : SpX X a b.drew := ⟨h.os, h.tape, h.output, h.size, h.block⟩
theorem SpX.drewN {X : List Nat} {a b : World} (h : SpX X a b) (n : Nat) : SpX X a (b.drewN n) := ⟨h.os, h.tape, h.output, h.size, h.block⟩
theorem SpX.set {X : List Nat} {a b : World} (h : SpX X a b) {g : Nat} (hg : g ∈ X) (j : Nat) (v : Value) : SpX X a (b.setCell ⟨g, j, none⟩ v) :=
  h.trans ⟨rfl, rfl, rfl, by simp [World.setCell], fun k _ h1 => Below.heap_setCell _ _ _ _ fun e => h1 (e ▸ hg)⟩
theorem SpX.cell {X : List Nat} {a b : World} (h : SpX X a b) {k : Nat} (j : Nat) (hk : k < a.heap.size) (h1 : k ∉ X) : b.cell? ⟨k, j, none⟩ = a.cell? ⟨k, j, none⟩ :=
  World.cell?_of_block (w := a) (h.block k hk h1)
theorem SpX.frozen {X : List Nat} {a b : World} (h : SpX X a b) {k : Nat} (j : Nat) (hk : k < a.heap.size) (h1 : k ∉ X) : b.frozen? ⟨k, j, none⟩ = a.frozen? ⟨k, j, none⟩ :=
  World.frozen?_of_block (w := a) (h.block k hk h1)
/-- behind what turns only blocks made from B on, all below B is as it was -/
theorem SpX.below {X : List Nat} {B : Nat} {w a b : World} (hB : Below B w a) (h : SpX X a b) (hs : B ≤ a.heap.size) (hx : ∀ k, k ∈ X → B ≤ k) : Below B w b :=
  hB.trans ⟨h.os, h.tape, h.output, h.size, fun k hk => h.block k (by omega) fun hm => by have := hx k hm; omega⟩
theorem RowAt.spx {X : List Nat} {a b : World} {k : Nat} {t : TypeId} {vs : Array Value} (h : RowAt a k t vs) (hs : SpX X a b) (hk : k ∉ X) : RowAt b k t vs := (hs.block k h.lt hk).trans h
theorem IS.spx {X : List Nat} {a b : World} {N : Nat} {A : Option Addr} {xs : List Int} (h : IS a N A xs) (hN : N ≤ a.heap.size) (hs : SpX X a b) (hx : ∀ k, k ∈ X → N ≤ k) : IS b N A xs := by
  intro k x hk
  obtain ⟨g, off, e, hg, hc⟩ := h k x hk
  exact ⟨g, off, e, hg, (hs.cell _ (by omega) (fun hm => by have := hx g hm; omega)).trans hc⟩
theorem LS.spx {X : List Nat} {a b : World} {N : Nat} {A : Option Addr} {xs : List Sl} (h : LS a N A xs) (hN : N ≤ a.heap.size) (hs : SpX X a b) (hx : ∀ k, k ∈ X → N ≤ k) : LS b N A xs := by
  intro k x hk
  obtain ⟨g, off, e, hg, hc⟩ := h k x hk
  have hc' : ∀ j, b.cell? ⟨g, j, none⟩ = a.cell? ⟨g, j, none⟩ := fun j => hs.cell j (by omega) (fun hm => by have := hx g hm; omega)
  simp only [← hc'] at hc
  exact ⟨g, off, e, hg, hc⟩
/-- numbers that lie in block g itself, whatever lies behind them -/
def IB (w : World) (g : Nat) (xs : List Int) : Prop := g < w.heap.size ∧ ∀ (k : Nat) x, xs[k]? = some x → w.cell? ⟨g, k, none⟩ = some (.int .i64 x)
theorem IB.spx {X : List Nat} {a b : World} {g : Nat} {xs : List Int} (h : IB a g xs) (hs : SpX X a b) (hg : g ∉ X) : IB b g xs :=
  ⟨Nat.lt_of_lt_of_le h.1 hs.size, fun k x hk => (hs.cell k h.1 hg).trans (h.2 k x hk)⟩
theorem IB.on {a b : World} {g : Nat} {xs : List Int} (h : IB a g xs) (hb : Below a.heap.size a b) : IB b g xs := h.spx (X := []) (.of_below hb) (by simp)
theorem IB.is {w : World} {g : Nat} {xs : List Int} (h : IB w g xs) : IS w w.heap.size (some ⟨g, 0, none⟩) xs := fun k x hk => ⟨g, 0, rfl, h.1, by rw [Nat.zero_add]; exact h.2 k x hk⟩
theorem IB.of_is {w : World} {g N : Nat} {xs : List Int} (h : IS w N (some ⟨g, 0, none⟩) xs) (hN : N ≤ w.heap.size) (h1 : 0 < xs.length) : IB w g xs := by
  refine ⟨?_, fun k x hk => ?_⟩
  · obtain ⟨b, off, e, hb, _⟩ := h 0 xs[0] (by simp)
    injection e with e
    injection e with e1 _
    omega
  · obtain ⟨b, off, e, hb, hc⟩ := h k x hk
    injection e with e
    injection e with e1 e2
    subst e1 e2
    rwa [Nat.zero_add] at hc
end Go.Proofs.Ytalmadeibnekoaa
