/- The pins of words; nothing that was there changes. -/
import Derived.Test.YtalmadeibnekoaaCut
import Derived.Test.YtalmadeibnekoaaMem
namespace Go.Proofs.Ytalmadeibnekoaa
open Go.RowKit
attribute [local go_sem ↓] Go.wp_at_zero Go.wp_at_succ

theorem IS.cut {w : World} {N b off : Nat} {xs : List Int} (h : IS w N (some ⟨b, off, none⟩) xs) (f m : Nat) : IS w N (some ⟨b, off + f, none⟩) ((xs.drop f).take m) := by
  intro k x hk
  rw [List.getElem?_take] at hk
  split at hk
  · rw [List.getElem?_drop] at hk
    obtain ⟨b2, off2, e, h1, h2⟩ := h _ x hk
    injection e with e
    injection e with e1 e2
    subst e1 e2
    exact ⟨b, off + f, rfl, h1, by rw [Nat.add_assoc]; exact h2⟩
  · cases hk
theorem cut_len {xs : List Int} {f m : Nat} (h : f + m ≤ xs.length) : ((xs.drop f).take m).length = m := by
  rw [List.length_take, List.length_drop]
  omega
theorem IS.some {w : World} {N : Nat} {A : Option Addr} {xs : List Int} (h : IS w N A xs) (h1 : 0 < xs.length) : ∃ b off, A = some ⟨b, off, none⟩ := by
  obtain ⟨x, hx⟩ := num_some (xs := xs) (k := 0) h1
  obtain ⟨b, off, e, _⟩ := h 0 x hx
  exact ⟨b, off, e⟩
/-- the pins of words -/
def pinsL (c : Cf) (xs : List Int) : List Int := if xs.length = cellsN c then (xs.drop 3).take c.wo.toNat else []
theorem pinsL_yes {c : Cf} {xs : List Int} (h : xs.length = cellsN c) : pinsL c xs = (xs.drop 3).take c.wo.toNat := if_pos h
theorem pinsL_no {c : Cf} {xs : List Int} (h : ¬ xs.length = cellsN c) : pinsL c xs = [] := if_neg h
theorem is_nil (w : World) (N : Nat) (A : Option Addr) : IS w N A [] := fun k x hk => by simp at hk
/-- behind a call that keeps all that there was -/
theorem Mine.on {w0 w w' : World} {v : Value} {xs : List Int} (h : Mine w0 w v xs) (hb : Below w.heap.size w w') : Mine w0 w' v xs :=
  ⟨h.own.kept ⟨hb.os, hb.tape, hb.output, hb.size, fun k hk _ => hb.block k hk⟩ (row := none) (by cases v.ownBlock <;> simp), h.below.trans (hb.mono h.below.size)⟩
/-- the three boxes of the parts -/
theorem below3 {n : Nat} {A W : World} (h : Below n A W) (hn : n ≤ A.heap.size) (o p q : Obj) : Below n A (((W.alloc o).alloc p).alloc q) := by
  have := h.size
  exact ((h.alloc (by omega) o).alloc (by simp; omega) p).alloc (by simp; omega) q
end Go.Proofs.Ytalmadeibnekoaa
