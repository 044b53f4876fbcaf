/- Lists of numbers: where they lie. -/
import Derived.Test.YtnmkfiejcegfnaaTick
namespace Go.Proofs.Ytnmkfiejcegfnaa
open Go.RowKit
/-- the numbers xs lie in the slice at A, below M -/
def IS (w : World) (M : Nat) (A : Option Addr) (xs : List Int) : Prop := ∀ (k : Nat) x, xs[k]? = some x → ∃ b off, A = some ⟨b, off, none⟩ ∧ b < M ∧ w.cell? ⟨b, off + k, none⟩ = some (.int .i64 x)
theorem IS.below {w w' : World} {N : Nat} {A : Option Addr} {xs : List Int} (h : IS w N A xs) (hb : Below N w w') : IS w' N A xs := by
  intro k x hk
  obtain ⟨b, off, rfl, h1, h2⟩ := h k x hk
  exact ⟨b, off, rfl, h1, (hb.cell (p := ⟨b, off + k, none⟩) h1).trans h2⟩
theorem IS.more {w : World} {N M : Nat} {A : Option Addr} {xs : List Int} (h : IS w N A xs) (hm : N ≤ M) : IS w M A xs := by
  intro k x hk
  obtain ⟨b, off, rfl, h1, h2⟩ := h k x hk
  exact ⟨b, off, rfl, Nat.lt_of_lt_of_le h1 hm, h2⟩
theorem IS.on {w w' : World} {A : Option Addr} {xs : List Int} (h : IS w w.heap.size A xs) (hb : Below w.heap.size w w') : IS w' w'.heap.size A xs := (h.below hb).more hb.size
theorem num_some {xs : List Int} {k : Nat} (h : k < xs.length) : ∃ x, xs[k]? = some x := ⟨xs[k], by simp⟩
theorem IS.at {w : World} {M b off : Nat} {xs : List Int} (h : IS w M (some ⟨b, off, none⟩) xs) {j : Nat} {y : Int} (hy : xs[j]? = some y) : b < M ∧ w.cell? ⟨b, off + j, none⟩ = some (vI y) := by
  obtain ⟨b2, off2, e, h1, h2⟩ := h j y hy
  injection e with e
  injection e with e1 e2
  subst e1 e2
  exact ⟨h1, h2⟩
end Go.Proofs.Ytnmkfiejcegfnaa
