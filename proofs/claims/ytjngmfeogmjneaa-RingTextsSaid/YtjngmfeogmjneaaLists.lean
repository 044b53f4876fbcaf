/- Where a list of bools, or of texts, lies. -/
import Derived.Test.YtjngmfeogmjneaaSmall
namespace Go.Proofs.Ytjngmfeogmjneaa
open Go.RowKit

/-- the bools bs lie in the slice at A, below N -/
def BS (w : World) (N : Nat) (A : Option Addr) (bs : List Bool) : Prop := ∀ (k : Nat) x, bs[k]? = some x → ∃ b off, A = some ⟨b, off, none⟩ ∧ b < N ∧ w.cell? ⟨b, off + k, none⟩ = some (.bool x)
theorem BS.below {w w' : World} {N : Nat} {A : Option Addr} {xs : List Bool} (h : BS w N A xs) (hb : Below N w w') : BS w' N A xs := by
  intro k x hk
  obtain ⟨b, off, rfl, h1, h2⟩ := h k x hk
  exact ⟨b, off, rfl, h1, (hb.cell (p := ⟨b, off + k, none⟩) h1).trans h2⟩

abbrev vS (s : ByteArray) : Value := .string s
/-- the texts ss lie in the slice at A, below N -/
def SS (w : World) (N : Nat) (A : Option Addr) (ss : List ByteArray) : Prop := ∀ (k : Nat) x, ss[k]? = some x → ∃ b off, A = some ⟨b, off, none⟩ ∧ b < N ∧ w.cell? ⟨b, off + k, none⟩ = some (.string x)
theorem SS.below {w w' : World} {N : Nat} {A : Option Addr} {xs : List ByteArray} (h : SS w N A xs) (hb : Below N w w') : SS w' N A xs := by
  intro k x hk
  obtain ⟨b, off, rfl, h1, h2⟩ := h k x hk
  exact ⟨b, off, rfl, h1, (hb.cell (p := ⟨b, off + k, none⟩) h1).trans h2⟩
end Go.Proofs.Ytjngmfeogmjneaa
