/- The slots of words; nothing that was there changes. -/
import Derived.Test.YtbkcniknbpgphaaDoorMem
import Derived.Test.YtbkcniknbpgphaaDoorFar
import Derived.Test.YtbkcniknbpgphaaDoorRefC
namespace Go.Proofs.YtbkcniknbpgphaaDoor
open Go.RowKit
attribute [local go_sem ↓] Go.wp_at_zero Go.wp_at_succ

/-- the slots of words -/
def slotsL (c : Cf) (xs : List Int) : List Sl := if xs.length = cellsN c then ((xs.drop (3 + c.wo + c.wo).toNat).take c.sl.toNat).map decS else []
theorem cut_len {xs : List Int} {f m : Nat} (h : f + m ≤ xs.length) : ((xs.drop f).take m).length = m := by
  rw [List.length_take, List.length_drop]
  omega
theorem IS.some {w : World} {N : Nat} {A : Option Addr} {xs : List Int} (h : IS w N A xs) (h1 : 0 < xs.length) : ∃ b off, A = some ⟨b, off, none⟩ := by
  obtain ⟨x, hx⟩ := num_some (xs := xs) (k := 0) h1
  obtain ⟨b, off, e, _⟩ := h 0 x hx
  exact ⟨b, off, e⟩
theorem slotsL_yes {c : Cf} {xs : List Int} (h : xs.length = cellsN c) : slotsL c xs = ((xs.drop (3 + c.wo + c.wo).toNat).take c.sl.toNat).map decS := if_pos h
theorem slotsL_no {c : Cf} {xs : List Int} (h : ¬ xs.length = cellsN c) : slotsL c xs = [] := if_neg h
theorem ls_nil (w : World) (N : Nat) (A : Option Addr) : LS w N A [] := fun k x hk => by simp at hk
theorem mapS {xs : List Int} {f k : Nat} {x : Int} (h : xs[f + k]? = some x) : ((xs.drop f).take (k + 1)).map decS = ((xs.drop f).take k).map decS ++ [decS x] := by
  rw [List.take_add_one, List.getElem?_drop, h]
  simp
end Go.Proofs.YtbkcniknbpgphaaDoor
