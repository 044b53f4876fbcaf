/- Whether a slot fits a kind; what each kind asks; nothing that was there changes. -/
import Derived.Test.YtalmadeibnekoaaNums
import Derived.Test.YtalmadeibnekoaaLst
namespace Go.Proofs.Ytalmadeibnekoaa
open Go.RowKit
attribute [local go_sem ↓] Go.wp_at_zero Go.wp_at_succ

/-- does a slot fit a kind, of an owner -/
def fitsB (s : Sl) (k o : Int) : Bool :=
  if k = 0 then s.st == 2 && !s.br && s.ow == o
  else if k = 1 then s.st == 2 && !s.br
  else if k = 2 then s.st == 0
  else if k = 3 then (s.st == 2 && !s.br) || s.st == 0
  else if k = 4 then (if s.st = 2 then s.br || o == 1 || o == 2 else s.st == 3 && o == 2)
  else if k = 5 then s.st == 6
  else if k = 6 then s.st == 2
  else false
theorem fits_0 (s : Sl) (o : Int) : fitsB s 0 o = (s.st == 2 && !s.br && s.ow == o) := rfl
theorem fits_1 (s : Sl) (o : Int) : fitsB s 1 o = (s.st == 2 && !s.br) := rfl
theorem fits_2 (s : Sl) (o : Int) : fitsB s 2 o = (s.st == 0) := rfl
theorem fits_3 (s : Sl) (o : Int) : fitsB s 3 o = ((s.st == 2 && !s.br) || s.st == 0) := rfl
theorem fits_4 (s : Sl) (o : Int) : fitsB s 4 o = (if s.st = 2 then s.br || o == 1 || o == 2 else s.st == 3 && o == 2) := rfl
theorem fits_5 (s : Sl) (o : Int) : fitsB s 5 o = (s.st == 6) := rfl
theorem fits_6 (s : Sl) (o : Int) : fitsB s 6 o = (s.st == 2) := rfl
theorem fits_no (s : Sl) {k : Int} (o : Int) (h : k < 0 ∨ 6 < k) : fitsB s k o = false := by
  unfold fitsB
  repeat rw [if_neg (by omega)]
theorem bnew (w : World) (o : Obj) : Below w.heap.size w (w.alloc o) := (Below.refl _ _).alloc (Nat.le_refl _) _
theorem bst {a b c : World} (h : Below a.heap.size a b) (k : Below b.heap.size b c) : Below a.heap.size a c := h.trans (k.mono h.size)
/-- what a call tells that tells a bool -/
def RetB (b : Bool) (w : World) (e : Ending) (w' : World) : Prop := e = .returned (.bool b) ∧ Below w.heap.size w w'
theorem RetB.mk {b a : Bool} {w w' : World} (h : a = b) (hB : Below w.heap.size w w') : RetB b w (.returned (.bool a)) w' := ⟨by rw [h], hB⟩
end Go.Proofs.Ytalmadeibnekoaa
