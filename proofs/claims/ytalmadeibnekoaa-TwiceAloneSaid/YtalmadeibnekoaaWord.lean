/- The word of a slot, right or not; nothing that was there changes. -/
import Derived.Test.YtalmadeibnekoaaNums
namespace Go.Proofs.Ytalmadeibnekoaa
open Go.RowKit
attribute [local go_sem ↓] Go.wp_at_zero Go.wp_at_succ

/-- the table of the places lies in the first variable -/
def Tab (W : World) : Prop := ∃ t fr, W.heap[0]? = some (.cells #[Value.int .i64 0, Value.int .i64 3, Value.int .i64 127, Value.int .i64 3, Value.int .i64 4, Value.int .i64 62, Value.int .i64 7, Value.int .i64 8, Value.int .i64 8, Value.int .i64 15, Value.int .i64 1, Value.int .i64 28, Value.int .i64 16, Value.int .i64 1, Value.int .i64 4, Value.int .i64 17, Value.int .i64 6, Value.int .i64 28, Value.int .i64 23, Value.int .i64 12, Value.int .i64 127, Value.int .i64 35, Value.int .i64 12, Value.int .i64 64, Value.int .i64 47, Value.int .i64 15, Value.int .i64 127] t fr)
theorem Tab.lt {W : World} (h : Tab W) : 0 < W.heap.size := by
  obtain ⟨t, fr, h⟩ := h
  exact (Array.getElem?_eq_some_iff.1 h).1
theorem Tab.drew {W : World} (h : Tab W) : Tab W.drew := h
theorem Tab.below {W W1 : World} {n : Nat} (h : Tab W) (hB : Below n W W1) (hn : 0 < n) : Tab W1 := by
  obtain ⟨t, fr, h⟩ := h
  exact ⟨t, fr, (hB.block 0 hn).trans h⟩

/-- the k-th place: from which bit on, how many, in which states; the slot's k-th number -/
def pa (k : Nat) : Int := ([0, 3, 7, 15, 16, 17, 23, 35, 47] : List Int).getD k 0
def pb (k : Nat) : Int := ([3, 4, 8, 1, 1, 6, 12, 12, 15] : List Int).getD k 0
def pc (k : Nat) : Int := ([127, 62, 8, 28, 4, 28, 127, 64, 127] : List Int).getD k 0
def nm (s : Sl) (k : Nat) : Int := [s.st, s.ow, s.sr, b2i s.br, b2i s.ma, s.us, s.ge, s.ep, s.ve].getD k 0
def hasB (c st : Int) : Bool := bits .and .i64 (c / 2 ^ min (IntKind.u64.wrap st).toNat 64) 1 == 1
def wk (s : Sl) : Nat → Int
  | 0 => 0
  | k + 1 => if hasB (pc k) s.st = true then putI (wk s k) (pa k) (pb k) (nm s k) else wk s k
theorem wk_has {s : Sl} {k : Nat} (h : hasB (pc k) s.st = true) : wk s (k + 1) = putI (wk s k) (pa k) (pb k) (nm s k) := by simp [wk, h]
theorem wk_not {s : Sl} {k : Nat} (h : hasB (pc k) s.st = false) : wk s (k + 1) = wk s k := by simp [wk, h]
theorem nine {k : Nat} (h : k < 9) : k = 0 ∨ k = 1 ∨ k = 2 ∨ k = 3 ∨ k = 4 ∨ k = 5 ∨ k = 6 ∨ k = 7 ∨ k = 8 := by omega
theorem place_ok {k : Nat} (h : k < 9) : 0 ≤ pa k ∧ 1 ≤ pb k ∧ pa k + pb k ≤ 62 ∧ 0 ≤ pc k ∧ pc k ≤ 127 := by
  rcases nine h with rfl | rfl | rfl | rfl | rfl | rfl | rfl | rfl | rfl <;> decide
theorem nm_at (s : Sl) {k : Nat} (h : k < 9) : #[Value.int .i64 s.st, Value.int .i64 s.ow, Value.int .i64 s.sr, Value.int .i64 (b2i s.br), Value.int .i64 (b2i s.ma), Value.int .i64 s.us, Value.int .i64 s.ge, Value.int .i64 s.ep, Value.int .i64 s.ve][k]? = some (Value.int .i64 (nm s k)) := by
  rcases nine h with rfl | rfl | rfl | rfl | rfl | rfl | rfl | rfl | rfl <;> rfl

end Go.Proofs.Ytalmadeibnekoaa
