/- What the program's small functions on one field answer, for right fields; nothing that was there changes. -/
import Derived.Test.YtalmadeibnekoaaRows
import Derived.Test.YtalmadeibnekoaaMath
import Derived.WalkKit
import Derived.WalkSpells
import Derived.WalkLawsBesides
import Derived.Deep.RegionHeld3
import Derived.Deep.DrawnRows
import Derived.Lib.Hide
namespace Go.Proofs.Ytalmadeibnekoaa
open Go.RowKit
attribute [local go_sem ↓] Go.wp_at_zero Go.wp_at_succ

/-- what lay ahead of a call reads on behind it -/
theorem reads_on {X Y : World} (h : Below X.heap.size X Y) : (∀ n o, n < X.heap.size → Y.cell? ⟨n, o, none⟩ = X.cell? ⟨n, o, none⟩) ∧ (∀ n o, n < X.heap.size → Y.frozen? ⟨n, o, none⟩ = X.frozen? ⟨n, o, none⟩) := by
  constructor
  · intro n o hn
    exact Below.cell h (p := ⟨n, o, none⟩) hn
  · intro n o hn
    exact Below.frozen h (p := ⟨n, o, none⟩) hn
/-- from a callee's word to the caller's: what was there ahead of the call reads on; the count of blocks; the whole way from w0 on -/
theorem bstep {w0 W w1 : World} (hB : Below w0.heap.size w0 W) (hb : Below W.heap.size W w1) : (∀ b o, b < W.heap.size → w1.cell? ⟨b, o, none⟩ = W.cell? ⟨b, o, none⟩) ∧ (∀ b o, b < W.heap.size → w1.frozen? ⟨b, o, none⟩ = W.frozen? ⟨b, o, none⟩) ∧ W.heap.size ≤ w1.heap.size ∧ Below w0.heap.size w0 w1 :=
  ⟨(reads_on hb).1, (reads_on hb).2, hb.size, hB.trans (hb.mono hB.size)⟩
theorem ret_int {k : IntKind} {a b : Int} (h : a = b) : Ending.returned (.int k a) = .returned (.int k b) := by rw [h]
theorem ret_bool {a b : Bool} (h : a = b) : Ending.returned (.bool a) = .returned (.bool b) := by rw [h]

end Go.Proofs.Ytalmadeibnekoaa
