/- slices.Clone off the shelf, at this program. -/
import Derived.Test.YthjhjjpgchmmfaaRows
import Derived.Shelf.Lay
import Derived.Shelf.LaySoft
import Derived.Shelf.Slices.Clone
import Derived.Ground.Names2Prog
namespace Go.Proofs.Ythjhjjpgchmmfaa
open Go.Shelf
shelf_lay Lays2.n15 Nm2 15 at Try as laysClone
open Go.RowKit Go.Lib in
theorem clone_at (b off n c : Nat) (zs : List Int) (w : World) (hz : n ≤ zs.length) (hbig : n * 8 ≤ 140737488355328) (hc : ∀ j, j < zs.length → w.cell? ⟨b, off + j, none⟩ = some (.int .i64 (zs.getD j 0))) :
    Calls Try.prog 28 #[.slice (some ⟨b, off, none⟩) n c] w fun e w' => ∃ v', e = .returned v' ∧ w'.ownsRow w.heap.size 3 1 v' n ((zs.take n).map (Value.int .i64)) ∧ v' ≠ .slice none 0 0 ∧ Below w.heap.size w w' := Any.slices_Clone_int laysClone b off n c zs w hz hbig hc
end Go.Proofs.Ythjhjjpgchmmfaa
