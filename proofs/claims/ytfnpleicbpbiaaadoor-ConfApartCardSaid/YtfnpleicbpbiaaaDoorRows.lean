/-
  NARROWER THAN 'FOR EVERY INPUT', by the rows' own cells (each row's printed sentence says how): ConfTells: laid · ConfSlots: laid · ConfApart: laid · ConfMore: laid.
  DERIVED. THE GIVEN ROWS OF THIS SEAT. 4 by the template 'for every input the law returns true; each argument reads behind the call as it read before'; 0 by the template 'total and deterministic' (their statements: YtfnpleicbpbiaaaDoorTotals.lean).
  GIVEN WITH THE SEED: the statements are not yours to turn. If you find one false, say at which input.
  Laid BY PROGRAM, IN A SANDBOX (cutbox-rows.mjs): the forced cells as the released guide's own fill.sh prints them over the translation 089a4c36aafb3d96… (all of the seat's roots in one cut). By AI agents, Wed Nov 11 2026. No macro, syntax, notation, axiom, sorry.
-/
import Derived.Test.YtfnpleicbpbiaaaDoorChecked
import GoSem.Claim
import GoSem.ClaimJoined
import GoSem.ClaimMapViews
import Derived.JoinedTies
import Derived.KernelRfl
namespace Go.Proofs.YtfnpleicbpbiaaaDoor
/- THE CELL 'sum', in the pinned program and in every row, IS THE sha256 OF THE DUMP (.gsa) THAT YtfnpleicbpbiaaaDoorProg.lean LOADS. Nothing in Lean hashes anything: it is a label: what it is worth is what the hold of that sum in a sandbox is worth. -/
noncomputable def Tryd.pinned : Pinned := { name := "ytfnpleicbpbiaaadoor", sum := "089a4c36aafb3d96e9c1e65655e1024b0ed83fe41f755e7947d135d83899ac3a", checked := Tryd.checked }
namespace Rows
def none {H : Type} : Left H := { results := [], args := [] }

/- WHAT THE LISTED PACKAGE-LEVEL VARIABLES READ AS WHEN THE CALL BEGINS. Each datum BY PROGRAM (the guide's laid-datum.mjs) off the statement by which the dump's own 'gosem.cut.vars' lays the variable. In a bare row this is a premise. The card (YtfnpleicbpbiaaaDoorCards.lean) ties it to the program's text. -/
def laid_coachhouse_slot_places {H : Type} : DataW H := .agg [.agg [.agg [.lit (.int .i64 0), .lit (.int .i64 3)], .lit (.int .i64 127)], .agg [.agg [.lit (.int .i64 3), .lit (.int .i64 4)], .lit (.int .i64 62)], .agg [.agg [.lit (.int .i64 7), .lit (.int .i64 8)], .lit (.int .i64 8)], .agg [.agg [.lit (.int .i64 15), .lit (.int .i64 1)], .lit (.int .i64 28)], .agg [.agg [.lit (.int .i64 16), .lit (.int .i64 1)], .lit (.int .i64 4)], .agg [.agg [.lit (.int .i64 17), .lit (.int .i64 6)], .lit (.int .i64 28)], .agg [.agg [.lit (.int .i64 23), .lit (.int .i64 12)], .lit (.int .i64 127)], .agg [.agg [.lit (.int .i64 35), .lit (.int .i64 12)], .lit (.int .i64 64)], .agg [.agg [.lit (.int .i64 47), .lit (.int .i64 15)], .lit (.int .i64 127)]]

/-- 'coachhouselaw12.ConfTells': WHATEVER THE INPUT: true; the input reads as it did. -/
def confTellsSpec : ChangeSpec := { name := "confTells", fn := fun _ => fun
  | [d1, d2, d3] => { results := [.lit (.bool true)], args := [d1, d2, d3] }
  | _ => none }
def confTellsRow : OpenClaim := { program := "ytfnpleicbpbiaaadoor", sum := "089a4c36aafb3d96e9c1e65655e1024b0ed83fe41f755e7947d135d83899ac3a", func := "coachhouse/coachhouselaw12.ConfTells", spec := "confTells", named := ["coachhouse/slot.places"], apart := false, laid := [("coachhouse/slot.places", laid_coachhouse_slot_places)] }
def ConfTellsSaid : Prop := confTellsRow.holds Tryd.pinned (OpenSpec.ofChange confTellsSpec)

/-- ITS FALSE NEIGHBOUR: 'it returns false'. Refute it at one input. -/
def confTellsWrong : ChangeSpec := { name := "confTells", fn := fun _ => fun
  | [d1, d2, d3] => { results := [.lit (.bool false)], args := [d1, d2, d3] }
  | _ => none }
def ConfTellsWrongFalsely : Prop := confTellsRow.holds Tryd.pinned (OpenSpec.ofChange confTellsWrong)

/-- 'coachhouselaw12.ConfSlots': WHATEVER THE INPUT: true; the input reads as it did. -/
def confSlotsSpec : ChangeSpec := { name := "confSlots", fn := fun _ => fun
  | [d1, d2] => { results := [.lit (.bool true)], args := [d1, d2] }
  | _ => none }
def confSlotsRow : OpenClaim := { program := "ytfnpleicbpbiaaadoor", sum := "089a4c36aafb3d96e9c1e65655e1024b0ed83fe41f755e7947d135d83899ac3a", func := "coachhouse/coachhouselaw12.ConfSlots", spec := "confSlots", named := ["coachhouse/slot.places"], apart := false, laid := [("coachhouse/slot.places", laid_coachhouse_slot_places)] }
def ConfSlotsSaid : Prop := confSlotsRow.holds Tryd.pinned (OpenSpec.ofChange confSlotsSpec)

/-- ITS FALSE NEIGHBOUR: 'it returns false'. Refute it at one input. -/
def confSlotsWrong : ChangeSpec := { name := "confSlots", fn := fun _ => fun
  | [d1, d2] => { results := [.lit (.bool false)], args := [d1, d2] }
  | _ => none }
def ConfSlotsWrongFalsely : Prop := confSlotsRow.holds Tryd.pinned (OpenSpec.ofChange confSlotsWrong)

/-- 'coachhouselaw12.ConfApart': WHATEVER THE INPUT: true; the input reads as it did. -/
def confApartSpec : ChangeSpec := { name := "confApart", fn := fun _ => fun
  | [d] => { results := [.lit (.bool true)], args := [d] }
  | _ => none }
def confApartRow : OpenClaim := { program := "ytfnpleicbpbiaaadoor", sum := "089a4c36aafb3d96e9c1e65655e1024b0ed83fe41f755e7947d135d83899ac3a", func := "coachhouse/coachhouselaw12.ConfApart", spec := "confApart", named := ["coachhouse/slot.places"], apart := false, laid := [("coachhouse/slot.places", laid_coachhouse_slot_places)] }
def ConfApartSaid : Prop := confApartRow.holds Tryd.pinned (OpenSpec.ofChange confApartSpec)

/-- ITS FALSE NEIGHBOUR: 'it returns false'. Refute it at one input. -/
def confApartWrong : ChangeSpec := { name := "confApart", fn := fun _ => fun
  | [d] => { results := [.lit (.bool false)], args := [d] }
  | _ => none }
def ConfApartWrongFalsely : Prop := confApartRow.holds Tryd.pinned (OpenSpec.ofChange confApartWrong)

/-- 'coachhouselaw12.ConfMore': WHATEVER THE INPUT: true; the input reads as it did. -/
def confMoreSpec : ChangeSpec := { name := "confMore", fn := fun _ => fun
  | [d1, d2, d3] => { results := [.lit (.bool true)], args := [d1, d2, d3] }
  | _ => none }
def confMoreRow : OpenClaim := { program := "ytfnpleicbpbiaaadoor", sum := "089a4c36aafb3d96e9c1e65655e1024b0ed83fe41f755e7947d135d83899ac3a", func := "coachhouse/coachhouselaw12.ConfMore", spec := "confMore", named := ["coachhouse/slot.places"], apart := false, laid := [("coachhouse/slot.places", laid_coachhouse_slot_places)] }
def ConfMoreSaid : Prop := confMoreRow.holds Tryd.pinned (OpenSpec.ofChange confMoreSpec)

/-- ITS FALSE NEIGHBOUR: 'it returns false'. Refute it at one input. -/
def confMoreWrong : ChangeSpec := { name := "confMore", fn := fun _ => fun
  | [d1, d2, d3] => { results := [.lit (.bool false)], args := [d1, d2, d3] }
  | _ => none }
def ConfMoreWrongFalsely : Prop := confMoreRow.holds Tryd.pinned (OpenSpec.ofChange confMoreWrong)

/- THE SECOND FORM. 'bulk': how many values and letters a reading holds, each counted each time it is reached (what is shared counts as often as it is met; a slice's spare places count too). A statement '..UptoSaid' is the law's where the arguments, and the package variables that the reading takes, are together of bulk at most 1048576: NARROWER than '..Said'. Prove '..Said' where nothing that the law and all that it calls make is longer than what came in: it says more and counts as full. Else prove '..UptoSaid'. A law counts once. -/
mutual
def uptoBulk {H : Type} : DataW H → Nat
  | .lit (.string bytes) => bytes.length + 1
  | .lit _ => 1
  | .nil => 1
  | .ptr d => uptoBulk d + 1
  | .slice elems spare => uptoBulkAll elems + uptoBulkAll spare + 1
  | .agg parts => uptoBulkAll parts + 1
  | .iface _ d => uptoBulk d + 1
  | .map entries => uptoBulkEntries entries + 1
  | .held _ => 1
def uptoBulkAll {H : Type} : List (DataW H) → Nat
  | [] => 0
  | d :: r => uptoBulk d + uptoBulkAll r
def uptoBulkEntries {H : Type} : List (Lit × DataW H) → Nat
  | [] => 0
  | x :: r => uptoBulkEntry x + uptoBulkEntries r
def uptoBulkEntry {H : Type} : Lit × DataW H → Nat
  | (.string bytes, d) => bytes.length + uptoBulk d + 1
  | (_, d) => uptoBulk d + 1
 end
def uptoSmall : (H : Type) → List (DataW H) → Bool := fun _ ds => decide (uptoBulkAll ds ≤ 1048576)
def OpenSpec.upto (s : _root_.Go.ChangeSpec) : _root_.Go.OpenSpec := { _root_.Go.OpenSpec.ofChange s with cond := some uptoSmall }

/-- 'coachhouselaw12.ConfTells', WHERE WHAT IT READS IS OF BULK AT MOST 1048576: true; the input reads as it did. -/
def confTellsUptoRow : OpenClaim := { program := "ytfnpleicbpbiaaadoor", sum := "089a4c36aafb3d96e9c1e65655e1024b0ed83fe41f755e7947d135d83899ac3a", func := "coachhouse/coachhouselaw12.ConfTells", spec := "confTells", named := ["coachhouse/slot.places"], apart := false, laid := [("coachhouse/slot.places", laid_coachhouse_slot_places)], narrowed := true }
def ConfTellsUptoSaid : Prop := confTellsUptoRow.holds Tryd.pinned (OpenSpec.upto confTellsSpec)

/-- 'coachhouselaw12.ConfSlots', WHERE WHAT IT READS IS OF BULK AT MOST 1048576: true; the input reads as it did. -/
def confSlotsUptoRow : OpenClaim := { program := "ytfnpleicbpbiaaadoor", sum := "089a4c36aafb3d96e9c1e65655e1024b0ed83fe41f755e7947d135d83899ac3a", func := "coachhouse/coachhouselaw12.ConfSlots", spec := "confSlots", named := ["coachhouse/slot.places"], apart := false, laid := [("coachhouse/slot.places", laid_coachhouse_slot_places)], narrowed := true }
def ConfSlotsUptoSaid : Prop := confSlotsUptoRow.holds Tryd.pinned (OpenSpec.upto confSlotsSpec)

/-- 'coachhouselaw12.ConfApart', WHERE WHAT IT READS IS OF BULK AT MOST 1048576: true; the input reads as it did. -/
def confApartUptoRow : OpenClaim := { program := "ytfnpleicbpbiaaadoor", sum := "089a4c36aafb3d96e9c1e65655e1024b0ed83fe41f755e7947d135d83899ac3a", func := "coachhouse/coachhouselaw12.ConfApart", spec := "confApart", named := ["coachhouse/slot.places"], apart := false, laid := [("coachhouse/slot.places", laid_coachhouse_slot_places)], narrowed := true }
def ConfApartUptoSaid : Prop := confApartUptoRow.holds Tryd.pinned (OpenSpec.upto confApartSpec)

/-- 'coachhouselaw12.ConfMore', WHERE WHAT IT READS IS OF BULK AT MOST 1048576: true; the input reads as it did. -/
def confMoreUptoRow : OpenClaim := { program := "ytfnpleicbpbiaaadoor", sum := "089a4c36aafb3d96e9c1e65655e1024b0ed83fe41f755e7947d135d83899ac3a", func := "coachhouse/coachhouselaw12.ConfMore", spec := "confMore", named := ["coachhouse/slot.places"], apart := false, laid := [("coachhouse/slot.places", laid_coachhouse_slot_places)], narrowed := true }
def ConfMoreUptoSaid : Prop := confMoreUptoRow.holds Tryd.pinned (OpenSpec.upto confMoreSpec)

end Rows
end Go.Proofs.YtfnpleicbpbiaaaDoor
