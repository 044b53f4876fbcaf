/-
  DERIVED. GIVEN WITH THE SEED: THE CARDS: each row of YtfnpleicbpbiaaaDoorRows.lean that lists a variable, with what it lists TIED to the program's text (the seventh form; the later family's looks); each row that meets fmt, with fmt's text TOLD by the authors' own Lean function (tested against real Go, not proved from fmt's source: count such statements apart). THE CARD IS WHAT COUNTS. Prove the row's statement (the work); the ties are given (YtfnpleicbpbiaaaDoorTie.lean); close each card by the builder's one call (the guide's Derived/Test/ToyasCard.lean, 'card_holds'). Laid BY PROGRAM, IN A SANDBOX (cutbox-door.mjs). By AI agents, Wed Nov 11 2026. No macro, syntax, notation, axiom, sorry.
-/
import Derived.Test.YtfnpleicbpbiaaaDoorRows
import GoSem.ClaimSeven
namespace Go.Proofs.YtfnpleicbpbiaaaDoor
namespace Rows

/-- THE TIED CARD OF 'coachhouselaw12.ConfTells'. -/
def confTellsCard : Claim7 := { stood := { row := confTellsRow, standIns := [], harness := (true, "a956743c9fcaf82b3fa10c74d5e04d7131bb909d06963a7b8c4c9d423cb06f32"), looks := false }, kinds := [], alts := [], laidByText := true, laidKinds := [.data], laidTests := true, laidLooks := .later }
def ConfTellsCardSaid : Prop := Claim7.holds Tryd.pinned (.plain (OpenSpec.ofChange confTellsSpec)) confTellsCard

/-- THE TIED CARD OF 'coachhouselaw12.ConfSlots'. -/
def confSlotsCard : Claim7 := { stood := { row := confSlotsRow, standIns := [], harness := (true, "a956743c9fcaf82b3fa10c74d5e04d7131bb909d06963a7b8c4c9d423cb06f32"), looks := false }, kinds := [], alts := [], laidByText := true, laidKinds := [.data], laidTests := true, laidLooks := .later }
def ConfSlotsCardSaid : Prop := Claim7.holds Tryd.pinned (.plain (OpenSpec.ofChange confSlotsSpec)) confSlotsCard

/-- THE TIED CARD OF 'coachhouselaw12.ConfApart'. -/
def confApartCard : Claim7 := { stood := { row := confApartRow, standIns := [], harness := (true, "a956743c9fcaf82b3fa10c74d5e04d7131bb909d06963a7b8c4c9d423cb06f32"), looks := false }, kinds := [], alts := [], laidByText := true, laidKinds := [.data], laidTests := true, laidLooks := .later }
def ConfApartCardSaid : Prop := Claim7.holds Tryd.pinned (.plain (OpenSpec.ofChange confApartSpec)) confApartCard

/-- THE TIED CARD OF 'coachhouselaw12.ConfMore'. -/
def confMoreCard : Claim7 := { stood := { row := confMoreRow, standIns := [], harness := (true, "a956743c9fcaf82b3fa10c74d5e04d7131bb909d06963a7b8c4c9d423cb06f32"), looks := false }, kinds := [], alts := [], laidByText := true, laidKinds := [.data], laidTests := true, laidLooks := .later }
def ConfMoreCardSaid : Prop := Claim7.holds Tryd.pinned (.plain (OpenSpec.ofChange confMoreSpec)) confMoreCard

/-- THE SECOND FORM's CARD OF 'coachhouselaw12.ConfTells'. -/
def confTellsUptoCard : Claim7 := { stood := { row := confTellsUptoRow, standIns := [], harness := (true, "a956743c9fcaf82b3fa10c74d5e04d7131bb909d06963a7b8c4c9d423cb06f32"), looks := false }, kinds := [], alts := [], laidByText := true, laidKinds := [.data], laidTests := true, laidLooks := .later }
def ConfTellsUptoCardSaid : Prop := Claim7.holds Tryd.pinned (.plain (OpenSpec.upto confTellsSpec)) confTellsUptoCard

/-- THE SECOND FORM's CARD OF 'coachhouselaw12.ConfSlots'. -/
def confSlotsUptoCard : Claim7 := { stood := { row := confSlotsUptoRow, standIns := [], harness := (true, "a956743c9fcaf82b3fa10c74d5e04d7131bb909d06963a7b8c4c9d423cb06f32"), looks := false }, kinds := [], alts := [], laidByText := true, laidKinds := [.data], laidTests := true, laidLooks := .later }
def ConfSlotsUptoCardSaid : Prop := Claim7.holds Tryd.pinned (.plain (OpenSpec.upto confSlotsSpec)) confSlotsUptoCard

/-- THE SECOND FORM's CARD OF 'coachhouselaw12.ConfApart'. -/
def confApartUptoCard : Claim7 := { stood := { row := confApartUptoRow, standIns := [], harness := (true, "a956743c9fcaf82b3fa10c74d5e04d7131bb909d06963a7b8c4c9d423cb06f32"), looks := false }, kinds := [], alts := [], laidByText := true, laidKinds := [.data], laidTests := true, laidLooks := .later }
def ConfApartUptoCardSaid : Prop := Claim7.holds Tryd.pinned (.plain (OpenSpec.upto confApartSpec)) confApartUptoCard

/-- THE SECOND FORM's CARD OF 'coachhouselaw12.ConfMore'. -/
def confMoreUptoCard : Claim7 := { stood := { row := confMoreUptoRow, standIns := [], harness := (true, "a956743c9fcaf82b3fa10c74d5e04d7131bb909d06963a7b8c4c9d423cb06f32"), looks := false }, kinds := [], alts := [], laidByText := true, laidKinds := [.data], laidTests := true, laidLooks := .later }
def ConfMoreUptoCardSaid : Prop := Claim7.holds Tryd.pinned (.plain (OpenSpec.upto confMoreSpec)) confMoreUptoCard
end Rows
end Go.Proofs.YtfnpleicbpbiaaaDoor
