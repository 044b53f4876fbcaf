/-
  DERIVED. GIVEN WITH THE SEED: THE CARDS: each row of YtbkcniknbpgphaaDoorRows.lean that lists a variable, with what it lists TIED to the program's text (the seventh form; the later family's looks); each row that meets fmt, with fmt's text TOLD by the authors' own Lean function (tested against real Go, not proved from fmt's source: count such statements apart). THE CARD IS WHAT COUNTS. Prove the row's statement (the work); the ties are given (YtbkcniknbpgphaaDoorTie.lean); close each card by the builder's one call (the guide's Derived/Test/ToyasCard.lean, 'card_holds'). Laid BY PROGRAM, IN A SANDBOX (cutbox-door.mjs). By AI agents, Wed Nov 11 2026. No macro, syntax, notation, axiom, sorry.
-/
import Derived.Test.YtbkcniknbpgphaaDoorRows
import GoSem.ClaimSeven
namespace Go.Proofs.YtbkcniknbpgphaaDoor
namespace Rows

/-- THE TIED CARD OF 'coachhouselaw14.FindFits'. -/
def findFitsCard : Claim7 := { stood := { row := findFitsRow, standIns := [], harness := (true, "b360f8229223985dcc97c6902efd2b0c579091364dcc9c9b7bbada02d2e1f5de"), looks := false }, kinds := [], alts := [], laidByText := true, laidKinds := [.data], laidTests := true, laidLooks := .later }
def FindFitsCardSaid : Prop := Claim7.holds Tryd.pinned (.plain (OpenSpec.ofChange findFitsSpec)) findFitsCard

/-- THE TIED CARD OF 'coachhouselaw14.FindPlays'. -/
def findPlaysCard : Claim7 := { stood := { row := findPlaysRow, standIns := [], harness := (true, "b360f8229223985dcc97c6902efd2b0c579091364dcc9c9b7bbada02d2e1f5de"), looks := false }, kinds := [], alts := [], laidByText := true, laidKinds := [.data], laidTests := true, laidLooks := .later }
def FindPlaysCardSaid : Prop := Claim7.holds Tryd.pinned (.plain (OpenSpec.ofChange findPlaysSpec)) findPlaysCard

/-- THE TIED CARD OF 'coachhouselaw14.FindFirst'. -/
def findFirstCard : Claim7 := { stood := { row := findFirstRow, standIns := [], harness := (true, "b360f8229223985dcc97c6902efd2b0c579091364dcc9c9b7bbada02d2e1f5de"), looks := false }, kinds := [], alts := [], laidByText := true, laidKinds := [.data], laidTests := true, laidLooks := .later }
def FindFirstCardSaid : Prop := Claim7.holds Tryd.pinned (.plain (OpenSpec.ofChange findFirstSpec)) findFirstCard

/-- THE TIED CARD OF 'coachhouselaw14.FindWas'. -/
def findWasCard : Claim7 := { stood := { row := findWasRow, standIns := [], harness := (true, "b360f8229223985dcc97c6902efd2b0c579091364dcc9c9b7bbada02d2e1f5de"), looks := false }, kinds := [], alts := [], laidByText := true, laidKinds := [.data], laidTests := true, laidLooks := .later }
def FindWasCardSaid : Prop := Claim7.holds Tryd.pinned (.plain (OpenSpec.ofChange findWasSpec)) findWasCard

/-- THE TIED CARD OF 'coachhouselaw14.FindKinds'. -/
def findKindsCard : Claim7 := { stood := { row := findKindsRow, standIns := [], harness := (true, "b360f8229223985dcc97c6902efd2b0c579091364dcc9c9b7bbada02d2e1f5de"), looks := false }, kinds := [], alts := [], laidByText := true, laidKinds := [.data], laidTests := true, laidLooks := .later }
def FindKindsCardSaid : Prop := Claim7.holds Tryd.pinned (.plain (OpenSpec.ofChange findKindsSpec)) findKindsCard

/-- THE TIED CARD OF 'coachhouselaw14.FindFrom'. -/
def findFromCard : Claim7 := { stood := { row := findFromRow, standIns := [], harness := (true, "b360f8229223985dcc97c6902efd2b0c579091364dcc9c9b7bbada02d2e1f5de"), looks := false }, kinds := [], alts := [], laidByText := true, laidKinds := [.data], laidTests := true, laidLooks := .later }
def FindFromCardSaid : Prop := Claim7.holds Tryd.pinned (.plain (OpenSpec.ofChange findFromSpec)) findFromCard

/-- THE SECOND FORM's CARD OF 'coachhouselaw14.FindFits'. -/
def findFitsUptoCard : Claim7 := { stood := { row := findFitsUptoRow, standIns := [], harness := (true, "b360f8229223985dcc97c6902efd2b0c579091364dcc9c9b7bbada02d2e1f5de"), looks := false }, kinds := [], alts := [], laidByText := true, laidKinds := [.data], laidTests := true, laidLooks := .later }
def FindFitsUptoCardSaid : Prop := Claim7.holds Tryd.pinned (.plain (OpenSpec.upto findFitsSpec)) findFitsUptoCard

/-- THE SECOND FORM's CARD OF 'coachhouselaw14.FindPlays'. -/
def findPlaysUptoCard : Claim7 := { stood := { row := findPlaysUptoRow, standIns := [], harness := (true, "b360f8229223985dcc97c6902efd2b0c579091364dcc9c9b7bbada02d2e1f5de"), looks := false }, kinds := [], alts := [], laidByText := true, laidKinds := [.data], laidTests := true, laidLooks := .later }
def FindPlaysUptoCardSaid : Prop := Claim7.holds Tryd.pinned (.plain (OpenSpec.upto findPlaysSpec)) findPlaysUptoCard

/-- THE SECOND FORM's CARD OF 'coachhouselaw14.FindFirst'. -/
def findFirstUptoCard : Claim7 := { stood := { row := findFirstUptoRow, standIns := [], harness := (true, "b360f8229223985dcc97c6902efd2b0c579091364dcc9c9b7bbada02d2e1f5de"), looks := false }, kinds := [], alts := [], laidByText := true, laidKinds := [.data], laidTests := true, laidLooks := .later }
def FindFirstUptoCardSaid : Prop := Claim7.holds Tryd.pinned (.plain (OpenSpec.upto findFirstSpec)) findFirstUptoCard

/-- THE SECOND FORM's CARD OF 'coachhouselaw14.FindWas'. -/
def findWasUptoCard : Claim7 := { stood := { row := findWasUptoRow, standIns := [], harness := (true, "b360f8229223985dcc97c6902efd2b0c579091364dcc9c9b7bbada02d2e1f5de"), looks := false }, kinds := [], alts := [], laidByText := true, laidKinds := [.data], laidTests := true, laidLooks := .later }
def FindWasUptoCardSaid : Prop := Claim7.holds Tryd.pinned (.plain (OpenSpec.upto findWasSpec)) findWasUptoCard

/-- THE SECOND FORM's CARD OF 'coachhouselaw14.FindKinds'. -/
def findKindsUptoCard : Claim7 := { stood := { row := findKindsUptoRow, standIns := [], harness := (true, "b360f8229223985dcc97c6902efd2b0c579091364dcc9c9b7bbada02d2e1f5de"), looks := false }, kinds := [], alts := [], laidByText := true, laidKinds := [.data], laidTests := true, laidLooks := .later }
def FindKindsUptoCardSaid : Prop := Claim7.holds Tryd.pinned (.plain (OpenSpec.upto findKindsSpec)) findKindsUptoCard

/-- THE SECOND FORM's CARD OF 'coachhouselaw14.FindFrom'. -/
def findFromUptoCard : Claim7 := { stood := { row := findFromUptoRow, standIns := [], harness := (true, "b360f8229223985dcc97c6902efd2b0c579091364dcc9c9b7bbada02d2e1f5de"), looks := false }, kinds := [], alts := [], laidByText := true, laidKinds := [.data], laidTests := true, laidLooks := .later }
def FindFromUptoCardSaid : Prop := Claim7.holds Tryd.pinned (.plain (OpenSpec.upto findFromSpec)) findFromUptoCard
end Rows
end Go.Proofs.YtbkcniknbpgphaaDoor
