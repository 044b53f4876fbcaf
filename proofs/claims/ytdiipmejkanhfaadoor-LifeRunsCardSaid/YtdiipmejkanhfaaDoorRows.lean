/-
  NARROWER THAN 'FOR EVERY INPUT', by the rows' own cells (each row's printed sentence says how): LifeTells: laid · LifeRight: laid · LifeRuns: laid · LifeOwn: laid · LifeStreams: laid · LifeBack: laid · LifeLittle: laid.
  DERIVED. THE GIVEN ROWS OF THIS SEAT. 7 by the template 'for every input the law returns true; each argument reads behind the call as it read before'; 0 by the template 'total and deterministic' (their statements: YtdiipmejkanhfaaDoorTotals.lean).
  GIVEN WITH THE SEED: the statements are not yours to turn. If you find one false, say at which input.
  Laid BY PROGRAM, IN A SANDBOX (cutbox-rows.mjs): the forced cells as the released guide's own fill.sh prints them over the translation 0a280b240180338e… (all of the seat's roots in one cut). By AI agents, Wed Nov 11 2026. No macro, syntax, notation, axiom, sorry.
-/
import Derived.Test.YtdiipmejkanhfaaDoorChecked
import GoSem.Claim
import GoSem.ClaimJoined
import GoSem.ClaimMapViews
import Derived.JoinedTies
import Derived.KernelRfl
namespace Go.Proofs.YtdiipmejkanhfaaDoor
/- THE CELL 'sum', in the pinned program and in every row, IS THE sha256 OF THE DUMP (.gsa) THAT YtdiipmejkanhfaaDoorProg.lean LOADS. Nothing in Lean hashes anything: it is a label: what it is worth is what the hold of that sum in a sandbox is worth. -/
noncomputable def Tryd.pinned : Pinned := { name := "ytdiipmejkanhfaadoor", sum := "0a280b240180338ec15cfdb768a59e8f915e0dbe2ca9f6c192365a591a33f5a2", checked := Tryd.checked }
namespace Rows
def none {H : Type} : Left H := { results := [], args := [] }

/- WHAT THE LISTED PACKAGE-LEVEL VARIABLES READ AS WHEN THE CALL BEGINS. Each datum BY PROGRAM (the guide's laid-datum.mjs) off the statement by which the dump's own 'gosem.cut.vars' lays the variable. In a bare row this is a premise. The card (YtdiipmejkanhfaaDoorCards.lean) ties it to the program's text. -/
def laid_math_bits_deBruijn32tab {H : Type} : DataW H := .agg [.lit (.int .u8 0), .lit (.int .u8 1), .lit (.int .u8 28), .lit (.int .u8 2), .lit (.int .u8 29), .lit (.int .u8 14), .lit (.int .u8 24), .lit (.int .u8 3), .lit (.int .u8 30), .lit (.int .u8 22), .lit (.int .u8 20), .lit (.int .u8 15), .lit (.int .u8 25), .lit (.int .u8 17), .lit (.int .u8 4), .lit (.int .u8 8), .lit (.int .u8 31), .lit (.int .u8 27), .lit (.int .u8 13), .lit (.int .u8 23), .lit (.int .u8 21), .lit (.int .u8 19), .lit (.int .u8 16), .lit (.int .u8 7), .lit (.int .u8 26), .lit (.int .u8 12), .lit (.int .u8 18), .lit (.int .u8 6), .lit (.int .u8 11), .lit (.int .u8 5), .lit (.int .u8 10), .lit (.int .u8 9)]
def laid_math_bits_deBruijn64tab {H : Type} : DataW H := .agg [.lit (.int .u8 0), .lit (.int .u8 1), .lit (.int .u8 56), .lit (.int .u8 2), .lit (.int .u8 57), .lit (.int .u8 49), .lit (.int .u8 28), .lit (.int .u8 3), .lit (.int .u8 61), .lit (.int .u8 58), .lit (.int .u8 42), .lit (.int .u8 50), .lit (.int .u8 38), .lit (.int .u8 29), .lit (.int .u8 17), .lit (.int .u8 4), .lit (.int .u8 62), .lit (.int .u8 47), .lit (.int .u8 59), .lit (.int .u8 36), .lit (.int .u8 45), .lit (.int .u8 43), .lit (.int .u8 51), .lit (.int .u8 22), .lit (.int .u8 53), .lit (.int .u8 39), .lit (.int .u8 33), .lit (.int .u8 30), .lit (.int .u8 24), .lit (.int .u8 18), .lit (.int .u8 12), .lit (.int .u8 5), .lit (.int .u8 63), .lit (.int .u8 55), .lit (.int .u8 48), .lit (.int .u8 27), .lit (.int .u8 60), .lit (.int .u8 41), .lit (.int .u8 37), .lit (.int .u8 16), .lit (.int .u8 46), .lit (.int .u8 35), .lit (.int .u8 44), .lit (.int .u8 21), .lit (.int .u8 52), .lit (.int .u8 32), .lit (.int .u8 23), .lit (.int .u8 11), .lit (.int .u8 54), .lit (.int .u8 26), .lit (.int .u8 40), .lit (.int .u8 15), .lit (.int .u8 34), .lit (.int .u8 20), .lit (.int .u8 31), .lit (.int .u8 10), .lit (.int .u8 25), .lit (.int .u8 14), .lit (.int .u8 19), .lit (.int .u8 9), .lit (.int .u8 13), .lit (.int .u8 8), .lit (.int .u8 7), .lit (.int .u8 6)]
def laid_coachhouse_slot_places {H : Type} : DataW H := .agg [.agg [.agg [.lit (.int .i64 0), .lit (.int .i64 3)], .lit (.int .i64 127)], .agg [.agg [.lit (.int .i64 3), .lit (.int .i64 4)], .lit (.int .i64 62)], .agg [.agg [.lit (.int .i64 7), .lit (.int .i64 8)], .lit (.int .i64 8)], .agg [.agg [.lit (.int .i64 15), .lit (.int .i64 1)], .lit (.int .i64 28)], .agg [.agg [.lit (.int .i64 16), .lit (.int .i64 1)], .lit (.int .i64 4)], .agg [.agg [.lit (.int .i64 17), .lit (.int .i64 6)], .lit (.int .i64 28)], .agg [.agg [.lit (.int .i64 23), .lit (.int .i64 12)], .lit (.int .i64 127)], .agg [.agg [.lit (.int .i64 35), .lit (.int .i64 12)], .lit (.int .i64 64)], .agg [.agg [.lit (.int .i64 47), .lit (.int .i64 15)], .lit (.int .i64 127)]]

/-- 'coachhouselaw08.LifeTells': WHATEVER THE INPUT: true; the input reads as it did. -/
def lifeTellsSpec : ChangeSpec := { name := "lifeTells", fn := fun _ => fun
  | [d1, d2, d3, d4] => { results := [.lit (.bool true)], args := [d1, d2, d3, d4] }
  | _ => none }
def lifeTellsRow : OpenClaim := { program := "ytdiipmejkanhfaadoor", sum := "0a280b240180338ec15cfdb768a59e8f915e0dbe2ca9f6c192365a591a33f5a2", func := "coachhouse/coachhouselaw08.LifeTells", spec := "lifeTells", unfollowed := true, recurses := true, named := ["math/bits.deBruijn32tab", "math/bits.deBruijn64tab", "coachhouse/slot.places"], apart := false, laid := [("math/bits.deBruijn32tab", laid_math_bits_deBruijn32tab), ("math/bits.deBruijn64tab", laid_math_bits_deBruijn64tab), ("coachhouse/slot.places", laid_coachhouse_slot_places)] }
def LifeTellsSaid : Prop := lifeTellsRow.holds Tryd.pinned (OpenSpec.ofChange lifeTellsSpec)

/-- ITS FALSE NEIGHBOUR: 'it returns false'. Refute it at one input. -/
def lifeTellsWrong : ChangeSpec := { name := "lifeTells", fn := fun _ => fun
  | [d1, d2, d3, d4] => { results := [.lit (.bool false)], args := [d1, d2, d3, d4] }
  | _ => none }
def LifeTellsWrongFalsely : Prop := lifeTellsRow.holds Tryd.pinned (OpenSpec.ofChange lifeTellsWrong)

/-- 'coachhouselaw08.LifeRight': WHATEVER THE INPUT: true; the input reads as it did. -/
def lifeRightSpec : ChangeSpec := { name := "lifeRight", fn := fun _ => fun
  | [d1, d2, d3, d4] => { results := [.lit (.bool true)], args := [d1, d2, d3, d4] }
  | _ => none }
def lifeRightRow : OpenClaim := { program := "ytdiipmejkanhfaadoor", sum := "0a280b240180338ec15cfdb768a59e8f915e0dbe2ca9f6c192365a591a33f5a2", func := "coachhouse/coachhouselaw08.LifeRight", spec := "lifeRight", unfollowed := true, recurses := true, named := ["math/bits.deBruijn32tab", "math/bits.deBruijn64tab", "coachhouse/slot.places"], apart := false, laid := [("math/bits.deBruijn32tab", laid_math_bits_deBruijn32tab), ("math/bits.deBruijn64tab", laid_math_bits_deBruijn64tab), ("coachhouse/slot.places", laid_coachhouse_slot_places)] }
def LifeRightSaid : Prop := lifeRightRow.holds Tryd.pinned (OpenSpec.ofChange lifeRightSpec)

/-- ITS FALSE NEIGHBOUR: 'it returns false'. Refute it at one input. -/
def lifeRightWrong : ChangeSpec := { name := "lifeRight", fn := fun _ => fun
  | [d1, d2, d3, d4] => { results := [.lit (.bool false)], args := [d1, d2, d3, d4] }
  | _ => none }
def LifeRightWrongFalsely : Prop := lifeRightRow.holds Tryd.pinned (OpenSpec.ofChange lifeRightWrong)

/-- 'coachhouselaw08.LifeRuns': WHATEVER THE INPUT: true; the input reads as it did. -/
def lifeRunsSpec : ChangeSpec := { name := "lifeRuns", fn := fun _ => fun
  | [d1, d2] => { results := [.lit (.bool true)], args := [d1, d2] }
  | _ => none }
def lifeRunsRow : OpenClaim := { program := "ytdiipmejkanhfaadoor", sum := "0a280b240180338ec15cfdb768a59e8f915e0dbe2ca9f6c192365a591a33f5a2", func := "coachhouse/coachhouselaw08.LifeRuns", spec := "lifeRuns", unfollowed := true, recurses := true, named := ["math/bits.deBruijn32tab", "math/bits.deBruijn64tab", "coachhouse/slot.places"], apart := false, laid := [("math/bits.deBruijn32tab", laid_math_bits_deBruijn32tab), ("math/bits.deBruijn64tab", laid_math_bits_deBruijn64tab), ("coachhouse/slot.places", laid_coachhouse_slot_places)] }
def LifeRunsSaid : Prop := lifeRunsRow.holds Tryd.pinned (OpenSpec.ofChange lifeRunsSpec)

/-- ITS FALSE NEIGHBOUR: 'it returns false'. Refute it at one input. -/
def lifeRunsWrong : ChangeSpec := { name := "lifeRuns", fn := fun _ => fun
  | [d1, d2] => { results := [.lit (.bool false)], args := [d1, d2] }
  | _ => none }
def LifeRunsWrongFalsely : Prop := lifeRunsRow.holds Tryd.pinned (OpenSpec.ofChange lifeRunsWrong)

/-- 'coachhouselaw08.LifeOwn': WHATEVER THE INPUT: true; the input reads as it did. -/
def lifeOwnSpec : ChangeSpec := { name := "lifeOwn", fn := fun _ => fun
  | [d1, d2, d3, d4] => { results := [.lit (.bool true)], args := [d1, d2, d3, d4] }
  | _ => none }
def lifeOwnRow : OpenClaim := { program := "ytdiipmejkanhfaadoor", sum := "0a280b240180338ec15cfdb768a59e8f915e0dbe2ca9f6c192365a591a33f5a2", func := "coachhouse/coachhouselaw08.LifeOwn", spec := "lifeOwn", unfollowed := true, recurses := true, named := ["math/bits.deBruijn32tab", "math/bits.deBruijn64tab", "coachhouse/slot.places"], apart := false, laid := [("math/bits.deBruijn32tab", laid_math_bits_deBruijn32tab), ("math/bits.deBruijn64tab", laid_math_bits_deBruijn64tab), ("coachhouse/slot.places", laid_coachhouse_slot_places)] }
def LifeOwnSaid : Prop := lifeOwnRow.holds Tryd.pinned (OpenSpec.ofChange lifeOwnSpec)

/-- ITS FALSE NEIGHBOUR: 'it returns false'. Refute it at one input. -/
def lifeOwnWrong : ChangeSpec := { name := "lifeOwn", fn := fun _ => fun
  | [d1, d2, d3, d4] => { results := [.lit (.bool false)], args := [d1, d2, d3, d4] }
  | _ => none }
def LifeOwnWrongFalsely : Prop := lifeOwnRow.holds Tryd.pinned (OpenSpec.ofChange lifeOwnWrong)

/-- 'coachhouselaw08.LifeStreams': WHATEVER THE INPUT: true; the input reads as it did. -/
def lifeStreamsSpec : ChangeSpec := { name := "lifeStreams", fn := fun _ => fun
  | [d1, d2, d3] => { results := [.lit (.bool true)], args := [d1, d2, d3] }
  | _ => none }
def lifeStreamsRow : OpenClaim := { program := "ytdiipmejkanhfaadoor", sum := "0a280b240180338ec15cfdb768a59e8f915e0dbe2ca9f6c192365a591a33f5a2", func := "coachhouse/coachhouselaw08.LifeStreams", spec := "lifeStreams", unfollowed := true, recurses := true, named := ["math/bits.deBruijn32tab", "math/bits.deBruijn64tab", "coachhouse/slot.places"], apart := false, laid := [("math/bits.deBruijn32tab", laid_math_bits_deBruijn32tab), ("math/bits.deBruijn64tab", laid_math_bits_deBruijn64tab), ("coachhouse/slot.places", laid_coachhouse_slot_places)] }
def LifeStreamsSaid : Prop := lifeStreamsRow.holds Tryd.pinned (OpenSpec.ofChange lifeStreamsSpec)

/-- ITS FALSE NEIGHBOUR: 'it returns false'. Refute it at one input. -/
def lifeStreamsWrong : ChangeSpec := { name := "lifeStreams", fn := fun _ => fun
  | [d1, d2, d3] => { results := [.lit (.bool false)], args := [d1, d2, d3] }
  | _ => none }
def LifeStreamsWrongFalsely : Prop := lifeStreamsRow.holds Tryd.pinned (OpenSpec.ofChange lifeStreamsWrong)

/-- 'coachhouselaw08.LifeBack': WHATEVER THE INPUT: true; the input reads as it did. -/
def lifeBackSpec : ChangeSpec := { name := "lifeBack", fn := fun _ => fun
  | [d1, d2, d3, d4] => { results := [.lit (.bool true)], args := [d1, d2, d3, d4] }
  | _ => none }
def lifeBackRow : OpenClaim := { program := "ytdiipmejkanhfaadoor", sum := "0a280b240180338ec15cfdb768a59e8f915e0dbe2ca9f6c192365a591a33f5a2", func := "coachhouse/coachhouselaw08.LifeBack", spec := "lifeBack", unfollowed := true, recurses := true, named := ["math/bits.deBruijn32tab", "math/bits.deBruijn64tab", "coachhouse/slot.places"], apart := false, laid := [("math/bits.deBruijn32tab", laid_math_bits_deBruijn32tab), ("math/bits.deBruijn64tab", laid_math_bits_deBruijn64tab), ("coachhouse/slot.places", laid_coachhouse_slot_places)] }
def LifeBackSaid : Prop := lifeBackRow.holds Tryd.pinned (OpenSpec.ofChange lifeBackSpec)

/-- ITS FALSE NEIGHBOUR: 'it returns false'. Refute it at one input. -/
def lifeBackWrong : ChangeSpec := { name := "lifeBack", fn := fun _ => fun
  | [d1, d2, d3, d4] => { results := [.lit (.bool false)], args := [d1, d2, d3, d4] }
  | _ => none }
def LifeBackWrongFalsely : Prop := lifeBackRow.holds Tryd.pinned (OpenSpec.ofChange lifeBackWrong)

/-- 'coachhouselaw08.LifeLittle': WHATEVER THE INPUT: true; the input reads as it did. -/
def lifeLittleSpec : ChangeSpec := { name := "lifeLittle", fn := fun _ => fun
  | [d1, d2] => { results := [.lit (.bool true)], args := [d1, d2] }
  | _ => none }
def lifeLittleRow : OpenClaim := { program := "ytdiipmejkanhfaadoor", sum := "0a280b240180338ec15cfdb768a59e8f915e0dbe2ca9f6c192365a591a33f5a2", func := "coachhouse/coachhouselaw08.LifeLittle", spec := "lifeLittle", unfollowed := true, recurses := true, named := ["math/bits.deBruijn32tab", "math/bits.deBruijn64tab", "coachhouse/slot.places"], apart := false, laid := [("math/bits.deBruijn32tab", laid_math_bits_deBruijn32tab), ("math/bits.deBruijn64tab", laid_math_bits_deBruijn64tab), ("coachhouse/slot.places", laid_coachhouse_slot_places)] }
def LifeLittleSaid : Prop := lifeLittleRow.holds Tryd.pinned (OpenSpec.ofChange lifeLittleSpec)

/-- ITS FALSE NEIGHBOUR: 'it returns false'. Refute it at one input. -/
def lifeLittleWrong : ChangeSpec := { name := "lifeLittle", fn := fun _ => fun
  | [d1, d2] => { results := [.lit (.bool false)], args := [d1, d2] }
  | _ => none }
def LifeLittleWrongFalsely : Prop := lifeLittleRow.holds Tryd.pinned (OpenSpec.ofChange lifeLittleWrong)

/- THE SECOND FORM. 'bulk': how many values and letters a reading holds, each counted each time it is reached (what is shared counts as often as it is met; a slice's spare places count too). A statement '..UptoSaid' is the law's where the arguments, and the package variables that the reading takes, are together of bulk at most 1048576: NARROWER than '..Said'. Prove '..Said' where nothing that the law and all that it calls make is longer than what came in: it says more and counts as full. Else prove '..UptoSaid'. A law counts once. -/
mutual
def uptoBulk {H : Type} : DataW H → Nat
  | .lit (.string bytes) => bytes.length + 1
  | .lit _ => 1
  | .nil => 1
  | .ptr d => uptoBulk d + 1
  | .slice elems spare => uptoBulkAll elems + uptoBulkAll spare + 1
  | .agg parts => uptoBulkAll parts + 1
  | .iface _ d => uptoBulk d + 1
  | .map entries => uptoBulkEntries entries + 1
  | .held _ => 1
def uptoBulkAll {H : Type} : List (DataW H) → Nat
  | [] => 0
  | d :: r => uptoBulk d + uptoBulkAll r
def uptoBulkEntries {H : Type} : List (Lit × DataW H) → Nat
  | [] => 0
  | x :: r => uptoBulkEntry x + uptoBulkEntries r
def uptoBulkEntry {H : Type} : Lit × DataW H → Nat
  | (.string bytes, d) => bytes.length + uptoBulk d + 1
  | (_, d) => uptoBulk d + 1
 end
def uptoSmall : (H : Type) → List (DataW H) → Bool := fun _ ds => decide (uptoBulkAll ds ≤ 1048576)
def OpenSpec.upto (s : _root_.Go.ChangeSpec) : _root_.Go.OpenSpec := { _root_.Go.OpenSpec.ofChange s with cond := some uptoSmall }

/-- 'coachhouselaw08.LifeTells', WHERE WHAT IT READS IS OF BULK AT MOST 1048576: true; the input reads as it did. -/
def lifeTellsUptoRow : OpenClaim := { program := "ytdiipmejkanhfaadoor", sum := "0a280b240180338ec15cfdb768a59e8f915e0dbe2ca9f6c192365a591a33f5a2", func := "coachhouse/coachhouselaw08.LifeTells", spec := "lifeTells", unfollowed := true, recurses := true, named := ["math/bits.deBruijn32tab", "math/bits.deBruijn64tab", "coachhouse/slot.places"], apart := false, laid := [("math/bits.deBruijn32tab", laid_math_bits_deBruijn32tab), ("math/bits.deBruijn64tab", laid_math_bits_deBruijn64tab), ("coachhouse/slot.places", laid_coachhouse_slot_places)], narrowed := true }
def LifeTellsUptoSaid : Prop := lifeTellsUptoRow.holds Tryd.pinned (OpenSpec.upto lifeTellsSpec)

/-- 'coachhouselaw08.LifeRight', WHERE WHAT IT READS IS OF BULK AT MOST 1048576: true; the input reads as it did. -/
def lifeRightUptoRow : OpenClaim := { program := "ytdiipmejkanhfaadoor", sum := "0a280b240180338ec15cfdb768a59e8f915e0dbe2ca9f6c192365a591a33f5a2", func := "coachhouse/coachhouselaw08.LifeRight", spec := "lifeRight", unfollowed := true, recurses := true, named := ["math/bits.deBruijn32tab", "math/bits.deBruijn64tab", "coachhouse/slot.places"], apart := false, laid := [("math/bits.deBruijn32tab", laid_math_bits_deBruijn32tab), ("math/bits.deBruijn64tab", laid_math_bits_deBruijn64tab), ("coachhouse/slot.places", laid_coachhouse_slot_places)], narrowed := true }
def LifeRightUptoSaid : Prop := lifeRightUptoRow.holds Tryd.pinned (OpenSpec.upto lifeRightSpec)

/-- 'coachhouselaw08.LifeRuns', WHERE WHAT IT READS IS OF BULK AT MOST 1048576: true; the input reads as it did. -/
def lifeRunsUptoRow : OpenClaim := { program := "ytdiipmejkanhfaadoor", sum := "0a280b240180338ec15cfdb768a59e8f915e0dbe2ca9f6c192365a591a33f5a2", func := "coachhouse/coachhouselaw08.LifeRuns", spec := "lifeRuns", unfollowed := true, recurses := true, named := ["math/bits.deBruijn32tab", "math/bits.deBruijn64tab", "coachhouse/slot.places"], apart := false, laid := [("math/bits.deBruijn32tab", laid_math_bits_deBruijn32tab), ("math/bits.deBruijn64tab", laid_math_bits_deBruijn64tab), ("coachhouse/slot.places", laid_coachhouse_slot_places)], narrowed := true }
def LifeRunsUptoSaid : Prop := lifeRunsUptoRow.holds Tryd.pinned (OpenSpec.upto lifeRunsSpec)

/-- 'coachhouselaw08.LifeOwn', WHERE WHAT IT READS IS OF BULK AT MOST 1048576: true; the input reads as it did. -/
def lifeOwnUptoRow : OpenClaim := { program := "ytdiipmejkanhfaadoor", sum := "0a280b240180338ec15cfdb768a59e8f915e0dbe2ca9f6c192365a591a33f5a2", func := "coachhouse/coachhouselaw08.LifeOwn", spec := "lifeOwn", unfollowed := true, recurses := true, named := ["math/bits.deBruijn32tab", "math/bits.deBruijn64tab", "coachhouse/slot.places"], apart := false, laid := [("math/bits.deBruijn32tab", laid_math_bits_deBruijn32tab), ("math/bits.deBruijn64tab", laid_math_bits_deBruijn64tab), ("coachhouse/slot.places", laid_coachhouse_slot_places)], narrowed := true }
def LifeOwnUptoSaid : Prop := lifeOwnUptoRow.holds Tryd.pinned (OpenSpec.upto lifeOwnSpec)

/-- 'coachhouselaw08.LifeStreams', WHERE WHAT IT READS IS OF BULK AT MOST 1048576: true; the input reads as it did. -/
def lifeStreamsUptoRow : OpenClaim := { program := "ytdiipmejkanhfaadoor", sum := "0a280b240180338ec15cfdb768a59e8f915e0dbe2ca9f6c192365a591a33f5a2", func := "coachhouse/coachhouselaw08.LifeStreams", spec := "lifeStreams", unfollowed := true, recurses := true, named := ["math/bits.deBruijn32tab", "math/bits.deBruijn64tab", "coachhouse/slot.places"], apart := false, laid := [("math/bits.deBruijn32tab", laid_math_bits_deBruijn32tab), ("math/bits.deBruijn64tab", laid_math_bits_deBruijn64tab), ("coachhouse/slot.places", laid_coachhouse_slot_places)], narrowed := true }
def LifeStreamsUptoSaid : Prop := lifeStreamsUptoRow.holds Tryd.pinned (OpenSpec.upto lifeStreamsSpec)

/-- 'coachhouselaw08.LifeBack', WHERE WHAT IT READS IS OF BULK AT MOST 1048576: true; the input reads as it did. -/
def lifeBackUptoRow : OpenClaim := { program := "ytdiipmejkanhfaadoor", sum := "0a280b240180338ec15cfdb768a59e8f915e0dbe2ca9f6c192365a591a33f5a2", func := "coachhouse/coachhouselaw08.LifeBack", spec := "lifeBack", unfollowed := true, recurses := true, named := ["math/bits.deBruijn32tab", "math/bits.deBruijn64tab", "coachhouse/slot.places"], apart := false, laid := [("math/bits.deBruijn32tab", laid_math_bits_deBruijn32tab), ("math/bits.deBruijn64tab", laid_math_bits_deBruijn64tab), ("coachhouse/slot.places", laid_coachhouse_slot_places)], narrowed := true }
def LifeBackUptoSaid : Prop := lifeBackUptoRow.holds Tryd.pinned (OpenSpec.upto lifeBackSpec)

/-- 'coachhouselaw08.LifeLittle', WHERE WHAT IT READS IS OF BULK AT MOST 1048576: true; the input reads as it did. -/
def lifeLittleUptoRow : OpenClaim := { program := "ytdiipmejkanhfaadoor", sum := "0a280b240180338ec15cfdb768a59e8f915e0dbe2ca9f6c192365a591a33f5a2", func := "coachhouse/coachhouselaw08.LifeLittle", spec := "lifeLittle", unfollowed := true, recurses := true, named := ["math/bits.deBruijn32tab", "math/bits.deBruijn64tab", "coachhouse/slot.places"], apart := false, laid := [("math/bits.deBruijn32tab", laid_math_bits_deBruijn32tab), ("math/bits.deBruijn64tab", laid_math_bits_deBruijn64tab), ("coachhouse/slot.places", laid_coachhouse_slot_places)], narrowed := true }
def LifeLittleUptoSaid : Prop := lifeLittleUptoRow.holds Tryd.pinned (OpenSpec.upto lifeLittleSpec)

end Rows
end Go.Proofs.YtdiipmejkanhfaaDoor
