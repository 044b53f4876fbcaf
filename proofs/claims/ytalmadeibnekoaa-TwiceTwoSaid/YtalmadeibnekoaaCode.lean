/- A slot's word, and a word's slot, as the program tells; nothing that was there changes. -/
import Derived.Test.YtalmadeibnekoaaRightW
namespace Go.Proofs.Ytalmadeibnekoaa
open Go.RowKit
attribute [local go_sem ↓] Go.wp_at_zero Go.wp_at_succ

/-- what Encode tells -/
def encN (s : Sl) : Int := if rtB s then wk s 9 else 0
theorem encN_yes {s : Sl} (h : rtB s = true) : encN s = wk s 9 := by simp [encN, h]
theorem encN_no {s : Sl} (h : rtB s = false) : encN s = 0 := by simp [encN, h]

/-- a slot in a box, and a bool, told as results -/
theorem res_pair {fn : Func} {p u : Tmp} (h : fn.results = #[.cell p 66, .tmp u]) (tmps : Array Value) (W : World) (b : Nat) (vs : Array Value) (hp : tmps.getD p undef = .pointer (some ⟨b, 0, none⟩)) (r : RowAt W b 66 vs) (hs : vs.size = 9) :
    (results fn tmps).run Try.prog W = .ok (.tuple #[.agg vs, tmps.getD u undef]) W := by
  rw [results_cell_tmp h, hp]
  have e := run_loadVar_row (P := Try.prog) W b 66 66 vs (0, 0) _ r Try.underlying66 rfl (by rw [hs]; kernel_rfl)
  simp [asAddr, Result.andThen, e]
/-- what Decode tells -/
def decB (x : Int) : Bool := rtB (rdS x) && wk (rdS x) 9 == x
def decS (x : Int) : Sl := if decB x then rdS x else ⟨0, 0, 0, false, false, 0, 0, 0, 0⟩
theorem decS_yes {x : Int} (h : decB x = true) : decS x = rdS x := by simp [decS, h]
theorem decS_no {x : Int} (h : decB x = false) : decS x = ⟨0, 0, 0, false, false, 0, 0, 0, 0⟩ := by simp [decS, h]

end Go.Proofs.Ytalmadeibnekoaa
