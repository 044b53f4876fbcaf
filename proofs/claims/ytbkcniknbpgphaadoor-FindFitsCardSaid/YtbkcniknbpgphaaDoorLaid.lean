/- What the tied condition gives: the table of the places lies in the first variable; and the door's own heap meets it. -/
import Derived.Test.YtbkcniknbpgphaaDoorWord
import Derived.ProofKit
import Derived.LaidMore
import Derived.OpenShut
import Derived.ChangeSame
import Derived.Stop.Joined
namespace Go.Proofs.YtbkcniknbpgphaaDoor
open Go.ChangeShapes Go.WideShapes Go.ChangeAt Go.RowKit

theorem own : ownKnob Tryd.prog.godebug = none := by kernel_rfl
theorem laidOut : laidOutB Tryd.prog = true := by kernel_rfl
theorem gPlaces : Tryd.prog.globalNamed "coachhouse/slot.places" = some 0 := by kernel_rfl
theorem tPlaces : (Tryd.prog.globals[0]?).map (·.type) = some 110 := by kernel_rfl
theorem cells3 : Tryd.prog.cellsOf 3 = 1 := by kernel_rfl
theorem cells4 : Tryd.prog.cellsOf 4 = 1 := by kernel_rfl
theorem cells23 : Tryd.prog.cellsOf 23 = 9 := by kernel_rfl
theorem cells107 : Tryd.prog.cellsOf 107 = 2 := by kernel_rfl
theorem cells109 : Tryd.prog.cellsOf 109 = 3 := by kernel_rfl
theorem cells110 : Tryd.prog.cellsOf 110 = 27 := by kernel_rfl
section
variable {H : Type} {enc : TypeId × Value → H} {w : World} {base : Nat} {spare : Nat → Bool} {held : Bool}
theorem three {α : Type} {l : List α} (h : l.length = 3) : ∃ a b c, l = [a, b, c] := by
  match l, h with
  | [a, b, c], _ => exact ⟨a, b, c, rfl⟩
theorem two {α : Type} {l : List α} (h : l.length = 2) : ∃ a b, l = [a, b] := by
  match l, h with
  | [a, b], _ => exact ⟨a, b, rfl⟩
theorem int_cell {fuel : Nat} {cs : List Value} {a : Int} {pl : List MemPlace} (h : DataW.trod enc Tryd.prog w base spare held fuel 3 cs = some (.lit (.int .i64 a), pl)) : cs = [.int .i64 a] := by
  obtain ⟨n, h1, h2, _⟩ := DataW.trod_int Tryd.underlying3 h
  simp at h2
  rw [h1, h2.1]
theorem field_cells {fuel : Nat} {cs : List Value} {a b : Int} {pl : List MemPlace} (h : DataW.trod enc Tryd.prog w base spare held fuel 107 cs = some (.agg [.lit (.int .i64 a), .lit (.int .i64 b)], pl)) : cs = [.int .i64 a, .int .i64 b] := by
  obtain ⟨xs, n, _, hx, hl, hxl, hf⟩ := DataW.trod_struct Tryd.underlying107 h
  rw [cells107] at hl
  obtain ⟨c0, c1, rfl⟩ := two hl
  obtain ⟨x0, x1, rfl⟩ := two (show xs.length = 2 from hxl)
  simp at hx
  obtain ⟨⟨e0, e1⟩, _⟩ := hx
  have g0 : DataW.trod enc Tryd.prog w base spare held n 3 ([c0, c1].take (Tryd.prog.cellsOf 3)) = some x0 := hf 0 _ rfl
  have g1 : DataW.trod enc Tryd.prog w base spare held n 3 ([c1].take (Tryd.prog.cellsOf 3)) = some x1 := hf 1 _ rfl
  rw [cells3] at g0 g1
  have q0 := int_cell (show DataW.trod enc Tryd.prog w base spare held n 3 [c0] = some (.lit (.int .i64 a), x0.2) by rw [e0]; exact g0)
  have q1 := int_cell (show DataW.trod enc Tryd.prog w base spare held n 3 [c1] = some (.lit (.int .i64 b), x1.2) by rw [e1]; exact g1)
  simp at q0 q1
  rw [q0, q1]
theorem place_cells {fuel : Nat} {cs : List Value} {a b c : Int} {pl : List MemPlace} (h : DataW.trod enc Tryd.prog w base spare held fuel 109 cs = some (.agg [.agg [.lit (.int .i64 a), .lit (.int .i64 b)], .lit (.int .i64 c)], pl)) : cs = [.int .i64 a, .int .i64 b, .int .i64 c] := by
  obtain ⟨xs, n, _, hx, hl, hxl, hf⟩ := DataW.trod_struct Tryd.underlying109 h
  rw [cells109] at hl
  obtain ⟨c0, c1, c2, rfl⟩ := three hl
  obtain ⟨x0, x1, rfl⟩ := two (show xs.length = 2 from hxl)
  simp at hx
  obtain ⟨⟨e0, e1⟩, _⟩ := hx
  have g0 : DataW.trod enc Tryd.prog w base spare held n 107 ([c0, c1, c2].take (Tryd.prog.cellsOf 107)) = some x0 := hf 0 _ rfl
  have g1 : DataW.trod enc Tryd.prog w base spare held n 3 ([c2].take (Tryd.prog.cellsOf 3)) = some x1 := hf 1 _ rfl
  rw [cells107] at g0
  rw [cells3] at g1
  have q0 := field_cells (show DataW.trod enc Tryd.prog w base spare held n 107 [c0, c1] = some (.agg [.lit (.int .i64 a), .lit (.int .i64 b)], x0.2) by rw [e0]; exact g0)
  have q1 := int_cell (show DataW.trod enc Tryd.prog w base spare held n 3 [c2] = some (.lit (.int .i64 c), x1.2) by rw [e1]; exact g1)
  simp at q0 q1
  rw [q0.1, q0.2, q1]
theorem drop_step {cs : List Value} {k : Nat} {l : List Value} (h : (cs.drop k).take 3 = l) : cs.drop k = l ++ cs.drop (k + 3) := by
  rw [← h, ← List.drop_drop, List.take_append_drop]
theorem nine_list {α : Type} {l : List α} (h : l.length = 9) : ∃ a b c d e f g i j, l = [a, b, c, d, e, f, g, i, j] := by
  match l, h with
  | [a, b, c, d, e, f, g, i, j], _ => exact ⟨a, b, c, d, e, f, g, i, j, rfl⟩
theorem places_cells {fuel : Nat} {cs : List Value} {pl : List MemPlace} (h : DataW.trod enc Tryd.prog w base spare held fuel 110 cs = some (Rows.laid_coachhouse_slot_places, pl)) : cs = [Value.int .i64 0, Value.int .i64 3, Value.int .i64 127, Value.int .i64 3, Value.int .i64 4, Value.int .i64 62, Value.int .i64 7, Value.int .i64 8, Value.int .i64 8, Value.int .i64 15, Value.int .i64 1, Value.int .i64 28, Value.int .i64 16, Value.int .i64 1, Value.int .i64 4, Value.int .i64 17, Value.int .i64 6, Value.int .i64 28, Value.int .i64 23, Value.int .i64 12, Value.int .i64 127, Value.int .i64 35, Value.int .i64 12, Value.int .i64 64, Value.int .i64 47, Value.int .i64 15, Value.int .i64 127] := by
  obtain ⟨xs, m, _, hx, hl, hxl, hf⟩ := DataW.trod_array Tryd.underlying110 h
  rw [cells110] at hl
  rw [cells109] at hf
  obtain ⟨x0, x1, x2, x3, x4, x5, x6, x7, x8, rfl⟩ := nine_list hxl
  simp [Rows.laid_coachhouse_slot_places] at hx
  obtain ⟨⟨e0, e1, e2, e3, e4, e5, e6, e7, e8⟩, _⟩ := hx
  have q0 := drop_step (place_cells (show DataW.trod enc Tryd.prog w base spare held m 109 ((cs.drop 0).take 3) = some (.agg [.agg [.lit (.int .i64 0), .lit (.int .i64 3)], .lit (.int .i64 127)], x0.2) by rw [e0]; exact hf 0 (by omega)))
  have q1 := drop_step (place_cells (show DataW.trod enc Tryd.prog w base spare held m 109 ((cs.drop 3).take 3) = some (.agg [.agg [.lit (.int .i64 3), .lit (.int .i64 4)], .lit (.int .i64 62)], x1.2) by rw [e1]; exact hf 1 (by omega)))
  have q2 := drop_step (place_cells (show DataW.trod enc Tryd.prog w base spare held m 109 ((cs.drop 6).take 3) = some (.agg [.agg [.lit (.int .i64 7), .lit (.int .i64 8)], .lit (.int .i64 8)], x2.2) by rw [e2]; exact hf 2 (by omega)))
  have q3 := drop_step (place_cells (show DataW.trod enc Tryd.prog w base spare held m 109 ((cs.drop 9).take 3) = some (.agg [.agg [.lit (.int .i64 15), .lit (.int .i64 1)], .lit (.int .i64 28)], x3.2) by rw [e3]; exact hf 3 (by omega)))
  have q4 := drop_step (place_cells (show DataW.trod enc Tryd.prog w base spare held m 109 ((cs.drop 12).take 3) = some (.agg [.agg [.lit (.int .i64 16), .lit (.int .i64 1)], .lit (.int .i64 4)], x4.2) by rw [e4]; exact hf 4 (by omega)))
  have q5 := drop_step (place_cells (show DataW.trod enc Tryd.prog w base spare held m 109 ((cs.drop 15).take 3) = some (.agg [.agg [.lit (.int .i64 17), .lit (.int .i64 6)], .lit (.int .i64 28)], x5.2) by rw [e5]; exact hf 5 (by omega)))
  have q6 := drop_step (place_cells (show DataW.trod enc Tryd.prog w base spare held m 109 ((cs.drop 18).take 3) = some (.agg [.agg [.lit (.int .i64 23), .lit (.int .i64 12)], .lit (.int .i64 127)], x6.2) by rw [e6]; exact hf 6 (by omega)))
  have q7 := drop_step (place_cells (show DataW.trod enc Tryd.prog w base spare held m 109 ((cs.drop 21).take 3) = some (.agg [.agg [.lit (.int .i64 35), .lit (.int .i64 12)], .lit (.int .i64 64)], x7.2) by rw [e7]; exact hf 7 (by omega)))
  have q8 := drop_step (place_cells (show DataW.trod enc Tryd.prog w base spare held m 109 ((cs.drop 24).take 3) = some (.agg [.agg [.lit (.int .i64 47), .lit (.int .i64 15)], .lit (.int .i64 127)], x8.2) by rw [e8]; exact hf 8 (by omega)))
  have q9 : cs.drop 27 = [] := List.drop_of_length_le (by omega)
  have q : cs.drop 0 = [Value.int .i64 0, Value.int .i64 3, Value.int .i64 127, Value.int .i64 3, Value.int .i64 4, Value.int .i64 62, Value.int .i64 7, Value.int .i64 8, Value.int .i64 8, Value.int .i64 15, Value.int .i64 1, Value.int .i64 28, Value.int .i64 16, Value.int .i64 1, Value.int .i64 4, Value.int .i64 17, Value.int .i64 6, Value.int .i64 28, Value.int .i64 23, Value.int .i64 12, Value.int .i64 127, Value.int .i64 35, Value.int .i64 12, Value.int .i64 64, Value.int .i64 47, Value.int .i64 15, Value.int .i64 127] := by
    rw [q0, q1, q2, q3, q4, q5, q6, q7, q8, q9]; rfl
  simpa using q
end
theorem tab_of_laid {W : World} (h : laidMetH Tryd.prog [("coachhouse/slot.places", Rows.laid_coachhouse_slot_places)] W) : Tab W := by
  rw [MakeChecks.laidMetH_plain _ _ _ (by kernel_rfl)] at h
  obtain ⟨ps, ⟨g0, t0, cs0, f0, p0, q0, hg0, ht0, hv0, hd0, _⟩, _, _⟩ := h
  obtain rfl := Option.some.inj (gPlaces.symm.trans hg0)
  obtain rfl := Option.some.inj (tPlaces.symm.trans ht0)
  have hc := places_cells hd0
  unfold World.var? at hv0
  rw [gPlaces] at hv0
  simp only [Option.bind_some] at hv0
  split at hv0
  · rename_i cs t fr heq
    obtain rfl := Option.some.inj hv0
    exact ⟨t, fr, by rw [heq, show cs = #[Value.int .i64 0, Value.int .i64 3, Value.int .i64 127, Value.int .i64 3, Value.int .i64 4, Value.int .i64 62, Value.int .i64 7, Value.int .i64 8, Value.int .i64 8, Value.int .i64 15, Value.int .i64 1, Value.int .i64 28, Value.int .i64 16, Value.int .i64 1, Value.int .i64 4, Value.int .i64 17, Value.int .i64 6, Value.int .i64 28, Value.int .i64 23, Value.int .i64 12, Value.int .i64 127, Value.int .i64 35, Value.int .i64 12, Value.int .i64 64, Value.int .i64 47, Value.int .i64 15, Value.int .i64 127] from by rw [← hc]]⟩
  · cases hv0
theorem door_met (os : Os) (args : Array Value) : laidMetH Tryd.prog [("coachhouse/slot.places", Rows.laid_coachhouse_slot_places)] ((World.doorLaid Tryd.prog 400 os).forCall (fun _ _ => 0) ⟨#[], args, []⟩).memory :=
  laidMetH_of_parts3 (fuel := 8) (laidMet_of_run' 8 (by kernel_rfl) (by kernel_rfl)) (by kernel_rfl) (by kernel_rfl)
end Go.Proofs.YtbkcniknbpgphaaDoor
