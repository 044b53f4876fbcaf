/- An argument that is a slot, opened to its nine cells; no condition. -/
import Derived.Test.YtdiipmejkanhfaaDoorLaid
import Derived.Test.YtdiipmejkanhfaaDoorRight
namespace Go.Proofs.YtdiipmejkanhfaaDoor
open Go.ChangeShapes Go.WideShapes Go.ChangeAt Go.RowKit

section
variable {H : Type} {enc : TypeId × Value → H} {w : World} {base : Nat} {spare : Nat → Bool} {held : Bool}
theorem nine_vals {α : Type} {cs : Array α} (h : cs.size = 9) : ∃ a b c d e f g i j, cs = #[a, b, c, d, e, f, g, i, j] := by
  obtain ⟨l⟩ := cs
  obtain ⟨a, b, c, d, e, f, g, i, j, rfl⟩ := nine_list (show l.length = 9 from h)
  exact ⟨a, b, c, d, e, f, g, i, j, rfl⟩
theorem some_at {α : Type} {xs : List α} {i : Nat} (h : i < xs.length) : ∃ x, xs[i]? = some x := ⟨xs[i], List.getElem?_eq_getElem h⟩
theorem open_slot {r : Reach} {b0 : Nat} {v : Value} {d : DataW H} {p : List MemPlace} (hv : Value.okWide Tryd.prog w r b0 23 v) (h : DataW.Trod enc Tryd.prog w base spare held 23 v d p) :
    ∃ s : Sl, s.Wf ∧ v = Value.agg #[Value.int .i64 s.st, Value.int .i64 s.ow, Value.int .i64 s.sr, Value.bool s.br, Value.bool s.ma, Value.int .i64 s.us, Value.int .i64 s.ge, Value.int .i64 s.ep, Value.int .i64 s.ve] := by
  obtain ⟨cs, rfl, hsz⟩ := okWide_struct Tryd.underlying23 hv
  rw [cells23] at hsz
  obtain ⟨c0, c1, c2, c3, c4, c5, c6, c7, c8, rfl⟩ := nine_vals hsz
  obtain ⟨fuel, hf⟩ := h
  obtain ⟨xs, n, _, _, _, hxl, hat⟩ := DataW.trod_struct Tryd.underlying23 hf
  have hl : xs.length = 9 := hxl
  obtain ⟨x0, e0⟩ := some_at (xs := xs) (i := 0) (by omega)
  have g0 : DataW.trod enc Tryd.prog w base spare held n 3 ([c0, c1, c2, c3, c4, c5, c6, c7, c8].take (Tryd.prog.cellsOf 3)) = xs[0]? := hat 0 _ rfl
  rw [e0, cells3] at g0
  obtain ⟨z0, h0, _, w0⟩ := DataW.trod_int Tryd.underlying3 g0
  obtain ⟨x1, e1⟩ := some_at (xs := xs) (i := 1) (by omega)
  have g1 : DataW.trod enc Tryd.prog w base spare held n 3 ([c1, c2, c3, c4, c5, c6, c7, c8].take (Tryd.prog.cellsOf 3)) = xs[1]? := hat 1 _ rfl
  rw [e1, cells3] at g1
  obtain ⟨z1, h1, _, w1⟩ := DataW.trod_int Tryd.underlying3 g1
  obtain ⟨x2, e2⟩ := some_at (xs := xs) (i := 2) (by omega)
  have g2 : DataW.trod enc Tryd.prog w base spare held n 3 ([c2, c3, c4, c5, c6, c7, c8].take (Tryd.prog.cellsOf 3)) = xs[2]? := hat 2 _ rfl
  rw [e2, cells3] at g2
  obtain ⟨z2, h2, _, w2⟩ := DataW.trod_int Tryd.underlying3 g2
  obtain ⟨x3, e3⟩ := some_at (xs := xs) (i := 3) (by omega)
  have g3 : DataW.trod enc Tryd.prog w base spare held n 4 ([c3, c4, c5, c6, c7, c8].take (Tryd.prog.cellsOf 4)) = xs[3]? := hat 3 _ rfl
  rw [e3, cells4] at g3
  obtain ⟨z3, h3, _⟩ := DataW.trod_bool Tryd.underlying4 g3
  obtain ⟨x4, e4⟩ := some_at (xs := xs) (i := 4) (by omega)
  have g4 : DataW.trod enc Tryd.prog w base spare held n 4 ([c4, c5, c6, c7, c8].take (Tryd.prog.cellsOf 4)) = xs[4]? := hat 4 _ rfl
  rw [e4, cells4] at g4
  obtain ⟨z4, h4, _⟩ := DataW.trod_bool Tryd.underlying4 g4
  obtain ⟨x5, e5⟩ := some_at (xs := xs) (i := 5) (by omega)
  have g5 : DataW.trod enc Tryd.prog w base spare held n 3 ([c5, c6, c7, c8].take (Tryd.prog.cellsOf 3)) = xs[5]? := hat 5 _ rfl
  rw [e5, cells3] at g5
  obtain ⟨z5, h5, _, w5⟩ := DataW.trod_int Tryd.underlying3 g5
  obtain ⟨x6, e6⟩ := some_at (xs := xs) (i := 6) (by omega)
  have g6 : DataW.trod enc Tryd.prog w base spare held n 3 ([c6, c7, c8].take (Tryd.prog.cellsOf 3)) = xs[6]? := hat 6 _ rfl
  rw [e6, cells3] at g6
  obtain ⟨z6, h6, _, w6⟩ := DataW.trod_int Tryd.underlying3 g6
  obtain ⟨x7, e7⟩ := some_at (xs := xs) (i := 7) (by omega)
  have g7 : DataW.trod enc Tryd.prog w base spare held n 3 ([c7, c8].take (Tryd.prog.cellsOf 3)) = xs[7]? := hat 7 _ rfl
  rw [e7, cells3] at g7
  obtain ⟨z7, h7, _, w7⟩ := DataW.trod_int Tryd.underlying3 g7
  obtain ⟨x8, e8⟩ := some_at (xs := xs) (i := 8) (by omega)
  have g8 : DataW.trod enc Tryd.prog w base spare held n 3 ([c8].take (Tryd.prog.cellsOf 3)) = xs[8]? := hat 8 _ rfl
  rw [e8, cells3] at g8
  obtain ⟨z8, h8, _, w8⟩ := DataW.trod_int Tryd.underlying3 g8
  refine ⟨⟨z0, z1, z2, z3, z4, z5, z6, z7, z8⟩, ⟨bounds_i64 w0, bounds_i64 w1, bounds_i64 w2, bounds_i64 w5, bounds_i64 w6, bounds_i64 w7, bounds_i64 w8⟩, ?_⟩
  simp at h0 h1 h2 h3 h4 h5 h6 h7 h8
  rw [h0, h1, h2, h3, h4, h5, h6, h7, h8]
end
end Go.Proofs.YtdiipmejkanhfaaDoor
