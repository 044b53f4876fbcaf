/- Arguments opened to the cells that the walks name; no condition. -/
import Derived.Test.YtfnpleicbpbiaaaDoorLaid
import Derived.Test.YtfnpleicbpbiaaaDoorCf
import Derived.Test.YtfnpleicbpbiaaaDoorLst
import Derived.Deep.Slices
namespace Go.Proofs.YtfnpleicbpbiaaaDoor
open Go.ChangeShapes Go.WideShapes Go.ChangeAt Go.RowKit Go.Deep
attribute [local go_sem ↓] Go.wp_at_zero Go.wp_at_succ

theorem cells5 : Tryd.prog.cellsOf 5 = 1 := by kernel_rfl
theorem cells23 : Tryd.prog.cellsOf 23 = 5 := by kernel_rfl
theorem cells42 : Tryd.prog.cellsOf 42 = 5 := by kernel_rfl
theorem five_vals {α : Type} {cs : Array α} (h : cs.size = 5) : ∃ a b c d e, cs = #[a, b, c, d, e] := by
  obtain ⟨l⟩ := cs
  match l, h with
  | [a, b, c, d, e], _ => exact ⟨a, b, c, d, e, rfl⟩
theorem some_at {α : Type} {xs : List α} {i : Nat} (h : i < xs.length) : ∃ x, xs[i]? = some x := ⟨xs[i], List.getElem?_eq_getElem h⟩
section
variable {H : Type} {enc : TypeId × Value → H} {w : World} {base : Nat} {spare : Nat → Bool} {held : Bool}
theorem plain_of {a : Addr} {v : Value} (h : w.cell? (a.add 0) = some v) : ∃ b off, a = ⟨b, off, none⟩ ∧ b < w.heap.size := by
  obtain ⟨b, off, spot⟩ := a
  have hspot : spot = none := by simpa [Addr.add] using World.cell?_spot h
  subst hspot
  rw [add_plain] at h
  exact ⟨b, off, rfl, World.block_lt_of_cell? w _ h⟩
/-- a slice whose elements take one cell each: the cells, one by one -/
theorem open_ones {A : Option Addr} {n c fuel T E : Nat} {x : DataW H × List MemPlace} {α : Type} [Inhabited α] (f : α → Value) (Q : α → Prop) (hT : Tryd.prog.underlying T = some (.slice E)) (hE : Tryd.prog.cellsOf E = 1)
    (hone : ∀ {fuel : Nat} {cs : List Value} {x : DataW H × List MemPlace}, DataW.trod enc Tryd.prog w base spare held fuel E cs = some x → ∃ o : α, cs = [f o] ∧ Q o)
    (h : DataW.trod enc Tryd.prog w base spare held fuel T [.slice A n c] = some x) :
    n ≤ c ∧ c ≤ 9223372036854775807 ∧ ∃ l : List α, l.length = n ∧ ∀ (k : Nat) x, l[k]? = some x → Q x ∧ ∃ b off, A = some ⟨b, off, none⟩ ∧ b < w.heap.size ∧ w.cell? ⟨b, off + k, none⟩ = some (f x) := by
  rcases open_slice hT h with ⟨hcs, _⟩ | ⟨a, len, cap, m, k, D, Pl, hcs, _, hl, hcm, hmm, _, hi⟩
  · injection hcs with hcs
    injection hcs with h1 h2 h3
    subst h1 h2 h3
    exact ⟨Nat.le_refl _, by omega, [], rfl, fun k o hk => by simp at hk⟩
  · injection hcs with hcs
    injection hcs with h1 h2 h3
    subst h1 h2 h3
    refine ⟨hl, (by unfold maxLen at hcm; omega), ?_⟩
    have hm : n ≤ m := by rw [hmm]; split <;> omega
    by_cases hn0 : n = 0
    · exact ⟨[], by simp [hn0], fun k o hk => by simp at hk⟩
    obtain ⟨b, off, rfl, hb⟩ : ∃ b off, a = ⟨b, off, none⟩ ∧ b < w.heap.size := by
      obtain ⟨cs, hc, ht⟩ := hi 0 (by omega)
      rw [hE] at hc
      obtain ⟨o, rfl, _⟩ := hone ht
      obtain ⟨_, _, hat⟩ := World.cells?_some hc
      have g0 := hat 0 (by omega)
      rw [Go.Deep.add_add] at g0
      exact plain_of g0
    have hc : ∀ i, i < n → ∃ o : α, w.cell? ⟨b, off + i, none⟩ = some (f o) ∧ Q o := by
      intro i hlt
      obtain ⟨cs, hc, ht⟩ := hi i (by omega)
      rw [hE] at hc
      obtain ⟨o, rfl, hq⟩ := hone ht
      obtain ⟨_, _, hat⟩ := World.cells?_some hc
      have g0 := hat 0 (by omega)
      rw [Go.Deep.add_add, add_plain, Nat.mul_one] at g0
      exact ⟨o, g0, hq⟩
    obtain ⟨F, hF⟩ := choose_lt hc
    refine ⟨(List.range n).map F, by simp, fun k o hk => ?_⟩
    have hkn : k < n := by have := (List.getElem?_eq_some_iff.1 hk).1; simpa using this
    rw [List.getElem?_map, List.getElem?_range hkn] at hk
    injection hk with hk
    subst hk
    exact ⟨(hF k hkn).2, b, off, rfl, hb, (hF k hkn).1⟩
theorem open_nums {A : Option Addr} {n c fuel : Nat} {x : DataW H × List MemPlace} (h : DataW.trod enc Tryd.prog w base spare held fuel 33 [.slice A n c] = some x) :
    n ≤ c ∧ ∃ l : List Int, l.length = n ∧ IS w w.heap.size A l ∧ ∀ (k : Nat) x, l[k]? = some x → -9223372036854775808 ≤ x ∧ x ≤ 9223372036854775807 := by
  obtain ⟨h1, _, l, h2, h3⟩ := open_ones (fun x : Int => Value.int .i64 x) (fun x => -9223372036854775808 ≤ x ∧ x ≤ 9223372036854775807) Tryd.underlying33 cells3 (fun ht => by
    obtain ⟨r, hr, _, hw⟩ := DataW.trod_int Tryd.underlying3 ht
    exact ⟨r, hr, bounds_i64 hw⟩) h
  exact ⟨h1, l, h2, fun k x hk => (h3 k x hk).2, fun k x hk => (h3 k x hk).1⟩
theorem open_conf {r : Reach} {b0 : Nat} {v : Value} {d : DataW H} {p : List MemPlace} (hv : Value.okWide Tryd.prog w r b0 23 v) (h : DataW.Trod enc Tryd.prog w base spare held 23 v d p) :
    ∃ c : Cf, v = Value.agg #[Value.int .i64 c.wo, Value.int .i64 c.sl, Value.int .i64 c.st, Value.int .i64 c.wa, Value.int .i64 c.us] := by
  obtain ⟨cs, rfl, hsz⟩ := okWide_struct Tryd.underlying23 hv
  rw [cells23] at hsz
  obtain ⟨c0, c1, c2, c3, c4, rfl⟩ := five_vals hsz
  obtain ⟨fuel, hf⟩ := h
  obtain ⟨xs, n, _, _, _, hxl, hat⟩ := DataW.trod_struct Tryd.underlying23 hf
  have hl : xs.length = 5 := hxl
  obtain ⟨x0, e0⟩ := some_at (xs := xs) (i := 0) (by omega)
  have g0 : DataW.trod enc Tryd.prog w base spare held n 3 ([c0, c1, c2, c3, c4].take (Tryd.prog.cellsOf 3)) = xs[0]? := hat 0 _ rfl
  rw [e0, cells3] at g0
  obtain ⟨z0, h0, _, _⟩ := DataW.trod_int Tryd.underlying3 g0
  obtain ⟨x1, e1⟩ := some_at (xs := xs) (i := 1) (by omega)
  have g1 : DataW.trod enc Tryd.prog w base spare held n 3 ([c1, c2, c3, c4].take (Tryd.prog.cellsOf 3)) = xs[1]? := hat 1 _ rfl
  rw [e1, cells3] at g1
  obtain ⟨z1, h1, _, _⟩ := DataW.trod_int Tryd.underlying3 g1
  obtain ⟨x2, e2⟩ := some_at (xs := xs) (i := 2) (by omega)
  have g2 : DataW.trod enc Tryd.prog w base spare held n 3 ([c2, c3, c4].take (Tryd.prog.cellsOf 3)) = xs[2]? := hat 2 _ rfl
  rw [e2, cells3] at g2
  obtain ⟨z2, h2, _, _⟩ := DataW.trod_int Tryd.underlying3 g2
  obtain ⟨x3, e3⟩ := some_at (xs := xs) (i := 3) (by omega)
  have g3 : DataW.trod enc Tryd.prog w base spare held n 3 ([c3, c4].take (Tryd.prog.cellsOf 3)) = xs[3]? := hat 3 _ rfl
  rw [e3, cells3] at g3
  obtain ⟨z3, h3, _, _⟩ := DataW.trod_int Tryd.underlying3 g3
  obtain ⟨x4, e4⟩ := some_at (xs := xs) (i := 4) (by omega)
  have g4 : DataW.trod enc Tryd.prog w base spare held n 3 ([c4].take (Tryd.prog.cellsOf 3)) = xs[4]? := hat 4 _ rfl
  rw [e4, cells3] at g4
  obtain ⟨z4, h4, _, _⟩ := DataW.trod_int Tryd.underlying3 g4
  refine ⟨⟨z0, z1, z2, z3, z4⟩, ?_⟩
  simp at h0 h1 h2 h3 h4
  rw [h0, h1, h2, h3, h4]
theorem open_given {r : Reach} {b0 : Nat} {v : Value} {d : DataW H} {p : List MemPlace} (hv : Value.okWide Tryd.prog w r b0 42 v) (h : DataW.Trod enc Tryd.prog w base spare held 42 v d p) :
    ∃ a1 a2 a3 a4 a5 : Int, ((0 ≤ a1 ∧ a1 ≤ 255) ∧ (0 ≤ a2 ∧ a2 ≤ 255) ∧ (0 ≤ a3 ∧ a3 ≤ 255) ∧ (0 ≤ a4 ∧ a4 ≤ 255) ∧ (0 ≤ a5 ∧ a5 ≤ 255)) ∧ v = Value.agg #[Value.int .u8 a1, Value.int .u8 a2, Value.int .u8 a3, Value.int .u8 a4, Value.int .u8 a5] := by
  obtain ⟨cs, rfl, hsz⟩ := okWide_struct Tryd.underlying42 hv
  rw [cells42] at hsz
  obtain ⟨c0, c1, c2, c3, c4, rfl⟩ := five_vals hsz
  obtain ⟨fuel, hf⟩ := h
  obtain ⟨xs, n, _, _, _, hxl, hat⟩ := DataW.trod_struct Tryd.underlying42 hf
  have hl : xs.length = 5 := hxl
  obtain ⟨x0, e0⟩ := some_at (xs := xs) (i := 0) (by omega)
  have g0 : DataW.trod enc Tryd.prog w base spare held n 5 ([c0, c1, c2, c3, c4].take (Tryd.prog.cellsOf 5)) = xs[0]? := hat 0 _ rfl
  rw [e0, cells5] at g0
  obtain ⟨z0, h0, _, w0⟩ := DataW.trod_int Tryd.underlying5 g0
  obtain ⟨x1, e1⟩ := some_at (xs := xs) (i := 1) (by omega)
  have g1 : DataW.trod enc Tryd.prog w base spare held n 5 ([c1, c2, c3, c4].take (Tryd.prog.cellsOf 5)) = xs[1]? := hat 1 _ rfl
  rw [e1, cells5] at g1
  obtain ⟨z1, h1, _, w1⟩ := DataW.trod_int Tryd.underlying5 g1
  obtain ⟨x2, e2⟩ := some_at (xs := xs) (i := 2) (by omega)
  have g2 : DataW.trod enc Tryd.prog w base spare held n 5 ([c2, c3, c4].take (Tryd.prog.cellsOf 5)) = xs[2]? := hat 2 _ rfl
  rw [e2, cells5] at g2
  obtain ⟨z2, h2, _, w2⟩ := DataW.trod_int Tryd.underlying5 g2
  obtain ⟨x3, e3⟩ := some_at (xs := xs) (i := 3) (by omega)
  have g3 : DataW.trod enc Tryd.prog w base spare held n 5 ([c3, c4].take (Tryd.prog.cellsOf 5)) = xs[3]? := hat 3 _ rfl
  rw [e3, cells5] at g3
  obtain ⟨z3, h3, _, w3⟩ := DataW.trod_int Tryd.underlying5 g3
  obtain ⟨x4, e4⟩ := some_at (xs := xs) (i := 4) (by omega)
  have g4 : DataW.trod enc Tryd.prog w base spare held n 5 ([c4].take (Tryd.prog.cellsOf 5)) = xs[4]? := hat 4 _ rfl
  rw [e4, cells5] at g4
  obtain ⟨z4, h4, _, w4⟩ := DataW.trod_int Tryd.underlying5 g4
  refine ⟨z0, z1, z2, z3, z4, ⟨bounds_u8 w0, bounds_u8 w1, bounds_u8 w2, bounds_u8 w3, bounds_u8 w4⟩, ?_⟩
  simp at h0 h1 h2 h3 h4
  rw [h0, h1, h2, h3, h4]
end
end Go.Proofs.YtfnpleicbpbiaaaDoor
