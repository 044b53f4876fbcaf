/- Arguments opened to the cells that the walks name; no condition. -/
import Derived.Test.YtbkaiffecnomjaaKit
import Derived.ProofKit
import Derived.OpenShut
import Derived.Deep.Slices
import Derived.ChangeSame
namespace Go.Proofs.Ytbkaiffecnomjaa
open Go.ChangeShapes Go.WideShapes Go.ChangeAt Go.RowKit Go.Deep
attribute [local go_sem ↓] Go.wp_at_zero Go.wp_at_succ

theorem cells3 : Try.prog.cellsOf 3 = 1 := by kernel_rfl
theorem cells4 : Try.prog.cellsOf 4 = 1 := by kernel_rfl
theorem cells5 : Try.prog.cellsOf 5 = 1 := by kernel_rfl
theorem cells30 : Try.prog.cellsOf 30 = 7 := by kernel_rfl
theorem cells32 : Try.prog.cellsOf 32 = 11 := by kernel_rfl
theorem some_at {α : Type} {xs : List α} {i : Nat} (h : i < xs.length) : ∃ x, xs[i]? = some x := ⟨xs[i], List.getElem?_eq_getElem h⟩
section
variable {H : Type} {enc : TypeId × Value → H} {w : World} {base : Nat} {spare : Nat → Bool} {held : Bool}
theorem plain_of {a : Addr} {v : Value} (h : w.cell? (a.add 0) = some v) : ∃ b off, a = ⟨b, off, none⟩ ∧ b < w.heap.size := by
  obtain ⟨b, off, spot⟩ := a
  have hspot : spot = none := by simpa [Addr.add] using World.cell?_spot h
  subst hspot
  rw [add_plain] at h
  exact ⟨b, off, rfl, World.block_lt_of_cell? w _ h⟩
/-- a slice whose elements take one cell each: the cells, one by one -/
theorem open_ones {A : Option Addr} {n c fuel T E : Nat} {x : DataW H × List MemPlace} {α : Type} [Inhabited α] (f : α → Value) (Q : α → Prop) (hT : Try.prog.underlying T = some (.slice E)) (hE : Try.prog.cellsOf E = 1)
    (hone : ∀ {fuel : Nat} {cs : List Value} {x : DataW H × List MemPlace}, DataW.trod enc Try.prog w base spare held fuel E cs = some x → ∃ o : α, cs = [f o] ∧ Q o)
    (h : DataW.trod enc Try.prog w base spare held fuel T [.slice A n c] = some x) :
    n ≤ c ∧ c ≤ 9223372036854775807 ∧ ∃ l : List α, l.length = n ∧ ∀ (k : Nat) x, l[k]? = some x → Q x ∧ ∃ b off, A = some ⟨b, off, none⟩ ∧ b < w.heap.size ∧ w.cell? ⟨b, off + k, none⟩ = some (f x) := by
  rcases open_slice hT h with ⟨hcs, _⟩ | ⟨a, len, cap, m, k, D, Pl, hcs, _, hl, hcm, hmm, _, hi⟩
  · injection hcs with hcs
    injection hcs with h1 h2 h3
    subst h1 h2 h3
    exact ⟨Nat.le_refl _, by omega, [], rfl, fun k o hk => by simp at hk⟩
  · injection hcs with hcs
    injection hcs with h1 h2 h3
    subst h1 h2 h3
    refine ⟨hl, (by unfold maxLen at hcm; omega), ?_⟩
    have hm : n ≤ m := by rw [hmm]; split <;> omega
    by_cases hn0 : n = 0
    · exact ⟨[], by simp [hn0], fun k o hk => by simp at hk⟩
    obtain ⟨b, off, rfl, hb⟩ : ∃ b off, a = ⟨b, off, none⟩ ∧ b < w.heap.size := by
      obtain ⟨cs, hc, ht⟩ := hi 0 (by omega)
      rw [hE] at hc
      obtain ⟨o, rfl, _⟩ := hone ht
      obtain ⟨_, _, hat⟩ := World.cells?_some hc
      have g0 := hat 0 (by omega)
      rw [Go.Deep.add_add] at g0
      exact plain_of g0
    have hc : ∀ i, i < n → ∃ o : α, w.cell? ⟨b, off + i, none⟩ = some (f o) ∧ Q o := by
      intro i hlt
      obtain ⟨cs, hc, ht⟩ := hi i (by omega)
      rw [hE] at hc
      obtain ⟨o, rfl, hq⟩ := hone ht
      obtain ⟨_, _, hat⟩ := World.cells?_some hc
      have g0 := hat 0 (by omega)
      rw [Go.Deep.add_add, add_plain, Nat.mul_one] at g0
      exact ⟨o, g0, hq⟩
    obtain ⟨F, hF⟩ := choose_lt hc
    refine ⟨(List.range n).map F, by simp, fun k o hk => ?_⟩
    have hkn : k < n := by have := (List.getElem?_eq_some_iff.1 hk).1; simpa using this
    rw [List.getElem?_map, List.getElem?_range hkn] at hk
    injection hk with hk
    subst hk
    exact ⟨(hF k hkn).2, b, off, rfl, hb, (hF k hkn).1⟩
theorem open_bytes {A : Option Addr} {n c fuel : Nat} {x : DataW H × List MemPlace} (h : DataW.trod enc Try.prog w base spare held fuel 24 [.slice A n c] = some x) :
    n ≤ c ∧ ∃ l : List Int, l.length = n ∧ BS w w.heap.size A l ∧ Bys l := by
  obtain ⟨h1, _, l, h2, h3⟩ := open_ones vB (fun x => 0 ≤ x ∧ x ≤ 255) Try.underlying24 cells5 (fun ht => by
    obtain ⟨r, hr, _, hw⟩ := DataW.trod_int Try.underlying5 ht
    exact ⟨r, hr, bounds_u8 hw⟩) h
  exact ⟨h1, l, h2, fun k x hk => (h3 k x hk).2, fun k x hk => (h3 k x hk).1⟩
theorem open_ask {fuel : Nat} {c0 c1 c2 c3 c4 c5 c6 : Value} {x : DataW H × List MemPlace} (h : DataW.trod enc Try.prog w base spare held fuel 30 [c0, c1, c2, c3, c4, c5, c6] = some x) :
    ∃ (op dl : Int) (wa fo : Bool) (sl ge st : Int), c0 = vI op ∧ c1 = vI dl ∧ c2 = .bool wa ∧ c3 = .bool fo ∧ c4 = vI sl ∧ c5 = vI ge ∧ c6 = vI st := by
  obtain ⟨xs, n, _, _, _, hxl, hat⟩ := DataW.trod_struct Try.underlying30 h
  have hl : xs.length = 7 := hxl
  obtain ⟨x0, e0⟩ := some_at (xs := xs) (i := 0) (by omega)
  have g0 : DataW.trod enc Try.prog w base spare held n 3 ([c0, c1, c2, c3, c4, c5, c6].take (Try.prog.cellsOf 3)) = xs[0]? := hat 0 _ rfl
  rw [e0, cells3] at g0
  obtain ⟨z0, h0, _⟩ := DataW.trod_int Try.underlying3 g0
  obtain ⟨x1, e1⟩ := some_at (xs := xs) (i := 1) (by omega)
  have g1 : DataW.trod enc Try.prog w base spare held n 3 ([c1, c2, c3, c4, c5, c6].take (Try.prog.cellsOf 3)) = xs[1]? := hat 1 _ rfl
  rw [e1, cells3] at g1
  obtain ⟨z1, h1, _⟩ := DataW.trod_int Try.underlying3 g1
  obtain ⟨x2, e2⟩ := some_at (xs := xs) (i := 2) (by omega)
  have g2 : DataW.trod enc Try.prog w base spare held n 4 ([c2, c3, c4, c5, c6].take (Try.prog.cellsOf 4)) = xs[2]? := hat 2 _ rfl
  rw [e2, cells4] at g2
  obtain ⟨z2, h2, _⟩ := DataW.trod_bool Try.underlying4 g2
  obtain ⟨x3, e3⟩ := some_at (xs := xs) (i := 3) (by omega)
  have g3 : DataW.trod enc Try.prog w base spare held n 4 ([c3, c4, c5, c6].take (Try.prog.cellsOf 4)) = xs[3]? := hat 3 _ rfl
  rw [e3, cells4] at g3
  obtain ⟨z3, h3, _⟩ := DataW.trod_bool Try.underlying4 g3
  obtain ⟨x4, e4⟩ := some_at (xs := xs) (i := 4) (by omega)
  have g4 : DataW.trod enc Try.prog w base spare held n 3 ([c4, c5, c6].take (Try.prog.cellsOf 3)) = xs[4]? := hat 4 _ rfl
  rw [e4, cells3] at g4
  obtain ⟨z4, h4, _⟩ := DataW.trod_int Try.underlying3 g4
  obtain ⟨x5, e5⟩ := some_at (xs := xs) (i := 5) (by omega)
  have g5 : DataW.trod enc Try.prog w base spare held n 3 ([c5, c6].take (Try.prog.cellsOf 3)) = xs[5]? := hat 5 _ rfl
  rw [e5, cells3] at g5
  obtain ⟨z5, h5, _⟩ := DataW.trod_int Try.underlying3 g5
  obtain ⟨x6, e6⟩ := some_at (xs := xs) (i := 6) (by omega)
  have g6 : DataW.trod enc Try.prog w base spare held n 3 ([c6].take (Try.prog.cellsOf 3)) = xs[6]? := hat 6 _ rfl
  rw [e6, cells3] at g6
  obtain ⟨z6, h6, _⟩ := DataW.trod_int Try.underlying3 g6
  simp at h0 h1 h2 h3 h4 h5 h6
  exact ⟨z0, z1, z2, z3, z4, z5, z6, h0, h1, h2, h3, h4, h5, h6⟩
theorem open_entry {fuel : Nat} {cs : List Value} {x : DataW H × List MemPlace} (h : DataW.trod enc Try.prog w base spare held fuel 32 cs = some x) : ∃ o : En, cs = eL o := by
  obtain ⟨xs, n, _, _, hlen, hxl, hat⟩ := DataW.trod_struct Try.underlying32 h
  rw [cells32] at hlen
  have hl : xs.length = 5 := hxl
  match cs, hlen with
  | [c0, c1, c2, c3, c4, c5, c6, c7, c8, c9, c10], _ =>
    obtain ⟨x0, e0⟩ := some_at (xs := xs) (i := 0) (by omega)
    obtain ⟨x1, e1⟩ := some_at (xs := xs) (i := 1) (by omega)
    obtain ⟨x2, e2⟩ := some_at (xs := xs) (i := 2) (by omega)
    obtain ⟨x3, e3⟩ := some_at (xs := xs) (i := 3) (by omega)
    obtain ⟨x4, e4⟩ := some_at (xs := xs) (i := 4) (by omega)
    have g0 : DataW.trod enc Try.prog w base spare held n 3 ([c0, c1, c2, c3, c4, c5, c6, c7, c8, c9, c10].take (Try.prog.cellsOf 3)) = xs[0]? := hat 0 _ rfl
    have g1 : DataW.trod enc Try.prog w base spare held n 3 ([c1, c2, c3, c4, c5, c6, c7, c8, c9, c10].take (Try.prog.cellsOf 3)) = xs[1]? := hat 1 _ rfl
    have g2 : DataW.trod enc Try.prog w base spare held n 30 ([c2, c3, c4, c5, c6, c7, c8, c9, c10].take (Try.prog.cellsOf 30)) = xs[2]? := hat 2 _ rfl
    have g3 : DataW.trod enc Try.prog w base spare held n 3 ([c9, c10].take (Try.prog.cellsOf 3)) = xs[3]? := hat 3 _ rfl
    have g4 : DataW.trod enc Try.prog w base spare held n 4 ([c10].take (Try.prog.cellsOf 4)) = xs[4]? := hat 4 _ rfl
    rw [e0, cells3] at g0
    rw [e1, cells3] at g1
    rw [e2, cells30] at g2
    rw [e3, cells3] at g3
    rw [e4, cells4] at g4
    obtain ⟨z0, h0, _⟩ := DataW.trod_int Try.underlying3 g0
    obtain ⟨z1, h1, _⟩ := DataW.trod_int Try.underlying3 g1
    obtain ⟨op, dl, wa, fo, sl, ge, st, k0, k1, k2, k3, k4, k5, k6⟩ := open_ask g2
    obtain ⟨z3, h3, _⟩ := DataW.trod_int Try.underlying3 g3
    obtain ⟨z4, h4, _⟩ := DataW.trod_bool Try.underlying4 g4
    simp at h0 h1 h3 h4
    exact ⟨⟨z0, z1, op, dl, wa, fo, sl, ge, st, z3, z4⟩, by rw [h0, h1, h3, h4, k0, k1, k2, k3, k4, k5, k6]; rfl⟩
theorem open_entries {A : Option Addr} {n c fuel : Nat} {x : DataW H × List MemPlace} (h : DataW.trod enc Try.prog w base spare held fuel 22 [.slice A n c] = some x) :
    n ≤ c ∧ ∃ l : List En, l.length = n ∧ LS w w.heap.size A l := by
  rcases open_slice Try.underlying22 h with ⟨hcs, _⟩ | ⟨a, len, cap, m, k, D, Pl, hcs, _, hl, _, hmm, _, hi⟩
  · injection hcs with hcs
    injection hcs with h1 h2 h3
    subst h1 h2 h3
    exact ⟨Nat.le_refl _, [], rfl, ls_nil _ _ _⟩
  · injection hcs with hcs
    injection hcs with h1 h2 h3
    subst h1 h2 h3
    refine ⟨hl, ?_⟩
    have hm : n ≤ m := by rw [hmm]; split <;> omega
    by_cases hn0 : n = 0
    · exact ⟨[], by simp [hn0], ls_nil _ _ _⟩
    obtain ⟨b, off, rfl, hb⟩ : ∃ b off, a = ⟨b, off, none⟩ ∧ b < w.heap.size := by
      obtain ⟨cs, hc, ht⟩ := hi 0 (by omega)
      rw [cells32] at hc
      obtain ⟨o, rfl⟩ := open_entry ht
      obtain ⟨_, _, hat⟩ := World.cells?_some hc
      have g0 := hat 0 (by omega)
      rw [Go.Deep.add_add] at g0
      exact plain_of g0
    have hc : ∀ i, i < n → ∃ o : En, w.rangeAt b (off + i * 11) (eL o) := by
      intro i hlt
      obtain ⟨cs, hc, ht⟩ := hi i (by omega)
      rw [cells32] at hc
      obtain ⟨o, rfl⟩ := open_entry ht
      obtain ⟨_, _, hat⟩ := World.cells?_some hc
      refine ⟨o, fun j v hv => ?_⟩
      have hj : j < 11 := (List.getElem?_eq_some_iff.1 hv).1
      have g0 := hat j hj
      rw [Go.Deep.add_add, add_plain, ← Nat.add_assoc] at g0
      rw [g0]
      simpa using hv
    have : Inhabited En := ⟨en0⟩
    obtain ⟨f, hf⟩ := choose_lt hc
    refine ⟨(List.range n).map f, by simp, fun k o hk => ?_⟩
    have hkn : k < n := by have := (List.getElem?_eq_some_iff.1 hk).1; simpa using this
    rw [List.getElem?_map, List.getElem?_range hkn] at hk
    injection hk with hk
    subst hk
    exact ⟨b, off, rfl, hb, hf k hkn⟩
end
end Go.Proofs.Ytbkaiffecnomjaa
