/- An argument that is a list of steps, opened to the cells that the walk names; no condition. -/
import Derived.Test.YtdiipmejkanhfaaDoorRunM
import Derived.Test.YtdiipmejkanhfaaDoorOpen
import Derived.ProofKit
import Derived.OpenShut
import Derived.Deep.Slices
import Derived.ChangeSame
namespace Go.Proofs.YtdiipmejkanhfaaDoor
open Go.ChangeShapes Go.WideShapes Go.RowKit Go.Deep

theorem cells31 : Tryd.prog.cellsOf 31 = 3 := by kernel_rfl
section
variable {H : Type} {enc : TypeId × Value → H} {w : World} {base : Nat} {spare : Nat → Bool} {held : Bool}
theorem plain_of {a : Addr} {v : Value} (h : w.cell? (a.add 0) = some v) : ∃ b off, a = ⟨b, off, none⟩ ∧ b < w.heap.size := by
  obtain ⟨b, off, spot⟩ := a
  have hspot : spot = none := by simpa [Addr.add] using World.cell?_spot h
  subst hspot
  rw [add_plain] at h
  exact ⟨b, off, rfl, World.block_lt_of_cell? w _ h⟩
theorem open_step {fuel : Nat} {cs : List Value} {x : DataW H × List MemPlace} (h : DataW.trod enc Tryd.prog w base spare held fuel 31 cs = some x) : ∃ o : Stp, cs = [.int .i64 o.d, .int .i64 o.o, .int .i64 o.m] ∧ Big o.m := by
  obtain ⟨ys, n, _, _, hlen, hyl, hf⟩ := DataW.trod_struct Tryd.underlying31 h
  rw [cells31] at hlen
  match cs, hlen with
  | [c0, c1, c2], _ =>
    have l3 : ys.length = 3 := hyl
    have g0 := hf 0 _ rfl
    have g1 := hf 1 _ rfl
    have g2 := hf 2 _ rfl
    rw [List.getElem?_eq_getElem (by omega)] at g0 g1 g2
    obtain ⟨p, hp, _⟩ := DataW.trod_int Tryd.underlying3 g0
    obtain ⟨q, hq, _⟩ := DataW.trod_int Tryd.underlying3 g1
    obtain ⟨r, hr, _, wr⟩ := DataW.trod_int Tryd.underlying3 g2
    simp [cells3] at hp hq hr
    exact ⟨⟨p, q, r⟩, by rw [hp, hq, hr], bounds_i64 wr⟩
theorem open_steps {A : Option Addr} {n c fuel : Nat} {x : DataW H × List MemPlace} (h : DataW.trod enc Tryd.prog w base spare held fuel 29 [.slice A n c] = some x) :
    ∃ l : List Stp, l.length = n ∧ SS w w.heap.size A l ∧ ∀ (j : Nat) o, l[j]? = some o → Big o.m := by
  rcases open_slice Tryd.underlying29 h with ⟨hcs, _⟩ | ⟨a, len, cap, m, k, D, Pl, hcs, _, hl, _, hmm, _, hi⟩
  · injection hcs with hcs
    injection hcs with h1 h2 h3
    subst h1 h2 h3
    exact ⟨[], rfl, fun k o hk => by simp at hk, fun j o ho => by simp at ho⟩
  · injection hcs with hcs
    injection hcs with h1 h2 h3
    subst h1 h2 h3
    have hm : n ≤ m := by rw [hmm]; split <;> omega
    by_cases hn0 : n = 0
    · exact ⟨[], by simp [hn0], fun k o hk => by simp at hk, fun j o ho => by simp at ho⟩
    obtain ⟨b, off, rfl, hb⟩ : ∃ b off, a = ⟨b, off, none⟩ ∧ b < w.heap.size := by
      obtain ⟨cs, hc, ht⟩ := hi 0 (by omega)
      rw [cells31] at hc
      obtain ⟨o, rfl, hk0⟩ := open_step ht
      obtain ⟨_, _, hat⟩ := World.cells?_some hc
      have g0 := hat 0 (by omega)
      rw [Go.Deep.add_add] at g0
      exact plain_of g0
    have hc : ∀ i, i < n → ∃ o : Stp, w.cell? ⟨b, off + i * 3, none⟩ = some (.int .i64 o.d) ∧ w.cell? ⟨b, off + i * 3 + 1, none⟩ = some (.int .i64 o.o) ∧ w.cell? ⟨b, off + i * 3 + 2, none⟩ = some (.int .i64 o.m) ∧ Big o.m := by
      intro i hlt
      obtain ⟨cs, hc, ht⟩ := hi i (by omega)
      rw [cells31] at hc
      obtain ⟨o, rfl, hk0⟩ := open_step ht
      obtain ⟨_, _, hat⟩ := World.cells?_some hc
      have g0 := hat 0 (by omega)
      have g1 := hat 1 (by omega)
      have g2 := hat 2 (by omega)
      rw [Go.Deep.add_add, add_plain] at g0 g1 g2
      exact ⟨o, g0, g1, g2, hk0⟩
    have : Inhabited Stp := ⟨⟨0, 0, 0⟩⟩
    obtain ⟨f, hf⟩ := choose_lt hc
    have at_ : ∀ (k : Nat) o, ((List.range n).map f)[k]? = some o → k < n ∧ f k = o := by
      intro k o hk
      have hkn : k < n := by have := (List.getElem?_eq_some_iff.1 hk).1; simpa using this
      rw [List.getElem?_map, List.getElem?_range hkn] at hk
      injection hk with hk
      exact ⟨hkn, hk⟩
    refine ⟨(List.range n).map f, by simp, fun k o hk => ?_, fun k o hk => ?_⟩
    · obtain ⟨hkn, rfl⟩ := at_ k o hk
      have h4 := hf k hkn
      exact ⟨b, off, rfl, hb, h4.1, h4.2.1, h4.2.2.1⟩
    · obtain ⟨hkn, rfl⟩ := at_ k o hk
      exact (hf k hkn).2.2.2
end
end Go.Proofs.YtdiipmejkanhfaaDoor
