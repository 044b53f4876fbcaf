/- An argument that is a list of operations, or of numbers, opened to the cells that the walks name; no condition. -/
import Derived.Test.YthjhjjpgchmmfaaAdds
import Derived.ProofKit
import Derived.OpenShut
import Derived.Deep.Slices
import Derived.ChangeSame
namespace Go.Proofs.Ythjhjjpgchmmfaa
open Go.ChangeShapes Go.WideShapes Go.RowKit Go.Deep

theorem cells34 : Try.prog.cellsOf 34 = 4 := by kernel_rfl
theorem cells3 : Try.prog.cellsOf 3 = 1 := by kernel_rfl
theorem cells5 : Try.prog.cellsOf 5 = 1 := by kernel_rfl
section
variable {H : Type} {enc : TypeId × Value → H} {w : World} {base : Nat} {spare : Nat → Bool} {held : Bool}
theorem plain_of {a : Addr} {v : Value} (h : w.cell? (a.add 0) = some v) : ∃ b off, a = ⟨b, off, none⟩ ∧ b < w.heap.size := by
  obtain ⟨b, off, spot⟩ := a
  have hspot : spot = none := by simpa [Addr.add] using World.cell?_spot h
  subst hspot
  rw [add_plain] at h
  exact ⟨b, off, rfl, World.block_lt_of_cell? w _ h⟩
theorem open_op {fuel : Nat} {cs : List Value} {x : DataW H × List MemPlace} (h : DataW.trod enc Try.prog w base spare held fuel 34 cs = some x) : ∃ o : OpT, cs = [.int .u8 o.k, .int .i64 o.i, .int .i64 o.v, .int .i64 o.u] ∧ 0 ≤ o.k := by
  obtain ⟨ys, n, _, _, hlen, hyl, hf⟩ := DataW.trod_struct Try.underlying34 h
  rw [cells34] at hlen
  match cs, hlen with
  | [c0, c1, c2, c3], _ =>
    have l4 : ys.length = 4 := hyl
    have g0 := hf 0 _ rfl
    have g1 := hf 1 _ rfl
    have g2 := hf 2 _ rfl
    have g3 := hf 3 _ rfl
    rw [List.getElem?_eq_getElem (by omega)] at g0 g1 g2 g3
    obtain ⟨p, hp, _, wp⟩ := DataW.trod_int Try.underlying5 g0
    obtain ⟨q, hq, _⟩ := DataW.trod_int Try.underlying3 g1
    obtain ⟨r, hr, _⟩ := DataW.trod_int Try.underlying3 g2
    obtain ⟨u, hu, _⟩ := DataW.trod_int Try.underlying3 g3
    simp [cells3, cells5] at hp hq hr hu
    exact ⟨⟨p, q, r, u⟩, by rw [hp, hq, hr, hu], (bounds_u8 wp).1⟩
theorem open_ops {A : Option Addr} {n c fuel : Nat} {x : DataW H × List MemPlace} (h : DataW.trod enc Try.prog w base spare held fuel 22 [.slice A n c] = some x) :
    n ≤ c ∧ ∃ l : List OpT, l.length = n ∧ OS w w.heap.size A l ∧ ∀ o ∈ l, 0 ≤ o.k := by
  rcases open_slice Try.underlying22 h with ⟨hcs, _⟩ | ⟨a, len, cap, m, k, D, Pl, hcs, _, hl, _, hmm, _, hi⟩
  · injection hcs with hcs
    injection hcs with h1 h2 h3
    subst h1 h2 h3
    exact ⟨Nat.le_refl _, [], rfl, fun k o hk => by simp at hk, fun o ho => by simp at ho⟩
  · injection hcs with hcs
    injection hcs with h1 h2 h3
    subst h1 h2 h3
    refine ⟨hl, ?_⟩
    have hm : n ≤ m := by rw [hmm]; split <;> omega
    by_cases hn0 : n = 0
    · exact ⟨[], by simp [hn0], fun k o hk => by simp at hk, fun o ho => by simp at ho⟩
    obtain ⟨b, off, rfl, hb⟩ : ∃ b off, a = ⟨b, off, none⟩ ∧ b < w.heap.size := by
      obtain ⟨cs, hc, ht⟩ := hi 0 (by omega)
      rw [cells34] at hc
      obtain ⟨o, rfl, hk0⟩ := open_op ht
      obtain ⟨_, _, hat⟩ := World.cells?_some hc
      have g0 := hat 0 (by omega)
      rw [Go.Deep.add_add] at g0
      exact plain_of g0
    have hc : ∀ i, i < n → ∃ o : OpT, w.cell? ⟨b, off + i * 4, none⟩ = some (.int .u8 o.k) ∧ w.cell? ⟨b, off + i * 4 + 1, none⟩ = some (.int .i64 o.i) ∧ w.cell? ⟨b, off + i * 4 + 2, none⟩ = some (.int .i64 o.v) ∧ w.cell? ⟨b, off + i * 4 + 3, none⟩ = some (.int .i64 o.u) ∧ 0 ≤ o.k := by
      intro i hlt
      obtain ⟨cs, hc, ht⟩ := hi i (by omega)
      rw [cells34] at hc
      obtain ⟨o, rfl, hk0⟩ := open_op ht
      obtain ⟨_, _, hat⟩ := World.cells?_some hc
      have g0 := hat 0 (by omega)
      have g1 := hat 1 (by omega)
      have g2 := hat 2 (by omega)
      have g3 := hat 3 (by omega)
      rw [Go.Deep.add_add, add_plain] at g0 g1 g2 g3
      exact ⟨o, g0, g1, g2, g3, hk0⟩
    have : Inhabited OpT := ⟨⟨0, 0, 0, 0⟩⟩
    obtain ⟨f, hf⟩ := choose_lt hc
    refine ⟨(List.range n).map f, by simp, fun k o hk => ?_, fun o ho => ?_⟩
    · have hkn : k < n := by have := (List.getElem?_eq_some_iff.1 hk).1; simpa using this
      rw [List.getElem?_map, List.getElem?_range hkn] at hk
      injection hk with hk
      subst hk
      have h4 := hf k hkn
      exact ⟨b, off, rfl, hb, h4.1, h4.2.1, h4.2.2.1, h4.2.2.2.1⟩
    · obtain ⟨k, hk, rfl⟩ := List.mem_map.1 ho
      exact (hf k (List.mem_range.1 hk)).2.2.2.2
theorem open_nums {A : Option Addr} {n c fuel : Nat} {x : DataW H × List MemPlace} (h : DataW.trod enc Try.prog w base (fun _ => true) held fuel 29 [.slice A n c] = some x) :
    n ≤ c ∧ ∃ xs : List Int, xs.length = n ∧ IS w w.heap.size A xs := by
  rcases open_ints Try.underlying29 Try.underlying3 cells3 h with ⟨hcs, _⟩ | ⟨a, len, cap, zs, hcs, _, hl, _, hz, _, hcell, _⟩
  · injection hcs with hcs
    injection hcs with h1 h2 h3
    subst h1 h2 h3
    exact ⟨Nat.le_refl _, [], rfl, fun k o hk => by simp at hk⟩
  · injection hcs with hcs
    injection hcs with h1 h2 h3
    subst h1 h2 h3
    simp at hz
    refine ⟨hl, zs.take n, by simp; omega, ?_⟩
    intro j v hj
    obtain ⟨hjl, rfl⟩ := List.getElem?_eq_some_iff.1 hj
    simp at hjl
    obtain ⟨b, off, rfl, hc⟩ := ints_at hcell (by omega)
    refine ⟨b, off, rfl, World.block_lt_of_cell? w _ (hc j (by omega)), ?_⟩
    have := hc j (by omega)
    rw [this]
    simp [List.getD, show j < zs.length by omega]
end
end Go.Proofs.Ythjhjjpgchmmfaa
