/- An argument that is a list of bytes, or of bools, opened to the cells that the walks name; no condition. -/
import Derived.Test.YtdhdacpnlfojeaaLPlays
import Derived.ProofKit
import Derived.OpenShut
import Derived.Deep.Slices
import Derived.ChangeSame
namespace Go.Proofs.Ytdhdacpnlfojeaa
open Go.ChangeShapes Go.WideShapes Go.RowKit Go.Deep

theorem cells5 : Try.prog.cellsOf 5 = 1 := by kernel_rfl
theorem cells4 : Try.prog.cellsOf 4 = 1 := by kernel_rfl
section
variable {H : Type} {enc : TypeId × Value → H} {w : World} {base : Nat} {spare : Nat → Bool} {held : Bool}
theorem plain_of {a : Addr} {v : Value} (h : w.cell? (a.add 0) = some v) : ∃ b off, a = ⟨b, off, none⟩ ∧ b < w.heap.size := by
  obtain ⟨b, off, spot⟩ := a
  have hspot : spot = none := by simpa [Addr.add] using World.cell?_spot h
  subst hspot
  rw [add_plain] at h
  exact ⟨b, off, rfl, World.block_lt_of_cell? w _ h⟩
/-- a slice whose elements take one cell each: the cells, one by one -/
theorem open_ones {A : Option Addr} {n c fuel T E : Nat} {x : DataW H × List MemPlace} {α : Type} [Inhabited α] (f : α → Value) (hT : Try.prog.underlying T = some (.slice E)) (hE : Try.prog.cellsOf E = 1)
    (hone : ∀ {fuel : Nat} {cs : List Value} {x : DataW H × List MemPlace}, DataW.trod enc Try.prog w base spare held fuel E cs = some x → ∃ o : α, cs = [f o])
    (h : DataW.trod enc Try.prog w base spare held fuel T [.slice A n c] = some x) :
    n ≤ c ∧ c ≤ 9223372036854775807 ∧ ∃ l : List α, l.length = n ∧ ∀ (k : Nat) x, l[k]? = some x → ∃ b off, A = some ⟨b, off, none⟩ ∧ b < w.heap.size ∧ w.cell? ⟨b, off + k, none⟩ = some (f x) := by
  rcases open_slice hT h with ⟨hcs, _⟩ | ⟨a, len, cap, m, k, D, Pl, hcs, _, hl, hcm, hmm, _, hi⟩
  · injection hcs with hcs
    injection hcs with h1 h2 h3
    subst h1 h2 h3
    exact ⟨Nat.le_refl _, by omega, [], rfl, fun k o hk => by simp at hk⟩
  · injection hcs with hcs
    injection hcs with h1 h2 h3
    subst h1 h2 h3
    refine ⟨hl, (by unfold maxLen at hcm; omega), ?_⟩
    have hm : n ≤ m := by rw [hmm]; split <;> omega
    by_cases hn0 : n = 0
    · exact ⟨[], by simp [hn0], fun k o hk => by simp at hk⟩
    obtain ⟨b, off, rfl, hb⟩ : ∃ b off, a = ⟨b, off, none⟩ ∧ b < w.heap.size := by
      obtain ⟨cs, hc, ht⟩ := hi 0 (by omega)
      rw [hE] at hc
      obtain ⟨o, rfl⟩ := hone ht
      obtain ⟨_, _, hat⟩ := World.cells?_some hc
      have g0 := hat 0 (by omega)
      rw [Go.Deep.add_add] at g0
      exact plain_of g0
    have hc : ∀ i, i < n → ∃ o : α, w.cell? ⟨b, off + i, none⟩ = some (f o) := by
      intro i hlt
      obtain ⟨cs, hc, ht⟩ := hi i (by omega)
      rw [hE] at hc
      obtain ⟨o, rfl⟩ := hone ht
      obtain ⟨_, _, hat⟩ := World.cells?_some hc
      have g0 := hat 0 (by omega)
      rw [Go.Deep.add_add, add_plain, Nat.mul_one] at g0
      exact ⟨o, g0⟩
    obtain ⟨F, hF⟩ := choose_lt hc
    refine ⟨(List.range n).map F, by simp, fun k o hk => ?_⟩
    have hkn : k < n := by have := (List.getElem?_eq_some_iff.1 hk).1; simpa using this
    rw [List.getElem?_map, List.getElem?_range hkn] at hk
    injection hk with hk
    subst hk
    exact ⟨b, off, rfl, hb, hF k hkn⟩
theorem open_bytes {A : Option Addr} {n c fuel : Nat} {x : DataW H × List MemPlace} (h : DataW.trod enc Try.prog w base spare held fuel 22 [.slice A n c] = some x) :
    n ≤ c ∧ c ≤ 9223372036854775807 ∧ ∃ l : List Int, l.length = n ∧ US w w.heap.size A l :=
  open_ones (Value.int .u8) Try.underlying22 cells5 (fun ht => by
    obtain ⟨r, hr, _⟩ := DataW.trod_int Try.underlying5 ht
    exact ⟨r, hr⟩) h
theorem open_flags {A : Option Addr} {n c fuel : Nat} {x : DataW H × List MemPlace} (h : DataW.trod enc Try.prog w base spare held fuel 27 [.slice A n c] = some x) :
    n ≤ c ∧ c ≤ 9223372036854775807 ∧ ∃ l : List Bool, l.length = n ∧ BS w w.heap.size A l :=
  open_ones Value.bool Try.underlying27 cells4 (fun ht => by
    obtain ⟨r, hr, _⟩ := DataW.trod_bool Try.underlying4 ht
    exact ⟨r, hr⟩) h
end
end Go.Proofs.Ytdhdacpnlfojeaa
