/- An argument that is a slice of fields, or of numbers, opened to the cells that the walks name; no condition. -/
import Derived.Test.YtoffliekebpmlaaPack
import Derived.ProofKit
import Derived.OpenShut
import Derived.Deep.Slices
import Derived.ChangeSame
namespace Go.Proofs.Ytoffliekebpmlaa
open Go.ChangeShapes Go.WideShapes Go.RowKit Go.Deep

theorem cells23 : Try.prog.cellsOf 23 = 2 := by kernel_rfl
theorem cells3 : Try.prog.cellsOf 3 = 1 := by kernel_rfl
section
variable {H : Type} {enc : TypeId × Value → H} {w : World} {base : Nat} {spare : Nat → Bool} {held : Bool}
theorem plain_of {a : Addr} {v : Value} (h : w.cell? (a.add 0) = some v) : ∃ b off, a = ⟨b, off, none⟩ ∧ b < w.heap.size := by
  obtain ⟨b, off, spot⟩ := a
  have hspot : spot = none := by simpa [Addr.add] using World.cell?_spot h
  subst hspot
  rw [add_plain] at h
  exact ⟨b, off, rfl, World.block_lt_of_cell? w _ h⟩
theorem open_one {fuel : Nat} {cs : List Value} {x : DataW H × List MemPlace} (h : DataW.trod enc Try.prog w base spare held fuel 23 cs = some x) : ∃ p q : Int, cs = [.int .i64 p, .int .i64 q] := by
  obtain ⟨ys, n, _, _, hlen, hyl, hf⟩ := DataW.trod_struct Try.underlying23 h
  rw [cells23] at hlen
  match cs, hlen with
  | [c0, c1], _ =>
    have g0 := hf 0 _ rfl
    have g1 := hf 1 _ rfl
    have l2 : ys.length = 2 := hyl
    have e0 : ys[0]? = some (ys[0]'(by omega)) := List.getElem?_eq_getElem (by omega)
    have e1 : ys[1]? = some (ys[1]'(by omega)) := List.getElem?_eq_getElem (by omega)
    rw [e0] at g0
    rw [e1] at g1
    obtain ⟨p, hp, _⟩ := DataW.trod_int Try.underlying3 g0
    obtain ⟨q, hq, _⟩ := DataW.trod_int Try.underlying3 g1
    simp [cells3] at hp hq
    exact ⟨p, q, by rw [hp, hq]⟩
theorem open_fields {A : Option Addr} {n c fuel : Nat} {x : DataW H × List MemPlace} (h : DataW.trod enc Try.prog w base spare held fuel 30 [.slice A n c] = some x) :
    n ≤ c ∧ ∃ fs : List (Int × Int), fs.length = n ∧ Fds w w.heap.size A fs := by
  rcases open_slice Try.underlying30 h with ⟨hcs, _⟩ | ⟨a, len, cap, m, k, D, Pl, hcs, _, hl, _, hmm, _, hi⟩
  · injection hcs with hcs
    injection hcs with h1 h2 h3
    subst h1 h2 h3
    exact ⟨Nat.le_refl _, [], rfl, .inl rfl⟩
  · injection hcs with hcs
    injection hcs with h1 h2 h3
    subst h1 h2 h3
    refine ⟨hl, ?_⟩
    have hm : n ≤ m := by rw [hmm]; split <;> omega
    have hc : ∀ i, i < n → ∃ p q : Int, w.cell? (a.add (i * 2)) = some (.int .i64 p) ∧ w.cell? (a.add (i * 2 + 1)) = some (.int .i64 q) := by
      intro i hlt
      obtain ⟨cs, hc, ht⟩ := hi i (by omega)
      rw [cells23] at hc
      obtain ⟨p, q, rfl⟩ := open_one ht
      obtain ⟨_, _, hat⟩ := World.cells?_some hc
      have g0 := hat 0 (by omega)
      have g1 := hat 1 (by omega)
      rw [Go.Deep.add_add] at g0 g1
      exact ⟨p, q, g0, g1⟩
    have hb : ∀ k, k ≤ n → ∃ fs : List (Int × Int), fs.length = k ∧ ∀ (j : Nat) p q, fs[j]? = some (p, q) → w.cell? (a.add (j * 2)) = some (.int .i64 p) ∧ w.cell? (a.add (j * 2 + 1)) = some (.int .i64 q) := by
      intro k
      induction k with
      | zero => exact fun _ => ⟨[], rfl, fun j p q hj => by simp at hj⟩
      | succ k ih =>
        intro hk
        obtain ⟨fs, hl, hfs⟩ := ih (by omega)
        obtain ⟨p, q, h1, h2⟩ := hc k (by omega)
        refine ⟨fs ++ [(p, q)], by simp [hl], fun j p' q' hj => ?_⟩
        by_cases hjk : j < fs.length
        · rw [List.getElem?_append_left hjk] at hj
          exact hfs j p' q' hj
        · have hj2 : j < (fs ++ [(p, q)]).length := (List.getElem?_eq_some_iff.1 hj).1
          simp at hj2
          obtain rfl : j = fs.length := by omega
          simp at hj
          obtain ⟨rfl, rfl⟩ := hj
          rw [hl]
          exact ⟨h1, h2⟩
    obtain ⟨fs, hl2, hfs⟩ := hb n (Nat.le_refl _)
    refine ⟨fs, hl2, ?_⟩
    cases fs with
    | nil => exact .inl rfl
    | cons f fs =>
      obtain ⟨b, off, rfl, hlt⟩ := plain_of (hfs 0 f.1 f.2 rfl).1
      exact .inr ⟨b, off, rfl, hlt, fun j p q hj => by have := hfs j p q hj; rwa [add_plain, add_plain] at this⟩
theorem open_nums {A : Option Addr} {n c fuel : Nat} {x : DataW H × List MemPlace} (h : DataW.trod enc Try.prog w base (fun _ => true) held fuel 31 [.slice A n c] = some x) :
    n ≤ c ∧ ∃ xs : List Int, xs.length = n ∧ IS w w.heap.size A xs := by
  rcases open_ints Try.underlying31 Try.underlying3 cells3 h with ⟨hcs, _⟩ | ⟨a, len, cap, zs, hcs, _, hl, _, hz, _, hcell, _⟩
  · injection hcs with hcs
    injection hcs with h1 h2 h3
    subst h1 h2 h3
    exact ⟨Nat.le_refl _, [], rfl, .inl rfl⟩
  · injection hcs with hcs
    injection hcs with h1 h2 h3
    subst h1 h2 h3
    simp at hz
    refine ⟨hl, zs.take n, by simp; omega, ?_⟩
    by_cases h0 : n = 0
    · exact .inl (by rw [h0]; rfl)
    · obtain ⟨b, off, rfl, hc⟩ := ints_at hcell (by omega)
      refine .inr ⟨b, off, rfl, World.block_lt_of_cell? w _ (hc 0 (by omega)), fun j v hj => ?_⟩
      obtain ⟨hjl, rfl⟩ := List.getElem?_eq_some_iff.1 hj
      simp at hjl
      have := hc j (by omega)
      rw [this]
      simp [List.getD, show j < zs.length by omega]
end
end Go.Proofs.Ytoffliekebpmlaa
