/- An argument that is a list of pairs, of operations, or of texts, opened to the cells that the walks name; no condition. -/
import Derived.Test.YtogeifnkjckaiaaPairs
import Derived.ProofKit
import Derived.OpenShut
import Derived.Deep.Slices
import Derived.ChangeSame
namespace Go.Proofs.Ytogeifnkjckaiaa
open Go.ChangeShapes Go.WideShapes Go.RowKit Go.Deep

/-- an operation: its kind, a key, a number -/
structure OpT where
  k : Int
  a : Int
  b : Int
/-- the operations l lie in the slice at A, below N -/
def OS (w : World) (N : Nat) (A : Option Addr) (l : List OpT) : Prop := ∀ (k : Nat) o, l[k]? = some o → ∃ b off, A = some ⟨b, off, none⟩ ∧ b < N ∧ w.cell? ⟨b, off + k * 3, none⟩ = some (.int .u8 o.k) ∧ w.cell? ⟨b, off + k * 3 + 1, none⟩ = some (vI o.a) ∧ w.cell? ⟨b, off + k * 3 + 2, none⟩ = some (vI o.b)
/-- the texts l lie in the slice at A, below N -/
def SS (w : World) (N : Nat) (A : Option Addr) (l : List ByteArray) : Prop := ∀ (k : Nat) x, l[k]? = some x → ∃ b off, A = some ⟨b, off, none⟩ ∧ b < N ∧ w.cell? ⟨b, off + k, none⟩ = some (vS x)
theorem list2 {cs : List Value} (h : cs.length = 2) : ∃ a b, cs = [a, b] := by
  cases cs with
  | nil => cases h
  | cons a t =>
    cases t with
    | nil => cases h
    | cons b t =>
      obtain rfl : t = [] := List.eq_nil_of_length_eq_zero (by simp only [List.length_cons] at h; omega)
      exact ⟨a, b, rfl⟩
theorem list3 {cs : List Value} (h : cs.length = 3) : ∃ a b c, cs = [a, b, c] := by
  cases cs with
  | nil => cases h
  | cons a t =>
    obtain ⟨b, c, rfl⟩ := list2 (cs := t) (by simp only [List.length_cons] at h; omega)
    exact ⟨a, b, c, rfl⟩
theorem cells3 : Try.prog.cellsOf 3 = 1 := by kernel_rfl
theorem cells5 : Try.prog.cellsOf 5 = 1 := by kernel_rfl
theorem cells43 : Try.prog.cellsOf 43 = 2 := by kernel_rfl
theorem cells31 : Try.prog.cellsOf 31 = 3 := by kernel_rfl
theorem cells9 : Try.prog.cellsOf 9 = 1 := by kernel_rfl
section
variable {H : Type} {enc : TypeId × Value → H} {w : World} {base : Nat} {spare : Nat → Bool} {held : Bool}
theorem plain_of {a : Addr} {v : Value} (h : w.cell? (a.add 0) = some v) : ∃ b off, a = ⟨b, off, none⟩ ∧ b < w.heap.size := by
  obtain ⟨b, off, spot⟩ := a
  have hspot : spot = none := by simpa [Addr.add] using World.cell?_spot h
  subst hspot
  rw [add_plain] at h
  exact ⟨b, off, rfl, World.block_lt_of_cell? w _ h⟩
/-- a slice whose elements take one cell each: the cells, one by one -/
theorem open_ones {A : Option Addr} {n c fuel T E : Nat} {x : DataW H × List MemPlace} {α : Type} [Inhabited α] (f : α → Value) (hT : Try.prog.underlying T = some (.slice E)) (hE : Try.prog.cellsOf E = 1)
    (hone : ∀ {fuel : Nat} {cs : List Value} {x : DataW H × List MemPlace}, DataW.trod enc Try.prog w base spare held fuel E cs = some x → ∃ o : α, cs = [f o])
    (h : DataW.trod enc Try.prog w base spare held fuel T [.slice A n c] = some x) :
    n ≤ c ∧ ∃ l : List α, l.length = n ∧ ∀ (k : Nat) x, l[k]? = some x → ∃ b off, A = some ⟨b, off, none⟩ ∧ b < w.heap.size ∧ w.cell? ⟨b, off + k, none⟩ = some (f x) := by
  rcases open_slice hT h with ⟨hcs, _⟩ | ⟨a, len, cap, m, k, D, Pl, hcs, _, hl, _, hmm, _, hi⟩
  · injection hcs with hcs
    injection hcs with h1 h2 h3
    subst h1 h2 h3
    exact ⟨Nat.le_refl _, [], rfl, fun k o hk => by simp at hk⟩
  · injection hcs with hcs
    injection hcs with h1 h2 h3
    subst h1 h2 h3
    refine ⟨hl, ?_⟩
    have hm : n ≤ m := by rw [hmm]; split <;> omega
    by_cases hn0 : n = 0
    · exact ⟨[], by simp [hn0], fun k o hk => by simp at hk⟩
    obtain ⟨b, off, rfl, hb⟩ : ∃ b off, a = ⟨b, off, none⟩ ∧ b < w.heap.size := by
      obtain ⟨cs, hc, ht⟩ := hi 0 (by omega)
      rw [hE] at hc
      obtain ⟨o, rfl⟩ := hone ht
      obtain ⟨_, _, hat⟩ := World.cells?_some hc
      have g0 := hat 0 (by omega)
      rw [Go.Deep.add_add] at g0
      exact plain_of g0
    have hc : ∀ i, i < n → ∃ o : α, w.cell? ⟨b, off + i, none⟩ = some (f o) := by
      intro i hlt
      obtain ⟨cs, hc, ht⟩ := hi i (by omega)
      rw [hE] at hc
      obtain ⟨o, rfl⟩ := hone ht
      obtain ⟨_, _, hat⟩ := World.cells?_some hc
      have g0 := hat 0 (by omega)
      rw [Go.Deep.add_add, add_plain, Nat.mul_one] at g0
      exact ⟨o, g0⟩
    obtain ⟨F, hF⟩ := choose_lt hc
    refine ⟨(List.range n).map F, by simp, fun k o hk => ?_⟩
    have hkn : k < n := by have := (List.getElem?_eq_some_iff.1 hk).1; simpa using this
    rw [List.getElem?_map, List.getElem?_range hkn] at hk
    injection hk with hk
    subst hk
    exact ⟨b, off, rfl, hb, hF k hkn⟩
/-- a slice whose elements take m cells each -/
theorem open_many {A : Option Addr} {n c fuel T E m : Nat} {x : DataW H × List MemPlace} {α : Type} [Inhabited α] (f : α → List Value) (hT : Try.prog.underlying T = some (.slice E)) (hE : Try.prog.cellsOf E = m) (hm0 : 0 < m) (hfl : ∀ o, (f o).length = m)
    (hone : ∀ {fuel : Nat} {cs : List Value} {x : DataW H × List MemPlace}, DataW.trod enc Try.prog w base spare held fuel E cs = some x → ∃ o : α, cs = f o)
    (h : DataW.trod enc Try.prog w base spare held fuel T [.slice A n c] = some x) :
    n ≤ c ∧ ∃ l : List α, l.length = n ∧ ∀ (k : Nat) x, l[k]? = some x → ∃ b off, A = some ⟨b, off, none⟩ ∧ b < w.heap.size ∧ ∀ (j : Nat) v, (f x)[j]? = some v → w.cell? ⟨b, off + k * m + j, none⟩ = some v := by
  rcases open_slice hT h with ⟨hcs, _⟩ | ⟨a, len, cap, mm, k, D, Pl, hcs, _, hl, _, hmm, _, hi⟩
  · injection hcs with hcs
    injection hcs with h1 h2 h3
    subst h1 h2 h3
    exact ⟨Nat.le_refl _, [], rfl, fun k o hk => by simp at hk⟩
  · injection hcs with hcs
    injection hcs with h1 h2 h3
    subst h1 h2 h3
    refine ⟨hl, ?_⟩
    have hm : n ≤ mm := by rw [hmm]; split <;> omega
    by_cases hn0 : n = 0
    · exact ⟨[], by simp [hn0], fun k o hk => by simp at hk⟩
    have hc0 : ∀ i, i < n → ∃ o : α, ∀ (j : Nat) v, (f o)[j]? = some v → w.cell? ((a.add (i * m)).add j) = some v := by
      intro i hlt
      obtain ⟨cs, hc, ht⟩ := hi i (by omega)
      rw [hE] at hc
      obtain ⟨o, rfl⟩ := hone ht
      obtain ⟨_, _, hat⟩ := World.cells?_some hc
      refine ⟨o, fun j v hj => ?_⟩
      have hjl := (List.getElem?_eq_some_iff.1 hj).1
      exact (hat j (by rw [hfl] at hjl; exact hjl)).trans hj
    obtain ⟨b, off, rfl, hb⟩ : ∃ b off, a = ⟨b, off, none⟩ ∧ b < w.heap.size := by
      obtain ⟨o, ho⟩ := hc0 0 (by omega)
      have hlen := hfl o
      have g0 := ho 0 ((f o)[0]'(by omega)) (List.getElem?_eq_getElem (by omega))
      rw [Go.Deep.add_add, Nat.zero_mul] at g0
      exact plain_of g0
    have hc : ∀ i, i < n → ∃ o : α, ∀ (j : Nat) v, (f o)[j]? = some v → w.cell? ⟨b, off + i * m + j, none⟩ = some v := by
      intro i hlt
      obtain ⟨o, ho⟩ := hc0 i hlt
      refine ⟨o, fun j v hj => ?_⟩
      have g0 := ho j v hj
      rw [Go.Deep.add_add, add_plain, ← Nat.add_assoc] at g0
      exact g0
    obtain ⟨F, hF⟩ := choose_lt hc
    refine ⟨(List.range n).map F, by simp, fun k o hk => ?_⟩
    have hkn : k < n := by have := (List.getElem?_eq_some_iff.1 hk).1; simpa using this
    rw [List.getElem?_map, List.getElem?_range hkn] at hk
    injection hk with hk
    subst hk
    exact ⟨b, off, rfl, hb, hF k hkn⟩
theorem open_one2 {fuel : Nat} {cs : List Value} {x : DataW H × List MemPlace} (h : DataW.trod enc Try.prog w base spare held fuel 43 cs = some x) : ∃ o : Int × Int, cs = [vI o.1, vI o.2] := by
  obtain ⟨ys, n, _, _, hlen, hyl, hf⟩ := DataW.trod_struct Try.underlying43 h
  rw [cells43] at hlen
  obtain ⟨c0, c1, rfl⟩ := list2 hlen
  · have l2 : ys.length = 2 := hyl
    have g0 := hf 0 _ rfl
    have g1 := hf 1 _ rfl
    rw [List.getElem?_eq_getElem (by omega)] at g0 g1
    obtain ⟨p, hp, _⟩ := DataW.trod_int Try.underlying3 g0
    obtain ⟨q, hq, _⟩ := DataW.trod_int Try.underlying3 g1
    have hp' : c0 = .int .i64 p := by simpa [cells3] using hp
    have hq' : c1 = .int .i64 q := by simpa [cells3] using hq
    exact ⟨(p, q), by rw [hp', hq']⟩
theorem open_one3 {fuel : Nat} {cs : List Value} {x : DataW H × List MemPlace} (h : DataW.trod enc Try.prog w base spare held fuel 31 cs = some x) : ∃ o : OpT, cs = [.int .u8 o.k, vI o.a, vI o.b] := by
  obtain ⟨ys, n, _, _, hlen, hyl, hf⟩ := DataW.trod_struct Try.underlying31 h
  rw [cells31] at hlen
  obtain ⟨c0, c1, c2, rfl⟩ := list3 hlen
  · have l3 : ys.length = 3 := hyl
    have g0 := hf 0 _ rfl
    have g1 := hf 1 _ rfl
    have g2 := hf 2 _ rfl
    rw [List.getElem?_eq_getElem (by omega)] at g0 g1 g2
    obtain ⟨p, hp, _⟩ := DataW.trod_int Try.underlying5 g0
    obtain ⟨q, hq, _⟩ := DataW.trod_int Try.underlying3 g1
    obtain ⟨r, hr, _⟩ := DataW.trod_int Try.underlying3 g2
    have hp' : c0 = .int .u8 p := by simpa [cells5] using hp
    have hq' : c1 = .int .i64 q := by simpa [cells3] using hq
    have hr' : c2 = .int .i64 r := by simpa [cells3] using hr
    exact ⟨⟨p, q, r⟩, by rw [hp', hq', hr']⟩
theorem open_pairs {A : Option Addr} {n c fuel : Nat} {x : DataW H × List MemPlace} (h : DataW.trod enc Try.prog w base spare held fuel 27 [.slice A n c] = some x) :
    n ≤ c ∧ ∃ l : IP, l.length = n ∧ PS w w.heap.size A l := by
  obtain ⟨h1, l, h2, h3⟩ := open_many (m := 2) (fun o : Int × Int => [vI o.1, vI o.2]) Try.underlying27 cells43 (by omega) (fun _ => rfl) (fun ht => open_one2 ht) h
  refine ⟨h1, l, h2, fun k x hk => ?_⟩
  obtain ⟨b, off, e, hb, hc⟩ := h3 k x hk
  exact ⟨b, off, e, hb, hc 0 _ rfl, hc 1 _ rfl⟩
theorem open_ops {A : Option Addr} {n c fuel : Nat} {x : DataW H × List MemPlace} (h : DataW.trod enc Try.prog w base spare held fuel 22 [.slice A n c] = some x) :
    n ≤ c ∧ ∃ l : List OpT, l.length = n ∧ OS w w.heap.size A l := by
  have : Inhabited OpT := ⟨⟨0, 0, 0⟩⟩
  obtain ⟨h1, l, h2, h3⟩ := open_many (m := 3) (fun o : OpT => [.int .u8 o.k, vI o.a, vI o.b]) Try.underlying22 cells31 (by omega) (fun _ => rfl) (fun ht => open_one3 ht) h
  refine ⟨h1, l, h2, fun k x hk => ?_⟩
  obtain ⟨b, off, e, hb, hc⟩ := h3 k x hk
  exact ⟨b, off, e, hb, hc 0 _ rfl, hc 1 _ rfl, hc 2 _ rfl⟩
theorem open_texts {A : Option Addr} {n c fuel : Nat} {x : DataW H × List MemPlace} (h : DataW.trod enc Try.prog w base spare held fuel 51 [.slice A n c] = some x) :
    n ≤ c ∧ ∃ l : List ByteArray, l.length = n ∧ SS w w.heap.size A l :=
  open_ones vS Try.underlying51 cells9 (fun ht => by
    obtain ⟨r, hr, _⟩ := DataW.trod_string Try.underlying9 ht
    exact ⟨r, hr⟩) h
end
end Go.Proofs.Ytogeifnkjckaiaa
