/- A list of pairs that a law makes by append. -/
import Derived.Test.YtogeifnkjckaiaaPairs
namespace Go.Proofs.Ytogeifnkjckaiaa
open Go.RowKit

/-- a list of pairs of its own, made since w0 -/
structure MineP (w0 w : World) (v : Value) (xs : IP) : Prop where
  own : OwnP w w0.heap.size v xs
  below : Below w0.heap.size w0 w
theorem MineP.nil {w0 w : World} (h : Below w0.heap.size w0 w) : MineP w0 w (.slice none 0 0) [] := ⟨World.ownsRow_nil _ _ _ _, h⟩
theorem MineP.inv {w0 w : World} {A : Option Addr} {n c : Nat} {xs : IP} (h : MineP w0 w (.slice A n c) xs) : PS w w.heap.size A xs ∧ xs.length = n ∧ n ≤ c := by
  obtain ⟨A2, c2, e⟩ := own_form h.own
  injection e with e1 e2 e3
  subst e1 e2 e3
  exact own_ps h.own
theorem MineP.same {w0 w w' : World} {v : Value} {xs : IP} (h : MineP w0 w v xs) (hb : Below w.heap.size w w') : MineP w0 w' v xs :=
  ⟨by
    refine ⟨h.own.1, h.own.2.imp id fun ⟨g, cap, cur, h1, h2, h3⟩ => ⟨g, cap, cur, h1, h2, ?_⟩⟩
    exact ⟨(hb.block g (Array.getElem?_eq_some_iff.1 h3.1).1).trans h3.1, h3.2⟩, bthen h.below hb h.below.size⟩
theorem MineP.app {w0 w : World} {v : Value} {xs : IP} (h : MineP w0 w v xs) {ops : Array Oper} {rest : List Oper} {o : Oper} {a : Act} {Q : Exit → Act → World → Prop} {n : Nat} (hn : xs.length = n) (hn2 : n ≤ 1000000)
    (hg : o.guard = none) (s t : Operand) (hop : o.op = Op.call { callee := Callee.builtin Builtin.append, args := #[s, t], argTypes := #[27, 27] }) (hs : a.eval s = v) (y : Int × Int) (c : Nat) (hx : a.eval t = .slice (some ⟨w.heap.size, 0, none⟩) 1 c)
    (hK : ∀ A' c' w', MineP w0 w' (.slice A' (n + 1) c') (xs ++ [y]) → wpList Try.prog ops Q rest (a.put o.dst (.slice A' (n + 1) c')) w') :
    wpList Try.prog ops Q (o :: rest) a (w.alloc (.cells #[vI y.1, vI y.2] 43)) := by
  subst hn
  have hsz := h.below.size
  have hb := heap_alloc_new w (.cells #[vI y.1, vI y.2] 43)
  refine wpList_append_pair _ hg s t hop w0.heap.size _ _ _ hs (h.own.alloc _) ⟨w.heap.size, 0, none⟩ c y hx (cell_of_row _ _ 0 _ 43 (0, 0) hb) (cell_of_row _ _ 1 _ 43 (0, 0) hb) hn2 (by simp; omega) ?_
  intro v' w4 hown4 hgrow4 _
  obtain ⟨A', c', rfl⟩ := own_form hown4
  refine hK A' c' w4 ⟨?_, ?_⟩
  · rw [OwnP, flat_snoc, List.length_append]
    exact hown4
  · refine h.below.trans ⟨hgrow4.os, hgrow4.tape, hgrow4.output, by have := hgrow4.size; simp at this; omega, fun k hk => ?_⟩
    refine (hgrow4.block k (by simp; omega) (fun e => ?_)).trans (Below.heap_alloc w _ k (by omega))
    have := (own_lt h.own e.symm).1
    omega
end Go.Proofs.Ytogeifnkjckaiaa
