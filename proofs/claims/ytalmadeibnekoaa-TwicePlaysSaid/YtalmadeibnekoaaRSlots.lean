/- The slots of words, as the document's own function tells; nothing that was there changes. -/
import Derived.Test.YtalmadeibnekoaaSlots
import Derived.Test.YtalmadeibnekoaaAccR
namespace Go.Proofs.Ytalmadeibnekoaa
open Go.RowKit
attribute [local go_sem ↓] Go.wp_at_zero Go.wp_at_succ

theorem slotI_nat {c : Cf} {k f : Nat} (hc : Rc c) (hf : (3 + c.wo + c.wo).toNat = f) (h : k < c.sl.toNat) : slotI c k = ((f + k : Nat) : Int) := by
  have q1 := hc.wo
  have q2 := hc.sl
  unfold slotI cellI wiB
  rw [if_pos (by simp; omega)]
  omega
theorem LMine.appFAt {R : Nat → Prop} {w0 w : World} {v : Value} {xs : List Sl} (h : LMine w0 w v xs) (hf : Far R w v) {ops : Array Oper} {rest : List Oper} {o : Oper} {a : Act} {Q : Exit → Act → World → Prop} {n : Nat} (hn : xs.length = n) (hn2 : n ≤ 1000000)
    (hg : o.guard = none) (x t : Operand) (hop : o.op = Op.call { callee := Callee.builtin Builtin.append, args := #[x, t], argTypes := #[24, 24] }) (hs : a.eval x = v) (s : Sl) (g c : Nat) (hx : a.eval t = .slice (some ⟨g, 0, none⟩) 1 c) (eg : w.heap.size = g)
    (hK : ∀ A' c' w', LMine w0 w' (.slice A' (n + 1) c') (xs ++ [s]) → Far R w' (.slice A' (n + 1) c') → (∀ b, R b → w'.heap[b]? = w.heap[b]?) → wpList Try.prog ops Q rest (a.put o.dst (.slice A' (n + 1) c')) w') :
    wpList Try.prog ops Q (o :: rest) a (w.alloc (.cells #[Value.int .i64 s.st, Value.int .i64 s.ow, Value.int .i64 s.sr, Value.bool s.br, Value.bool s.ma, Value.int .i64 s.us, Value.int .i64 s.ge, Value.int .i64 s.ep, Value.int .i64 s.ve] 66)) := by
  subst eg
  exact h.appF hf hn hn2 hg x t hop hs s c hx hK
end Go.Proofs.Ytalmadeibnekoaa
