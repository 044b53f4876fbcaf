/- The slots of words; nothing that was there changes. -/
import Derived.Test.YtalmadeibnekoaaPins
import Derived.Test.YtalmadeibnekoaaFar
import Derived.Test.YtalmadeibnekoaaRefC
namespace Go.Proofs.Ytalmadeibnekoaa
open Go.RowKit
attribute [local go_sem ↓] Go.wp_at_zero Go.wp_at_succ

/-- the slots of words -/
def slotsL (c : Cf) (xs : List Int) : List Sl := if xs.length = cellsN c then ((xs.drop (3 + c.wo + c.wo).toNat).take c.sl.toNat).map decS else []
theorem slotsL_yes {c : Cf} {xs : List Int} (h : xs.length = cellsN c) : slotsL c xs = ((xs.drop (3 + c.wo + c.wo).toNat).take c.sl.toNat).map decS := if_pos h
theorem slotsL_no {c : Cf} {xs : List Int} (h : ¬ xs.length = cellsN c) : slotsL c xs = [] := if_neg h
theorem ls_nil (w : World) (N : Nat) (A : Option Addr) : LS w N A [] := fun k x hk => by simp at hk
theorem mapS {xs : List Int} {f k : Nat} {x : Int} (h : xs[f + k]? = some x) : ((xs.drop f).take (k + 1)).map decS = ((xs.drop f).take k).map decS ++ [decS x] := by
  rw [List.take_add_one, List.getElem?_drop, h]
  simp
/-- the same, where the walk spells the new block's number otherwise -/
theorem LMine.appAt {w0 w : World} {v : Value} {xs : List Sl} (h : LMine w0 w v xs) {ops : Array Oper} {rest : List Oper} {o : Oper} {a : Act} {Q : Exit → Act → World → Prop} {n : Nat} (hn : xs.length = n) (hn2 : n ≤ 1000000)
    (hg : o.guard = none) (x t : Operand) (hop : o.op = Op.call { callee := Callee.builtin Builtin.append, args := #[x, t], argTypes := #[24, 24] }) (hs : a.eval x = v) (s : Sl) (g c : Nat) (hx : a.eval t = .slice (some ⟨g, 0, none⟩) 1 c) (eg : w.heap.size = g)
    (hK : ∀ A' c' w', LMine w0 w' (.slice A' (n + 1) c') (xs ++ [s]) → wpList Try.prog ops Q rest (a.put o.dst (.slice A' (n + 1) c')) w') :
    wpList Try.prog ops Q (o :: rest) a (w.alloc (.cells #[Value.int .i64 s.st, Value.int .i64 s.ow, Value.int .i64 s.sr, Value.bool s.br, Value.bool s.ma, Value.int .i64 s.us, Value.int .i64 s.ge, Value.int .i64 s.ep, Value.int .i64 s.ve] 66)) := by
  subst eg
  exact h.app hn hn2 hg x t hop hs s c hx hK
end Go.Proofs.Ytalmadeibnekoaa
