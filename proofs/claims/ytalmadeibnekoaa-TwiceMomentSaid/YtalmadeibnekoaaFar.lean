/- Lists that grow beside other things. -/
import Derived.Test.YtalmadeibnekoaaLsl
import Derived.Maps.AppendAt
namespace Go.Proofs.Ytalmadeibnekoaa
open Go.RowKit
attribute [local go_sem ↓] Go.wp_at_zero Go.wp_at_succ

/-- the slice v lies in none of the blocks R, which are all there -/
structure Far (R : Nat → Prop) (w : World) (v : Value) : Prop where
  lt : ∀ b, R b → b < w.heap.size
  ne : ∀ b, R b → v.ownBlock ≠ some b
theorem Far.nil {R : Nat → Prop} {w : World} (h : ∀ b, R b → b < w.heap.size) : Far R w (.slice none 0 0) := ⟨h, fun b _ e => by simp [Value.ownBlock] at e⟩
theorem Far.on {R : Nat → Prop} {w w' : World} {v : Value} (h : Far R w v) (hs : w.heap.size ≤ w'.heap.size) : Far R w' v := ⟨fun b hb => Nat.lt_of_lt_of_le (h.lt b hb) hs, h.ne⟩
theorem far_app {R : Nat → Prop} {w w' : World} {o : Obj} {v v' : Value} (hf : Far R w v) (hg : (w.alloc o).grownBy w' v.ownBlock) (hat : v'.ownBlock = v.ownBlock ∨ v'.ownBlock = some (w.alloc o).heap.size) :
    Far R w' v' ∧ ∀ b, R b → w'.heap[b]? = w.heap[b]? := by
  have hsz := hg.size
  simp only [World.size_alloc] at hsz hat
  refine ⟨⟨fun b hb => by have := hf.lt b hb; omega, fun b hb e => ?_⟩, fun b hb => ?_⟩
  · rcases hat with h | h
    · exact hf.ne b hb (h.symm.trans e)
    · rw [h] at e
      injection e with e
      have := hf.lt b hb
      omega
  · have hl := hf.lt b hb
    rw [hg.block b (by simp; omega) (fun e => hf.ne b hb e.symm)]
    exact heap_alloc_old w o hl
theorem RowAt.same {w w' : World} {b : Nat} {t : TypeId} {vs : Array Value} (h : RowAt w b t vs) (he : w'.heap[b]? = w.heap[b]?) : RowAt w' b t vs := he.trans h
theorem two_new (w : World) (x y : Value) (t : TypeId) : ∀ j u, ([x, y] : List Value)[j]? = some u → (w.alloc (.cells #[x, y] t)).cell? ((⟨w.heap.size, 0, none⟩ : Addr).add j) = some u := by
  intro j u hj
  have ha : (⟨w.heap.size, 0, none⟩ : Addr).add j = ⟨w.heap.size, j, none⟩ := by unfold Addr.add; split <;> simp_all
  rw [ha]
  exact (RowAt.new w t #[x, y]).cell j (by simpa using hj)
theorem Mine.appF {R : Nat → Prop} {w0 w : World} {v : Value} {xs : List Int} (h : Mine w0 w v xs) (hf : Far R w v) {ops : Array Oper} {rest : List Oper} {o : Oper} {a : Act} {Q : Exit → Act → World → Prop} {n : Nat} (hn : xs.length = n) (hn2 : n ≤ 1000000)
    (hg : o.guard = none) (x t : Operand) (hop : o.op = Op.call { callee := Callee.builtin Builtin.append, args := #[x, t], argTypes := #[32, 32] }) (hs : a.eval x = v) (y : Int) (c : Nat) (hx : a.eval t = .slice (some ⟨w.heap.size, 0, none⟩) 1 c)
    (hK : ∀ A' c' w', Mine w0 w' (.slice A' (n + 1) c') (xs ++ [y]) → Far R w' (.slice A' (n + 1) c') → (∀ b, R b → w'.heap[b]? = w.heap[b]?) → wpList Try.prog ops Q rest (a.put o.dst (.slice A' (n + 1) c')) w') :
    wpList Try.prog ops Q (o :: rest) a (w.alloc (.cells #[Value.int .i64 y] 3)) := by
  obtain ⟨i0, hi, hz0, hz1, hz2⟩ := info_parts infoI2
  have hsz := h.below.size
  refine wpList_append_own_at _ hg _ _ 32 hop w0.heap.size 3 i0 (.int .i64 0) 1 8 Try.underlying32 hi hz0 hz1 hz2 rfl (by decide) _ _ _ hs (h.own.alloc _) ⟨w.heap.size, 0, none⟩ 1 c [Value.int .i64 y] hx rfl (cell_one_new _ _ _) (by simp [Value.oneCell']) (by unfold maxLen; omega) (by omega) (by simp; omega) ?_
  intro v' w4 hown4 hgrow4 _ hat
  have hlen : (xs ++ [y]).length = n + 1 := by simp [hn]
  rw [hn] at hown4
  obtain ⟨A', c', rfl⟩ := own_form hown4
  obtain ⟨f1, f2⟩ := far_app hf hgrow4 hat
  exact hK A' c' w4 ⟨by rw [hlen]; simpa using hown4, (h.below.alloc hsz _).grown hgrow4 (by simp; omega) (fun j e => (h.own.lt j e).1)⟩ f1 f2
theorem Mine.appF2 {R : Nat → Prop} {w0 w : World} {v : Value} {xs : List Int} (h : Mine w0 w v xs) (hf : Far R w v) {ops : Array Oper} {rest : List Oper} {o : Oper} {a : Act} {Q : Exit → Act → World → Prop} {n : Nat} (hn : xs.length = n) (hn2 : n ≤ 1000000)
    (hg : o.guard = none) (x t : Operand) (hop : o.op = Op.call { callee := Callee.builtin Builtin.append, args := #[x, t], argTypes := #[32, 32] }) (hs : a.eval x = v) (y z : Int) (c : Nat) (hx : a.eval t = .slice (some ⟨w.heap.size, 0, none⟩) 2 c)
    (hK : ∀ A' c' w', Mine w0 w' (.slice A' (n + 2) c') (xs ++ [y, z]) → Far R w' (.slice A' (n + 2) c') → (∀ b, R b → w'.heap[b]? = w.heap[b]?) → wpList Try.prog ops Q rest (a.put o.dst (.slice A' (n + 2) c')) w') :
    wpList Try.prog ops Q (o :: rest) a (w.alloc (.cells #[Value.int .i64 y, Value.int .i64 z] 3)) := by
  obtain ⟨i0, hi, hz0, hz1, hz2⟩ := info_parts infoI2
  have hsz := h.below.size
  refine wpList_append_own_at _ hg _ _ 32 hop w0.heap.size 3 i0 (.int .i64 0) 1 8 Try.underlying32 hi hz0 hz1 hz2 rfl (by decide) _ _ _ hs (h.own.alloc _) ⟨w.heap.size, 0, none⟩ 2 c [Value.int .i64 y, Value.int .i64 z] hx rfl (two_new _ _ _ _) (by simp [Value.oneCell']) (by unfold maxLen; omega) (by omega) (by simp; omega) ?_
  intro v' w4 hown4 hgrow4 _ hat
  have hlen : (xs ++ [y, z]).length = n + 2 := by simp [hn]
  rw [hn] at hown4
  obtain ⟨A', c', rfl⟩ := own_form hown4
  obtain ⟨f1, f2⟩ := far_app hf hgrow4 hat
  exact hK A' c' w4 ⟨by rw [hlen]; simpa using hown4, (h.below.alloc hsz _).grown hgrow4 (by simp; omega) (fun j e => (h.own.lt j e).1)⟩ f1 f2
theorem LMine.appF {R : Nat → Prop} {w0 w : World} {v : Value} {xs : List Sl} (h : LMine w0 w v xs) (hf : Far R w v) {ops : Array Oper} {rest : List Oper} {o : Oper} {a : Act} {Q : Exit → Act → World → Prop} {n : Nat} (hn : xs.length = n) (hn2 : n ≤ 1000000)
    (hg : o.guard = none) (x t : Operand) (hop : o.op = Op.call { callee := Callee.builtin Builtin.append, args := #[x, t], argTypes := #[24, 24] }) (hs : a.eval x = v) (s : Sl) (c : Nat) (hx : a.eval t = .slice (some ⟨w.heap.size, 0, none⟩) 1 c)
    (hK : ∀ A' c' w', LMine w0 w' (.slice A' (n + 1) c') (xs ++ [s]) → Far R w' (.slice A' (n + 1) c') → (∀ b, R b → w'.heap[b]? = w.heap[b]?) → wpList Try.prog ops Q rest (a.put o.dst (.slice A' (n + 1) c')) w') :
    wpList Try.prog ops Q (o :: rest) a (w.alloc (.cells #[Value.int .i64 s.st, Value.int .i64 s.ow, Value.int .i64 s.sr, Value.bool s.br, Value.bool s.ma, Value.int .i64 s.us, Value.int .i64 s.ge, Value.int .i64 s.ep, Value.int .i64 s.ve] 66)) := by
  obtain ⟨i0, hi, hz0, hz1, hz2⟩ := info_parts info23
  have hsz := h.below.size
  refine wpList_append_own_at _ hg _ _ 24 hop w0.heap.size 66 i0 _ 9 64 Try.underlying24 hi hz0 hz1 hz2 rfl (by decide) _ _ _ hs (h.own.alloc _) ⟨w.heap.size, 0, none⟩ 1 c (sc s) hx rfl (nine_new w s) (by simp [sc, Value.oneCell']) (by unfold maxLen; omega) (by omega) (by simp; omega) ?_
  intro v' w4 hown4 hgrow4 _ hat
  have hlen : (xs ++ [s]).length = n + 1 := by simp [hn]
  rw [hn] at hown4
  obtain ⟨A', c', rfl⟩ := own_form hown4
  obtain ⟨f1, f2⟩ := far_app hf hgrow4 hat
  exact hK A' c' w4 ⟨by rw [hlen, List.flatMap_append]; simpa using hown4, (h.below.alloc hsz _).grown hgrow4 (by simp; omega) (fun j e => (h.own.lt j e).1)⟩ f1 f2
end Go.Proofs.Ytalmadeibnekoaa
