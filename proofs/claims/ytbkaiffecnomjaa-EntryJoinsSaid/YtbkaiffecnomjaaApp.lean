/- Appends of a slice that may be nil, or empty. -/
import Derived.Test.YtbkaiffecnomjaaKit
namespace Go.Proofs.Ytbkaiffecnomjaa
open Go.RowKit
attribute [local go_sem ↓] Go.wp_at_zero Go.wp_at_succ

theorem run_append_nilc {P : Program} {w : World} (base : Nat) (t ty e : TypeId) (i : TypeInfo) (size : Nat) (ht : P.underlying t = some (.slice e)) (hi : P.info? e = some i)
    (v : Value) (n c : Nat) (xs : List Value) (hown : w.ownsRow base e size v n xs) :
    (Builtin.append_ #[t, t] ty #[v, .slice none 0 c]).run P w = .ok v w := by
  rcases hown.2 with ⟨rfl, rfl⟩ | ⟨g, cap, cur, rfl, _, _, hnc, _⟩
  · simp [Builtin.append_, run_underlying ht, sizeOf, typeInfo, hi, Builtin.lenOf, Builtin.firstCells]
  · simp [Builtin.append_, run_underlying ht, sizeOf, typeInfo, hi, Builtin.lenOf, Builtin.firstCells, hnc, storeCells]
theorem wpList_append_nilc {P : Program} {w : World} {ops : Array Oper} {rest : List Oper} {o : Oper} {a : Act} {Q : Exit → Act → World → Prop} {c : Nat} (hgd : o.guard = none) (s x : Operand) (t : TypeId)
    (ho : o.op = .call { callee := .builtin .append, args := #[s, x], argTypes := #[t, t] })
    (base : Nat) (e : TypeId) (i : TypeInfo) (size : Nat) (ht : P.underlying t = some (.slice e)) (hi : P.info? e = some i)
    (v : Value) (n : Nat) (xs : List Value) (hs : a.eval s = v) (hown : w.ownsRow base e size v n xs) (hx : a.eval x = .slice none 0 c)
    (h : wpList P ops Q rest (a.put o.dst v) w) : wpList P ops Q (o :: rest) a w := by
  refine wpList_plain hgd fun K hK => ?_
  have hrun := run_append_nilc (P := P) (w := w) (c := c) base t o.type e i size ht hi v n xs hown
  unfold Oper.wp
  simp [execOp, ho, resolve, invoke, builtin, hs, hx, hrun, Result.andThen]
  exact hK _ _ h
theorem BMine.appAny {w0 w : World} {v : Value} {xs : List Int} (h : BMine w0 w v xs) {ops : Array Oper} {rest : List Oper} {o : Oper} {a : Act} {Q : Exit → Act → World → Prop} {n m k N : Nat} {zs : List Int} (hn : xs.length = n) (hn2 : n + m ≤ 1000000) (hk : n + m = k)
    (hg : o.guard = none) (s t : Operand) (hop : o.op = Op.call { callee := Callee.builtin Builtin.append, args := #[s, t], argTypes := #[24, 24] }) (hs : a.eval s = v) (A : Option Addr) (c : Nat) (ys : List Int) (hm : ys.length = m) (hx : a.eval t = .slice A m c) (hc : BS w N A ys) (hz : xs ++ ys = zs)
    (hK : ∀ A' c' w', BMine w0 w' (.slice A' k c') zs → wpList Try.prog ops Q rest (a.put o.dst (.slice A' k c')) w') :
    wpList Try.prog ops Q (o :: rest) a w := by
  by_cases hy : ys = []
  · subst hy
    have h0 : m = 0 := hm.symm
    subst h0
    rw [List.append_nil] at hz
    subst hz
    rw [Nat.add_zero] at hk
    subst hk
    obtain ⟨A1, c1, e1⟩ := h.form
    rw [hn] at e1
    subst e1
    obtain ⟨i0, hi, hz0, hz1, hz2⟩ := info_parts infoB
    cases A with
    | none => exact wpList_append_nilc hg s t 24 hop w0.heap.size 5 i0 1 Try.underlying24 hi _ _ _ hs h.own hx (hK _ _ _ h)
    | some ad =>
      have hsz := h.below.size
      refine wpList_append_own _ hg _ _ 24 hop w0.heap.size 5 i0 _ 1 1 Try.underlying24 hi hz0 hz1 hz2 rfl (by decide) _ _ _ hs h.own ad 0 c [] hx rfl (fun j u hj => by simp at hj) (by simp) (by unfold maxLen; omega) (by omega) (by omega) ?_
      intro v' w4 hown4 hgrow4 _
      obtain ⟨A', c', rfl⟩ := own_form hown4
      rw [hn] at hown4
      rw [hn]
      refine hK A' c' w4 ⟨?_, h.below.grown hgrow4 hsz (fun j e => (h.own.lt j e).1)⟩
      rw [hn]
      simpa using hown4
  · obtain ⟨b, off, rfl, _, hc⟩ := hc.addr hy
    exact h.appAll hn (by omega) hk hg s t hop hs ys hm b off c hx hc hz hK
theorem LMine.appAny {w0 w : World} {v : Value} {xs : List En} (h : LMine w0 w v xs) {ops : Array Oper} {rest : List Oper} {o : Oper} {a : Act} {Q : Exit → Act → World → Prop} {n m k N : Nat} {zs : List En} (hn : xs.length = n) (hn2 : n + m ≤ 1000000) (hk : n + m = k)
    (hg : o.guard = none) (s t : Operand) (hop : o.op = Op.call { callee := Callee.builtin Builtin.append, args := #[s, t], argTypes := #[22, 22] }) (hs : a.eval s = v) (A : Option Addr) (c : Nat) (ys : List En) (hm : ys.length = m) (hx : a.eval t = .slice A m c) (hc : LS w N A ys) (hz : xs ++ ys = zs)
    (hK : ∀ A' c' w', LMine w0 w' (.slice A' k c') zs → wpList Try.prog ops Q rest (a.put o.dst (.slice A' k c')) w') :
    wpList Try.prog ops Q (o :: rest) a w := by
  by_cases hy : ys = []
  · subst hy
    have h0 : m = 0 := hm.symm
    subst h0
    rw [List.append_nil] at hz
    subst hz
    rw [Nat.add_zero] at hk
    subst hk
    obtain ⟨A1, c1, e1⟩ := h.form
    rw [hn] at e1
    subst e1
    obtain ⟨i0, hi, hz0, hz1, hz2⟩ := info_parts infoE
    cases A with
    | none => exact wpList_append_nilc hg s t 22 hop w0.heap.size 32 i0 11 Try.underlying22 hi _ _ _ hs h.own hx (hK _ _ _ h)
    | some ad =>
      have hsz := h.below.size
      refine wpList_append_own _ hg _ _ 22 hop w0.heap.size 32 i0 _ 11 80 Try.underlying22 hi hz0 hz1 hz2 rfl (by decide) _ _ _ hs h.own ad 0 c [] hx rfl (fun j u hj => by simp at hj) (by simp) (by unfold maxLen; omega) (by omega) (by omega) ?_
      intro v' w4 hown4 hgrow4 _
      obtain ⟨A', c', rfl⟩ := own_form hown4
      rw [hn] at hown4
      rw [hn]
      refine hK A' c' w4 ⟨?_, h.below.grown hgrow4 hsz (fun j e => (h.own.lt j e).1)⟩
      rw [hn]
      simpa using hown4
  · obtain ⟨b, off, rfl, _, hc⟩ := hc.addr hy
    exact h.appAll hn (by omega) hk hg s t hop hs ys hm b off c hx hc hz hK
end Go.Proofs.Ytbkaiffecnomjaa
