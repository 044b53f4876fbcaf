/- Lists of numbers: where they lie; lists that were made by appends. -/
import Derived.Test.YtalmadeibnekoaaLow
import Derived.Test.YtalmadeibnekoaaKit
import Derived.Laws.AppendOwn
namespace Go.Proofs.Ytalmadeibnekoaa
open Go.RowKit
attribute [local go_sem ↓] Go.wp_at_zero Go.wp_at_succ

/-- the numbers xs lie in the slice at A, below M -/
def IS (w : World) (M : Nat) (A : Option Addr) (xs : List Int) : Prop := ∀ (k : Nat) x, xs[k]? = some x → ∃ b off, A = some ⟨b, off, none⟩ ∧ b < M ∧ w.cell? ⟨b, off + k, none⟩ = some (.int .i64 x)
theorem own_is {w : World} {base n c : Nat} {A : Option Addr} {xs : List Int} (h : w.ownsRow base 3 1 (.slice A n c) n (xs.map (Value.int .i64))) : IS w w.heap.size A xs ∧ xs.length = n ∧ n ≤ c := by
  have hlen : xs.length = n := by have := h.1; simpa using this
  rcases h.2 with ⟨h1, h2⟩ | ⟨g, cap, cur, h1, _, hg, h2, _⟩
  · cases h1
    obtain rfl : xs = [] := List.eq_nil_of_length_eq_zero (by omega)
    exact ⟨fun k x hk => by simp at hk, hlen, by omega⟩
  · cases h1
    refine ⟨fun k x hk => ⟨g, 0, rfl, (Array.getElem?_eq_some_iff.1 hg).1, ?_⟩, hlen, h2⟩
    have := h.cells (g := g) rfl k (.int .i64 x) (by rw [List.getElem?_map, hk]; rfl)
    have ha : (⟨g, 0, none⟩ : Addr).add k = ⟨g, 0 + k, none⟩ := by unfold Addr.add; split <;> simp_all
    rw [ha] at this
    exact this
theorem own_mono {w : World} {b b' e size n : Nat} {v : Value} {xs : List Value} (h : w.ownsRow b e size v n xs) (hb : b' ≤ b) : w.ownsRow b' e size v n xs :=
  ⟨h.1, h.2.imp id fun ⟨g, cap, cur, h1, h2, h3⟩ => ⟨g, cap, cur, h1, Nat.le_trans hb h2, h3⟩⟩
theorem own_form {w : World} {base e size n : Nat} {v : Value} {xs : List Value} (h : w.ownsRow base e size v n xs) : ∃ A c, v = .slice A n c := by
  rcases h.2 with ⟨h1, h2⟩ | ⟨g, cap, cur, h1, _⟩
  · exact ⟨none, 0, by rw [h1, h2]⟩
  · exact ⟨_, _, h1⟩
theorem infoI2 : (Try.prog.info? 3).map (fun i => (i.zero, i.size, i.bytes)) = some (some (.int .i64 0), 1, 8) := by kernel_rfl

theorem IS.below {w w' : World} {N : Nat} {A : Option Addr} {xs : List Int} (h : IS w N A xs) (hb : Below N w w') : IS w' N A xs := by
  intro k x hk
  obtain ⟨b, off, rfl, h1, h2⟩ := h k x hk
  exact ⟨b, off, rfl, h1, (hb.cell (p := ⟨b, off + k, none⟩) h1).trans h2⟩
theorem IS.more {w : World} {N M : Nat} {A : Option Addr} {xs : List Int} (h : IS w N A xs) (hm : N ≤ M) : IS w M A xs := by
  intro k x hk
  obtain ⟨b, off, rfl, h1, h2⟩ := h k x hk
  exact ⟨b, off, rfl, Nat.lt_of_lt_of_le h1 hm, h2⟩
theorem IS.on {w w' : World} {A : Option Addr} {xs : List Int} (h : IS w w.heap.size A xs) (hb : Below w.heap.size w w') : IS w' w'.heap.size A xs := (h.below hb).more hb.size
theorem num_some {xs : List Int} {k : Nat} (h : k < xs.length) : ∃ x, xs[k]? = some x := ⟨xs[k], by simp⟩
theorem take_eq {xs ys : List Int} {k : Nat} {x y : Int} (h : xs.take k = ys.take k) (h1 : xs[k]? = some x) (h2 : ys[k]? = some y) (h3 : x = y) : xs.take (k + 1) = ys.take (k + 1) := by
  rw [List.take_add_one, List.take_add_one, h, h1, h2, h3]
theorem bdrew {N : Nat} {a w : World} (h : Below N a w) (n : Nat) : Below N a (w.drewN n) := ⟨h.os, h.tape, h.output, h.size, h.block⟩
theorem cell_one_new (w : World) (v : Value) (t : TypeId) : ∀ j u, ([v] : List Value)[j]? = some u → (w.alloc (.cells #[v] t)).cell? ((⟨w.heap.size, 0, none⟩ : Addr).add j) = some u := by
  intro j u hj
  rcases j with _ | j
  · simp at hj
    subst hj
    simp [Addr.add]
  · simp at hj
def RetInts (w : World) (xs : List Int) (e : Ending) (w' : World) : Prop := ∃ A c, e = .returned (.slice A xs.length c) ∧ xs.length ≤ c ∧ IS w' w'.heap.size A xs ∧ Below w.heap.size w w'
/-- a list of numbers that was made since w0, its slice v -/
structure Mine (w0 w : World) (v : Value) (xs : List Int) : Prop where
  own : w.ownsRow w0.heap.size 3 1 v xs.length (xs.map (Value.int .i64))
  below : Below w0.heap.size w0 w
theorem Mine.form {w0 w : World} {v : Value} {xs : List Int} (h : Mine w0 w v xs) : ∃ A c, v = .slice A xs.length c := own_form h.own
theorem Mine.ret {w0 w : World} {A : Option Addr} {n c : Nat} {xs : List Int} (h : Mine w0 w (.slice A n c) xs) : RetInts w0 xs (.returned (.slice A n c)) w := by
  obtain ⟨A2, c2, e⟩ := h.form
  injection e with e1 e2 e3
  subst e1 e2 e3
  obtain ⟨h1, h2, h3⟩ := own_is h.own
  exact ⟨A, c, rfl, h3, h1, h.below⟩
theorem Mine.inv {w0 w : World} {A : Option Addr} {n c : Nat} {xs : List Int} (h : Mine w0 w (.slice A n c) xs) : xs.length = n ∧ IS w w.heap.size A xs ∧ Below w0.heap.size w0 w ∧ ((A = none ∧ n = 0 ∧ c = 0) ∨ (∃ g, A = some ⟨g, 0, none⟩ ∧ n ≤ c)) := by
  obtain ⟨A2, c2, e⟩ := h.form
  injection e with e1 e2 e3
  subst e1 e2 e3
  obtain ⟨h1, h2, h3⟩ := own_is h.own
  refine ⟨rfl, h1, h.below, ?_⟩
  rcases h.own.2 with ⟨e, hn⟩ | ⟨g, cap, cur, e, _⟩
  · injection e with e1 e2 e3
    exact .inl ⟨e1, e2, e3⟩
  · injection e with e1 e2 e3
    exact .inr ⟨g, e1, h3⟩
/-- a number more: what the walk is asked at an append -/
theorem Mine.app {w0 w : World} {v : Value} {xs : List Int} (h : Mine w0 w v xs) {ops : Array Oper} {rest : List Oper} {o : Oper} {a : Act} {Q : Exit → Act → World → Prop} {n : Nat} (hn : xs.length = n) (hn2 : n ≤ 1000000)
    (hg : o.guard = none) (s t : Operand) (hop : o.op = Op.call { callee := Callee.builtin Builtin.append, args := #[s, t], argTypes := #[32, 32] }) (hs : a.eval s = v) (y : Int) (c : Nat) (hx : a.eval t = .slice (some ⟨w.heap.size, 0, none⟩) 1 c)
    (hK : ∀ A' c' w', Mine w0 w' (.slice A' (n + 1) c') (xs ++ [y]) → wpList Try.prog ops Q rest (a.put o.dst (.slice A' (n + 1) c')) w') :
    wpList Try.prog ops Q (o :: rest) a (w.alloc (.cells #[Value.int .i64 y] 3)) := by
  obtain ⟨i0, hi, hz0, hz1, hz2⟩ := info_parts infoI2
  have hsz := h.below.size
  refine wpList_append_own _ hg _ _ 32 hop w0.heap.size 3 i0 (.int .i64 0) 1 8 Try.underlying32 hi hz0 hz1 hz2 rfl (by decide) _ _ _ hs (h.own.alloc _) ⟨w.heap.size, 0, none⟩ 1 c [Value.int .i64 y] hx rfl (cell_one_new _ _ _) (by simp [Value.oneCell']) (by unfold maxLen; omega) (by omega) (by simp; omega) ?_
  intro v' w4 hown4 hgrow4 _
  have hlen : (xs ++ [y]).length = n + 1 := by simp [hn]
  rw [hn] at hown4
  obtain ⟨A', c', rfl⟩ := own_form hown4
  exact hK A' c' w4 ⟨by rw [hlen]; simpa using hown4, (h.below.alloc hsz _).grown hgrow4 (by simp; omega) (fun j e => (h.own.lt j e).1)⟩
theorem Mine.nil {w0 w : World} (h : Below w0.heap.size w0 w) : Mine w0 w (.slice none 0 0) [] := ⟨World.ownsRow_nil _ _ _ _, h⟩

set_option maxRecDepth 100000 in
theorem Mine.appAll {w0 w : World} {v : Value} {xs : List Int} (h : Mine w0 w v xs) {ops : Array Oper} {rest : List Oper} {o : Oper} {a : Act} {Q : Exit → Act → World → Prop} {n m k : Nat} {zs : List Int} (hn : xs.length = n) (hn2 : n + m ≤ 1000000) (hk : n + m = k)
    (hg : o.guard = none) (s t : Operand) (hop : o.op = Op.call { callee := Callee.builtin Builtin.append, args := #[s, t], argTypes := #[32, 32] }) (hs : a.eval s = v) (ys : List Int) (hm : ys.length = m) (b off c : Nat) (hx : a.eval t = .slice (some ⟨b, off, none⟩) m c)
    (hc : ∀ k y, ys[k]? = some y → w.cell? ⟨b, off + k, none⟩ = some (Value.int .i64 y))
    (hz : xs ++ ys = zs)
    (hK : ∀ A' c' w', Mine w0 w' (.slice A' k c') zs → wpList Try.prog ops Q rest (a.put o.dst (.slice A' k c')) w') :
    wpList Try.prog ops Q (o :: rest) a w := by
  subst hk
  subst hz
  obtain ⟨i0, hi, hz0, hz1, hz2⟩ := info_parts infoI2
  have hsz := h.below.size
  refine wpList_append_own _ hg _ _ 32 hop w0.heap.size 3 i0 (.int .i64 0) 1 8 Try.underlying32 hi hz0 hz1 hz2 rfl (by decide) _ _ _ hs h.own ⟨b, off, none⟩ m c (ys.map (Value.int .i64)) hx (by simp [hm]) (fun j u hj => ?_) (by simp [Value.oneCell']) (by unfold maxLen; omega) (by omega) (by omega) ?_
  · rw [List.getElem?_map] at hj
    cases hy : ys[j]? with
    | none => rw [hy] at hj; cases hj
    | some y =>
      rw [hy] at hj
      injection hj with hj
      subst hj
      have ha : (⟨b, off, none⟩ : Addr).add j = ⟨b, off + j, none⟩ := by unfold Addr.add; split <;> simp_all
      rw [ha]
      exact hc j y hy
  intro v' w4 hown4 hgrow4 _
  have hlen : (xs ++ ys).length = n + m := by simp [hn, hm]
  rw [hn] at hown4
  obtain ⟨A', c', rfl⟩ := own_form hown4
  exact hK A' c' w4 ⟨by rw [hlen, List.map_append]; exact hown4, h.below.grown hgrow4 hsz (fun j e => (h.own.lt j e).1)⟩
theorem mine_empty (w : World) : Mine w (w.alloc (.cells #[] 3)) (.slice (some ⟨w.heap.size, 0, none⟩) 0 0) [] :=
  ⟨⟨rfl, .inr ⟨w.heap.size, 0, #[], rfl, Nat.le_refl _, heap_alloc_new w _, Nat.le_refl _, by unfold maxLen; omega, rfl, rfl⟩⟩, (Below.refl _ _).alloc (Nat.le_refl _) _⟩
set_option maxRecDepth 100000 in
theorem Mine.appAt {w0 w : World} {v : Value} {xs : List Int} (h : Mine w0 w v xs) {ops : Array Oper} {rest : List Oper} {o : Oper} {a : Act} {Q : Exit → Act → World → Prop} {n : Nat} (hn : xs.length = n) (hn2 : n ≤ 1000000) (g : Nat) (eg : g = w.heap.size)
    (hg : o.guard = none) (s t : Operand) (hop : o.op = Op.call { callee := Callee.builtin Builtin.append, args := #[s, t], argTypes := #[32, 32] }) (hs : a.eval s = v) (y : Int) (c : Nat) (hx : a.eval t = .slice (some ⟨g, 0, none⟩) 1 c)
    (hK : ∀ A' c' w', Mine w0 w' (.slice A' (n + 1) c') (xs ++ [y]) → wpList Try.prog ops Q rest (a.put o.dst (.slice A' (n + 1) c')) w') :
    wpList Try.prog ops Q (o :: rest) a (w.alloc (.cells #[Value.int .i64 y] 3)) := by
  subst eg
  exact h.app hn hn2 hg s t hop hs y c hx hK
/-- a number of one's own list set: what the walk is asked, and what comes of it -/
theorem Mine.place {w0 w : World} {A : Option Addr} {n c k : Nat} {xs : List Int} (h : Mine w0 w (.slice A n c) xs) (hk : k < n) : ∃ g x, A = some ⟨g, 0, none⟩ ∧ w0.heap.size ≤ g ∧ w.cell? ⟨g, k, none⟩ = some (Value.int .i64 x) ∧ w.frozen? ⟨g, k, none⟩ = false ∧
    ∀ y, IS (w.setCell ⟨g, k, none⟩ (Value.int .i64 y)) (w.setCell ⟨g, k, none⟩ (Value.int .i64 y)).heap.size A (xs.set k y) ∧ Below w0.heap.size w0 (w.setCell ⟨g, k, none⟩ (Value.int .i64 y)) := by
  obtain ⟨hl, hI, hB, _⟩ := h.inv
  rcases h.own.2 with ⟨h1, h2⟩ | ⟨g, cap, cur, h1, h2, h3, _⟩
  · omega
  · injection h1 with e1 e2 e3
    obtain ⟨x, hx⟩ := num_some (xs := xs) (k := k) (by omega)
    obtain ⟨b, off, e, hb, hc⟩ := hI k x hx
    rw [e1] at e
    injection e with e
    injection e with e4 e5
    subst e4 e5
    rw [Nat.zero_add] at hc
    have hs : (w.cell? ⟨g, k, none⟩).isSome = true := by rw [hc]; rfl
    refine ⟨g, x, e1, h2, hc, ?_, fun y => ⟨fun j z hz => ?_, hB.setCell (p := ⟨g, k, none⟩) h2 _⟩⟩
    · unfold World.frozen?
      rw [show w.heap[(⟨g, k, none⟩ : Addr).block]? = _ from h3]
      simp
    · refine ⟨g, 0, e1, by simpa [World.setCell] using hb, ?_⟩
      rw [Nat.zero_add]
      by_cases ej : j = k
      · subst ej
        rw [World.cell?_setCell_same' _ _ _ hs]
        rw [List.getElem?_set_self (by omega)] at hz
        injection hz with hz
        rw [hz]
      · rw [World.cell?_setCell_other _ _ _ _ (by intro h'; injection h' with _ h'; omega)]
        rw [List.getElem?_set_ne (by omega)] at hz
        obtain ⟨b, off, e, _, hc2⟩ := hI j z hz
        rw [e1] at e
        injection e with e
        injection e with e4 e5
        subst e4 e5
        rwa [Nat.zero_add] at hc2
end Go.Proofs.Ytalmadeibnekoaa
