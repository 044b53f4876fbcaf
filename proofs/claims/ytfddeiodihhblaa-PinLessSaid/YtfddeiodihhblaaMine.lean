/- Lists of numbers that were made by appends; one number of them set. -/
import Derived.Test.YtfddeiodihhblaaAwake
namespace Go.Proofs.Ytfddeiodihhblaa
open Go.RowKit
attribute [local go_sem ↓] Go.wp_at_zero Go.wp_at_succ

def RetInts (w : World) (xs : List Int) (e : Ending) (w' : World) : Prop := ∃ A c, e = .returned (.slice A xs.length c) ∧ xs.length ≤ c ∧ IS w' w'.heap.size A xs ∧ Below w.heap.size w w'
/-- a list of numbers that was made since w0, its slice v -/
structure Mine (w0 w : World) (v : Value) (xs : List Int) : Prop where
  own : w.ownsRow w0.heap.size 3 1 v xs.length (xs.map vI)
  below : Below w0.heap.size w0 w
theorem Mine.form {w0 w : World} {v : Value} {xs : List Int} (h : Mine w0 w v xs) : ∃ A c, v = .slice A xs.length c := own_form h.own
theorem Mine.ret {w0 w : World} {A : Option Addr} {n c : Nat} {xs : List Int} (h : Mine w0 w (.slice A n c) xs) : RetInts w0 xs (.returned (.slice A n c)) w := by
  obtain ⟨A2, c2, e⟩ := h.form
  injection e with e1 e2 e3
  subst e1 e2 e3
  obtain ⟨h1, h2, h3⟩ := own_is h.own
  exact ⟨A, c, rfl, h3, h1, h.below⟩
theorem Mine.inv {w0 w : World} {A : Option Addr} {n c : Nat} {xs : List Int} (h : Mine w0 w (.slice A n c) xs) : xs.length = n ∧ IS w w.heap.size A xs ∧ Below w0.heap.size w0 w ∧ ((A = none ∧ n = 0 ∧ c = 0) ∨ (∃ g, A = some ⟨g, 0, none⟩ ∧ n ≤ c)) := by
  obtain ⟨A2, c2, e⟩ := h.form
  injection e with e1 e2 e3
  subst e1 e2 e3
  obtain ⟨h1, h2, h3⟩ := own_is h.own
  refine ⟨rfl, h1, h.below, ?_⟩
  rcases h.own.2 with ⟨e, hn⟩ | ⟨g, cap, cur, e, _⟩
  · injection e with e1 e2 e3
    exact .inl ⟨e1, e2, e3⟩
  · injection e with e1 e2 e3
    exact .inr ⟨g, e1, h3⟩
/-- a number more: what the walk is asked at an append -/
theorem Mine.app {w0 w : World} {v : Value} {xs : List Int} (h : Mine w0 w v xs) {ops : Array Oper} {rest : List Oper} {o : Oper} {a : Act} {Q : Exit → Act → World → Prop} {n : Nat} (hn : xs.length = n) (hn2 : n ≤ 1000000)
    (hg : o.guard = none) (s t : Operand) (hop : o.op = Op.call { callee := Callee.builtin Builtin.append, args := #[s, t], argTypes := #[22, 22] }) (hs : a.eval s = v) (y : Int) (c : Nat) (hx : a.eval t = .slice (some ⟨w.heap.size, 0, none⟩) 1 c)
    (hK : ∀ A' c' w', Mine w0 w' (.slice A' (n + 1) c') (xs ++ [y]) → wpList Try.prog ops Q rest (a.put o.dst (.slice A' (n + 1) c')) w') :
    wpList Try.prog ops Q (o :: rest) a (w.alloc (.cells #[vI y] 3)) := by
  obtain ⟨i0, hi, hz0, hz1, hz2⟩ := info_parts infoI2
  have hsz := h.below.size
  refine wpList_append_own _ hg _ _ 22 hop w0.heap.size 3 i0 (.int .i64 0) 1 8 Try.underlying22 hi hz0 hz1 hz2 rfl (by decide) _ _ _ hs (h.own.alloc _) ⟨w.heap.size, 0, none⟩ 1 c [vI y] hx rfl (cell_one_new _ _ _) (by simp [Value.oneCell']) (by unfold maxLen; omega) (by omega) (by simp; omega) ?_
  intro v' w4 hown4 hgrow4 _
  have hlen : (xs ++ [y]).length = n + 1 := by simp [hn]
  rw [hn] at hown4
  obtain ⟨A', c', rfl⟩ := own_form hown4
  exact hK A' c' w4 ⟨by rw [hlen]; simpa using hown4, (h.below.alloc hsz _).grown hgrow4 (by simp; omega) (fun j e => (h.own.lt j e).1)⟩
theorem Mine.nil {w0 w : World} (h : Below w0.heap.size w0 w) : Mine w0 w (.slice none 0 0) [] := ⟨World.ownsRow_nil _ _ _ _, h⟩

theorem Mine.appAll {w0 w : World} {v : Value} {xs : List Int} (h : Mine w0 w v xs) {ops : Array Oper} {rest : List Oper} {o : Oper} {a : Act} {Q : Exit → Act → World → Prop} {n m k : Nat} {zs : List Int} (hn : xs.length = n) (hn2 : n + m ≤ 1000000) (hk : n + m = k)
    (hg : o.guard = none) (s t : Operand) (hop : o.op = Op.call { callee := Callee.builtin Builtin.append, args := #[s, t], argTypes := #[22, 22] }) (hs : a.eval s = v) (ys : List Int) (hm : ys.length = m) (b off c : Nat) (hx : a.eval t = .slice (some ⟨b, off, none⟩) m c)
    (hc : ∀ k y, ys[k]? = some y → w.cell? ⟨b, off + k, none⟩ = some (vI y))
    (hz : xs ++ ys = zs)
    (hK : ∀ A' c' w', Mine w0 w' (.slice A' k c') zs → wpList Try.prog ops Q rest (a.put o.dst (.slice A' k c')) w') :
    wpList Try.prog ops Q (o :: rest) a w := by
  subst hk
  subst hz
  obtain ⟨i0, hi, hz0, hz1, hz2⟩ := info_parts infoI2
  have hsz := h.below.size
  refine wpList_append_own _ hg _ _ 22 hop w0.heap.size 3 i0 (.int .i64 0) 1 8 Try.underlying22 hi hz0 hz1 hz2 rfl (by decide) _ _ _ hs h.own ⟨b, off, none⟩ m c (ys.map vI) hx (by simp [hm]) (fun j u hj => ?_) (by simp [Value.oneCell']) (by unfold maxLen; omega) (by omega) (by omega) ?_
  · rw [List.getElem?_map] at hj
    cases hy : ys[j]? with
    | none => rw [hy] at hj; cases hj
    | some y =>
      rw [hy] at hj
      injection hj with hj
      subst hj
      have ha : (⟨b, off, none⟩ : Addr).add j = ⟨b, off + j, none⟩ := by unfold Addr.add; split <;> simp_all
      rw [ha]
      exact hc j y hy
  intro v' w4 hown4 hgrow4 _
  have hlen : (xs ++ ys).length = n + m := by simp [hn, hm]
  rw [hn] at hown4
  obtain ⟨A', c', rfl⟩ := own_form hown4
  exact hK A' c' w4 ⟨by rw [hlen, List.map_append]; exact hown4, h.below.grown hgrow4 hsz (fun j e => (h.own.lt j e).1)⟩
theorem mine_empty (w : World) : Mine w (w.alloc (.cells #[] 3)) (.slice (some ⟨w.heap.size, 0, none⟩) 0 0) [] :=
  ⟨⟨rfl, .inr ⟨w.heap.size, 0, #[], rfl, Nat.le_refl _, World.alloc_heap_new w _, Nat.le_refl _, by unfold maxLen; omega, rfl, rfl⟩⟩, bnew _ _⟩
theorem Mine.appAt {w0 w : World} {v : Value} {xs : List Int} (h : Mine w0 w v xs) {ops : Array Oper} {rest : List Oper} {o : Oper} {a : Act} {Q : Exit → Act → World → Prop} {n : Nat} (hn : xs.length = n) (hn2 : n ≤ 1000000) (g : Nat) (eg : g = w.heap.size)
    (hg : o.guard = none) (s t : Operand) (hop : o.op = Op.call { callee := Callee.builtin Builtin.append, args := #[s, t], argTypes := #[22, 22] }) (hs : a.eval s = v) (y : Int) (c : Nat) (hx : a.eval t = .slice (some ⟨g, 0, none⟩) 1 c)
    (hK : ∀ A' c' w', Mine w0 w' (.slice A' (n + 1) c') (xs ++ [y]) → wpList Try.prog ops Q rest (a.put o.dst (.slice A' (n + 1) c')) w') :
    wpList Try.prog ops Q (o :: rest) a (w.alloc (.cells #[vI y] 3)) := by
  subst eg
  exact h.app hn hn2 hg s t hop hs y c hx hK
/-- a number of one's own list set: what the walk is asked, and what comes of it -/
theorem Mine.place {w0 w : World} {A : Option Addr} {n c k : Nat} {xs : List Int} (h : Mine w0 w (.slice A n c) xs) (hk : k < n) : ∃ g x, A = some ⟨g, 0, none⟩ ∧ w0.heap.size ≤ g ∧ w.cell? ⟨g, k, none⟩ = some (vI x) ∧ w.frozen? ⟨g, k, none⟩ = false ∧
    ∀ y, IS (w.setCell ⟨g, k, none⟩ (vI y)) (w.setCell ⟨g, k, none⟩ (vI y)).heap.size A (xs.set k y) ∧ Below w0.heap.size w0 (w.setCell ⟨g, k, none⟩ (vI y)) := by
  obtain ⟨hl, hI, hB, _⟩ := h.inv
  rcases h.own.2 with ⟨h1, h2⟩ | ⟨g, cap, cur, h1, h2, h3, _⟩
  · omega
  · injection h1 with e1 e2 e3
    obtain ⟨x, hx⟩ := num_some (xs := xs) (k := k) (by omega)
    obtain ⟨b, off, e, hb, hc⟩ := hI k x hx
    rw [e1] at e
    injection e with e
    injection e with e4 e5
    subst e4 e5
    rw [Nat.zero_add] at hc
    have hs : (w.cell? ⟨g, k, none⟩).isSome = true := by rw [hc]; rfl
    refine ⟨g, x, e1, h2, hc, ?_, fun y => ⟨fun j z hz => ?_, hB.setCell (p := ⟨g, k, none⟩) h2 _⟩⟩
    · unfold World.frozen?
      rw [show w.heap[(⟨g, k, none⟩ : Addr).block]? = _ from h3]
      simp
    · refine ⟨g, 0, e1, by simpa [World.setCell] using hb, ?_⟩
      rw [Nat.zero_add]
      by_cases ej : j = k
      · subst ej
        rw [World.cell?_setCell_same' _ _ _ hs]
        rw [List.getElem?_set_self (by omega)] at hz
        injection hz with hz
        rw [hz]
      · rw [World.cell?_setCell_other _ _ _ _ (by intro h'; injection h' with _ h'; omega)]
        rw [List.getElem?_set_ne (by omega)] at hz
        obtain ⟨b, off, e, _, hc2⟩ := hI j z hz
        rw [e1] at e
        injection e with e
        injection e with e4 e5
        subst e4 e5
        rwa [Nat.zero_add] at hc2
end Go.Proofs.Ytfddeiodihhblaa
