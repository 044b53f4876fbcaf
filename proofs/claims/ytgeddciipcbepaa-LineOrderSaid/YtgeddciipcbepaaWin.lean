/- A list of numbers of one's own that may be a window: one more behind, one less ahead. -/
import Derived.ArgAppend
import Derived.Test.YtgeddciipcbepaaLHead
import Derived.Test.YtgeddciipcbepaaRef3
namespace Go.Proofs.Ytgeddciipcbepaa
open Go.RowKit
attribute [local go_sem ↓] Go.wp_at_zero Go.wp_at_succ

/-- the slice .slice A n c holds the numbers xs, in a block made since w0 -/
structure Win (w0 w : World) (A : Option Addr) (n c : Nat) (xs : List Int) : Prop where
  below : Below w0.heap.size w0 w
  nc : n ≤ c
  len : xs.length = n
  nn : A = none → c = 0
  pl : ∀ a, A = some a → ∃ b off, a = ⟨b, off, none⟩ ∧ w0.heap.size ≤ b ∧ b < w.heap.size ∧ (∀ j, w.frozen? ⟨b, j, none⟩ = false) ∧ (∀ j, j < c → (w.cell? ⟨b, off + j, none⟩).isSome = true) ∧
    ∀ (k : Nat) x, xs[k]? = some x → w.cell? ⟨b, off + k, none⟩ = some (vI x)
theorem Win.is {w0 w : World} {A : Option Addr} {n c : Nat} {xs : List Int} (h : Win w0 w A n c xs) : IS w w.heap.size A xs := by
  intro k x hk
  cases hA : A with
  | none =>
    have h1 := h.nn hA
    have h2 := (List.getElem?_eq_some_iff.1 hk).1
    have := h.nc
    have := h.len
    omega
  | some a =>
    obtain ⟨b, off, rfl, _, h2, _, _, h5⟩ := h.pl a hA
    exact ⟨b, off, rfl, h2, h5 k x hk⟩
theorem Win.nil {w0 w : World} (h : Below w0.heap.size w0 w) : Win w0 w none 0 0 [] := ⟨h, Nat.le_refl _, rfl, fun _ => rfl, fun a h => by cases h⟩
theorem Win.on {w0 w w' : World} {A : Option Addr} {n c : Nat} {xs : List Int} (h : Win w0 w A n c xs) (hb : Below w.heap.size w w') : Win w0 w' A n c xs :=
  ⟨bthen h.below hb h.below.size, h.nc, h.len, h.nn, fun a ha => by
    obtain ⟨b, off, rfl, h1, h2, h3, h4, h5⟩ := h.pl a ha
    refine ⟨b, off, rfl, h1, Nat.lt_of_lt_of_le h2 hb.size, fun j => ?_, fun j hj => ?_, fun k x hk => ?_⟩
    · rw [Below.frozen hb (p := ⟨b, j, none⟩) h2]; exact h3 j
    · rw [hb.cell (p := ⟨b, off + j, none⟩) h2]; exact h4 j hj
    · rw [hb.cell (p := ⟨b, off + k, none⟩) h2]; exact h5 k x hk⟩
theorem win_own {w0 w : World} {base n c : Nat} {A : Option Addr} {xs : List Int} (h : w.ownsRow base 3 1 (.slice A n c) n (xs.map vI)) (hb : Below w0.heap.size w0 w) (hB : w0.heap.size ≤ base) : Win w0 w A n c xs := by
  have hlen : xs.length = n := by have := h.1; simpa using this
  rcases h.2 with ⟨h1, h2⟩ | ⟨g, cap, cur, h1, h2, h3, h4, h5, h6, h7⟩
  · injection h1 with e1 e2 e3
    subst e1 e3
    exact ⟨hb, by omega, hlen, fun _ => rfl, fun a h => by cases h⟩
  · injection h1 with e1 e2 e3
    subst e3
    refine ⟨hb, h4, hlen, fun e => (by rw [e] at e1; cases e1), fun a ha => ?_⟩
    rw [e1] at ha
    injection ha with ha
    subst ha
    have hc : ∀ j, w.cell? ⟨g, j, none⟩ = cur[j]? := fun j => by
      unfold World.cell?
      rw [show w.heap[(⟨g, j, none⟩ : Addr).block]? = _ from h3]
      simp
    refine ⟨g, 0, rfl, Nat.le_trans hB h2, (Array.getElem?_eq_some_iff.1 h3).1, fun j => ?_, fun j hj => ?_, fun k x hk => ?_⟩
    · unfold World.frozen?
      rw [show w.heap[(⟨g, j, none⟩ : Addr).block]? = _ from h3]
      simp
    · rw [hc, Nat.zero_add, Array.getElem?_eq_getElem (by omega)]; rfl
    · have hk1 := (List.getElem?_eq_some_iff.1 hk).1
      rw [hc, Nat.zero_add, ← Array.getElem?_toList]
      have : (cur.toList.take (n * 1))[k]? = some (vI x) := by rw [h7, List.getElem?_map, hk]; rfl
      rwa [List.getElem?_take_of_lt (by omega)] at this
theorem win_mine {w0 w1 w : World} {A : Option Addr} {n c : Nat} {xs : List Int} (h : Mine w1 w (.slice A n c) xs) (hb : Below w0.heap.size w0 w1) : Win w0 w A n c xs := by
  have hn := h.inv.1
  subst hn
  exact win_own h.own (bthen hb h.below hb.size) hb.size
theorem Win.tail {w0 w : World} {b off n c : Nat} {x : Int} {t : List Int} (h : Win w0 w (some ⟨b, off, none⟩) n c (x :: t)) : Win w0 w (some ⟨b, off + 1, none⟩) (n - 1) (c - 1) t := by
  have h1 := h.len
  have h2 := h.nc
  simp at h1
  refine ⟨h.below, by omega, by omega, fun e => (by cases e), fun a ha => ?_⟩
  injection ha with ha
  subst ha
  obtain ⟨b2, off2, e, k1, k2, k3, k4, k5⟩ := h.pl _ rfl
  injection e with e1 e2
  subst e1 e2
  refine ⟨b, off + 1, rfl, k1, k2, k3, fun j hj => ?_, fun k y hk => ?_⟩
  · have := k4 (1 + j) (by omega)
    rwa [← Nat.add_assoc] at this
  · have := k5 (k + 1) y hk
    rw [← this]
    congr 2
    omega
theorem Win.tail1 {w0 w : World} {A : Option Addr} {n c : Nat} {x : Int} {t : List Int} (h : Win w0 w A n c (x :: t)) (hc : c = 1) : Win w0 w A (n - 1) 0 t ∧ t = [] := by
  have h1 := h.len
  have h2 := h.nc
  simp at h1
  obtain rfl : t = [] := List.eq_nil_of_length_eq_zero (by omega)
  refine ⟨⟨h.below, by omega, by simp; omega, fun _ => rfl, fun a ha => ?_⟩, rfl⟩
  obtain ⟨b2, off2, e, k1, k2, k3, k4, k5⟩ := h.pl _ ha
  exact ⟨b2, off2, e, k1, k2, k3, fun j hj => by omega, fun k y hk => by simp at hk⟩
/-- a number more: what the walk is asked at an append -/
theorem Win.app {w0 w : World} {A : Option Addr} {n c : Nat} {xs : List Int} (h : Win w0 w A n c xs) {ops : Array Oper} {rest : List Oper} {o : Oper} {a : Act} {Q : Exit → Act → World → Prop} (hn2 : n ≤ 1000000)
    (hg : o.guard = none) (s t : Operand) (hop : o.op = Op.call { callee := Callee.builtin Builtin.append, args := #[s, t], argTypes := #[24, 24] }) (hs : a.eval s = .slice A n c) (y : Int) (hx : a.eval t = .slice (some ⟨w.heap.size, 0, none⟩) 1 1)
    (hK : ∀ A' c' w', Win w0 w' A' (n + 1) c' (xs ++ [y]) → wpList Try.prog ops Q rest (a.put o.dst (.slice A' (n + 1) c')) w') :
    wpList Try.prog ops Q (o :: rest) a (w.alloc (.cells #[vI y] 3)) := by
  obtain ⟨i0, hi, hz0, hz1, hz2⟩ := info_parts infoI2
  have hW := h.on (bnew w (.cells #[vI y] 3))
  have hlen : (xs ++ [y]).length = n + 1 := by simp [h.len]
  cases hA : A with
  | none =>
    have h1 := h.nn hA
    have h2 := h.nc
    obtain rfl : n = 0 := by omega
    obtain rfl : xs = [] := List.eq_nil_of_length_eq_zero h.len
    subst h1 hA
    refine wpList_append_own _ hg _ _ 24 hop (w.alloc (.cells #[vI y] 3)).heap.size 3 i0 (.int .i64 0) 1 8 Try.underlying24 hi hz0 hz1 hz2 rfl (by decide) _ _ _ hs (World.ownsRow_nil _ _ _ _) ⟨w.heap.size, 0, none⟩ 1 1 [vI y] hx rfl (cell_one_new _ _ _) (by simp [Value.oneCell']) (by unfold maxLen; omega) (by omega) (Nat.le_refl _) ?_
    intro v' w4 hown4 hgrow4 _
    obtain ⟨A', c', rfl⟩ := own_form hown4
    exact hK A' c' w4 (win_own hown4 (hW.below.grown hgrow4 hW.below.size (fun j e => by cases e)) hW.below.size)
  | some ad =>
    obtain ⟨b, off, rfl, k1, k2, k3, k4, k5⟩ := hW.pl ad hA
    subst hA
    refine wpList_append_arg _ hg _ _ 24 hop 3 i0 (.int .i64 0) 1 8 Try.underlying24 hi hz0 hz1 hz2 rfl (by decide) b off n c (xs.map vI) hs (by simp [h.len]) ?olds ⟨w.heap.size, 0, none⟩ 1 1 [vI y] hx rfl (cell_one_new _ _ _) (by simp [Value.oneCell']) ?spare (by unfold maxLen; omega) (by omega) ?room ?gr
    case olds =>
      intro j u hu
      rw [List.getElem?_map] at hu
      cases hj : xs[j]? with
      | none => rw [hj] at hu; cases hu
      | some z =>
        rw [hj] at hu
        injection hu with hu
        subst hu
        exact k5 j z hj
    case spare =>
      intro hr j hj
      obtain rfl : j = 0 := by simpa using hj
      rw [Nat.mul_one, Nat.add_zero]
      exact ⟨k4 n (by omega), k3 _⟩
    case room =>
      intro hr
      refine hK _ _ _ ⟨?_, hr, hlen, fun e => (by cases e), fun a2 ha => ?_⟩
      · simp only [World.setCells]
        exact hW.below.setCell (p := ⟨b, off + n * 1, none⟩) k1 _
      · injection ha with ha
        subst ha
        have hsome := k4 n (by omega)
        simp only [World.setCells, Nat.mul_one]
        refine ⟨b, off, rfl, k1, by simpa [World.setCell] using k2, fun j => ?_, fun j hj => ?_, fun k x hk => ?_⟩
        · rw [World.frozen?_setCell]; exact k3 j
        · by_cases e : j = n
          · subst e
            rw [World.cell?_setCell_same' _ _ _ hsome]; rfl
          · rw [World.cell?_setCell_other _ _ _ _ (by intro h'; injection h' with _ h'; omega)]
            exact k4 j hj
        · by_cases e : k = n
          · subst e
            rw [World.cell?_setCell_same' _ _ _ hsome]
            have hx2 : (xs ++ [y])[k]? = some y := by rw [List.getElem?_append_right (by rw [h.len]; exact Nat.le_refl _), h.len]; simp
            rw [hk] at hx2
            injection hx2 with hx2
            rw [hx2]
          · rw [World.cell?_setCell_other _ _ _ _ (by intro h'; injection h' with _ h'; omega)]
            have hk1 := (List.getElem?_eq_some_iff.1 hk).1
            rw [hlen] at hk1
            rw [List.getElem?_append_left (by rw [h.len]; omega)] at hk
            exact k5 k x hk
    case gr =>
      intro hr v' w4 hown4 hgrow4
      obtain ⟨A', c', rfl⟩ := own_form hown4
      exact hK A' c' w4 (win_own (xs := xs ++ [y]) (by rw [List.map_append]; exact hown4) (hW.below.grown hgrow4 hW.below.size (fun j e => by cases e)) hW.below.size)
end Go.Proofs.Ytgeddciipcbepaa
