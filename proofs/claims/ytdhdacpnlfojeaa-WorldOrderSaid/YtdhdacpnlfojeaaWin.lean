/- A list of bools of one's own that may be a window: one more behind, one less ahead; which blocks turn. -/
import Derived.ArgAppend
import Derived.Laws.AppendOwn
import Derived.Test.YtdhdacpnlfojeaaMine
namespace Go.Proofs.Ytdhdacpnlfojeaa
open Go.RowKit
attribute [local go_sem ↓] Go.wp_at_zero Go.wp_at_succ

/-- the block that a slice points to -/
def Blk (A : Option Addr) : Nat → Prop := fun k => ∃ a, A = some a ∧ k = a.block
/-- the slice .slice A n c holds the bools xs, in a block made since w0 -/
structure Win (w0 w : World) (A : Option Addr) (n c : Nat) (xs : List Bool) : Prop where
  nc : n ≤ c
  len : xs.length = n
  nn : A = none → c = 0
  pl : ∀ a, A = some a → ∃ b off, a = ⟨b, off, none⟩ ∧ w0.heap.size ≤ b ∧ b < w.heap.size ∧ (∀ j, w.frozen? ⟨b, j, none⟩ = false) ∧ (∀ j, j < c → (w.cell? ⟨b, off + j, none⟩).isSome = true) ∧
    ∀ (k : Nat) x, xs[k]? = some x → w.cell? ⟨b, off + k, none⟩ = some (vB x)
theorem Win.is {w0 w : World} {A : Option Addr} {n c : Nat} {xs : List Bool} (h : Win w0 w A n c xs) : BS w w.heap.size A xs := by
  intro k x hk
  cases hA : A with
  | none =>
    have h1 := h.nn hA
    have h2 := (List.getElem?_eq_some_iff.1 hk).1
    have := h.nc
    have := h.len
    omega
  | some a =>
    obtain ⟨b, off, rfl, _, h2, _, _, h5⟩ := h.pl a hA
    exact ⟨b, off, rfl, h2, h5 k x hk⟩
theorem Win.nil (w0 w : World) : Win w0 w none 0 0 [] := ⟨Nat.le_refl _, rfl, fun _ => rfl, fun a h => by cases h⟩
theorem Win.keep {w0 w w' : World} {A : Option Addr} {n c : Nat} {xs : List Bool} (h : Win w0 w A n c xs) (hz : w.heap.size ≤ w'.heap.size) (hb : ∀ k, k < w.heap.size → Blk A k → w'.heap[k]? = w.heap[k]?) : Win w0 w' A n c xs :=
  ⟨h.nc, h.len, h.nn, fun a ha => by
    obtain ⟨b, off, rfl, h1, h2, h3, h4, h5⟩ := h.pl a ha
    have e := hb b h2 ⟨_, ha, rfl⟩
    refine ⟨b, off, rfl, h1, Nat.lt_of_lt_of_le h2 hz, fun j => ?_, fun j hj => ?_, fun k x hk => ?_⟩
    · rw [World.frozen?_of_block (w := w) (a := ⟨b, j, none⟩) e]; exact h3 j
    · rw [World.cell?_of_block (w := w) (a := ⟨b, off + j, none⟩) e]; exact h4 j hj
    · rw [World.cell?_of_block (w := w) (a := ⟨b, off + k, none⟩) e]; exact h5 k x hk⟩
theorem Win.on {w0 w w' : World} {A : Option Addr} {n c : Nat} {xs : List Bool} (h : Win w0 w A n c xs) (hb : Below w.heap.size w w') : Win w0 w' A n c xs := h.keep hb.size (fun k hk _ => hb.block k hk)
theorem Win.lt {w0 w : World} {A : Option Addr} {n c : Nat} {xs : List Bool} (h : Win w0 w A n c xs) {k : Nat} (hk : Blk A k) : w0.heap.size ≤ k ∧ k < w.heap.size := by
  obtain ⟨a, ha, rfl⟩ := hk
  obtain ⟨b, off, rfl, h1, h2, _⟩ := h.pl a ha
  exact ⟨h1, h2⟩
theorem win_own {w0 w : World} {base n c : Nat} {A : Option Addr} {xs : List Bool} (h : w.ownsRow base 4 1 (.slice A n c) n (xs.map vB)) (hB : w0.heap.size ≤ base) : Win w0 w A n c xs ∧ ∀ k, Blk A k → base ≤ k := by
  have hlen : xs.length = n := by have := h.1; simpa using this
  rcases h.2 with ⟨h1, h2⟩ | ⟨g, cap, cur, h1, h2, h3, h4, h5, h6, h7⟩
  · injection h1 with e1 e2 e3
    subst e1 e3
    exact ⟨⟨by omega, hlen, fun _ => rfl, fun a h => by cases h⟩, fun k hk => by obtain ⟨a, e, _⟩ := hk; cases e⟩
  · injection h1 with e1 e2 e3
    subst e3
    refine ⟨⟨h4, hlen, fun e => (by rw [e] at e1; cases e1), fun a ha => ?_⟩, fun k hk => by obtain ⟨a, e, rfl⟩ := hk; rw [e1] at e; injection e with e; subst e; exact h2⟩
    rw [e1] at ha
    injection ha with ha
    subst ha
    have hc : ∀ j, w.cell? ⟨g, j, none⟩ = cur[j]? := fun j => by
      unfold World.cell?
      rw [show w.heap[(⟨g, j, none⟩ : Addr).block]? = _ from h3]
      simp
    refine ⟨g, 0, rfl, Nat.le_trans hB h2, (Array.getElem?_eq_some_iff.1 h3).1, fun j => ?_, fun j hj => ?_, fun k x hk => ?_⟩
    · unfold World.frozen?
      rw [show w.heap[(⟨g, j, none⟩ : Addr).block]? = _ from h3]
      simp
    · rw [hc, Nat.zero_add, Array.getElem?_eq_getElem (by omega)]; rfl
    · have hk1 := (List.getElem?_eq_some_iff.1 hk).1
      rw [hc, Nat.zero_add, ← Array.getElem?_toList]
      have : (cur.toList.take (n * 1))[k]? = some (vB x) := by rw [h7, List.getElem?_map, hk]; rfl
      rwa [List.getElem?_take_of_lt (by omega)] at this
theorem Win.tail {w0 w : World} {b off n c : Nat} {x : Bool} {t : List Bool} (h : Win w0 w (some ⟨b, off, none⟩) n c (x :: t)) : Win w0 w (some ⟨b, off + 1, none⟩) (n - 1) (c - 1) t := by
  have h1 := h.len
  have h2 := h.nc
  simp at h1
  refine ⟨by omega, by omega, fun e => (by cases e), fun a ha => ?_⟩
  injection ha with ha
  subst ha
  obtain ⟨b2, off2, e, k1, k2, k3, k4, k5⟩ := h.pl _ rfl
  injection e with e1 e2
  subst e1 e2
  refine ⟨b, off + 1, rfl, k1, k2, k3, fun j hj => ?_, fun k y hk => ?_⟩
  · have := k4 (1 + j) (by omega)
    rwa [← Nat.add_assoc] at this
  · have := k5 (k + 1) y hk
    rw [← this]
    congr 2
    omega
theorem Win.tail1 {w0 w : World} {A : Option Addr} {n c : Nat} {x : Bool} {t : List Bool} (h : Win w0 w A n c (x :: t)) (hc : c = 1) : Win w0 w A (n - 1) 0 t ∧ t = [] := by
  have h1 := h.len
  have h2 := h.nc
  simp at h1
  obtain rfl : t = [] := List.eq_nil_of_length_eq_zero (by omega)
  refine ⟨⟨by omega, by simp; omega, fun _ => rfl, fun a ha => ?_⟩, rfl⟩
  obtain ⟨b2, off2, e, k1, k2, k3, k4, k5⟩ := h.pl _ ha
  exact ⟨b2, off2, e, k1, k2, k3, fun j hj => by omega, fun k y hk => by simp at hk⟩
theorem spx_grown {X : Nat → Prop} {w w4 : World} (h : w.grownBy w4 none) : SpX X w w4 := ⟨h.os, h.tape, h.output, h.size, fun k hk _ => h.block k hk (fun e => by cases e)⟩
/-- a bool more: what the walk is asked at an append -/
theorem Win.app {w0 w : World} {A : Option Addr} {n c : Nat} {xs : List Bool} (h : Win w0 w A n c xs) (hw0 : w0.heap.size ≤ w.heap.size) {ops : Array Oper} {rest : List Oper} {o : Oper} {a : Act} {Q : Exit → Act → World → Prop} (hn2 : n ≤ 1000000)
    (hg : o.guard = none) (s t : Operand) (hop : o.op = Op.call { callee := Callee.builtin Builtin.append, args := #[s, t], argTypes := #[27, 27] }) (hs : a.eval s = .slice A n c) (y : Bool) (hx : a.eval t = .slice (some ⟨w.heap.size, 0, none⟩) 1 1)
    (hK : ∀ A' c' w', Win w0 w' A' (n + 1) c' (xs ++ [y]) → SpX (Blk A) w w' → (∀ k, Blk A' k → Blk A k ∨ w.heap.size ≤ k) → wpList Try.prog ops Q rest (a.put o.dst (.slice A' (n + 1) c')) w') :
    wpList Try.prog ops Q (o :: rest) a (w.alloc (.cells #[vB y] 4)) := by
  obtain ⟨i0, hi, hz0, hz1, hz2⟩ := info_parts infoB2
  have hW := h.on (bnew w (.cells #[vB y] 4))
  have hs0 : SpX (Blk A) w (w.alloc (.cells #[vB y] 4)) := .of_below (bnew w _)
  have hlen : (xs ++ [y]).length = n + 1 := by simp [h.len]
  cases hA : A with
  | none =>
    have h1 := h.nn hA
    have h2 := h.nc
    obtain rfl : n = 0 := by omega
    obtain rfl : xs = [] := List.eq_nil_of_length_eq_zero h.len
    subst h1 hA
    refine wpList_append_own _ hg _ _ 27 hop (w.alloc (.cells #[vB y] 4)).heap.size 4 i0 (.bool false) 1 1 Try.underlying27 hi hz0 hz1 hz2 rfl (by decide) _ _ _ hs (World.ownsRow_nil _ _ _ _) ⟨w.heap.size, 0, none⟩ 1 1 [vB y] hx rfl (cell_one_new _ _ _) (by simp [Value.oneCell']) (by unfold maxLen; omega) (by omega) (Nat.le_refl _) ?_
    intro v' w4 hown4 hgrow4 _
    obtain ⟨A', c', rfl⟩ := own_form hown4
    obtain ⟨k1, k2⟩ := win_own (w0 := w0) (xs := [y]) hown4 (by simp; omega)
    exact hK A' c' w4 k1 (hs0.trans (spx_grown hgrow4)) (fun k hk => .inr (by have := k2 k hk; simp at this; omega))
  | some ad =>
    obtain ⟨b, off, rfl, k1, k2, k3, k4, k5⟩ := hW.pl ad hA
    subst hA
    refine wpList_append_arg _ hg _ _ 27 hop 4 i0 (.bool false) 1 1 Try.underlying27 hi hz0 hz1 hz2 rfl (by decide) b off n c (xs.map vB) hs (by simp [h.len]) ?olds ⟨w.heap.size, 0, none⟩ 1 1 [vB y] hx rfl (cell_one_new _ _ _) (by simp [Value.oneCell']) ?spare (by unfold maxLen; omega) (by omega) ?room ?gr
    case olds =>
      intro j u hu
      rw [List.getElem?_map] at hu
      cases hj : xs[j]? with
      | none => rw [hj] at hu; cases hu
      | some z =>
        rw [hj] at hu
        injection hu with hu
        subst hu
        exact k5 j z hj
    case spare =>
      intro hr j hj
      obtain rfl : j = 0 := by simpa using hj
      rw [Nat.mul_one, Nat.add_zero]
      exact ⟨k4 n (by omega), k3 _⟩
    case room =>
      intro hr
      refine hK _ _ _ ⟨hr, hlen, fun e => (by cases e), fun a2 ha => ?_⟩ ?_ (fun k hk => .inl hk)
      · injection ha with ha
        subst ha
        have hsome := k4 n (by omega)
        simp only [World.setCells, Nat.mul_one]
        refine ⟨b, off, rfl, k1, by simpa [World.setCell] using k2, fun j => ?_, fun j hj => ?_, fun k x hk => ?_⟩
        · rw [World.frozen?_setCell]; exact k3 j
        · by_cases e : j = n
          · subst e
            rw [World.cell?_setCell_same' _ _ _ hsome]; rfl
          · rw [World.cell?_setCell_other _ _ _ _ (by intro h'; injection h' with _ h'; omega)]
            exact k4 j hj
        · by_cases e : k = n
          · subst e
            rw [World.cell?_setCell_same' _ _ _ hsome]
            have hx2 : (xs ++ [y])[k]? = some y := by rw [List.getElem?_append_right (by rw [h.len]; exact Nat.le_refl _), h.len]; simp
            rw [hk] at hx2
            injection hx2 with hx2
            rw [hx2]
          · rw [World.cell?_setCell_other _ _ _ _ (by intro h'; injection h' with _ h'; omega)]
            have hk1 := (List.getElem?_eq_some_iff.1 hk).1
            rw [hlen] at hk1
            rw [List.getElem?_append_left (by rw [h.len]; omega)] at hk
            exact k5 k x hk
      · simp only [World.setCells]
        exact hs0.set b _ _ ⟨_, rfl, rfl⟩
    case gr =>
      intro hr v' w4 hown4 hgrow4
      obtain ⟨A', c', rfl⟩ := own_form hown4
      obtain ⟨k1, k2⟩ := win_own (w0 := w0) (xs := xs ++ [y]) (by rw [List.map_append]; exact hown4) (by simp; omega)
      exact hK A' c' w4 k1 (hs0.trans (spx_grown hgrow4)) (fun k hk => .inr (by have := k2 k hk; simp at this; omega))
end Go.Proofs.Ytdhdacpnlfojeaa
