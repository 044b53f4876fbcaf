/- A block that holds a row of values, and what keeps it; lists of bytes; lists of entries: where they lie; lists that were made by appends. -/
import Derived.Test.YtbkaiffecnomjaaSeq
import Derived.Test.YtbkaiffecnomjaaMath
import Derived.Deep.MidRow
import Derived.Laws.Rows
import Derived.Laws.StructEq
import Derived.Laws.BytesArg
import Derived.Laws.MakeOwn
namespace Go.Proofs.Ytbkaiffecnomjaa
open Go.RowKit
attribute [local go_sem ↓] Go.wp_at_zero Go.wp_at_succ

def RowAt (W : World) (b : Nat) (t : TypeId) (vs : Array Value) : Prop := W.heap[b]? = some (.cells vs t (0, 0))
theorem RowAt.lt {W : World} {b : Nat} {t : TypeId} {vs : Array Value} (h : RowAt W b t vs) : b < W.heap.size := (Array.getElem?_eq_some_iff.1 h).1
theorem RowAt.cell {W : World} {b : Nat} {t : TypeId} {vs : Array Value} (h : RowAt W b t vs) (j : Nat) {v : Value} (hv : vs[j]? = some v) : W.cell? ⟨b, j, none⟩ = some v := by
  rw [cell_of_row W b j vs t (0, 0) h, hv]
theorem RowAt.frozen {W : World} {b : Nat} {t : TypeId} {vs : Array Value} (h : RowAt W b t vs) (j : Nat) : W.frozen? ⟨b, j, none⟩ = false := frozen_of_row W b j vs t h
theorem RowAt.drew {W : World} {b : Nat} {t : TypeId} {vs : Array Value} (h : RowAt W b t vs) : RowAt W.drew b t vs := h
theorem RowAt.alloc {W : World} {b : Nat} {t : TypeId} {vs : Array Value} (h : RowAt W b t vs) (o : Obj) : RowAt (W.alloc o) b t vs := (Below.heap_alloc W o b h.lt).trans h
theorem RowAt.new (W : World) (t : TypeId) (vs : Array Value) : RowAt (W.alloc (.cells vs t)) W.heap.size t vs := Go.heap_alloc_new W _
theorem RowAt.below {W W1 : World} {n b : Nat} {t : TypeId} {vs : Array Value} (h : RowAt W b t vs) (hB : Below n W W1) (hb : b < n) : RowAt W1 b t vs := (hB.block b hb).trans h
theorem RowAt.set {W : World} {b : Nat} {t : TypeId} {vs : Array Value} (h : RowAt W b t vs) (us : Array Value) : RowAt (W.setRow b us) b t us := setRow_heap W b vs us t (0, 0) h
theorem RowAt.other {W : World} {b c : Nat} {t : TypeId} {vs : Array Value} (h : RowAt W b t vs) (hne : b ≠ c) (us : Array Value) : RowAt (W.setRow c us) b t vs := (setRow_other W c b us hne).trans h
theorem RowAt.put {W : World} {b : Nat} {t : TypeId} {vs : Array Value} (h : RowAt W b t vs) (i : Nat) (v : Value) : RowAt (W.setCell ⟨b, i, none⟩ v) b t (vs.setIfInBounds i v) := heap_setCell_same W b i vs t v h
theorem RowAt.putOther {W : World} {b : Nat} {t : TypeId} {vs : Array Value} (h : RowAt W b t vs) (a : Addr) (hne : b ≠ a.block) (v : Value) : RowAt (W.setCell a v) b t vs := (heap_setCell_other W a b v hne).trans h
theorem RowAt.there {W : World} {b : Nat} {t : TypeId} {vs : Array Value} (h : RowAt W b t vs) : W.there b 0 vs.size := fun j hj => by
  rw [Nat.zero_add]
  exact ⟨by rw [h.cell j (Array.getElem?_eq_getElem hj)]; rfl, h.frozen j⟩
theorem below_setRow {n b : Nat} {A W : World} (h : Below n A W) (hb : n ≤ b) (us : Array Value) : Below n A (W.setRow b us) :=
  ⟨h.os, h.tape, h.output, by simpa using h.size, fun k hk => (setRow_other W b k us (by omega)).trans (h.block k hk)⟩
/-- a whole row stored cell by cell is the row set -/
theorem setCells_row {P : Program} {W : World} {b : Nat} {t ty : TypeId} {vs : Array Value} (h : RowAt W b t vs) (us : Array Value) (hi : (P.info? ty).map (·.size) = some us.size) (hs : vs.size = us.size) (h1 : us.all (·.oneCell') = true) :
    W.setCells b 0 us.toList = W.setRow b us := by
  have e1 := run_storeVar_row (P := P) W b t ty vs us h hi hs h1
  have e2 := run_storeVar_mid (P := P) W b 0 ty us (by rw [← hs]; exact h.there) hi h1
  rw [e1] at e2
  injection e2 with _ e
  exact e.symm
theorem cell_setCells {W : World} {b c : Nat} (hne : b ≠ c) (o j : Nat) (vs : List Value) : (W.setCells c o vs).cell? ⟨b, j, none⟩ = W.cell? ⟨b, j, none⟩ :=
  World.cell?_setCells_out c vs o W _ (fun e _ => absurd e hne)

theorem reads_on {X Y : World} (h : Below X.heap.size X Y) : (∀ n o, n < X.heap.size → Y.cell? ⟨n, o, none⟩ = X.cell? ⟨n, o, none⟩) ∧ (∀ n o, n < X.heap.size → Y.frozen? ⟨n, o, none⟩ = X.frozen? ⟨n, o, none⟩) :=
  ⟨fun n o hn => Below.cell h (p := ⟨n, o, none⟩) hn, fun n o hn => Below.frozen h (p := ⟨n, o, none⟩) hn⟩
abbrev vB (x : Int) : Value := .int .u8 x
/-- an entry's cells, a piece's cells -/
def eL (x : En) : List Value := [Value.int .i64 x.k, Value.int .i64 x.w, Value.int .i64 x.op, Value.int .i64 x.dl, Value.bool x.wa, Value.bool x.fo, Value.int .i64 x.sl, Value.int .i64 x.ge, Value.int .i64 x.st, Value.int .i64 x.n, Value.bool x.gd]
theorem eL_one (x : En) : ∀ v ∈ eL x, v.oneCell' = true := by simp [eL, Value.oneCell']
def pL (p : Pc) : List Value := [Value.int .u8 p.b0, Value.int .u8 p.b1, Value.int .u8 p.b2, Value.int .u8 p.b3, Value.int .u8 p.b4, Value.int .u8 p.b5, Value.int .u8 p.b6, Value.int .u8 p.b7, Value.int .u8 p.b8, Value.int .u8 p.b9, Value.int .u8 p.b10, Value.int .u8 p.b11]
theorem pL_eq (p : Pc) : pL p = (pb p).map vB := rfl
/-! ## bytes -/
/-- the bytes xs lie in the slice at A, below M -/
def BS (w : World) (M : Nat) (A : Option Addr) (xs : List Int) : Prop := ∀ (k : Nat) x, xs[k]? = some x → ∃ b off, A = some ⟨b, off, none⟩ ∧ b < M ∧ w.cell? ⟨b, off + k, none⟩ = some (vB x)
theorem BS.below {w w' : World} {N : Nat} {A : Option Addr} {xs : List Int} (h : BS w N A xs) (hb : Below N w w') : BS w' N A xs := by
  intro k x hk
  obtain ⟨b, off, rfl, h1, h2⟩ := h k x hk
  exact ⟨b, off, rfl, h1, (hb.cell (p := ⟨b, off + k, none⟩) h1).trans h2⟩
theorem BS.more {w : World} {N M : Nat} {A : Option Addr} {xs : List Int} (h : BS w N A xs) (hm : N ≤ M) : BS w M A xs := by
  intro k x hk
  obtain ⟨b, off, rfl, h1, h2⟩ := h k x hk
  exact ⟨b, off, rfl, Nat.lt_of_lt_of_le h1 hm, h2⟩
theorem BS.on {w w' : World} {A : Option Addr} {xs : List Int} (h : BS w w.heap.size A xs) (hb : Below w.heap.size w w') : BS w' w'.heap.size A xs := (h.below hb).more hb.size
theorem BS.drew {w : World} {N : Nat} {A : Option Addr} {xs : List Int} (h : BS w N A xs) : BS w.drew N A xs := h
theorem bs_nil (w : World) (N : Nat) (A : Option Addr) : BS w N A [] := fun k x hk => by simp at hk
theorem BS.take {w : World} {N : Nat} {A : Option Addr} {xs : List Int} (h : BS w N A xs) (n : Nat) : BS w N A (xs.take n) := by
  intro k x hk
  rw [List.getElem?_take] at hk
  split at hk
  · exact h k x hk
  · cases hk
theorem BS.addr {w : World} {N : Nat} {A : Option Addr} {xs : List Int} (h : BS w N A xs) (hn : xs ≠ []) : ∃ b off, A = some ⟨b, off, none⟩ ∧ b < N ∧ ∀ (k : Nat) x, xs[k]? = some x → w.cell? ⟨b, off + k, none⟩ = some (vB x) := by
  cases xs with
  | nil => exact absurd rfl hn
  | cons x xs =>
    obtain ⟨b, off, rfl, h1, _⟩ := h 0 x rfl
    refine ⟨b, off, rfl, h1, fun k y hk => ?_⟩
    obtain ⟨b2, off2, e, _, h3⟩ := h k y hk
    injection e with e
    injection e with e1 e2
    subst e1 e2
    exact h3
/-- a piece out of the middle -/
theorem BS.piece {w : World} {N b off : Nat} {xs : List Int} (h : BS w N (some ⟨b, off, none⟩) xs) {k : Nat} {p : Pc} (hp : (pcs xs)[k]? = some p) : w.rangeAt b (off + k * 12) (pL p) := by
  intro j v hv
  have hj : j < 12 := (List.getElem?_eq_some_iff.1 hv).1
  rw [pL_eq, List.getElem?_map, ← pcs_at hp hj] at hv
  cases hx : xs[k * 12 + j]? with
  | none => rw [hx] at hv; cases hv
  | some x =>
    rw [hx] at hv
    injection hv with hv
    subst hv
    obtain ⟨b2, off2, e, _, h3⟩ := h _ x hx
    injection e with e
    injection e with e1 e2
    subst e1 e2
    rw [Nat.add_assoc]
    exact h3
theorem piece_cells {w : World} {b o : Nat} {p : Pc} (h : w.rangeAt b o (pL p)) : w.cell? ⟨b, o, none⟩ = some (vB p.b0) ∧ w.cell? ⟨b, o + 1, none⟩ = some (vB p.b1) ∧ w.cell? ⟨b, o + 2, none⟩ = some (vB p.b2) ∧ w.cell? ⟨b, o + 3, none⟩ = some (vB p.b3) ∧ w.cell? ⟨b, o + 4, none⟩ = some (vB p.b4) ∧ w.cell? ⟨b, o + 5, none⟩ = some (vB p.b5) ∧ w.cell? ⟨b, o + 6, none⟩ = some (vB p.b6) ∧ w.cell? ⟨b, o + 7, none⟩ = some (vB p.b7) ∧ w.cell? ⟨b, o + 8, none⟩ = some (vB p.b8) ∧ w.cell? ⟨b, o + 9, none⟩ = some (vB p.b9) ∧ w.cell? ⟨b, o + 10, none⟩ = some (vB p.b10) ∧ w.cell? ⟨b, o + 11, none⟩ = some (vB p.b11) :=
  ⟨h 0 _ rfl, h 1 _ rfl, h 2 _ rfl, h 3 _ rfl, h 4 _ rfl, h 5 _ rfl, h 6 _ rfl, h 7 _ rfl, h 8 _ rfl, h 9 _ rfl, h 10 _ rfl, h 11 _ rfl⟩
theorem own_bs {w : World} {base n c : Nat} {A : Option Addr} {xs : List Int} (h : w.ownsRow base 5 1 (.slice A n c) n (xs.map vB)) : BS w w.heap.size A xs ∧ xs.length = n ∧ n ≤ c := by
  have hlen : xs.length = n := by have := h.1; simpa using this
  rcases h.2 with ⟨h1, h2⟩ | ⟨g, cap, cur, h1, _, hg, h2, _⟩
  · cases h1
    obtain rfl : xs = [] := List.eq_nil_of_length_eq_zero (by omega)
    exact ⟨bs_nil _ _ _, hlen, by omega⟩
  · cases h1
    refine ⟨fun k x hk => ⟨g, 0, rfl, (Array.getElem?_eq_some_iff.1 hg).1, ?_⟩, hlen, h2⟩
    have := h.cells (g := g) rfl k (vB x) (by rw [List.getElem?_map, hk]; rfl)
    have ha : (⟨g, 0, none⟩ : Addr).add k = ⟨g, 0 + k, none⟩ := by unfold Addr.add; split <;> simp_all
    rw [ha] at this
    exact this
theorem own_form {w : World} {base e size n : Nat} {v : Value} {xs : List Value} (h : w.ownsRow base e size v n xs) : ∃ A c, v = .slice A n c := by
  rcases h.2 with ⟨h1, h2⟩ | ⟨g, cap, cur, h1, _⟩
  · exact ⟨none, 0, by rw [h1, h2]⟩
  · exact ⟨_, _, h1⟩
theorem infoB : (Try.prog.info? 5).map (fun i => (i.zero, i.size, i.bytes)) = some (some (vB 0), 1, 1) := by kernel_rfl
theorem infoE : (Try.prog.info? 32).map (fun i => (i.zero, i.size, i.bytes)) = some (some (.agg (eL en0).toArray), 11, 80) := by kernel_rfl
theorem info_parts {P : Program} {t : TypeId} {z : Option Value} {s b : Nat} (h : (P.info? t).map (fun i => (i.zero, i.size, i.bytes)) = some (z, s, b)) : ∃ i, P.info? t = some i ∧ i.zero = z ∧ i.size = s ∧ i.bytes = b := by
  cases hi : P.info? t with
  | none => rw [hi] at h; cases h
  | some i =>
    rw [hi] at h
    injection h with h
    injection h with h1 h2
    injection h2 with h2 h3
    exact ⟨i, rfl, h1, h2, h3⟩
/-- bytes that were made since w0, their slice v -/
structure BMine (w0 w : World) (v : Value) (xs : List Int) : Prop where
  own : w.ownsRow w0.heap.size 5 1 v xs.length (xs.map vB)
  below : Below w0.heap.size w0 w
theorem BMine.form {w0 w : World} {v : Value} {xs : List Int} (h : BMine w0 w v xs) : ∃ A c, v = .slice A xs.length c := own_form h.own
theorem BMine.nil {w0 w : World} (h : Below w0.heap.size w0 w) : BMine w0 w (.slice none 0 0) [] := ⟨World.ownsRow_nil _ _ _ _, h⟩
theorem BMine.on {w0 w w' : World} {v : Value} {xs : List Int} (h : BMine w0 w v xs) (hb : Below w.heap.size w w') : BMine w0 w' v xs :=
  ⟨h.own.kept ⟨hb.os, hb.tape, hb.output, hb.size, fun k hk _ => hb.block k hk⟩ (row := none) (by cases v.ownBlock <;> simp), h.below.trans (hb.mono h.below.size)⟩
theorem BMine.inv {w0 w : World} {A : Option Addr} {n c : Nat} {xs : List Int} (h : BMine w0 w (.slice A n c) xs) : BS w w.heap.size A xs ∧ xs.length = n ∧ n ≤ c := by
  obtain ⟨A2, c2, e⟩ := h.form
  injection e with e1 e2 e3
  subst e1 e2 e3
  exact own_bs h.own
/-- many bytes more: what the walk is asked at an append -/
theorem BMine.appAll {w0 w : World} {v : Value} {xs : List Int} (h : BMine w0 w v xs) {ops : Array Oper} {rest : List Oper} {o : Oper} {a : Act} {Q : Exit → Act → World → Prop} {n m k : Nat} {zs : List Int} (hn : xs.length = n) (hn2 : n + m ≤ 100000000) (hk : n + m = k)
    (hg : o.guard = none) (s t : Operand) (hop : o.op = Op.call { callee := Callee.builtin Builtin.append, args := #[s, t], argTypes := #[24, 24] }) (hs : a.eval s = v) (ys : List Int) (hm : ys.length = m) (b off c : Nat) (hx : a.eval t = .slice (some ⟨b, off, none⟩) m c)
    (hc : ∀ k y, ys[k]? = some y → w.cell? ⟨b, off + k, none⟩ = some (vB y))
    (hz : xs ++ ys = zs)
    (hK : ∀ A' c' w', BMine w0 w' (.slice A' k c') zs → wpList Try.prog ops Q rest (a.put o.dst (.slice A' k c')) w') :
    wpList Try.prog ops Q (o :: rest) a w := by
  subst hk
  subst hz
  obtain ⟨i0, hi, hz0, hz1, hz2⟩ := info_parts infoB
  have hsz := h.below.size
  refine wpList_append_own _ hg _ _ 24 hop w0.heap.size 5 i0 (vB 0) 1 1 Try.underlying24 hi hz0 hz1 hz2 rfl (by decide) _ _ _ hs h.own ⟨b, off, none⟩ m c (ys.map vB) hx (by simp [hm]) (fun j u hj => ?_) (by simp [Value.oneCell']) (by unfold maxLen; omega) (by omega) (by omega) ?_
  · rw [List.getElem?_map] at hj
    cases hy : ys[j]? with
    | none => rw [hy] at hj; cases hj
    | some y =>
      rw [hy] at hj
      injection hj with hj
      subst hj
      have ha : (⟨b, off, none⟩ : Addr).add j = ⟨b, off + j, none⟩ := by unfold Addr.add; split <;> simp_all
      rw [ha]
      exact hc j y hy
  intro v' w4 hown4 hgrow4 _
  have hlen : (xs ++ ys).length = n + m := by simp [hn, hm]
  rw [hn] at hown4
  obtain ⟨A', c', rfl⟩ := own_form hown4
  exact hK A' c' w4 ⟨by rw [hlen, List.map_append]; exact hown4, h.below.grown hgrow4 hsz (fun j e => (h.own.lt j e).1)⟩
theorem bmine_empty (w : World) : BMine w (w.alloc (.cells #[] 5)) (.slice (some ⟨w.heap.size, 0, none⟩) 0 0) [] :=
  ⟨⟨rfl, .inr ⟨w.heap.size, 0, #[], rfl, Nat.le_refl _, heap_alloc_new w _, Nat.le_refl _, by unfold maxLen; omega, rfl, rfl⟩⟩, (Below.refl _ _).alloc (Nat.le_refl _) _⟩
/-! ## entries -/
theorem flat_len (xs : List En) : (xs.flatMap eL).length = xs.length * 11 := by
  induction xs with
  | nil => rfl
  | cons x xs ih => simp [List.flatMap_cons, ih, eL]; omega
theorem flat_at {xs : List En} {k j : Nat} {s : En} (h : xs[k]? = some s) (hj : j < 11) : (xs.flatMap eL)[k * 11 + j]? = (eL s)[j]? := by
  induction xs generalizing k with
  | nil => simp at h
  | cons x xs ih =>
    rw [List.flatMap_cons]
    have hx : (eL x).length = 11 := rfl
    cases k with
    | zero =>
      simp at h
      subst h
      rw [List.getElem?_append_left (by rw [hx]; omega)]
      simp
    | succ k =>
      rw [List.getElem?_append_right (by rw [hx]; omega), hx, show (k + 1) * 11 + j - 11 = k * 11 + j by omega]
      exact ih (by simpa using h)
/-- the entries xs lie in the slice at A, below M -/
def LS (w : World) (M : Nat) (A : Option Addr) (xs : List En) : Prop := ∀ (k : Nat) s, xs[k]? = some s → ∃ b off, A = some ⟨b, off, none⟩ ∧ b < M ∧ w.rangeAt b (off + k * 11) (eL s)
theorem range_below {w w' : World} {N b o : Nat} {cs : List Value} (h : w.rangeAt b o cs) (hb : Below N w w') (hl : b < N) : w'.rangeAt b o cs := fun j v hv => (hb.cell (p := ⟨b, _, none⟩) hl).trans (h j v hv)
theorem LS.below {w w' : World} {N : Nat} {A : Option Addr} {xs : List En} (h : LS w N A xs) (hb : Below N w w') : LS w' N A xs := by
  intro k s hk
  obtain ⟨b, off, rfl, h1, h2⟩ := h k s hk
  exact ⟨b, off, rfl, h1, range_below h2 hb h1⟩
theorem LS.more {w : World} {N M : Nat} {A : Option Addr} {xs : List En} (h : LS w N A xs) (hm : N ≤ M) : LS w M A xs := by
  intro k s hk
  obtain ⟨b, off, rfl, h1, h2⟩ := h k s hk
  exact ⟨b, off, rfl, Nat.lt_of_lt_of_le h1 hm, h2⟩
theorem LS.on {w w' : World} {A : Option Addr} {xs : List En} (h : LS w w.heap.size A xs) (hb : Below w.heap.size w w') : LS w' w'.heap.size A xs := (h.below hb).more hb.size
theorem LS.drew {w : World} {N : Nat} {A : Option Addr} {xs : List En} (h : LS w N A xs) : LS w.drew N A xs := h
theorem ls_nil (w : World) (N : Nat) (A : Option Addr) : LS w N A [] := fun k x hk => by simp at hk
theorem LS.take {w : World} {N : Nat} {A : Option Addr} {xs : List En} (h : LS w N A xs) (n : Nat) : LS w N A (xs.take n) := by
  intro k x hk
  rw [List.getElem?_take] at hk
  split at hk
  · exact h k x hk
  · cases hk
theorem LS.addr {w : World} {N : Nat} {A : Option Addr} {xs : List En} (h : LS w N A xs) (hn : xs ≠ []) : ∃ b off, A = some ⟨b, off, none⟩ ∧ b < N ∧ ∀ (k : Nat) x, xs[k]? = some x → w.rangeAt b (off + k * 11) (eL x) := by
  cases xs with
  | nil => exact absurd rfl hn
  | cons x xs =>
    obtain ⟨b, off, rfl, h1, _⟩ := h 0 x rfl
    refine ⟨b, off, rfl, h1, fun k y hk => ?_⟩
    obtain ⟨b2, off2, e, _, h3⟩ := h k y hk
    injection e with e
    injection e with e1 e2
    subst e1 e2
    exact h3
theorem range_cells {w : World} {b o : Nat} {x : En} (h : w.rangeAt b o (eL x)) : w.cell? ⟨b, o, none⟩ = some (vI x.k) ∧ w.cell? ⟨b, o + 1, none⟩ = some (vI x.w) ∧ w.cell? ⟨b, o + 2, none⟩ = some (vI x.op) ∧ w.cell? ⟨b, o + 3, none⟩ = some (vI x.dl) ∧ w.cell? ⟨b, o + 4, none⟩ = some (.bool x.wa) ∧ w.cell? ⟨b, o + 5, none⟩ = some (.bool x.fo) ∧ w.cell? ⟨b, o + 6, none⟩ = some (vI x.sl) ∧ w.cell? ⟨b, o + 7, none⟩ = some (vI x.ge) ∧ w.cell? ⟨b, o + 8, none⟩ = some (vI x.st) ∧ w.cell? ⟨b, o + 9, none⟩ = some (vI x.n) ∧ w.cell? ⟨b, o + 10, none⟩ = some (.bool x.gd) :=
  ⟨h 0 _ rfl, h 1 _ rfl, h 2 _ rfl, h 3 _ rfl, h 4 _ rfl, h 5 _ rfl, h 6 _ rfl, h 7 _ rfl, h 8 _ rfl, h 9 _ rfl, h 10 _ rfl⟩
theorem range_row {w : World} {b : Nat} {t : TypeId} {vs : List Value} (h : RowAt w b t vs.toArray) : w.rangeAt b 0 vs := fun j v hv => by
  rw [Nat.zero_add]
  exact h.cell j (by simpa using hv)
theorem own_ls {w : World} {base n c : Nat} {A : Option Addr} {xs : List En} (h : w.ownsRow base 32 11 (.slice A n c) n (xs.flatMap eL)) : LS w w.heap.size A xs ∧ xs.length = n ∧ n ≤ c := by
  have hlen : xs.length = n := by have := h.1; rw [flat_len] at this; omega
  rcases h.2 with ⟨h1, h2⟩ | ⟨g, cap, cur, h1, _, hg, h2, _⟩
  · cases h1
    obtain rfl : xs = [] := List.eq_nil_of_length_eq_zero (by omega)
    exact ⟨ls_nil _ _ _, hlen, by omega⟩
  · cases h1
    refine ⟨fun k s hk => ⟨g, 0, rfl, (Array.getElem?_eq_some_iff.1 hg).1, fun j v hv => ?_⟩, hlen, h2⟩
    have hj : j < 11 := (List.getElem?_eq_some_iff.1 hv).1
    have := h.cells (g := g) rfl (k * 11 + j) v (by rw [flat_at hk hj]; exact hv)
    have ha : (⟨g, 0, none⟩ : Addr).add (k * 11 + j) = ⟨g, 0 + k * 11 + j, none⟩ := by unfold Addr.add; split <;> simp_all <;> omega
    rw [ha] at this
    exact this
/-- entries that were made since w0, their slice v -/
structure LMine (w0 w : World) (v : Value) (xs : List En) : Prop where
  own : w.ownsRow w0.heap.size 32 11 v xs.length (xs.flatMap eL)
  below : Below w0.heap.size w0 w
theorem LMine.form {w0 w : World} {v : Value} {xs : List En} (h : LMine w0 w v xs) : ∃ A c, v = .slice A xs.length c := own_form h.own
theorem LMine.nil {w0 w : World} (h : Below w0.heap.size w0 w) : LMine w0 w (.slice none 0 0) [] := ⟨World.ownsRow_nil _ _ _ _, h⟩
theorem LMine.on {w0 w w' : World} {v : Value} {xs : List En} (h : LMine w0 w v xs) (hb : Below w.heap.size w w') : LMine w0 w' v xs :=
  ⟨h.own.kept ⟨hb.os, hb.tape, hb.output, hb.size, fun k hk _ => hb.block k hk⟩ (row := none) (by cases v.ownBlock <;> simp), h.below.trans (hb.mono h.below.size)⟩
theorem LMine.inv {w0 w : World} {A : Option Addr} {n c : Nat} {xs : List En} (h : LMine w0 w (.slice A n c) xs) : LS w w.heap.size A xs ∧ xs.length = n ∧ n ≤ c := by
  obtain ⟨A2, c2, e⟩ := h.form
  injection e with e1 e2 e3
  subst e1 e2 e3
  exact own_ls h.own
/-- many entries more: what the walk is asked at an append -/
theorem LMine.appAll {w0 w : World} {v : Value} {xs : List En} (h : LMine w0 w v xs) {ops : Array Oper} {rest : List Oper} {o : Oper} {a : Act} {Q : Exit → Act → World → Prop} {n m k : Nat} {zs : List En} (hn : xs.length = n) (hn2 : n + m ≤ 1000000) (hk : n + m = k)
    (hg : o.guard = none) (s t : Operand) (hop : o.op = Op.call { callee := Callee.builtin Builtin.append, args := #[s, t], argTypes := #[22, 22] }) (hs : a.eval s = v) (ys : List En) (hm : ys.length = m) (b off c : Nat) (hx : a.eval t = .slice (some ⟨b, off, none⟩) m c)
    (hc : ∀ k y, ys[k]? = some y → w.rangeAt b (off + k * 11) (eL y))
    (hz : xs ++ ys = zs)
    (hK : ∀ A' c' w', LMine w0 w' (.slice A' k c') zs → wpList Try.prog ops Q rest (a.put o.dst (.slice A' k c')) w') :
    wpList Try.prog ops Q (o :: rest) a w := by
  subst hk
  subst hz
  obtain ⟨i0, hi, hz0, hz1, hz2⟩ := info_parts infoE
  have hsz := h.below.size
  refine wpList_append_own _ hg _ _ 22 hop w0.heap.size 32 i0 _ 11 80 Try.underlying22 hi hz0 hz1 hz2 rfl (by decide) _ _ _ hs h.own ⟨b, off, none⟩ m c (ys.flatMap eL) hx (by rw [flat_len, hm]) (fun j u hj => ?_) ?_ (by unfold maxLen; omega) (by omega) (by omega) ?_
  · have hl := (List.getElem?_eq_some_iff.1 hj).1
    rw [flat_len] at hl
    obtain ⟨y, hy⟩ : ∃ y, ys[j / 11]? = some y := ⟨ys[j / 11]'(by omega), List.getElem?_eq_getElem _⟩
    have h1 := flat_at (j := j % 11) hy (by omega)
    rw [show j / 11 * 11 + j % 11 = j by omega] at h1
    rw [h1] at hj
    have h2 := hc _ y hy _ u hj
    have ha : (⟨b, off, none⟩ : Addr).add j = ⟨b, off + j / 11 * 11 + j % 11, none⟩ := by unfold Addr.add; split <;> simp_all <;> omega
    rw [ha]
    exact h2
  · intro u hu
    obtain ⟨y, _, hy⟩ := List.mem_flatMap.1 hu
    exact eL_one y u hy
  intro v' w4 hown4 hgrow4 _
  have hlen : (xs ++ ys).length = n + m := by simp [hn, hm]
  rw [hn] at hown4
  obtain ⟨A', c', rfl⟩ := own_form hown4
  exact hK A' c' w4 ⟨by rw [hlen, List.flatMap_append]; exact hown4, h.below.grown hgrow4 hsz (fun j e => (h.own.lt j e).1)⟩
theorem lmine_empty (w : World) : LMine w (w.alloc (.cells #[] 32)) (.slice (some ⟨w.heap.size, 0, none⟩) 0 0) [] :=
  ⟨⟨rfl, .inr ⟨w.heap.size, 0, #[], rfl, Nat.le_refl _, heap_alloc_new w _, Nat.le_refl _, by unfold maxLen; omega, rfl, rfl⟩⟩, (Below.refl _ _).alloc (Nat.le_refl _) _⟩
theorem some_lt {α : Type} {xs : List α} {k : Nat} (h : k < xs.length) : ∃ x, xs[k]? = some x := ⟨xs[k], by simp⟩
theorem takeS {α : Type} {xs ys : List α} {k : Nat} {x y : α} (h : xs.take k = ys.take k) (h1 : xs[k]? = some x) (h2 : ys[k]? = some y) (h3 : x = y) : xs.take (k + 1) = ys.take (k + 1) := by
  rw [List.take_add_one, List.take_add_one, h, h1, h2, h3]
end Go.Proofs.Ytbkaiffecnomjaa
