/- Lists of slots: where they lie; lists that were made by appends. -/
import Derived.Test.YtalmadeibnekoaaLst
import Derived.Test.YtalmadeibnekoaaNums
namespace Go.Proofs.Ytalmadeibnekoaa
open Go.RowKit
attribute [local go_sem ↓] Go.wp_at_zero Go.wp_at_succ

/-- a slot's cells -/
def sc (s : Sl) : List Value := [Value.int .i64 s.st, Value.int .i64 s.ow, Value.int .i64 s.sr, Value.bool s.br, Value.bool s.ma, Value.int .i64 s.us, Value.int .i64 s.ge, Value.int .i64 s.ep, Value.int .i64 s.ve]
theorem flat_len (xs : List Sl) : (xs.flatMap sc).length = xs.length * 9 := by
  induction xs with
  | nil => rfl
  | cons x xs ih => simp [List.flatMap_cons, ih, sc]; omega
theorem flat_at {xs : List Sl} {k j : Nat} {s : Sl} (h : xs[k]? = some s) (hj : j < 9) : (xs.flatMap sc)[k * 9 + j]? = (sc s)[j]? := by
  induction xs generalizing k with
  | nil => simp at h
  | cons x xs ih =>
    rw [List.flatMap_cons]
    have hx : (sc x).length = 9 := rfl
    cases k with
    | zero =>
      simp at h
      subst h
      rw [List.getElem?_append_left (by rw [hx]; omega)]
      simp
    | succ k =>
      rw [List.getElem?_append_right (by rw [hx]; omega), hx, show (k + 1) * 9 + j - 9 = k * 9 + j by omega]
      exact ih (by simpa using h)
/-- the slots xs lie in the slice at A, below M -/
def LS (w : World) (M : Nat) (A : Option Addr) (xs : List Sl) : Prop := ∀ (k : Nat) s, xs[k]? = some s → ∃ b off, A = some ⟨b, off, none⟩ ∧ b < M ∧ w.cell? ⟨b, off + k * 9, none⟩ = some (Value.int .i64 s.st) ∧ w.cell? ⟨b, off + k * 9 + 1, none⟩ = some (Value.int .i64 s.ow) ∧ w.cell? ⟨b, off + k * 9 + 2, none⟩ = some (Value.int .i64 s.sr) ∧ w.cell? ⟨b, off + k * 9 + 3, none⟩ = some (Value.bool s.br) ∧ w.cell? ⟨b, off + k * 9 + 4, none⟩ = some (Value.bool s.ma) ∧ w.cell? ⟨b, off + k * 9 + 5, none⟩ = some (Value.int .i64 s.us) ∧ w.cell? ⟨b, off + k * 9 + 6, none⟩ = some (Value.int .i64 s.ge) ∧ w.cell? ⟨b, off + k * 9 + 7, none⟩ = some (Value.int .i64 s.ep) ∧ w.cell? ⟨b, off + k * 9 + 8, none⟩ = some (Value.int .i64 s.ve)
theorem LS.below {w w' : World} {N : Nat} {A : Option Addr} {xs : List Sl} (h : LS w N A xs) (hb : Below N w w') : LS w' N A xs := by
  intro k s hk
  obtain ⟨b, off, rfl, h1, k0, k1, k2, k3, k4, k5, k6, k7, k8⟩ := h k s hk
  exact ⟨b, off, rfl, h1, (hb.cell (p := ⟨b, _, none⟩) h1).trans k0, (hb.cell (p := ⟨b, _, none⟩) h1).trans k1, (hb.cell (p := ⟨b, _, none⟩) h1).trans k2, (hb.cell (p := ⟨b, _, none⟩) h1).trans k3, (hb.cell (p := ⟨b, _, none⟩) h1).trans k4, (hb.cell (p := ⟨b, _, none⟩) h1).trans k5, (hb.cell (p := ⟨b, _, none⟩) h1).trans k6, (hb.cell (p := ⟨b, _, none⟩) h1).trans k7, (hb.cell (p := ⟨b, _, none⟩) h1).trans k8⟩
theorem LS.more {w : World} {N M : Nat} {A : Option Addr} {xs : List Sl} (h : LS w N A xs) (hm : N ≤ M) : LS w M A xs := by
  intro k s hk
  obtain ⟨b, off, rfl, h1, h2⟩ := h k s hk
  exact ⟨b, off, rfl, Nat.lt_of_lt_of_le h1 hm, h2⟩
theorem LS.on {w w' : World} {A : Option Addr} {xs : List Sl} (h : LS w w.heap.size A xs) (hb : Below w.heap.size w w') : LS w' w'.heap.size A xs := (h.below hb).more hb.size
theorem LS.drew {w : World} {N : Nat} {A : Option Addr} {xs : List Sl} (h : LS w N A xs) : LS w.drew N A xs := h
theorem own_ls {w : World} {base n c : Nat} {A : Option Addr} {xs : List Sl} (h : w.ownsRow base 66 9 (.slice A n c) n (xs.flatMap sc)) : LS w w.heap.size A xs ∧ xs.length = n ∧ n ≤ c := by
  have hlen : xs.length = n := by have := h.1; rw [flat_len] at this; omega
  rcases h.2 with ⟨h1, h2⟩ | ⟨g, cap, cur, h1, _, hg, h2, _⟩
  · cases h1
    obtain rfl : xs = [] := List.eq_nil_of_length_eq_zero (by omega)
    exact ⟨fun k x hk => by simp at hk, hlen, by omega⟩
  · cases h1
    have key : ∀ (k : Nat) s, xs[k]? = some s → ∀ j v, j < 9 → (sc s)[j]? = some v → w.cell? ⟨g, 0 + k * 9 + j, none⟩ = some v := by
      intro k s hk j v hj hv
      have := h.cells (g := g) rfl (k * 9 + j) v (by rw [flat_at hk hj]; exact hv)
      have ha : (⟨g, 0, none⟩ : Addr).add (k * 9 + j) = ⟨g, 0 + k * 9 + j, none⟩ := by unfold Addr.add; split <;> simp_all <;> omega
      rw [ha] at this
      exact this
    refine ⟨fun k s hk => ⟨g, 0, rfl, (Array.getElem?_eq_some_iff.1 hg).1, key k s hk 0 _ (by omega) rfl, key k s hk 1 _ (by omega) rfl, key k s hk 2 _ (by omega) rfl, key k s hk 3 _ (by omega) rfl, key k s hk 4 _ (by omega) rfl, key k s hk 5 _ (by omega) rfl, key k s hk 6 _ (by omega) rfl, key k s hk 7 _ (by omega) rfl, key k s hk 8 _ (by omega) rfl⟩, hlen, h2⟩
theorem info23 : (Try.prog.info? 66).map (fun i => (i.zero, i.size, i.bytes)) = some (some (.agg #[Value.int .i64 0, Value.int .i64 0, Value.int .i64 0, Value.bool false, Value.bool false, Value.int .i64 0, Value.int .i64 0, Value.int .i64 0, Value.int .i64 0]), 9, 64) := by kernel_rfl
/-- a list of slots that was made since w0, its slice v -/
structure LMine (w0 w : World) (v : Value) (xs : List Sl) : Prop where
  own : w.ownsRow w0.heap.size 66 9 v xs.length (xs.flatMap sc)
  below : Below w0.heap.size w0 w
def RetSls (w : World) (xs : List Sl) (e : Ending) (w' : World) : Prop := ∃ A c, e = .returned (.slice A xs.length c) ∧ xs.length ≤ c ∧ LS w' w'.heap.size A xs ∧ (∀ b off, A = some ⟨b, off, none⟩ → w.heap.size ≤ b) ∧ Below w.heap.size w w'
theorem LMine.form {w0 w : World} {v : Value} {xs : List Sl} (h : LMine w0 w v xs) : ∃ A c, v = .slice A xs.length c := own_form h.own
theorem LMine.ret {w0 w : World} {A : Option Addr} {n c : Nat} {xs : List Sl} (h : LMine w0 w (.slice A n c) xs) : RetSls w0 xs (.returned (.slice A n c)) w := by
  obtain ⟨A2, c2, e⟩ := h.form
  injection e with e1 e2 e3
  subst e1 e2 e3
  obtain ⟨h1, h2, h3⟩ := own_ls h.own
  refine ⟨A, c, rfl, h3, h1, fun b off eA => ?_, h.below⟩
  rcases h.own.2 with ⟨h4, _⟩ | ⟨g, cap, cur, h4, h5, _⟩
  · injection h4 with h4
    rw [h4] at eA
    cases eA
  · injection h4 with h4
    rw [h4] at eA
    injection eA with eA
    injection eA with eA _
    omega
theorem LMine.nil {w0 w : World} (h : Below w0.heap.size w0 w) : LMine w0 w (.slice none 0 0) [] := ⟨World.ownsRow_nil _ _ _ _, h⟩
/-- behind a call that keeps all that there was -/
theorem LMine.on {w0 w w' : World} {v : Value} {xs : List Sl} (h : LMine w0 w v xs) (hb : Below w.heap.size w w') : LMine w0 w' v xs :=
  ⟨h.own.kept ⟨hb.os, hb.tape, hb.output, hb.size, fun k hk _ => hb.block k hk⟩ (row := none) (by cases v.ownBlock <;> simp), h.below.trans (hb.mono h.below.size)⟩
theorem nine_new (w : World) (s : Sl) : ∀ j u, (sc s)[j]? = some u → (w.alloc (.cells #[Value.int .i64 s.st, Value.int .i64 s.ow, Value.int .i64 s.sr, Value.bool s.br, Value.bool s.ma, Value.int .i64 s.us, Value.int .i64 s.ge, Value.int .i64 s.ep, Value.int .i64 s.ve] 66)).cell? ((⟨w.heap.size, 0, none⟩ : Addr).add j) = some u := by
  intro j u hj
  have ha : (⟨w.heap.size, 0, none⟩ : Addr).add j = ⟨w.heap.size, j, none⟩ := by unfold Addr.add; split <;> simp_all
  rw [ha]
  refine (RowAt.new w 66 #[Value.int .i64 s.st, Value.int .i64 s.ow, Value.int .i64 s.sr, Value.bool s.br, Value.bool s.ma, Value.int .i64 s.us, Value.int .i64 s.ge, Value.int .i64 s.ep, Value.int .i64 s.ve]).cell j ?_
  simpa [sc] using hj
/-- a slot more: what the walk is asked at an append -/
theorem LMine.app {w0 w : World} {v : Value} {xs : List Sl} (h : LMine w0 w v xs) {ops : Array Oper} {rest : List Oper} {o : Oper} {a : Act} {Q : Exit → Act → World → Prop} {n : Nat} (hn : xs.length = n) (hn2 : n ≤ 1000000)
    (hg : o.guard = none) (x t : Operand) (hop : o.op = Op.call { callee := Callee.builtin Builtin.append, args := #[x, t], argTypes := #[24, 24] }) (hs : a.eval x = v) (s : Sl) (c : Nat) (hx : a.eval t = .slice (some ⟨w.heap.size, 0, none⟩) 1 c)
    (hK : ∀ A' c' w', LMine w0 w' (.slice A' (n + 1) c') (xs ++ [s]) → wpList Try.prog ops Q rest (a.put o.dst (.slice A' (n + 1) c')) w') :
    wpList Try.prog ops Q (o :: rest) a (w.alloc (.cells #[Value.int .i64 s.st, Value.int .i64 s.ow, Value.int .i64 s.sr, Value.bool s.br, Value.bool s.ma, Value.int .i64 s.us, Value.int .i64 s.ge, Value.int .i64 s.ep, Value.int .i64 s.ve] 66)) := by
  obtain ⟨i0, hi, hz0, hz1, hz2⟩ := info_parts info23
  have hsz := h.below.size
  refine wpList_append_own _ hg _ _ 24 hop w0.heap.size 66 i0 _ 9 64 Try.underlying24 hi hz0 hz1 hz2 rfl (by decide) _ _ _ hs (h.own.alloc _) ⟨w.heap.size, 0, none⟩ 1 c (sc s) hx rfl (nine_new w s) (by simp [sc, Value.oneCell']) (by unfold maxLen; omega) (by omega) (by simp; omega) ?_
  intro v' w4 hown4 hgrow4 _
  have hlen : (xs ++ [s]).length = n + 1 := by simp [hn]
  rw [hn] at hown4
  obtain ⟨A', c', rfl⟩ := own_form hown4
  exact hK A' c' w4 ⟨by rw [hlen, List.flatMap_append]; simpa using hown4, (h.below.alloc hsz _).grown hgrow4 (by simp; omega) (fun j e => (h.own.lt j e).1)⟩

theorem sl_some {xs : List Sl} {k : Nat} (h : k < xs.length) : ∃ x, xs[k]? = some x := ⟨xs[k], by simp⟩
theorem takeS {xs ys : List Sl} {k : Nat} {x y : Sl} (h : xs.take k = ys.take k) (h1 : xs[k]? = some x) (h2 : ys[k]? = some y) (h3 : x = y) : xs.take (k + 1) = ys.take (k + 1) := by
  rw [List.take_add_one, List.take_add_one, h, h1, h2, h3]
end Go.Proofs.Ytalmadeibnekoaa
