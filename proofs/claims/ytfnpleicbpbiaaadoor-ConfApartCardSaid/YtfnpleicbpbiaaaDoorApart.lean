/- Counts; the cells that a right conf's parts tell: each once. -/
import Derived.Test.YtfnpleicbpbiaaaDoorFar
import Derived.Test.YtfnpleicbpbiaaaDoorMem
namespace Go.Proofs.YtfnpleicbpbiaaaDoor
open Go.RowKit
attribute [local go_sem ↓] Go.wp_at_zero Go.wp_at_succ

/-- block g begins with n counts -/
structure Cnt (w : World) (g n : Nat) (S : Nat → Nat) : Prop where
  lt : g < w.heap.size
  cell : ∀ j, j < n → w.cell? ⟨g, j, none⟩ = some (.int .i64 (S j))
  free : ∀ j, w.frozen? ⟨g, j, none⟩ = false
theorem Cnt.below {w w1 : World} {g n : Nat} {S : Nat → Nat} (h : Cnt w g n S) (hb : Below w.heap.size w w1) : Cnt w1 g n S :=
  ⟨Nat.lt_of_lt_of_le h.lt hb.size, fun j hj => (hb.cell (p := ⟨g, j, none⟩) h.lt).trans (h.cell j hj), fun j => (hb.frozen (p := ⟨g, j, none⟩) h.lt).trans (h.free j)⟩
theorem Cnt.drew {w : World} {g n : Nat} {S : Nat → Nat} (h : Cnt w g n S) : Cnt w.drew g n S := ⟨h.lt, h.cell, h.free⟩
theorem Cnt.drewN {w : World} {g n : Nat} {S : Nat → Nat} (h : Cnt w g n S) (k : Nat) : Cnt (w.drewN k) g n S := ⟨h.lt, h.cell, h.free⟩
theorem Cnt.same {w w1 : World} {g n : Nat} {S : Nat → Nat} (h : Cnt w g n S) (he : w1.heap[g]? = w.heap[g]?) : Cnt w1 g n S :=
  ⟨by
      have e : w.heap[g]? = some (w.heap[g]'h.lt) := Array.getElem?_eq_getElem h.lt
      rw [← he] at e
      exact (Array.getElem?_eq_some_iff.1 e).1, fun j hj => (World.cell?_of_block (a := ⟨g, j, none⟩) he).trans (h.cell j hj), fun j => (World.frozen?_of_block (a := ⟨g, j, none⟩) he).trans (h.free j)⟩
theorem Cnt.set {w : World} {g n k : Nat} {S T : Nat → Nat} (h : Cnt w g n S) (hk : k < n) {v : Nat} (hv : v = T k) (hT : ∀ j, j < n → j ≠ k → T j = S j) : Cnt (w.setCell ⟨g, k, none⟩ (.int .i64 v)) g n T := by
  subst hv
  refine ⟨by simpa [World.setCell] using h.lt, fun j hj => ?_, fun j => by rw [World.frozen?_setCell]; exact h.free j⟩
  by_cases e : j = k
  · subst e
    rw [World.cell?_setCell_same' _ _ _ (by rw [h.cell j hj]; rfl)]
  · rw [World.cell?_setCell_other _ _ _ _ (by intro h'; injection h' with _ h'; exact e h'.symm), h.cell j hj, hT j hj e]
theorem Cnt.congr {w : World} {g n : Nat} {S T : Nat → Nat} (h : Cnt w g n S) (hT : ∀ j, j < n → T j = S j) : Cnt w g n T := ⟨h.lt, fun j hj => by rw [hT j hj]; exact h.cell j hj, h.free⟩
theorem cnt_new (w : World) (n : Nat) : Cnt (w.alloc (.cells (madeCells #[.int .i64 0] n) 3)) w.heap.size n (fun _ => 0) := by
  have r := RowAt.new w 3 (madeCells #[.int .i64 0] n)
  exact ⟨r.lt, fun j hj => r.cell j (zeros_at n j hj), fun j => r.frozen j⟩
def zI (l : List Nat) : List Int := l.map (fun j : Nat => (j : Int))
/-- the cells told for the first k workers of p, then for the first k slots -/
def aN (p k : Nat) : List Nat := [0, 1, 2] ++ (List.range k).flatMap (fun w => [3 + w, 3 + p + w])
def bN (p k : Nat) : List Nat := aN p p ++ (List.range k).map (fun i => 3 + p + p + i)
theorem aN_step (p k : Nat) : zI (aN p (k + 1)) = zI (aN p k) ++ [((3 + k : Nat) : Int), ((3 + p + k : Nat) : Int)] := by
  simp [zI, aN, List.range_succ]
theorem aN_len (p k : Nat) : (aN p k).length = 3 + 2 * k := by
  induction k with
  | zero => rfl
  | succ k ih =>
    have := congrArg List.length (aN_step p k)
    simp [zI] at this
    omega
theorem bN_step (p k : Nat) : zI (bN p (k + 1)) = zI (bN p k) ++ [((3 + p + p + k : Nat) : Int)] := by
  simp [zI, bN, List.range_succ]
theorem bN_len (p k : Nat) : (bN p k).length = 3 + 2 * p + k := by simp [bN, aN_len]
theorem zI_len (l : List Nat) : (zI l).length = l.length := by simp [zI]
set_option maxRecDepth 100000 in
theorem each_once : ∀ p : Fin 9, ∀ q : Fin 17, ∀ j : Fin 36, j.val < 3 + 2 * p.val + q.val → (bN p.val q.val).count j.val = 1 := by decide +kernel
set_option maxRecDepth 100000 in
theorem all_in : ∀ p : Fin 9, ∀ q : Fin 17, ∀ x ∈ bN p.val q.val, x < 3 + 2 * p.val + q.val := by decide +kernel
theorem count_take {l : List Nat} {k x : Nat} (h : l[k]? = some x) (j : Nat) : (l.take (k + 1)).count j = (l.take k).count j + (if x = j then 1 else 0) := by
  rw [List.take_add_one, h, List.count_append]
  simp [List.count_singleton]
theorem three_own (w0 w : World) (h : Below w0.heap.size w0 w) : Mine w0 (w.alloc (.cells #[.int .i64 0, .int .i64 1, .int .i64 2] 3)) (.slice (some ⟨w.heap.size, 0, none⟩) 3 3) [0, 1, 2] :=
  ⟨⟨rfl, .inr ⟨w.heap.size, 3, _, rfl, h.size, heap_alloc_new w _, Nat.le_refl _, by unfold maxLen; omega, rfl, rfl⟩⟩, h.alloc h.size _⟩
theorem Mine.run2 {R : Nat → Prop} {w0 w : World} {v : Value} {xs : List Int} (h : Mine w0 w v xs) (hf : Far R w v) {n : Nat} (hn : xs.length = n) (hn2 : n ≤ 1000000) (y z : Int) (g : Nat) (eg : w.heap.size = g) :
    ∃ A' c' w', (Builtin.append_ #[33, 33] 33 #[v, .slice (some ⟨g, 0, none⟩) 2 2]).run Tryd.prog (w.alloc (.cells #[.int .i64 y, .int .i64 z] 3)) = .ok (.slice A' (n + 2) c') w' ∧ Mine w0 w' (.slice A' (n + 2) c') (xs ++ [y, z]) ∧ Far R w' (.slice A' (n + 2) c') ∧ (∀ b, R b → w'.heap[b]? = w.heap[b]?) := by
  subst eg
  obtain ⟨i0, hi, hz0, hz1, hz2⟩ := info_parts infoI2
  have hsz := h.below.size
  obtain ⟨v', w4, hrun, hown4, hgrow4, _, hat⟩ := run_append_own_at (P := Tryd.prog) (w.alloc (.cells #[.int .i64 y, .int .i64 z] 3)) w0.heap.size 33 33 3 i0 (.int .i64 0) 1 8 Tryd.underlying33 hi hz0 hz1 hz2 rfl (by decide) v _ _ (h.own.alloc _) ⟨w.heap.size, 0, none⟩ 2 2 [Value.int .i64 y, Value.int .i64 z] rfl (two_new _ _ _ _) (by simp [Value.oneCell']) (by unfold maxLen; omega) (by omega) (by simp; omega)
  have hlen : (xs ++ [y, z]).length = n + 2 := by simp [hn]
  rw [hn] at hown4
  obtain ⟨A', c', rfl⟩ := own_form hown4
  obtain ⟨f1, f2⟩ := far_app hf hgrow4 hat
  exact ⟨A', c', w4, hrun, ⟨by rw [hlen]; simpa using hown4, (h.below.alloc hsz _).grown hgrow4 (by simp; omega) (fun j e => (h.own.lt j e).1)⟩, f1, f2⟩
/-- a list of one's own that is not empty lies in one block -/
theorem Mine.block {w0 w : World} {A : Option Addr} {n c : Nat} {l : List Nat} (h : Mine w0 w (.slice A n c) (zI l)) (h0 : 0 < n) : ∃ ga, A = some ⟨ga, 0, none⟩ ∧ l.length = n ∧ ga < w.heap.size ∧ ∀ (k : Nat) x, l[k]? = some x → w.cell? ⟨ga, k, none⟩ = some (.int .i64 x) := by
  obtain ⟨h1, h2, _, h3⟩ := h.inv
  rw [zI_len] at h1
  rcases h3 with ⟨_, e, _⟩ | ⟨g, rfl, _⟩
  · omega
  · have hg : ∀ (k : Nat) x, l[k]? = some x → g < w.heap.size ∧ w.cell? ⟨g, k, none⟩ = some (.int .i64 x) := by
      intro k x hk
      obtain ⟨b, off, e, hb, hc⟩ := h2 k x (by simp [zI, hk])
      injection e with e
      injection e with e1 e2
      subst e1 e2
      rw [Nat.zero_add] at hc
      exact ⟨hb, hc⟩
    have hx : l[0]? = some l[0] := List.getElem?_eq_getElem (by omega)
    exact ⟨g, rfl, h1, (hg 0 _ hx).1, fun k x hk => (hg k x hk).2⟩
end Go.Proofs.YtfnpleicbpbiaaaDoor
