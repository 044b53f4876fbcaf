/- The law of a range over an iterator whose loop variable lies in a box of its own, made anew each round. -/
import Derived.Test.YtbkaiffecnomjaaSeq
namespace Go.Proofs.Ytbkaiffecnomjaa
open Go.RowKit Go.Shelf
attribute [local go_sem] Oper.semAt_some

theorem wpIn_rangeB {α : Type} (ob : α → Obj) {enc : α → Array Value} {ps : Array Tmp} {g : Operand} {assign body : Code} {Q : Exit → Act → World → Prop} {a : Act} {w : World} {gf : Nat} {fi lb : Array Value}
    (hg : a.eval g = .func (.func gf) fi lb) (eg : ∀ args w, (callFunc gf args).run Try.prog w = .ok (.enter gf args) w)
    {St : World → Prop} {E : Set'} {xs : List α} (hseq : It St E enc gf fi lb xs) (hst : St w) (hps : ∀ x, (enc x).size = ps.size)
    (I : Set' → List α → World → Prop) (Ix : Code → Set' → List α → World → Prop) (hI : Ab I) (hIx : ∀ c, Ab (Ix c)) (h0 : I (fun _ => False) [] w) (a₁ : α → Nat → Act)
    (hassign : ∀ (l : Nat) (x : α) (W : World) (K : Act → World → Prop), K (a₁ x W.heap.size) (W.alloc (ob x)) →
      assign.wpIn (Fence.wide.inRound l) 4 Try.prog (Exit.then K (fun _ _ _ => False)) { tmps := (ps.zip (enc x)).foldl (fun t (p, v) => t.setIfInBounds p v) a.tmps, defers := [] } W)
    (hbody : ∀ (l : Nat) (Y : Set') (pre : List α) (x : α) (B : Nat) (W : World), Y l → I Y pre W → pre ++ [x] <+: xs → W.heap[B]? = some (ob x) → ¬ Y B → ¬ E B → w.heap.size < B → B + 1 = W.heap.size → body.wpIn (Fence.wide.inRound l) 4 Try.prog (rPost E Y I Ix (pre ++ [x]) W) (a₁ x B) W)
    (hdone : ∀ (Y : Set') (D : Nat) (W : World), Y D → D = w.heap.size → I Y xs W → W.heap[D]? = some (.deferred (some [])) → Q .normal { a with defers := { target := .collected D, args := #[] } :: a.defers } W)
    (hstop : ∀ (Y : Set') (D : Nat) (c : Code) (pre : List α) (W : World), Y D → D = w.heap.size → pre <+: xs → Ix c Y pre W → W.heap[D]? = some (.deferred (some [])) → c.wpIn Fence.wide 6 Try.prog Q { a with defers := { target := .collected D, args := #[] } :: a.defers } W) :
    (Code.rangeFunc g ps assign body).wpIn Fence.wide 6 Try.prog Q a w := by
  refine wpIn_rangeFunc ?_
  intro fn hfn
  show ∃ (l : Nat) (mark : List Deferred) (w₁ : World) (d : Deferred) (w₁' : World) (f : FuncId) (args : Array Value) (w₂ : World),
      (Instr.enterLoop fn a.tmps ps assign body none).run Try.prog w = .ok (l, mark) w₁ ∧ _
  obtain ⟨rec, hrec⟩ : ∃ rec : LoopState → Option Code → Loop, rec = fun st pe => { state := st, pending := pe, fn, tmps := a.tmps, params := ps, assign, body, defers := w.heap.size } := ⟨_, rfl⟩
  obtain ⟨W1, hW1⟩ : ∃ W1, (w.alloc (.deferred (some []))).alloc (.loop (rec .ready none)) = W1 := ⟨_, rfl⟩
  obtain ⟨D, hD⟩ : ∃ D, D = w.heap.size := ⟨_, rfl⟩
  have hL1 : W1.heap[D + 1]? = some (.loop (rec .ready none)) := by
    rw [← hW1, hD]; have := World.alloc_heap_new (w.alloc (.deferred (some []))) (.loop (rec .ready none)); rwa [World.size_alloc] at this
  have hK1 : W1.heap[D]? = some (.deferred (some [])) := by
    rw [← hW1, hD]; exact (Below.heap_alloc _ _ _ (by simp)).trans (World.alloc_heap_new w _)
  have hb1 : Below w.heap.size w W1 := by
    rw [← hW1]; exact ((Below.refl _ w).alloc (Nat.le_refl _) _).alloc (by simp) _
  have hX0 : ∀ k, E k → k < D := fun k hk => by rw [hD]; exact hseq.lt w hst k hk
  have hs1 : W1.heap.size = D + 2 := by rw [← hW1, hD]; simp
  have hI1 : I (fun k => False ∨ k = D ∨ k = D + 1) [] W1 := by
    refine hI (fun _ => False) _ [] w W1 h0 ⟨hb1.os, hb1.tape, hb1.output, hb1.size, fun k hk _ => hb1.block k hk, fun _ h => .inl h, fun k h => h.imp id (fun e => ?_)⟩
    rw [hs1]; omega
  refine ⟨D + 1, [{ target := .collected D, args := #[] }], W1, { target := .fn (.func gf) lb, args := fi ++ #[.func (.yield (D + 1)) #[] #[]] }, W1, gf,
    fi ++ #[.func (.yield (D + 1)) #[] #[]] ++ lb, W1, ?_, ?_, fun _ _ => trivial, ?_, (fun _ => by omega), ?_⟩
  · rw [← hW1, hrec, hD]; exact run_enterLoop_outer _ _ _ _ _
  · simp only [resolve, hg]
    simp [go_sem]
  · simp [invoke, go_sem, eg]
  have hAb : ∀ {J : Set' → List α → World → Prop} (hJ : Ab J) (r : Loop), Ab (fun X pre W => J (fun k => X k ∨ k = D ∨ k = D + 1) pre W ∧ ((¬ X D ∧ ¬ X (D + 1)) ∧ ∀ k, X k → k < W.heap.size) ∧ W.heap[D + 1]? = some (.loop r) ∧ W.heap[D]? = some (.deferred (some []))) := by
    rintro J hJ r X X' s A B ⟨h1, ⟨⟨h2, h3⟩, h6⟩, h4, h5⟩ hg
    have l4 := (Array.getElem?_eq_some_iff.1 h4).1
    refine ⟨hJ _ _ s A B h1 ⟨hg.os, hg.tape, hg.output, hg.size, fun k hk hx => hg.block k hk (fun e => hx (.inl e)), fun k h => h.imp (hg.sub k) id, fun k h => ?_⟩, ⟨⟨fun e => ?_, fun e => ?_⟩, fun k e => (hg.new k e).elim (fun e => Nat.lt_of_lt_of_le (h6 k e) hg.size) (fun e => e.2)⟩, (hg.block _ l4 h3).trans h4, (hg.block _ (by omega) h2).trans h5⟩
    · rcases h with h | h
      · exact (hg.new k h).imp .inl id
      · exact .inl (.inr h)
    · exact (hg.new D e).elim h2 (fun e => by omega)
    · exact (hg.new _ e).elim h3 (fun e => by omega)
  refine callsIn_wide.2 ((hseq.tells (D + 1)
      (fun X pre W => I (fun k => X k ∨ k = D ∨ k = D + 1) pre W ∧ ((¬ X D ∧ ¬ X (D + 1)) ∧ ∀ k, X k → k < W.heap.size) ∧ W.heap[D + 1]? = some (.loop (rec .ready none)) ∧ W.heap[D]? = some (.deferred (some [])))
      (fun X pre W => ∃ c, Ix c (fun k => X k ∨ k = D ∨ k = D + 1) pre W ∧ ((¬ X D ∧ ¬ X (D + 1)) ∧ ∀ k, X k → k < W.heap.size) ∧ W.heap[D + 1]? = some (.loop (rec .done (some c))) ∧ W.heap[D]? = some (.deferred (some [])))
      W1 (hseq.on w W1 hst hb1) (hAb hI _) (fun X X' s A B h hg => by
        obtain ⟨c, h⟩ := h
        exact ⟨c, hAb (hIx c) _ X X' s A B h hg⟩)
      ?_ ⟨hI1, ⟨⟨fun h => h, fun h => h⟩, fun _ h => h.elim⟩, hL1, hK1⟩).mono ?_)
  · -- one round
    rintro m X pre x W0 ⟨hi, ⟨⟨hxD, hxL⟩, hXl⟩, hl, hk⟩ hlen
    have hlt0 : D + 1 < W0.heap.size := (Array.getElem?_eq_some_iff.1 hl).1
    have hy := run_yield (P := Try.prog) (args := enc x) hl (by rw [hrec]; exact hps x)
    rw [hrec] at hy
    obtain ⟨W, hW⟩ : ∃ W, W = W0.alloc (ob x) := ⟨_, rfl⟩
    have hbW : Below W0.heap.size W0 W := by rw [hW]; exact (Below.refl _ _).alloc (Nat.le_refl _) _
    have hlW : W.heap[D + 1]? = some (.loop (rec .ready none)) := (hbW.block _ hlt0).trans hl
    have hkW : W.heap[D]? = some (.deferred (some [])) := (hbW.block _ (by omega)).trans hk
    have hlt : D + 1 < W.heap.size := (Array.getElem?_eq_some_iff.1 hlW).1
    have hoW : W.heap[W0.heap.size]? = some (ob x) := by rw [hW]; exact World.alloc_heap_new _ _
    have hsW : W0.heap.size + 1 = W.heap.size := by rw [hW]; simp
    refine ⟨fn, _, assign, body, hy, roundIn_dep (n := 4) (roundIn_of_wpIn hfn (hassign _ x W0 _ ?_))⟩
    rw [← hW]
    refine ⟨_, run_beginRound hlW (by rw [hrec]), ?_⟩
    have hl2 : (W.putObj (D + 1) (.loop { rec .ready none with state := .busy })).heap[D + 1]? = some (.loop { rec .ready none with state := .busy }) := World.putObj_heap_same hlt
    have hk2 : (W.putObj (D + 1) (.loop { rec .ready none with state := .busy })).heap[D]? = some (.deferred (some [])) := (World.putObj_heap_other (by omega)).trans hkW
    have hEk : ∀ k, E k ∨ X k → k ≠ D + 1 := fun k h e => by
      rcases h with h | h
      · have := hX0 k h; omega
      · exact hxL (e ▸ h)
    have hEl : ∀ k, E k ∨ X k → k < W0.heap.size := fun k h => by
      rcases h with h | h
      · have := hX0 k h; omega
      · exact hXl k h
    refine wpIn_mono (hbody _ (fun k => X k ∨ k = D ∨ k = D + 1) pre x W0.heap.size _ (.inr (.inr rfl)) (hI _ _ _ _ _ (hI _ _ _ _ _ hi (Grow.of_below hbW)) (Grow.putObj _ _ _ (.inr (.inr rfl)))) hlen ((World.putObj_heap_other (by omega)).trans hoW) (fun h => by rcases h with h | h | h <;> first | (have := hXl _ h; omega) | omega) (fun h => by have := hX0 _ h; omega) (by omega) (by simpa using hsW)) ?_
    have fin : ∀ (jump : Option Code) (W3 : World), Kept E (fun k => X k ∨ k = D ∨ k = D + 1) (W.putObj (D + 1) (.loop { rec .ready none with state := .busy })) W3 →
        (Instr.endRound (D + 1) jump).run Try.prog W3 = .ok (.bool jump.isNone) (W3.putObj (D + 1) (.loop (rec (if jump.isNone then .ready else .done) jump))) ∧
        (W3.putObj (D + 1) (.loop (rec (if jump.isNone then .ready else .done) jump))).heap[D + 1]? = some (.loop (rec (if jump.isNone then .ready else .done) jump)) ∧
        (W3.putObj (D + 1) (.loop (rec (if jump.isNone then .ready else .done) jump))).heap[D]? = some (.deferred (some [])) ∧
        Kept E X W0 (W3.putObj (D + 1) (.loop (rec (if jump.isNone then .ready else .done) jump))) ∧ ∀ k, X k → k < (W3.putObj (D + 1) (.loop (rec (if jump.isNone then .ready else .done) jump))).heap.size := fun jump W3 hk3 => by
      have hl3 := (hk3 (D + 1) (.inr (.inr (.inr rfl)))).trans hl2
      have hd3 := (hk3 D (.inr (.inr (.inl rfl)))).trans hk2
      have := run_endRound (P := Try.prog) jump hl3
      rw [hrec] at this ⊢
      refine ⟨this, World.putObj_heap_same (Array.getElem?_eq_some_iff.1 hl3).1, (World.putObj_heap_other (by omega)).trans hd3, fun k h => ?_, fun k h => ?_⟩
      rotate_left
      · have h3 := hk3 k (.inr (.inl h))
        have h4 := hEl k (.inr h)
        have := heap_lt h3 (by simp; omega)
        simpa using this
      exact (World.putObj_heap_other (hEk k h)).trans ((hk3 k (h.imp id .inl)).trans ((World.putObj_heap_other (hEk k h)).trans (hbW.block k (hEl k h))))
    rintro e a3 W3 hp
    cases e with
    | normal =>
      obtain ⟨hk3, hi3⟩ := hp
      obtain ⟨hr, hl4, hk4, hkk, hXk⟩ := fin none W3 hk3
      exact ⟨_, _, hr, .inl ⟨rfl, ⟨hI _ _ _ _ _ hi3 (Grow.putObj _ _ _ (.inr (.inr rfl))), ⟨⟨hxD, hxL⟩, hXk⟩, hl4, hk4⟩, hkk⟩⟩
    | ret =>
      obtain ⟨hk3, hi3⟩ := hp
      obtain ⟨hr, hl4, hk4, hkk, hXk⟩ := fin (some .ret) W3 hk3
      exact ⟨_, _, hr, .inr ⟨rfl, ⟨.ret, hIx _ _ _ _ _ _ hi3 (Grow.putObj _ _ _ (.inr (.inr rfl))), ⟨⟨hxD, hxL⟩, hXk⟩, hl4, hk4⟩, hkk⟩⟩
    | exit id =>
      obtain ⟨hk3, hi3⟩ := hp
      obtain ⟨hr, hl4, hk4, hkk, hXk⟩ := fin (some (.exit id)) W3 hk3
      exact ⟨_, _, hr, .inr ⟨rfl, ⟨.exit id, hIx _ _ _ _ _ _ hi3 (Grow.putObj _ _ _ (.inr (.inr rfl))), ⟨⟨hxD, hxL⟩, hXk⟩, hl4, hk4⟩, hkk⟩⟩
    | goto t =>
      obtain ⟨hk3, hi3⟩ := hp
      obtain ⟨hr, hl4, hk4, hkk, hXk⟩ := fin (some (.goto t)) W3 hk3
      exact ⟨_, _, hr, .inr ⟨rfl, ⟨.goto t, hIx _ _ _ _ _ _ hi3 (Grow.putObj _ _ _ (.inr (.inr rfl))), ⟨⟨hxD, hxL⟩, hXk⟩, hl4, hk4⟩, hkk⟩⟩
    | panic ch => exact hp.elim
    | outgrown => exact hp.elim
  · -- behind the iterator
    rintro e W2 ⟨⟨v, rfl⟩, X, (⟨hi, ⟨⟨hxD, hxL⟩, _⟩, hl, hk⟩ | ⟨pre, hSp, c, hi, ⟨⟨hxD, hxL⟩, _⟩, hl, hk⟩)⟩
    · have hr := run_endLoop (P := Try.prog) hl (by rw [hrec]; simp)
      rw [hrec] at hr
      exact ⟨none, _, hr, hdone (fun k => X k ∨ k = D ∨ k = D + 1) D _ (.inr (.inl rfl)) hD (hI _ _ _ _ _ hi (Grow.putObj _ _ _ (.inr (.inr rfl)))) ((World.putObj_heap_other (by omega)).trans hk)⟩
    · have hr := run_endLoop (P := Try.prog) hl (by rw [hrec]; simp)
      rw [hrec] at hr
      exact ⟨some c, _, hr, hstop (fun k => X k ∨ k = D ∨ k = D + 1) D c pre _ (.inr (.inl rfl)) hD hSp (hIx _ _ _ _ _ _ hi (Grow.putObj _ _ _ (.inr (.inr rfl)))) ((World.putObj_heap_other (by omega)).trans hk)⟩

end Go.Proofs.Ytbkaiffecnomjaa
