/- An iterator's contract that goes through iterators over iterators: who ranges says what abides the iterator's own blocks; the iterator says which blocks a round must keep; and the law of a range over it. -/
import Derived.RangeFuncNested
import Derived.RangeFuncBound
import Derived.RangeFuncCalls
import Derived.RangeFuncLeaves
import Derived.Shelf.Abstract
import Derived.Shelf.RegionOpen
import Derived.WalkKit
import Derived.OwnWalkIn
import Derived.TacticsInMore
import Derived.LoopNIn
import Derived.LoopIn
import Derived.Deep.RegionHeld3
import Derived.Deep.DrawnRows
import Derived.Deep.QuietTactic
import Derived.BigQuiet
import Derived.Lib.Hide
import Derived.Test.YtpgidjebihgdaaaRows
namespace Go.Proofs.Ytpgidjebihgdaaa
open Go.RowKit Go.Shelf

abbrev Set' := Nat → Prop
/-- B came out of A: blocks of X have turned, and there are new ones; X' is X with some of the new ones -/
structure Grow (X : Set') (A : World) (X' : Set') (B : World) : Prop where
  os : B.os = A.os
  tape : B.tape = A.tape
  output : B.output = A.output
  size : A.heap.size ≤ B.heap.size
  block : ∀ k, k < A.heap.size → ¬ X k → B.heap[k]? = A.heap[k]?
  sub : ∀ k, X k → X' k
  new : ∀ k, X' k → X k ∨ (A.heap.size ≤ k ∧ k < B.heap.size)
theorem Grow.refl (X : Set') (A : World) : Grow X A X A := ⟨rfl, rfl, rfl, Nat.le_refl _, fun _ _ _ => rfl, fun _ h => h, fun _ h => .inl h⟩
theorem Grow.trans {X Y Z : Set'} {A B C : World} (h : Grow X A Y B) (k : Grow Y B Z C) : Grow X A Z C :=
  ⟨k.os.trans h.os, k.tape.trans h.tape, k.output.trans h.output, Nat.le_trans h.size k.size,
    fun i hi hx => (k.block i (Nat.lt_of_lt_of_le hi h.size) (fun hy => (h.new i hy).elim hx (fun e => by omega))).trans (h.block i hi hx),
    fun i hx => k.sub i (h.sub i hx), fun i hz => (k.new i hz).elim (fun hy => (h.new i hy).imp id (fun e => ⟨e.1, Nat.lt_of_lt_of_le e.2 k.size⟩)) (fun e => .inr ⟨Nat.le_trans h.size e.1, e.2⟩)⟩
theorem Grow.of_below {X : Set'} {A B : World} (h : Below A.heap.size A B) : Grow X A X B := ⟨h.os, h.tape, h.output, h.size, fun k hk _ => h.block k hk, fun _ h => h, fun _ h => .inl h⟩
theorem Grow.below {X' : Set'} {A B : World} (h : Grow (fun _ => False) A X' B) : Below A.heap.size A B := ⟨h.os, h.tape, h.output, h.size, fun k hk => h.block k hk (fun h => h)⟩
theorem Grow.putObj {X : Set'} (A : World) (k : Nat) (o : Obj) (hk : X k) : Grow X A X (A.putObj k o) :=
  ⟨rfl, rfl, rfl, by simp, fun _ _ hj => World.putObj_heap_other (fun e => hj (e ▸ hk)), fun _ h => h, fun _ h => .inl h⟩
theorem Grow.setCell {X : Set'} (A : World) (p : Addr) (v : Value) (hk : X p.block) : Grow X A X (A.setCell p v) :=
  ⟨rfl, rfl, rfl, by show A.heap.size ≤ (A.heap.modify _ _).size; rw [Array.size_modify]; exact Nat.le_refl _, fun j _ hj => Below.heap_setCell A p v j (fun e => hj (e ▸ hk)), fun _ h => h, fun _ h => .inl h⟩
/-- a new block, the iterator's own -/
theorem Grow.alloc (X : Set') (A : World) (o : Obj) : Grow X A (fun k => X k ∨ k = A.heap.size) (A.alloc o) :=
  ⟨rfl, rfl, rfl, by simp, fun k hk _ => Below.heap_alloc A o k hk, fun _ h => .inl h, fun k h => h.imp id (fun e => by simp; omega)⟩
theorem Grow.cell {X X' : Set'} {A B : World} {p : Addr} {v : Value} (h : Grow X A X' B) (hp : A.cell? p = some v) (hx : ¬ X p.block) : B.cell? p = some v :=
  (World.cell?_of_block (w := A) (a := p) (h.block _ (World.block_lt_of_cell? A _ hp) hx)).trans hp

/-- what abides whatever an iterator does with the blocks that are its own, X, and with new ones -/
def Ab {β : Type} (J : Set' → β → World → Prop) : Prop := ∀ X X' s A B, J X s A → Grow X A X' B → J X' s B
/-- what a round keeps: the blocks that the iterator reads, and its own ones -/
def Kept (E X : Set') (A B : World) : Prop := ∀ k, E k ∨ X k → B.heap[k]? = A.heap[k]?
theorem Kept.refl (E X : Set') (A : World) : Kept E X A A := fun _ _ => rfl
theorem Kept.trans {E X : Set'} {A B C : World} (h : Kept E X A B) (k : Kept E X B C) : Kept E X A C := fun i hi => (k i hi).trans (h i hi)
theorem Kept.less {E E' X X' : Set'} {A B : World} (h : Kept E X A B) (he : ∀ k, E' k ∨ X' k → E k ∨ X k) : Kept E' X' A B := fun k hk => h k (he k hk)
theorem Kept.cell {E X : Set'} {A B : World} {p : Addr} {v : Value} (h : Kept E X A B) (hp : A.cell? p = some v) (hx : E p.block ∨ X p.block) : B.cell? p = some v :=
  (World.cell?_of_block (w := A) (a := p) (h _ hx)).trans hp

abbrev vI (x : Int) : Value := .int .i64 x
/-- each round, the iterator's own blocks being X: it goes on, or is left; either way it keeps what the iterator reads -/
def Rounds (E : Set') (l N : Nat) (J Jx : Set' → List Int → World → Prop) : Prop :=
  ∀ (m : Nat) X pre x V, J X pre V → pre.length < N → YieldAt Fence.wide m Try.prog l #[vI x] V fun e V' =>
    (e = .returned (.bool true) ∧ J X (pre ++ [x]) V' ∧ Kept E X V V') ∨ (e = .returned (.bool false) ∧ Jx X (pre ++ [x]) V' ∧ Kept E X V V')

/-- the function value .func gf with lb tells lists of S, N numbers at most, or, left, one of Sp; it reads the blocks E, and may turn those of X0 -/
structure It (E X0 : Set') (g : Nat) (lb : Array Value) (S Sp : List Int → World → Prop) (N : Nat) (w : World) : Prop where
  lt : ∀ k, E k ∨ X0 k → k < w.heap.size
  apart : ∀ k, E k → ¬ X0 k
  st : ∀ xs A B, Kept X0 X0 A B → S xs A → S xs B
  stp : ∀ xs A B, Kept X0 X0 A B → Sp xs A → Sp xs B
  tells : ∀ (l : Nat) (J Jx : Set' → List Int → World → Prop) (W : World), w.heap.size ≤ W.heap.size → Kept E X0 w W → Ab J → Ab Jx → Rounds E l N J Jx → J X0 [] W →
    Calls Try.prog g (#[.func (.yield l) #[] #[]] ++ lb) W fun e W' => (∃ v, e = .returned v) ∧ ∃ X, (∀ k, X0 k → X k) ∧ ((∃ xs, S xs W' ∧ J X xs W') ∨ (∃ pre, Sp pre W' ∧ Jx X pre W'))
theorem It.on {E X0 : Set'} {g : Nat} {lb : Array Value} {S Sp : List Int → World → Prop} {N : Nat} {w w' : World} (h : It E X0 g lb S Sp N w) (hs : w.heap.size ≤ w'.heap.size) (hk : Kept E X0 w w') : It E X0 g lb S Sp N w' :=
  ⟨fun k hx => Nat.lt_of_lt_of_le (h.lt k hx) hs, h.apart, h.st, h.stp, fun l J Jx W hW hK hJ hJx hY h0 => h.tells l J Jx W (Nat.le_trans hs hW) (hk.trans hK) hJ hJx hY h0⟩
theorem It.below {E X0 : Set'} {g : Nat} {lb : Array Value} {S Sp : List Int → World → Prop} {N : Nat} {w w' : World} (h : It E X0 g lb S Sp N w) (hb : Below w.heap.size w w') : It E X0 g lb S Sp N w' :=
  h.on hb.size (fun k hk => hb.block k (h.lt k hk))

/-- how the body of a round may be left -/
def rPost (E Y : Set') (I : Set' → List Int → World → Prop) (Ix : Code → Set' → List Int → World → Prop) (xs : List Int) (W : World) : Exit → Act → World → Prop
  | .normal, _, W' => Kept E Y W W' ∧ I Y xs W'
  | .ret, _, W' => Kept E Y W W' ∧ Ix .ret Y xs W'
  | .exit id, _, W' => Kept E Y W W' ∧ Ix (.exit id) Y xs W'
  | .goto t, _, W' => Kept E Y W W' ∧ Ix (.goto t) Y xs W'
  | .panic _, _, _ => False
  | .outgrown, _, _ => False

theorem callsIn_dep {n m : Nat} {P : Program} {f : FuncId} {args : Array Value} {w : World} {R : Ending → World → Prop} (h : CallsIn Fence.wide n P f args w R) : CallsIn Fence.wide m P f args w R := callsIn_wide.2 (callsIn_wide.1 h)

theorem roundIn_dep {n m : Nat} {P : Program} {l : Nat} {f : FuncId} {tmps : Array Value} {assign body : Code} {w : World} {R : Ending → World → Prop} (h : RoundIn Fence.wide n P l f tmps assign body w R) : RoundIn Fence.wide m P l f tmps assign body w R :=
  ⟨h.1, fun c cs _ => h.2 c cs (room_wide _)⟩

theorem wpIn_range {ps : Array Tmp} {g : Operand} {assign body : Code} {Q : Exit → Act → World → Prop} {a : Act} {w : World} {gf : Nat} {lb : Array Value}
    (hg : a.eval g = .func (.func gf) #[] lb) (eg : ∀ args w, (callFunc gf args).run Try.prog w = .ok (.enter gf args) w)
    {E X0 : Set'} {S Sp : List Int → World → Prop} {N : Nat} (hseq : It E X0 gf lb S Sp N w) (hps : ps.size = 1)
    (I : Set' → List Int → World → Prop) (Ix : Code → Set' → List Int → World → Prop) (hI : Ab I) (hIx : ∀ c, Ab (Ix c)) (h0 : I X0 [] w) (a₁ : Int → Act)
    (hassign : ∀ (l : Nat) (x : Int) (W : World) (K : Act → World → Prop), K (a₁ x) W →
      assign.wpIn (Fence.wide.inRound l) 4 Try.prog (Exit.then K (fun _ _ _ => False)) { tmps := (ps.zip #[vI x]).foldl (fun t (p, v) => t.setIfInBounds p v) a.tmps, defers := [] } W)
    (hbody : ∀ (l : Nat) (Y : Set') (pre : List Int) (x : Int) (W : World), Y l → I Y pre W → pre.length < N → body.wpIn (Fence.wide.inRound l) 4 Try.prog (rPost E Y I Ix (pre ++ [x]) W) (a₁ x) W)
    (hdone : ∀ (Y : Set') (D : Nat) (xs : List Int) (W : World), Y D → ¬ X0 D → (∀ k, X0 k → Y k) → S xs W → I Y xs W → W.heap[D]? = some (.deferred (some [])) → Q .normal { a with defers := { target := .collected D, args := #[] } :: a.defers } W)
    (hstop : ∀ (Y : Set') (D : Nat) (c : Code) (pre : List Int) (W : World), Y D → ¬ X0 D → (∀ k, X0 k → Y k) → Sp pre W → Ix c Y pre W → W.heap[D]? = some (.deferred (some [])) → c.wpIn Fence.wide 6 Try.prog Q { a with defers := { target := .collected D, args := #[] } :: a.defers } W) :
    (Code.rangeFunc g ps assign body).wpIn Fence.wide 6 Try.prog Q a w := by
  refine wpIn_rangeFunc ?_
  intro fn hfn
  show ∃ (l : Nat) (mark : List Deferred) (w₁ : World) (d : Deferred) (w₁' : World) (f : FuncId) (args : Array Value) (w₂ : World),
      (Instr.enterLoop fn a.tmps ps assign body none).run Try.prog w = .ok (l, mark) w₁ ∧ _
  obtain ⟨rec, hrec⟩ : ∃ rec : LoopState → Option Code → Loop, rec = fun st pe => { state := st, pending := pe, fn, tmps := a.tmps, params := ps, assign, body, defers := w.heap.size } := ⟨_, rfl⟩
  obtain ⟨W1, hW1⟩ : ∃ W1, (w.alloc (.deferred (some []))).alloc (.loop (rec .ready none)) = W1 := ⟨_, rfl⟩
  obtain ⟨D, hD⟩ : ∃ D, D = w.heap.size := ⟨_, rfl⟩
  have hL1 : W1.heap[D + 1]? = some (.loop (rec .ready none)) := by
    rw [← hW1, hD]; have := World.alloc_heap_new (w.alloc (.deferred (some []))) (.loop (rec .ready none)); rwa [World.size_alloc] at this
  have hK1 : W1.heap[D]? = some (.deferred (some [])) := by
    rw [← hW1, hD]; exact (Below.heap_alloc _ _ _ (by simp)).trans (World.alloc_heap_new w _)
  have hb1 : Below w.heap.size w W1 := by
    rw [← hW1]; exact ((Below.refl _ w).alloc (Nat.le_refl _) _).alloc (by simp) _
  have hX0 : ∀ k, E k ∨ X0 k → k < D := fun k hk => by rw [hD]; exact hseq.lt k hk
  have hs1 : W1.heap.size = D + 2 := by rw [← hW1, hD]; simp
  have hI1 : I (fun k => X0 k ∨ k = D ∨ k = D + 1) [] W1 := by
    refine hI X0 _ [] w W1 h0 ⟨hb1.os, hb1.tape, hb1.output, hb1.size, fun k hk _ => hb1.block k hk, fun _ h => .inl h, fun k h => h.imp id (fun e => ?_)⟩
    rw [hs1]; omega
  refine ⟨D + 1, [{ target := .collected D, args := #[] }], W1, { target := .fn (.func gf) lb, args := #[.func (.yield (D + 1)) #[] #[]] }, W1, gf,
    #[.func (.yield (D + 1)) #[] #[]] ++ lb, W1, ?_, ?_, fun _ _ => trivial, ?_, (fun _ => by omega), ?_⟩
  · rw [← hW1, hrec, hD]; exact run_enterLoop_outer _ _ _ _ _
  · simp only [resolve, hg]
    simp [go_sem]
  · simp [invoke, go_sem, eg]
  have hAb : ∀ {J : Set' → List Int → World → Prop} (hJ : Ab J) (r : Loop), Ab (fun X pre W => J (fun k => X k ∨ k = D ∨ k = D + 1) pre W ∧ (¬ X D ∧ ¬ X (D + 1)) ∧ W.heap[D + 1]? = some (.loop r) ∧ W.heap[D]? = some (.deferred (some []))) := by
    rintro J hJ r X X' s A B ⟨h1, ⟨h2, h3⟩, h4, h5⟩ hg
    have l4 := (Array.getElem?_eq_some_iff.1 h4).1
    refine ⟨hJ _ _ s A B h1 ⟨hg.os, hg.tape, hg.output, hg.size, fun k hk hx => hg.block k hk (fun e => hx (.inl e)), fun k h => h.imp (hg.sub k) id, fun k h => ?_⟩, ⟨fun e => ?_, fun e => ?_⟩, (hg.block _ l4 h3).trans h4, (hg.block _ (by omega) h2).trans h5⟩
    · rcases h with h | h
      · exact (hg.new k h).imp .inl id
      · exact .inl (.inr h)
    · exact (hg.new D e).elim h2 (fun e => by omega)
    · exact (hg.new _ e).elim h3 (fun e => by omega)
  refine callsIn_wide.2 ((hseq.tells (D + 1)
      (fun X pre W => I (fun k => X k ∨ k = D ∨ k = D + 1) pre W ∧ (¬ X D ∧ ¬ X (D + 1)) ∧ W.heap[D + 1]? = some (.loop (rec .ready none)) ∧ W.heap[D]? = some (.deferred (some [])))
      (fun X pre W => ∃ c, Ix c (fun k => X k ∨ k = D ∨ k = D + 1) pre W ∧ (¬ X D ∧ ¬ X (D + 1)) ∧ W.heap[D + 1]? = some (.loop (rec .done (some c))) ∧ W.heap[D]? = some (.deferred (some [])))
      W1 hb1.size (fun k hk => hb1.block k (hseq.lt k hk)) (hAb hI _) (fun X X' s A B h hg => by
        obtain ⟨c, h⟩ := h
        exact ⟨c, hAb (hIx c) _ X X' s A B h hg⟩)
      ?_ ⟨hI1, ⟨fun h => by have := hX0 _ (.inr h); omega, fun h => by have := hX0 _ (.inr h); omega⟩, hL1, hK1⟩).mono ?_)
  · -- one round
    rintro m X pre x W ⟨hi, ⟨hxD, hxL⟩, hl, hk⟩ hlen
    have hlt : D + 1 < W.heap.size := (Array.getElem?_eq_some_iff.1 hl).1
    have hy := run_yield (P := Try.prog) (args := #[vI x]) hl (by rw [hrec]; exact hps.symm)
    rw [hrec] at hy
    refine ⟨fn, _, assign, body, hy, roundIn_dep (n := 4) (roundIn_of_wpIn hfn (hassign _ x W _ ⟨_, run_beginRound hl (by rw [hrec]), ?_⟩))⟩
    have hl2 : (W.putObj (D + 1) (.loop { rec .ready none with state := .busy })).heap[D + 1]? = some (.loop { rec .ready none with state := .busy }) := World.putObj_heap_same hlt
    have hk2 : (W.putObj (D + 1) (.loop { rec .ready none with state := .busy })).heap[D]? = some (.deferred (some [])) := (World.putObj_heap_other (by omega)).trans hk
    have hEk : ∀ k, E k ∨ X k → k ≠ D + 1 := fun k h e => by
      rcases h with h | h
      · have := hX0 k (.inl h); omega
      · exact hxL (e ▸ h)
    refine wpIn_mono (hbody _ (fun k => X k ∨ k = D ∨ k = D + 1) pre x _ (.inr (.inr rfl)) (hI _ _ _ _ _ hi (Grow.putObj _ _ _ (.inr (.inr rfl)))) hlen) ?_
    have fin : ∀ (jump : Option Code) (W3 : World), Kept E (fun k => X k ∨ k = D ∨ k = D + 1) (W.putObj (D + 1) (.loop { rec .ready none with state := .busy })) W3 →
        (Instr.endRound (D + 1) jump).run Try.prog W3 = .ok (.bool jump.isNone) (W3.putObj (D + 1) (.loop (rec (if jump.isNone then .ready else .done) jump))) ∧
        (W3.putObj (D + 1) (.loop (rec (if jump.isNone then .ready else .done) jump))).heap[D + 1]? = some (.loop (rec (if jump.isNone then .ready else .done) jump)) ∧
        (W3.putObj (D + 1) (.loop (rec (if jump.isNone then .ready else .done) jump))).heap[D]? = some (.deferred (some [])) ∧
        Kept E X W (W3.putObj (D + 1) (.loop (rec (if jump.isNone then .ready else .done) jump))) := fun jump W3 hk3 => by
      have hl3 := (hk3 (D + 1) (.inr (.inr (.inr rfl)))).trans hl2
      have hd3 := (hk3 D (.inr (.inr (.inl rfl)))).trans hk2
      have := run_endRound (P := Try.prog) jump hl3
      rw [hrec] at this ⊢
      refine ⟨this, World.putObj_heap_same (Array.getElem?_eq_some_iff.1 hl3).1, (World.putObj_heap_other (by omega)).trans hd3, fun k h => ?_⟩
      exact (World.putObj_heap_other (hEk k h)).trans ((hk3 k (h.imp id .inl)).trans (World.putObj_heap_other (hEk k h)))
    rintro e a3 W3 hp
    cases e with
    | normal =>
      obtain ⟨hk3, hi3⟩ := hp
      obtain ⟨hr, hl4, hk4, hkk⟩ := fin none W3 hk3
      exact ⟨_, _, hr, .inl ⟨rfl, ⟨hI _ _ _ _ _ hi3 (Grow.putObj _ _ _ (.inr (.inr rfl))), ⟨hxD, hxL⟩, hl4, hk4⟩, hkk⟩⟩
    | ret =>
      obtain ⟨hk3, hi3⟩ := hp
      obtain ⟨hr, hl4, hk4, hkk⟩ := fin (some .ret) W3 hk3
      exact ⟨_, _, hr, .inr ⟨rfl, ⟨.ret, hIx _ _ _ _ _ _ hi3 (Grow.putObj _ _ _ (.inr (.inr rfl))), ⟨hxD, hxL⟩, hl4, hk4⟩, hkk⟩⟩
    | exit id =>
      obtain ⟨hk3, hi3⟩ := hp
      obtain ⟨hr, hl4, hk4, hkk⟩ := fin (some (.exit id)) W3 hk3
      exact ⟨_, _, hr, .inr ⟨rfl, ⟨.exit id, hIx _ _ _ _ _ _ hi3 (Grow.putObj _ _ _ (.inr (.inr rfl))), ⟨hxD, hxL⟩, hl4, hk4⟩, hkk⟩⟩
    | goto t =>
      obtain ⟨hk3, hi3⟩ := hp
      obtain ⟨hr, hl4, hk4, hkk⟩ := fin (some (.goto t)) W3 hk3
      exact ⟨_, _, hr, .inr ⟨rfl, ⟨.goto t, hIx _ _ _ _ _ _ hi3 (Grow.putObj _ _ _ (.inr (.inr rfl))), ⟨hxD, hxL⟩, hl4, hk4⟩, hkk⟩⟩
    | panic ch => exact hp.elim
    | outgrown => exact hp.elim
  · -- behind the iterator
    rintro e W2 ⟨⟨v, rfl⟩, X, hX, (⟨xs, hS, hi, ⟨hxD, hxL⟩, hl, hk⟩ | ⟨pre, hSp, c, hi, ⟨hxD, hxL⟩, hl, hk⟩)⟩
    · have hr := run_endLoop (P := Try.prog) hl (by rw [hrec]; simp)
      rw [hrec] at hr
      refine ⟨none, _, hr, hdone (fun k => X k ∨ k = D ∨ k = D + 1) D xs _ (.inr (.inl rfl)) (fun h => by have := hX0 D (.inr h); omega) (fun k h => .inl (hX k h)) (hseq.st xs _ _ (fun k h => World.putObj_heap_other (fun e => ?_)) hS) (hI _ _ _ _ _ hi (Grow.putObj _ _ _ (.inr (.inr rfl)))) ((World.putObj_heap_other (by omega)).trans hk)⟩
      have := hX0 k (.inr (h.elim id id)); omega
    · have hr := run_endLoop (P := Try.prog) hl (by rw [hrec]; simp)
      rw [hrec] at hr
      refine ⟨some c, _, hr, hstop (fun k => X k ∨ k = D ∨ k = D + 1) D c pre _ (.inr (.inl rfl)) (fun h => by have := hX0 D (.inr h); omega) (fun k h => .inl (hX k h)) (hseq.stp pre _ _ (fun k h => World.putObj_heap_other (fun e => ?_)) hSp) (hIx _ _ _ _ _ _ hi (Grow.putObj _ _ _ (.inr (.inr rfl)))) ((World.putObj_heap_other (by omega)).trans hk)⟩
      have := hX0 k (.inr (h.elim id id)); omega
end Go.Proofs.Ytpgidjebihgdaaa
