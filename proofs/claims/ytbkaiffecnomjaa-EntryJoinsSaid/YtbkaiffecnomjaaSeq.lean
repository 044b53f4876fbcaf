/- An iterator's contract that goes through iterators over iterators: who ranges says what abides the iterator's own blocks; the iterator says which blocks a round must keep; and the law of a range over it. -/
import Derived.RangeFuncNested
import Derived.RangeFuncBound
import Derived.RangeFuncCalls
import Derived.RangeFuncLeaves
import Derived.Shelf.Abstract
import Derived.Shelf.RegionOpen
import Derived.WalkKit
import Derived.OwnWalkIn
import Derived.TacticsInMore
import Derived.LoopNIn
import Derived.LoopIn
import Derived.Deep.RegionHeld3
import Derived.Deep.DrawnRows
import Derived.Deep.QuietTactic
import Derived.BigQuiet
import Derived.Lib.Hide
import Derived.WalkSpells
import Derived.WalkLawsBesides
import Derived.Laws.AppendOwn
import Derived.Maps.AppendAt
import Derived.Test.YtbkaiffecnomjaaRows
namespace Go.Proofs.Ytbkaiffecnomjaa
open Go.RowKit Go.Shelf

abbrev Set' := Nat → Prop
abbrev vI (x : Int) : Value := .int .i64 x
abbrev ptr (b : Nat) : Value := .pointer (some ⟨b, 0, none⟩)
theorem ret_int {k : IntKind} {a b : Int} (h : a = b) : Ending.returned (.int k a) = .returned (.int k b) := by rw [h]
theorem ret_bool {a b : Bool} (h : a = b) : Ending.returned (.bool a) = .returned (.bool b) := by rw [h]
theorem bdrew {N : Nat} {a w : World} (h : Below N a w) (n : Nat) : Below N a (w.drewN n) := ⟨h.os, h.tape, h.output, h.size, h.block⟩
theorem bdrew1 {N : Nat} {a w : World} (h : Below N a w) : Below N a w.drew := ⟨h.os, h.tape, h.output, h.size, h.block⟩
theorem bthen {N : Nat} {a b c : World} (h : Below N a b) (k : Below b.heap.size b c) (hs : N ≤ b.heap.size) : Below N a c := h.trans (k.mono hs)
theorem bstep {a b c : World} (h : Below a.heap.size a b) (k : Below b.heap.size b c) : Below a.heap.size a c := h.trans (k.mono h.size)
theorem bnew (w : World) (o : Obj) : Below w.heap.size w (w.alloc o) := (Below.refl _ w).alloc (Nat.le_refl _) _
theorem bself (w : World) (n : Nat) : Below w.heap.size w (w.drewN n) := bdrew (Below.refl _ w) n

/-- B came out of A: blocks of X have turned, and there are new ones; X' is X with some of the new ones -/
structure Grow (X : Set') (A : World) (X' : Set') (B : World) : Prop where
  os : B.os = A.os
  tape : B.tape = A.tape
  output : B.output = A.output
  size : A.heap.size ≤ B.heap.size
  block : ∀ k, k < A.heap.size → ¬ X k → B.heap[k]? = A.heap[k]?
  sub : ∀ k, X k → X' k
  new : ∀ k, X' k → X k ∨ (A.heap.size ≤ k ∧ k < B.heap.size)
theorem Grow.refl (X : Set') (A : World) : Grow X A X A := ⟨rfl, rfl, rfl, Nat.le_refl _, fun _ _ _ => rfl, fun _ h => h, fun _ h => .inl h⟩
theorem Grow.trans {X Y Z : Set'} {A B C : World} (h : Grow X A Y B) (k : Grow Y B Z C) : Grow X A Z C :=
  ⟨k.os.trans h.os, k.tape.trans h.tape, k.output.trans h.output, Nat.le_trans h.size k.size,
    fun i hi hx => (k.block i (Nat.lt_of_lt_of_le hi h.size) (fun hy => (h.new i hy).elim hx (fun e => by omega))).trans (h.block i hi hx),
    fun i hx => k.sub i (h.sub i hx), fun i hz => (k.new i hz).elim (fun hy => (h.new i hy).imp id (fun e => ⟨e.1, Nat.lt_of_lt_of_le e.2 k.size⟩)) (fun e => .inr ⟨Nat.le_trans h.size e.1, e.2⟩)⟩
theorem Grow.of_below {X : Set'} {A B : World} (h : Below A.heap.size A B) : Grow X A X B := ⟨h.os, h.tape, h.output, h.size, fun k hk _ => h.block k hk, fun _ h => h, fun _ h => .inl h⟩
theorem Grow.below {X' : Set'} {A B : World} (h : Grow (fun _ => False) A X' B) : Below A.heap.size A B := ⟨h.os, h.tape, h.output, h.size, fun k hk => h.block k hk (fun h => h)⟩
theorem Grow.putObj {X : Set'} (A : World) (k : Nat) (o : Obj) (hk : X k) : Grow X A X (A.putObj k o) :=
  ⟨rfl, rfl, rfl, by simp, fun _ _ hj => World.putObj_heap_other (fun e => hj (e ▸ hk)), fun _ h => h, fun _ h => .inl h⟩
theorem Grow.setCell {X : Set'} (A : World) (p : Addr) (v : Value) (hk : X p.block) : Grow X A X (A.setCell p v) :=
  ⟨rfl, rfl, rfl, by show A.heap.size ≤ (A.heap.modify _ _).size; rw [Array.size_modify]; exact Nat.le_refl _, fun j _ hj => Below.heap_setCell A p v j (fun e => hj (e ▸ hk)), fun _ h => h, fun _ h => .inl h⟩
/-- a new block, the iterator's own -/
theorem Grow.alloc (X : Set') (A : World) (o : Obj) : Grow X A (fun k => X k ∨ k = A.heap.size) (A.alloc o) :=
  ⟨rfl, rfl, rfl, by simp, fun k hk _ => Below.heap_alloc A o k hk, fun _ h => .inl h, fun k h => h.imp id (fun e => by simp; omega)⟩
theorem Grow.cell {X X' : Set'} {A B : World} {p : Addr} {v : Value} (h : Grow X A X' B) (hp : A.cell? p = some v) (hx : ¬ X p.block) : B.cell? p = some v :=
  (World.cell?_of_block (w := A) (a := p) (h.block _ (World.block_lt_of_cell? A _ hp) hx)).trans hp

/-- what abides whatever an iterator does with the blocks that are its own, X, and with new ones -/
def Ab {β : Type} (J : Set' → β → World → Prop) : Prop := ∀ X X' s A B, J X s A → Grow X A X' B → J X' s B
/-- what a round keeps: the blocks that the iterator reads, and its own ones -/
def Kept (E X : Set') (A B : World) : Prop := ∀ k, E k ∨ X k → B.heap[k]? = A.heap[k]?
theorem Kept.refl (E X : Set') (A : World) : Kept E X A A := fun _ _ => rfl
theorem Kept.trans {E X : Set'} {A B C : World} (h : Kept E X A B) (k : Kept E X B C) : Kept E X A C := fun i hi => (k i hi).trans (h i hi)
theorem Kept.less {E E' X X' : Set'} {A B : World} (h : Kept E X A B) (he : ∀ k, E' k ∨ X' k → E k ∨ X k) : Kept E' X' A B := fun k hk => h k (he k hk)
theorem Kept.cell {E X : Set'} {A B : World} {p : Addr} {v : Value} (h : Kept E X A B) (hp : A.cell? p = some v) (hx : E p.block ∨ X p.block) : B.cell? p = some v :=
  (World.cell?_of_block (w := A) (a := p) (h _ hx)).trans hp


section
variable {α : Type}
/-- each round, the iterator's own blocks being X: it goes on, or is left; either way it keeps what the iterator reads -/
def Rounds (E : Set') (enc : α → Array Value) (l : Nat) (xs : List α) (J Jx : Set' → List α → World → Prop) : Prop :=
  ∀ (m : Nat) X pre x V, J X pre V → pre ++ [x] <+: xs → YieldAt Fence.wide m Try.prog l (enc x) V fun e V' =>
    (e = .returned (.bool true) ∧ J X (pre ++ [x]) V' ∧ Kept E X V V') ∨ (e = .returned (.bool false) ∧ Jx X (pre ++ [x]) V' ∧ Kept E X V V')

/-- the function value .func gf with fi ahead and lb behind tells the list xs, or, left, its first ones, in each world of St; it reads the blocks E -/
structure It (St : World → Prop) (E : Set') (enc : α → Array Value) (g : Nat) (fi lb : Array Value) (xs : List α) : Prop where
  lt : ∀ W, St W → ∀ k, E k → k < W.heap.size
  on : ∀ W W', St W → Below W.heap.size W W' → St W'
  tells : ∀ (l : Nat) (J Jx : Set' → List α → World → Prop) (W : World), St W → Ab J → Ab Jx → Rounds E enc l xs J Jx → J (fun _ => False) [] W →
    Calls Try.prog g (fi ++ #[.func (.yield l) #[] #[]] ++ lb) W fun e W' => (∃ v, e = .returned v) ∧ ∃ X, J X xs W' ∨ (∃ pre, pre <+: xs ∧ Jx X pre W')

/-- how the body of a round may be left -/
def rPost (E Y : Set') (I : Set' → List α → World → Prop) (Ix : Code → Set' → List α → World → Prop) (xs : List α) (W : World) : Exit → Act → World → Prop
  | .normal, _, W' => Kept E Y W W' ∧ I Y xs W'
  | .ret, _, W' => Kept E Y W W' ∧ Ix .ret Y xs W'
  | .exit id, _, W' => Kept E Y W W' ∧ Ix (.exit id) Y xs W'
  | .goto t, _, W' => Kept E Y W W' ∧ Ix (.goto t) Y xs W'
  | .panic _, _, _ => False
  | .outgrown, _, _ => False

theorem callsIn_dep {n m : Nat} {P : Program} {f : FuncId} {args : Array Value} {w : World} {R : Ending → World → Prop} (h : CallsIn Fence.wide n P f args w R) : CallsIn Fence.wide m P f args w R := callsIn_wide.2 (callsIn_wide.1 h)

theorem roundIn_dep {n m : Nat} {P : Program} {l : Nat} {f : FuncId} {tmps : Array Value} {assign body : Code} {w : World} {R : Ending → World → Prop} (h : RoundIn Fence.wide n P l f tmps assign body w R) : RoundIn Fence.wide m P l f tmps assign body w R :=
  ⟨h.1, fun c cs _ => h.2 c cs (room_wide _)⟩

theorem wpIn_range {enc : α → Array Value} {ps : Array Tmp} {g : Operand} {assign body : Code} {Q : Exit → Act → World → Prop} {a : Act} {w : World} {gf : Nat} {fi lb : Array Value}
    (hg : a.eval g = .func (.func gf) fi lb) (eg : ∀ args w, (callFunc gf args).run Try.prog w = .ok (.enter gf args) w)
    {St : World → Prop} {E : Set'} {xs : List α} (hseq : It St E enc gf fi lb xs) (hst : St w) (hps : ∀ x, (enc x).size = ps.size)
    (I : Set' → List α → World → Prop) (Ix : Code → Set' → List α → World → Prop) (hI : Ab I) (hIx : ∀ c, Ab (Ix c)) (h0 : I (fun _ => False) [] w) (a₁ : α → Act)
    (hassign : ∀ (l : Nat) (x : α) (W : World) (K : Act → World → Prop), K (a₁ x) W →
      assign.wpIn (Fence.wide.inRound l) 4 Try.prog (Exit.then K (fun _ _ _ => False)) { tmps := (ps.zip (enc x)).foldl (fun t (p, v) => t.setIfInBounds p v) a.tmps, defers := [] } W)
    (hbody : ∀ (l : Nat) (Y : Set') (pre : List α) (x : α) (W : World), Y l → I Y pre W → pre ++ [x] <+: xs → body.wpIn (Fence.wide.inRound l) 4 Try.prog (rPost E Y I Ix (pre ++ [x]) W) (a₁ x) W)
    (hdone : ∀ (Y : Set') (D : Nat) (W : World), Y D → D = w.heap.size → I Y xs W → W.heap[D]? = some (.deferred (some [])) → Q .normal { a with defers := { target := .collected D, args := #[] } :: a.defers } W)
    (hstop : ∀ (Y : Set') (D : Nat) (c : Code) (pre : List α) (W : World), Y D → D = w.heap.size → pre <+: xs → Ix c Y pre W → W.heap[D]? = some (.deferred (some [])) → c.wpIn Fence.wide 6 Try.prog Q { a with defers := { target := .collected D, args := #[] } :: a.defers } W) :
    (Code.rangeFunc g ps assign body).wpIn Fence.wide 6 Try.prog Q a w := by
  refine wpIn_rangeFunc ?_
  intro fn hfn
  show ∃ (l : Nat) (mark : List Deferred) (w₁ : World) (d : Deferred) (w₁' : World) (f : FuncId) (args : Array Value) (w₂ : World),
      (Instr.enterLoop fn a.tmps ps assign body none).run Try.prog w = .ok (l, mark) w₁ ∧ _
  obtain ⟨rec, hrec⟩ : ∃ rec : LoopState → Option Code → Loop, rec = fun st pe => { state := st, pending := pe, fn, tmps := a.tmps, params := ps, assign, body, defers := w.heap.size } := ⟨_, rfl⟩
  obtain ⟨W1, hW1⟩ : ∃ W1, (w.alloc (.deferred (some []))).alloc (.loop (rec .ready none)) = W1 := ⟨_, rfl⟩
  obtain ⟨D, hD⟩ : ∃ D, D = w.heap.size := ⟨_, rfl⟩
  have hL1 : W1.heap[D + 1]? = some (.loop (rec .ready none)) := by
    rw [← hW1, hD]; have := World.alloc_heap_new (w.alloc (.deferred (some []))) (.loop (rec .ready none)); rwa [World.size_alloc] at this
  have hK1 : W1.heap[D]? = some (.deferred (some [])) := by
    rw [← hW1, hD]; exact (Below.heap_alloc _ _ _ (by simp)).trans (World.alloc_heap_new w _)
  have hb1 : Below w.heap.size w W1 := by
    rw [← hW1]; exact ((Below.refl _ w).alloc (Nat.le_refl _) _).alloc (by simp) _
  have hX0 : ∀ k, E k → k < D := fun k hk => by rw [hD]; exact hseq.lt w hst k hk
  have hs1 : W1.heap.size = D + 2 := by rw [← hW1, hD]; simp
  have hI1 : I (fun k => False ∨ k = D ∨ k = D + 1) [] W1 := by
    refine hI (fun _ => False) _ [] w W1 h0 ⟨hb1.os, hb1.tape, hb1.output, hb1.size, fun k hk _ => hb1.block k hk, fun _ h => .inl h, fun k h => h.imp id (fun e => ?_)⟩
    rw [hs1]; omega
  refine ⟨D + 1, [{ target := .collected D, args := #[] }], W1, { target := .fn (.func gf) lb, args := fi ++ #[.func (.yield (D + 1)) #[] #[]] }, W1, gf,
    fi ++ #[.func (.yield (D + 1)) #[] #[]] ++ lb, W1, ?_, ?_, fun _ _ => trivial, ?_, (fun _ => by omega), ?_⟩
  · rw [← hW1, hrec, hD]; exact run_enterLoop_outer _ _ _ _ _
  · simp only [resolve, hg]
    simp [go_sem]
  · simp [invoke, go_sem, eg]
  have hAb : ∀ {J : Set' → List α → World → Prop} (hJ : Ab J) (r : Loop), Ab (fun X pre W => J (fun k => X k ∨ k = D ∨ k = D + 1) pre W ∧ (¬ X D ∧ ¬ X (D + 1)) ∧ W.heap[D + 1]? = some (.loop r) ∧ W.heap[D]? = some (.deferred (some []))) := by
    rintro J hJ r X X' s A B ⟨h1, ⟨h2, h3⟩, h4, h5⟩ hg
    have l4 := (Array.getElem?_eq_some_iff.1 h4).1
    refine ⟨hJ _ _ s A B h1 ⟨hg.os, hg.tape, hg.output, hg.size, fun k hk hx => hg.block k hk (fun e => hx (.inl e)), fun k h => h.imp (hg.sub k) id, fun k h => ?_⟩, ⟨fun e => ?_, fun e => ?_⟩, (hg.block _ l4 h3).trans h4, (hg.block _ (by omega) h2).trans h5⟩
    · rcases h with h | h
      · exact (hg.new k h).imp .inl id
      · exact .inl (.inr h)
    · exact (hg.new D e).elim h2 (fun e => by omega)
    · exact (hg.new _ e).elim h3 (fun e => by omega)
  refine callsIn_wide.2 ((hseq.tells (D + 1)
      (fun X pre W => I (fun k => X k ∨ k = D ∨ k = D + 1) pre W ∧ (¬ X D ∧ ¬ X (D + 1)) ∧ W.heap[D + 1]? = some (.loop (rec .ready none)) ∧ W.heap[D]? = some (.deferred (some [])))
      (fun X pre W => ∃ c, Ix c (fun k => X k ∨ k = D ∨ k = D + 1) pre W ∧ (¬ X D ∧ ¬ X (D + 1)) ∧ W.heap[D + 1]? = some (.loop (rec .done (some c))) ∧ W.heap[D]? = some (.deferred (some [])))
      W1 (hseq.on w W1 hst hb1) (hAb hI _) (fun X X' s A B h hg => by
        obtain ⟨c, h⟩ := h
        exact ⟨c, hAb (hIx c) _ X X' s A B h hg⟩)
      ?_ ⟨hI1, ⟨fun h => h, fun h => h⟩, hL1, hK1⟩).mono ?_)
  · -- one round
    rintro m X pre x W ⟨hi, ⟨hxD, hxL⟩, hl, hk⟩ hlen
    have hlt : D + 1 < W.heap.size := (Array.getElem?_eq_some_iff.1 hl).1
    have hy := run_yield (P := Try.prog) (args := enc x) hl (by rw [hrec]; exact hps x)
    rw [hrec] at hy
    refine ⟨fn, _, assign, body, hy, roundIn_dep (n := 4) (roundIn_of_wpIn hfn (hassign _ x W _ ⟨_, run_beginRound hl (by rw [hrec]), ?_⟩))⟩
    have hl2 : (W.putObj (D + 1) (.loop { rec .ready none with state := .busy })).heap[D + 1]? = some (.loop { rec .ready none with state := .busy }) := World.putObj_heap_same hlt
    have hk2 : (W.putObj (D + 1) (.loop { rec .ready none with state := .busy })).heap[D]? = some (.deferred (some [])) := (World.putObj_heap_other (by omega)).trans hk
    have hEk : ∀ k, E k ∨ X k → k ≠ D + 1 := fun k h e => by
      rcases h with h | h
      · have := hX0 k h; omega
      · exact hxL (e ▸ h)
    refine wpIn_mono (hbody _ (fun k => X k ∨ k = D ∨ k = D + 1) pre x _ (.inr (.inr rfl)) (hI _ _ _ _ _ hi (Grow.putObj _ _ _ (.inr (.inr rfl)))) hlen) ?_
    have fin : ∀ (jump : Option Code) (W3 : World), Kept E (fun k => X k ∨ k = D ∨ k = D + 1) (W.putObj (D + 1) (.loop { rec .ready none with state := .busy })) W3 →
        (Instr.endRound (D + 1) jump).run Try.prog W3 = .ok (.bool jump.isNone) (W3.putObj (D + 1) (.loop (rec (if jump.isNone then .ready else .done) jump))) ∧
        (W3.putObj (D + 1) (.loop (rec (if jump.isNone then .ready else .done) jump))).heap[D + 1]? = some (.loop (rec (if jump.isNone then .ready else .done) jump)) ∧
        (W3.putObj (D + 1) (.loop (rec (if jump.isNone then .ready else .done) jump))).heap[D]? = some (.deferred (some [])) ∧
        Kept E X W (W3.putObj (D + 1) (.loop (rec (if jump.isNone then .ready else .done) jump))) := fun jump W3 hk3 => by
      have hl3 := (hk3 (D + 1) (.inr (.inr (.inr rfl)))).trans hl2
      have hd3 := (hk3 D (.inr (.inr (.inl rfl)))).trans hk2
      have := run_endRound (P := Try.prog) jump hl3
      rw [hrec] at this ⊢
      refine ⟨this, World.putObj_heap_same (Array.getElem?_eq_some_iff.1 hl3).1, (World.putObj_heap_other (by omega)).trans hd3, fun k h => ?_⟩
      exact (World.putObj_heap_other (hEk k h)).trans ((hk3 k (h.imp id .inl)).trans (World.putObj_heap_other (hEk k h)))
    rintro e a3 W3 hp
    cases e with
    | normal =>
      obtain ⟨hk3, hi3⟩ := hp
      obtain ⟨hr, hl4, hk4, hkk⟩ := fin none W3 hk3
      exact ⟨_, _, hr, .inl ⟨rfl, ⟨hI _ _ _ _ _ hi3 (Grow.putObj _ _ _ (.inr (.inr rfl))), ⟨hxD, hxL⟩, hl4, hk4⟩, hkk⟩⟩
    | ret =>
      obtain ⟨hk3, hi3⟩ := hp
      obtain ⟨hr, hl4, hk4, hkk⟩ := fin (some .ret) W3 hk3
      exact ⟨_, _, hr, .inr ⟨rfl, ⟨.ret, hIx _ _ _ _ _ _ hi3 (Grow.putObj _ _ _ (.inr (.inr rfl))), ⟨hxD, hxL⟩, hl4, hk4⟩, hkk⟩⟩
    | exit id =>
      obtain ⟨hk3, hi3⟩ := hp
      obtain ⟨hr, hl4, hk4, hkk⟩ := fin (some (.exit id)) W3 hk3
      exact ⟨_, _, hr, .inr ⟨rfl, ⟨.exit id, hIx _ _ _ _ _ _ hi3 (Grow.putObj _ _ _ (.inr (.inr rfl))), ⟨hxD, hxL⟩, hl4, hk4⟩, hkk⟩⟩
    | goto t =>
      obtain ⟨hk3, hi3⟩ := hp
      obtain ⟨hr, hl4, hk4, hkk⟩ := fin (some (.goto t)) W3 hk3
      exact ⟨_, _, hr, .inr ⟨rfl, ⟨.goto t, hIx _ _ _ _ _ _ hi3 (Grow.putObj _ _ _ (.inr (.inr rfl))), ⟨hxD, hxL⟩, hl4, hk4⟩, hkk⟩⟩
    | panic ch => exact hp.elim
    | outgrown => exact hp.elim
  · -- behind the iterator
    rintro e W2 ⟨⟨v, rfl⟩, X, (⟨hi, ⟨hxD, hxL⟩, hl, hk⟩ | ⟨pre, hSp, c, hi, ⟨hxD, hxL⟩, hl, hk⟩)⟩
    · have hr := run_endLoop (P := Try.prog) hl (by rw [hrec]; simp)
      rw [hrec] at hr
      exact ⟨none, _, hr, hdone (fun k => X k ∨ k = D ∨ k = D + 1) D _ (.inr (.inl rfl)) hD (hI _ _ _ _ _ hi (Grow.putObj _ _ _ (.inr (.inr rfl)))) ((World.putObj_heap_other (by omega)).trans hk)⟩
    · have hr := run_endLoop (P := Try.prog) hl (by rw [hrec]; simp)
      rw [hrec] at hr
      exact ⟨some c, _, hr, hstop (fun k => X k ∨ k = D ∨ k = D + 1) D c pre _ (.inr (.inl rfl)) hD hSp (hIx _ _ _ _ _ _ hi (Grow.putObj _ _ _ (.inr (.inr rfl)))) ((World.putObj_heap_other (by omega)).trans hk)⟩

/-- X, and what else is one's own -/
abbrev plus (X p : Set') : Set' := fun k => X k ∨ p k
theorem Grow.own (X : Set') {A B : World} (hb : Below A.heap.size A B) (p : Set') (hp : ∀ k, p k → A.heap.size ≤ k ∧ k < B.heap.size) : Grow X A (plus X p) B :=
  ⟨hb.os, hb.tape, hb.output, hb.size, fun k hk _ => hb.block k hk, fun _ h => .inl h, fun k h => h.imp id (hp k)⟩
theorem Grow.plus {X X' : Set'} {A B : World} (h : Grow X A X' B) (p : Set') : Grow (plus X p) A (plus X' p) B :=
  ⟨h.os, h.tape, h.output, h.size, fun k hk hx => h.block k hk (fun e => hx (.inl e)), fun k => Or.imp (h.sub k) id, fun k hk => hk.elim (fun e => (h.new k e).imp .inl id) (fun e => .inl (.inr e))⟩
theorem Grow.not {X X' : Set'} {A B : World} (h : Grow X A X' B) {k : Nat} (hk : k < A.heap.size) (hx : ¬ X k) : ¬ X' k := fun e => (h.new k e).elim hx (fun e => by omega)
theorem boxed_grow {X X' : Set'} {A B : World} {k : Nat} {t : TypeId} {v : Value} (h : Boxed A k t v) (hg : Grow X A X' B) (hx : ¬ X k) : Boxed B k t v := (hg.block k h.lt hx).trans h
theorem boxed_kept {E X : Set'} {A B : World} {k : Nat} {t : TypeId} {v : Value} (h : Boxed A k t v) (hg : Kept E X A B) (hx : E k ∨ X k) : Boxed B k t v := (hg k hx).trans h
theorem kept_set {E X : Set'} (A : World) (b j : Nat) (v : Value) (he : ¬ E b) (hx : ¬ X b) : Kept E X A (A.setCell ⟨b, j, none⟩ v) := fun k hk =>
  Below.heap_setCell A ⟨b, j, none⟩ v k (fun e => by
    have e : k = b := e
    subst e
    exact hk.elim he hx)
theorem YieldAt.inRound {F : Fence} {m : Nat} {P : Program} {l : Nat} {args : Array Value} {W : World} {R : Ending → World → Prop} (l1 : Nat) (h : YieldAt F m P l args W R) : YieldAt (F.inRound l1) m P l args W R := h
abbrev yv (l : Nat) : Value := .func (.yield l) #[] #[]
theorem Grow.behind {X Y : Set'} {w A B : World} (h : Grow X w Y A) (k : Below w.heap.size A B) : Grow X w Y B :=
  ⟨k.os.trans h.os, k.tape.trans h.tape, k.output.trans h.output, Nat.le_trans h.size k.size, fun i hi hx => (k.block i hi).trans (h.block i hi hx), h.sub, fun i hi => (h.new i hi).imp id (fun e => ⟨e.1, Nat.lt_of_lt_of_le e.2 k.size⟩)⟩

/-- blocks of F are as they were; one's own ones are new -/
def Kp (F : Set') (w : World) (Y : Set') (V : World) : Prop := w.heap.size ≤ V.heap.size ∧ (∀ k, Y k → w.heap.size ≤ k ∧ k < V.heap.size) ∧ ∀ k, F k → k < w.heap.size ∧ V.heap[k]? = w.heap[k]?
theorem Kp.grow {F X X' : Set'} {w A B : World} (h : Kp F w X A) (hg : Grow X A X' B) : Kp F w X' B := by
  obtain ⟨h1, h2, h3⟩ := h
  refine ⟨Nat.le_trans h1 hg.size, fun k hk => ?_, fun k hk => ?_⟩
  · rcases hg.new k hk with e | e
    · exact ⟨(h2 k e).1, Nat.lt_of_lt_of_le (h2 k e).2 hg.size⟩
    · exact ⟨Nat.le_trans h1 e.1, e.2⟩
  · have := h3 k hk
    exact ⟨this.1, (hg.block k (by omega) (fun e => by have := (h2 k e).1; omega)).trans this.2⟩
theorem heap_lt {A B : World} {k : Nat} (h : B.heap[k]? = A.heap[k]?) (hk : k < A.heap.size) : k < B.heap.size := by
  rw [Array.getElem?_eq_getElem hk] at h
  exact (Array.getElem?_eq_some_iff.1 h).1
theorem Kp.kept {E F Y : Set'} {w A B : World} (h : Kp F w Y A) (hk : Kept E Y A B) (hF : ∀ k, F k → E k ∨ Y k ∨ B.heap[k]? = A.heap[k]?) {b : Nat} (hb : Y b) : Kp F w Y B := by
  obtain ⟨h1, h2, h3⟩ := h
  have hl : ∀ k, Y k → k < B.heap.size := fun k hy => heap_lt (hk k (.inr hy)) (h2 k hy).2
  refine ⟨by have := hl b hb; have := (h2 b hb).1; omega, fun k hy => ⟨(h2 k hy).1, hl k hy⟩, fun k hf => ⟨(h3 k hf).1, ?_⟩⟩
  rcases hF k hf with e | e | e
  · exact (hk k (.inl e)).trans (h3 k hf).2
  · exact (hk k (.inr e)).trans (h3 k hf).2
  · exact e.trans (h3 k hf).2

/-- a piece of code that goes on, and no otherwise -/
def Only (R : Act → World → Prop) : Exit → Act → World → Prop
  | .normal, a, w => R a w
  | _, _, _ => False
theorem wpIn_only {F : Fence} {n : Nat} {P : Program} {c : Code} {Q : Exit → Act → World → Prop} {a : Act} {w : World} (R : Act → World → Prop) (h : c.wpIn F n P (Only R) a w) (key : ∀ a w, R a w → Q .normal a w) : c.wpIn F n P Q a w :=
  wpIn_mono h fun e a w h => by
    cases e with
    | normal => exact key a w h
    | _ => exact (h : False).elim
theorem one_way {e : Ending} {P Q : Prop} (h : (e = .returned (.bool true) ∧ P) ∨ (e = .returned (.bool false) ∧ Q)) : ∃ b : Bool, e = .returned (.bool b) ∧ ((b = true ∧ P) ∨ (b = false ∧ Q)) := by
  rcases h with ⟨rfl, h⟩ | ⟨rfl, h⟩
  · exact ⟨true, rfl, .inl ⟨rfl, h⟩⟩
  · exact ⟨false, rfl, .inr ⟨rfl, h⟩⟩
/-- the marks that a function leaves behind are taken -/
abbrev mk (D : Nat) : Deferred := { target := .collected D, args := #[] }
theorem leaves_marks {n : Nat} {fn : Func} {tmps : Array Value} {R : Ending → World → Prop} {Y : Set'} : ∀ (ds : List Nat) (w : World), (∀ D ∈ ds, Y D ∧ w.heap[D]? = some (.deferred (some []))) → ds.Nodup →
    (∀ w', Grow Y w Y w' → LeavesIn Fence.wide n Try.prog fn tmps R [] .returning w') → LeavesInM Fence.wide n Try.prog fn tmps R (ds.map mk) .returning w
  | [], w, _, _, h => h w (Grow.refl _ _)
  | D :: ds, w, h1, h2, h => by
    obtain ⟨n1, n2⟩ := List.nodup_cons.1 h2
    refine ⟨by simp, .inl ⟨D, _, rfl, run_takeDeferred (h1 D (by simp)).2, ?_⟩⟩
    refine leaves_marks ds _ (fun D' hD' => ⟨(h1 D' (by simp [hD'])).1, (World.putObj_heap_other (by intro e; subst e; exact n1 hD')).trans (h1 D' (by simp [hD'])).2⟩) n2 fun w' hg => h w' ((Grow.putObj _ _ _ (h1 D (by simp)).1).trans hg)
end
/-! what a law keeps while it ranges: all below n0; the iterator's own blocks are new -/
structure Gn (n0 : Nat) (w : World) (Y : Set') (V : World) : Prop where
  os : V.os = w.os
  tape : V.tape = w.tape
  output : V.output = w.output
  size : w.heap.size ≤ V.heap.size
  block : ∀ k, k < n0 → V.heap[k]? = w.heap[k]?
  new : ∀ k, Y k → w.heap.size ≤ k ∧ k < V.heap.size
theorem Gn.refl (n0 : Nat) (w : World) : Gn n0 w (fun _ => False) w := ⟨rfl, rfl, rfl, Nat.le_refl _, fun _ _ => rfl, fun _ h => h.elim⟩
theorem Gn.grow {n0 : Nat} {w A B : World} {X X' : Set'} (h : Gn n0 w X A) (hn : n0 ≤ w.heap.size) (hg : Grow X A X' B) : Gn n0 w X' B :=
  ⟨hg.os.trans h.os, hg.tape.trans h.tape, hg.output.trans h.output, Nat.le_trans h.size hg.size, fun k hk => (hg.block k (by have := h.size; omega) (fun e => by have := (h.new k e).1; omega)).trans (h.block k hk),
    fun k hk => (hg.new k hk).elim (fun e => ⟨(h.new k e).1, Nat.lt_of_lt_of_le (h.new k e).2 hg.size⟩) (fun e => ⟨Nat.le_trans h.size e.1, e.2⟩)⟩
theorem Gn.below {n0 : Nat} {w V : World} {Y : Set'} (h : Gn n0 w Y V) : Below n0 w V := ⟨h.os, h.tape, h.output, h.size, h.block⟩
theorem Gn.more {n0 : Nat} {w V V' : World} {Y : Set'} (h : Gn n0 w Y V) (hb : Below n0 V V') : Gn n0 w Y V' :=
  ⟨hb.os.trans h.os, hb.tape.trans h.tape, hb.output.trans h.output, Nat.le_trans h.size hb.size, fun k hk => (hb.block k hk).trans (h.block k hk), fun k hk => ⟨(h.new k hk).1, Nat.lt_of_lt_of_le (h.new k hk).2 hb.size⟩⟩
theorem Gn.set {n0 : Nat} {w V : World} {Y : Set'} (h : Gn n0 w Y V) (b j : Nat) (v : Value) (hb : n0 ≤ b) : Gn n0 w Y (V.setCell ⟨b, j, none⟩ v) :=
  h.more ((Below.refl _ _).setCell hb _)
theorem Gn.put {n0 : Nat} {w V : World} {Y : Set'} (h : Gn n0 w Y V) (hn : n0 ≤ w.heap.size) (D : Nat) (o : Obj) (hD : Y D) : Gn n0 w Y (V.putObj D o) := h.grow hn (Grow.putObj _ _ _ hD)
/-- a box that is none of the iterator's own -/
theorem Gn.boxed {n0 : Nat} {w A B : World} {X X' : Set'} {b : Nat} {t : TypeId} {v : Value} (h : Gn n0 w X A) (hb : b < w.heap.size) (hv : Boxed A b t v) (hg : Grow X A X' B) : Boxed B b t v :=
  boxed_grow hv hg (fun e => by have := (h.new b e).1; omega)
end Go.Proofs.Ytbkaiffecnomjaa
