/- A tree of the program: its nodes, which nobody changes, in blocks of E. -/
import Derived.Test.YtogeifnkjckaiaaTr
import Derived.WalkKit
import Derived.WalkSpells
import Derived.WalkLawsBesides
import Derived.Deep.RegionHeld3
import Derived.Deep.DrawnRows
import Derived.Deep.QuietTactic
import Derived.BigQuiet
import Derived.Lib.Hide
import Derived.Laws.AppendOwn
namespace Go.Proofs.Ytogeifnkjckaiaa
open Go.RowKit

abbrev Set' := Nat → Prop
abbrev vI (x : Int) : Value := .int .i64 x
abbrev vS (x : ByteArray) : Value := .string x
abbrev ptr (b : Nat) : Value := .pointer (some ⟨b, 0, none⟩)

theorem ret_int {k : IntKind} {a b : Int} (h : a = b) : Ending.returned (.int k a) = .returned (.int k b) := by rw [h]
theorem ret_bool {a b : Bool} (h : a = b) : Ending.returned (.bool a) = .returned (.bool b) := by rw [h]
theorem bdrew {N : Nat} {a w : World} (h : Below N a w) (n : Nat) : Below N a (w.drewN n) := ⟨h.os, h.tape, h.output, h.size, h.block⟩
theorem bdrew1 {N : Nat} {a w : World} (h : Below N a w) : Below N a w.drew := ⟨h.os, h.tape, h.output, h.size, h.block⟩
theorem bthen {N : Nat} {a b c : World} (h : Below N a b) (k : Below b.heap.size b c) (hs : N ≤ b.heap.size) : Below N a c := h.trans (k.mono hs)
theorem bstep {a b c : World} (h : Below a.heap.size a b) (k : Below b.heap.size b c) : Below a.heap.size a c := h.trans (k.mono h.size)
theorem bnew (w : World) (o : Obj) : Below w.heap.size w (w.alloc o) := (Below.refl _ w).alloc (Nat.le_refl _) _
theorem bself (w : World) (n : Nat) : Below w.heap.size w (w.drewN n) := bdrew (Below.refl _ w) n

/-- block b's pair is x, u: it lies in block p -/
structure PairAt (E : Set') (w : World) (b p : Nat) (x u : Value) : Prop where
  ep : E p
  lb : b < w.heap.size
  lp : p < w.heap.size
  c0 : w.cell? ⟨b, 0, none⟩ = some (ptr p)
  k0 : w.cell? ⟨p, 0, none⟩ = some x
  k1 : w.cell? ⟨p, 1, none⟩ = some u
/-- a node -/
structure NodeAt (E : Set') (w : World) (b p : Nat) (A1 A2 : Option Addr) (h : Nat) (x u : Value) : Prop extends PairAt E w b p x u where
  eb : E b
  c1 : w.cell? ⟨b, 1, none⟩ = some (.pointer A1)
  c2 : w.cell? ⟨b, 2, none⟩ = some (.pointer A2)
  c3 : w.cell? ⟨b, 3, none⟩ = some (.int .i64 h)
theorem PairAt.kept {E : Set'} {w w' : World} {b p : Nat} {x u : Value} (h : PairAt E w b p x u) (hs : w.heap.size ≤ w'.heap.size) (hb : w'.heap[b]? = w.heap[b]?) (hp : w'.heap[p]? = w.heap[p]?) : PairAt E w' b p x u :=
  ⟨h.ep, Nat.lt_of_lt_of_le h.lb hs, Nat.lt_of_lt_of_le h.lp hs, (World.cell?_of_block (w := w) hb).trans h.c0, (World.cell?_of_block (w := w) hp).trans h.k0, (World.cell?_of_block (w := w) hp).trans h.k1⟩
theorem PairAt.below {E : Set'} {w w' : World} {b p : Nat} {x u : Value} (h : PairAt E w b p x u) (hb : Below w.heap.size w w') : PairAt E w' b p x u :=
  h.kept hb.size (hb.block _ h.lb) (hb.block _ h.lp)
theorem NodeAt.kept {E : Set'} {w w' : World} {b p : Nat} {A1 A2 : Option Addr} {n : Nat} {x u : Value} (h : NodeAt E w b p A1 A2 n x u) (hs : w.heap.size ≤ w'.heap.size) (hb : w'.heap[b]? = w.heap[b]?) (hp : w'.heap[p]? = w.heap[p]?) : NodeAt E w' b p A1 A2 n x u :=
  ⟨h.toPairAt.kept hs hb hp, h.eb, (World.cell?_of_block (w := w) hb).trans h.c1, (World.cell?_of_block (w := w) hb).trans h.c2, (World.cell?_of_block (w := w) hb).trans h.c3⟩
theorem NodeAt.below {E : Set'} {w w' : World} {b p : Nat} {A1 A2 : Option Addr} {n : Nat} {x u : Value} (h : NodeAt E w b p A1 A2 n x u) (hb : Below w.heap.size w w') : NodeAt E w' b p A1 A2 n x u :=
  h.kept hb.size (hb.block _ h.lb) (hb.block _ h.lp)

section
variable {K V : Type}
def TreeAt (eK : K → Value) (eV : V → Value) (E : Set') (w : World) : Option Addr → Tr K V → Prop
  | A, .nil => A = none
  | A, .node l k v r => ∃ b p A1 A2, A = some ⟨b, 0, none⟩ ∧ NodeAt E w b p A1 A2 (max l.ht r.ht + 1) (eK k) (eV v) ∧ TreeAt eK eV E w A1 l ∧ TreeAt eK eV E w A2 r
variable {eK : K → Value} {eV : V → Value}
theorem TreeAt.kept {E : Set'} {w w' : World} (hs : w.heap.size ≤ w'.heap.size) (hk : ∀ k, E k → k < w.heap.size → w'.heap[k]? = w.heap[k]?) :
    ∀ {t : Tr K V} {A : Option Addr}, TreeAt eK eV E w A t → TreeAt eK eV E w' A t
  | .nil, _, h => h
  | .node _ _ _ _, _, ⟨b, p, A1, A2, e, h, h1, h2⟩ => ⟨b, p, A1, A2, e, h.kept hs (hk b h.eb h.lb) (hk p h.ep h.lp), TreeAt.kept hs hk h1, TreeAt.kept hs hk h2⟩
theorem TreeAt.below {E : Set'} {w w' : World} {t : Tr K V} {A : Option Addr} (h : TreeAt eK eV E w A t) (hb : Below w.heap.size w w') : TreeAt eK eV E w' A t :=
  h.kept hb.size fun k _ hk => hb.block k hk
theorem TreeAt.alloc {E : Set'} {w : World} {t : Tr K V} {A : Option Addr} (h : TreeAt eK eV E w A t) (o : Obj) : TreeAt eK eV E (w.alloc o) A t := h.below (bnew w o)
theorem TreeAt.drewN {E : Set'} {w : World} {t : Tr K V} {A : Option Addr} (h : TreeAt eK eV E w A t) (n : Nat) : TreeAt eK eV E (w.drewN n) A t := h.below (bself w n)
theorem TreeAt.drew {E : Set'} {w : World} {t : Tr K V} {A : Option Addr} (h : TreeAt eK eV E w A t) : TreeAt eK eV E w.drew A t := h.below (bdrew1 (Below.refl _ w))
theorem TreeAt.less {E E' : Set'} {w : World} (hk : ∀ k, E k → k < w.heap.size → E' k) :
    ∀ {t : Tr K V} {A : Option Addr}, TreeAt eK eV E w A t → TreeAt eK eV E' w A t
  | .nil, _, h => h
  | .node _ _ _ _, _, ⟨b, p, A1, A2, e, h, h1, h2⟩ => ⟨b, p, A1, A2, e, ⟨⟨hk p h.ep h.lp, h.lb, h.lp, h.c0, h.k0, h.k1⟩, hk b h.eb h.lb, h.c1, h.c2, h.c3⟩, TreeAt.less hk h1, TreeAt.less hk h2⟩
/-- a new node of a pair that lies there -/
theorem TreeAt.made {E : Set'} {w : World} {b p : Nat} {A1 A2 : Option Addr} {l r : Tr K V} {k : K} {v : V} (hp : PairAt E w b p (eK k) (eV v)) (h1 : TreeAt eK eV E w A1 l) (h2 : TreeAt eK eV E w A2 r)
    (hE : ∀ k, w.heap.size ≤ k → E k) (T : TypeId) (n : Int) (hn : n = ((max l.ht r.ht + 1 : Nat) : Int)) :
    TreeAt eK eV E (w.alloc (.cells #[ptr p, .pointer A1, .pointer A2, .int .i64 n] T)) (some ⟨w.heap.size, 0, none⟩) (.node l k v r) := by
  subst hn
  have hb := heap_alloc_new w (.cells #[ptr p, .pointer A1, .pointer A2, .int .i64 ((max l.ht r.ht + 1 : Nat) : Int)] T)
  have hq : (w.alloc (.cells #[ptr p, .pointer A1, .pointer A2, .int .i64 ((max l.ht r.ht + 1 : Nat) : Int)] T)).heap[p]? = w.heap[p]? := Below.heap_alloc w _ p hp.lp
  exact ⟨w.heap.size, p, A1, A2, rfl, ⟨⟨hp.ep, by simp, by simpa using Nat.lt_succ_of_lt hp.lp, cell_of_row _ _ 0 _ T (0, 0) hb, (World.cell?_of_block (w := w) hq).trans hp.k0, (World.cell?_of_block (w := w) hq).trans hp.k1⟩,
    hE _ (Nat.le_refl _), cell_of_row _ _ 1 _ T (0, 0) hb, cell_of_row _ _ 2 _ T (0, 0) hb, cell_of_row _ _ 3 _ T (0, 0) hb⟩, h1.alloc _, h2.alloc _⟩
/-- a new pair and a new node -/
theorem TreeAt.fresh {E : Set'} {w : World} {A1 A2 : Option Addr} {l r : Tr K V} (k : K) (v : V) (h1 : TreeAt eK eV E w A1 l) (h2 : TreeAt eK eV E w A2 r)
    (hE : ∀ k, w.heap.size ≤ k → E k) (TP T : TypeId) (n : Int) (hn : n = ((max l.ht r.ht + 1 : Nat) : Int)) :
    TreeAt eK eV E ((w.alloc (.cells #[eK k, eV v] TP)).alloc (.cells #[ptr w.heap.size, .pointer A1, .pointer A2, .int .i64 n] T)) (some ⟨w.heap.size + 1, 0, none⟩) (.node l k v r) := by
  subst hn
  have hb := heap_alloc_new (w.alloc (.cells #[eK k, eV v] TP)) (.cells #[ptr w.heap.size, .pointer A1, .pointer A2, .int .i64 ((max l.ht r.ht + 1 : Nat) : Int)] T)
  have hq : ((w.alloc (.cells #[eK k, eV v] TP)).alloc (.cells #[ptr w.heap.size, .pointer A1, .pointer A2, .int .i64 ((max l.ht r.ht + 1 : Nat) : Int)] T)).heap[w.heap.size]? = some (.cells #[eK k, eV v] TP (0, 0)) :=
    (Below.heap_alloc _ _ _ (by simp)).trans (heap_alloc_new w _)
  rw [World.size_alloc] at hb
  exact ⟨w.heap.size + 1, w.heap.size, A1, A2, rfl, ⟨⟨hE _ (Nat.le_refl _), by simp, by simp; omega, cell_of_row _ _ 0 _ T (0, 0) hb, cell_of_row _ _ 0 _ TP (0, 0) hq, cell_of_row _ _ 1 _ TP (0, 0) hq⟩,
    hE _ (by omega), cell_of_row _ _ 1 _ T (0, 0) hb, cell_of_row _ _ 2 _ T (0, 0) hb, cell_of_row _ _ 3 _ T (0, 0) hb⟩, (h1.alloc _).alloc _, (h2.alloc _).alloc _⟩
/-- what a call hands back that makes a tree, and changes nothing -/
def RetTree (eK : K → Value) (eV : V → Value) (E : Set') (w : World) (t : Tr K V) (e : Ending) (w' : World) : Prop := ∃ A, e = .returned (.pointer A) ∧ TreeAt eK eV E w' A t ∧ Below w.heap.size w w'
/-- how keys are compared -/
def cmpK [Key K] (a b : K) : Int := if Key.lt a b = true then -1 else if Key.lt b a = true then 1 else 0
theorem cmp_lt [Key K] {a b : K} (h : Key.lt a b = true) : cmpK a b = -1 := by simp [cmpK, h]
theorem cmp_gt [Key K] {a b : K} (h : Key.lt b a = true) : cmpK a b = 1 := by simp [cmpK, h, lt_asymm h]
theorem cmp_eq [Key K] {a : K} : cmpK a a = 0 := by simp [cmpK, Key.irr]
/-- the height that a pointer's node bears -/
def htOf (w : World) : Value → Nat
  | .pointer (some a) => match w.cell? ⟨a.block, 3, none⟩ with
    | some (.int _ h) => h.toNat
    | _ => 0
  | _ => 0
theorem htOf_tree {E : Set'} {w : World} {A : Option Addr} {t : Tr K V} (h : TreeAt eK eV E w A t) : htOf w (.pointer A) = t.ht := by
  cases t with
  | nil => obtain rfl := h; rfl
  | node l k v r =>
    obtain ⟨b, p, A1, A2, rfl, h, _⟩ := h
    simp only [htOf, h.c3]
    rfl
/-- where a key is looked for -/
def Found (eK : K → Value) (eV : V → Value) (E : Set') (w : World) (k : K) : Option V → Option Addr → Prop
  | none, A => A = none
  | some v, A => ∃ b p, A = some ⟨b, 0, none⟩ ∧ PairAt E w b p (eK k) (eV v)
end
end Go.Proofs.Ytogeifnkjckaiaa
