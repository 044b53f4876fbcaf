/- Memory of cells as a list and a count; where it lies; what stands by it. -/
import Derived.Test.YthjhjjpgchmmfaaRows
import Derived.WalkKit
import Derived.WalkSpells
import Derived.WalkLawsBesides
import Derived.Deep.RegionHeld3
import Derived.Deep.DrawnRows
import Derived.Deep.QuietTactic
import Derived.BigQuiet
import Derived.Lib.Hide
namespace Go.Proofs.Ythjhjjpgchmmfaa
open Go.RowKit
attribute [local go_sem ↓] Go.wp_at_zero Go.wp_at_succ

/-- words, and how often one was touched -/
structure St where
  ws : List Int
  t : Nat
def St.has (s : St) (i : Int) : Bool := decide (0 ≤ i) && decide (i < (s.ws.length : Int))
def St.at (s : St) (i : Int) : Int := s.ws.getD i.toNat 0
def St.loadA (s : St) (i : Int) : Int := if s.has i then s.at i else 0
def St.loadS (s : St) (i : Int) : St := if s.has i then ⟨s.ws, s.t + 1⟩ else s
def St.put (s : St) (i v : Int) : St := ⟨s.ws.set i.toNat v, s.t + 1⟩
def St.storeS (s : St) (i v : Int) : St := if s.has i then s.put i v else s
def St.casA (s : St) (i o : Int) : Bool := s.has i && decide (s.at i = o)
def St.casS (s : St) (i o n : Int) : St := if s.casA i o then s.put i n else s.loadS i
def St.addS (s : St) (i d : Int) : St := if s.has i then s.put i (wrap64 (s.at i + d)) else s

/-- the words lie in block gw, the memory itself in block g -/
structure MemAt (w : World) (g gw c : Nat) (s : St) : Prop where
  ne : g ≠ gw
  lg : g < w.heap.size
  lw : gw < w.heap.size
  c0 : w.cell? ⟨g, 0, none⟩ = some (.slice (some ⟨gw, 0, none⟩) s.ws.length c)
  c1 : w.cell? ⟨g, 1, none⟩ = some (.int .i64 s.t)
  fg : ∀ j, w.frozen? ⟨g, j, none⟩ = false
  fw : ∀ j, w.frozen? ⟨gw, j, none⟩ = false
  ic : ∀ (k : Nat) x, s.ws[k]? = some x → w.cell? ⟨gw, k, none⟩ = some (.int .i64 x)

/-- all blocks but g and gw are as they were -/
structure Sp (g gw : Nat) (w w' : World) : Prop where
  os : w'.os = w.os
  tape : w'.tape = w.tape
  output : w'.output = w.output
  size : w.heap.size ≤ w'.heap.size
  block : ∀ k, k < w.heap.size → k ≠ g → k ≠ gw → w'.heap[k]? = w.heap[k]?
theorem Sp.refl (g gw : Nat) (w : World) : Sp g gw w w := ⟨rfl, rfl, rfl, Nat.le_refl _, fun _ _ _ _ => rfl⟩
theorem Sp.trans {g gw : Nat} {a b c : World} (h : Sp g gw a b) (k : Sp g gw b c) : Sp g gw a c :=
  ⟨k.os.trans h.os, k.tape.trans h.tape, k.output.trans h.output, Nat.le_trans h.size k.size, fun i hi h1 h2 => (k.block i (Nat.lt_of_lt_of_le hi h.size) h1 h2).trans (h.block i hi h1 h2)⟩
theorem Sp.of_below {g gw : Nat} {a b : World} (h : Below a.heap.size a b) : Sp g gw a b := ⟨h.os, h.tape, h.output, h.size, fun k hk _ _ => h.block k hk⟩
theorem Sp.alloc {g gw : Nat} {a b : World} (h : Sp g gw a b) (o : Obj) : Sp g gw a (b.alloc o) := h.trans (.of_below ((Below.refl _ _).alloc (Nat.le_refl _) _))
theorem Sp.drew {g gw : Nat} {a b : World} (h : Sp g gw a b) : Sp g gw a b.drew := ⟨h.os, h.tape, h.output, h.size, h.block⟩
theorem Sp.drewN {g gw : Nat} {a b : World} (h : Sp g gw a b) (n : Nat) : Sp g gw a (b.drewN n) := ⟨h.os, h.tape, h.output, h.size, h.block⟩
theorem Sp.set1 {g gw : Nat} {a b : World} (h : Sp g gw a b) (j : Nat) (v : Value) : Sp g gw a (b.setCell ⟨g, j, none⟩ v) :=
  h.trans ⟨rfl, rfl, rfl, by simp [World.setCell], fun k _ h1 _ => Below.heap_setCell _ _ _ _ h1⟩
theorem Sp.set2 {g gw : Nat} {a b : World} (h : Sp g gw a b) (j : Nat) (v : Value) : Sp g gw a (b.setCell ⟨gw, j, none⟩ v) :=
  h.trans ⟨rfl, rfl, rfl, by simp [World.setCell], fun k _ _ h2 => Below.heap_setCell _ _ _ _ h2⟩
theorem Sp.cell {g gw : Nat} {a b : World} (h : Sp g gw a b) {k : Nat} (j : Nat) (hk : k < a.heap.size) (h1 : k ≠ g) (h2 : k ≠ gw) : b.cell? ⟨k, j, none⟩ = a.cell? ⟨k, j, none⟩ :=
  World.cell?_of_block (w := a) (h.block k hk h1 h2)
theorem Sp.frozen {g gw : Nat} {a b : World} (h : Sp g gw a b) {k : Nat} (j : Nat) (hk : k < a.heap.size) (h1 : k ≠ g) (h2 : k ≠ gw) : b.frozen? ⟨k, j, none⟩ = a.frozen? ⟨k, j, none⟩ :=
  World.frozen?_of_block (w := a) (h.block k hk h1 h2)
/-- behind a call that turns only a memory made from block B on, all below B is as it was -/
theorem Sp.below {g gw B : Nat} {w a b : World} (hB : Below B w a) (h : Sp g gw a b) (hs : B ≤ a.heap.size) (h1 : B ≤ g) (h2 : B ≤ gw) : Below B w b :=
  hB.trans ⟨h.os, h.tape, h.output, h.size, fun k hk => h.block k (by omega) (by omega) (by omega)⟩

theorem MemAt.sp {w w' : World} {g gw c g2 gw2 : Nat} {s : St} (h : MemAt w g gw c s) (hs : Sp g2 gw2 w w') (h1 : g ≠ g2) (h2 : g ≠ gw2) (h3 : gw ≠ g2) (h4 : gw ≠ gw2) : MemAt w' g gw c s :=
  ⟨h.ne, Nat.lt_of_lt_of_le h.lg hs.size, Nat.lt_of_lt_of_le h.lw hs.size, (hs.cell 0 h.lg h1 h2).trans h.c0, (hs.cell 1 h.lg h1 h2).trans h.c1,
   fun j => (hs.frozen j h.lg h1 h2).trans (h.fg j), fun j => (hs.frozen j h.lw h3 h4).trans (h.fw j), fun k x hk => (hs.cell k h.lw h3 h4).trans (h.ic k x hk)⟩
theorem MemAt.below {w w' : World} {g gw c B : Nat} {s : St} (h : MemAt w g gw c s) (hb : Below B w w') (h1 : g < B) (h2 : gw < B) : MemAt w' g gw c s :=
  ⟨h.ne, Nat.lt_of_lt_of_le h.lg hb.size, Nat.lt_of_lt_of_le h.lw hb.size, (hb.cell (p := ⟨g, 0, none⟩) h1).trans h.c0, (hb.cell (p := ⟨g, 1, none⟩) h1).trans h.c1,
   fun j => (hb.frozen (p := ⟨g, j, none⟩) h1).trans (h.fg j), fun j => (hb.frozen (p := ⟨gw, j, none⟩) h2).trans (h.fw j), fun k x hk => (hb.cell (p := ⟨gw, k, none⟩) h2).trans (h.ic k x hk)⟩
theorem MemAt.on {w w' : World} {g gw c : Nat} {s : St} (h : MemAt w g gw c s) (hb : Below w.heap.size w w') : MemAt w' g gw c s := h.below hb h.lg h.lw
theorem MemAt.alloc {w : World} {g gw c : Nat} {s : St} (h : MemAt w g gw c s) (o : Obj) : MemAt (w.alloc o) g gw c s := h.on ((Below.refl _ _).alloc (Nat.le_refl _) _)
theorem MemAt.drewN {w : World} {g gw c : Nat} {s : St} (h : MemAt w g gw c s) (n : Nat) : MemAt (w.drewN n) g gw c s := ⟨h.ne, h.lg, h.lw, h.c0, h.c1, h.fg, h.fw, h.ic⟩
theorem MemAt.touch {w : World} {g gw c : Nat} {s : St} (h : MemAt w g gw c s) (t : Nat) : MemAt (w.setCell ⟨g, 1, none⟩ (.int .i64 t)) g gw c ⟨s.ws, t⟩ := by
  have hs : Sp g g w (w.setCell ⟨g, 1, none⟩ (.int .i64 t)) := (Sp.refl g g w).set1 1 _
  refine ⟨h.ne, Nat.lt_of_lt_of_le h.lg hs.size, Nat.lt_of_lt_of_le h.lw hs.size, ?_, ?_, fun j => ?_, fun j => (hs.frozen j h.lw h.ne.symm h.ne.symm).trans (h.fw j), fun k x hk => (hs.cell k h.lw h.ne.symm h.ne.symm).trans (h.ic k x hk)⟩
  · rw [World.cell?_setCell_other _ _ _ _ (by intro e; injection e with _ e; cases e), h.c0]
  · rw [World.cell?_setCell_same' _ _ _ (by rw [h.c1]; rfl)]
  · simpa using h.fg j
theorem MemAt.word {w : World} {g gw c : Nat} {s : St} (h : MemAt w g gw c s) (k : Nat) (v : Int) : MemAt (w.setCell ⟨gw, k, none⟩ (.int .i64 v)) g gw c ⟨s.ws.set k v, s.t⟩ := by
  have hs : Sp gw gw w (w.setCell ⟨gw, k, none⟩ (.int .i64 v)) := (Sp.refl gw gw w).set1 k _
  refine ⟨h.ne, Nat.lt_of_lt_of_le h.lg hs.size, Nat.lt_of_lt_of_le h.lw hs.size, by rw [hs.cell 0 h.lg h.ne h.ne, h.c0, List.length_set], (hs.cell 1 h.lg h.ne h.ne).trans h.c1, fun j => (hs.frozen j h.lg h.ne h.ne).trans (h.fg j), fun j => ?_, fun j x hj => ?_⟩
  · simpa using h.fw j
  · have hl : j < s.ws.length := by have := (List.getElem?_eq_some_iff.1 hj).1; simpa using this
    by_cases e : k = j
    · subst e
      rw [List.getElem?_set_self hl] at hj
      injection hj with hj
      subst hj
      rw [World.cell?_setCell_same' _ _ _ (by rw [h.ic k _ (List.getElem?_eq_getElem hl)]; rfl)]
    · rw [List.getElem?_set_ne e] at hj
      rw [World.cell?_setCell_other _ _ _ _ (by intro h'; injection h' with _ h'; exact e h')]
      exact h.ic j x hj

theorem St.has_nat {s : St} {i : Int} (h : s.has i = true) : ∃ k : Nat, i = k ∧ k < s.ws.length := by
  simp only [St.has, Bool.and_eq_true, decide_eq_true_eq] at h
  exact ⟨i.toNat, by omega, by omega⟩
theorem St.at_nat {s : St} {k : Nat} (h : k < s.ws.length) : s.ws[k]? = some (s.at k) := by
  simp [St.at, h]
theorem St.not_has {s : St} {i : Int} (h : s.has i = false) : i < 0 ∨ (s.ws.length : Int) ≤ i := by
  simp only [St.has, Bool.and_eq_false_iff, decide_eq_false_iff_not] at h
  omega
theorem ret_int {k : IntKind} {a b : Int} (h : a = b) : Ending.returned (.int k a) = .returned (.int k b) := by rw [h]
theorem ret_bool {a b : Bool} (h : a = b) : Ending.returned (.bool a) = .returned (.bool b) := by rw [h]
end Go.Proofs.Ythjhjjpgchmmfaa
