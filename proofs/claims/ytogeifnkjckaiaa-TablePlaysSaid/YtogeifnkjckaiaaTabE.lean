/- A table among other things that turn: E, the blocks that its tree may lie in; what Put and Drop leave. -/
import Derived.Test.YtogeifnkjckaiaaCalls1
namespace Go.Proofs.Ytogeifnkjckaiaa
open Go.RowKit
attribute [local go_sem ↓] Go.wp_at_zero Go.wp_at_succ

section
variable {K V : Type} [Key K]
structure TabEAt (eK : K → Value) (eV : V → Value) (E : Set') (w : World) (g : Nat) (A : Option Addr) (t : Tr K V) (xs : List (K × V)) : Prop where
  ge : ¬ E g
  lg : g < w.heap.size
  new : ∀ j, w.heap.size ≤ j → E j
  c0 : w.cell? ⟨g, 0, none⟩ = some (.pointer A)
  c1 : w.cell? ⟨g, 1, none⟩ = some (.int .i64 xs.length)
  fz : ∀ j, w.frozen? ⟨g, j, none⟩ = false
  tr : TreeAt eK eV E w A t
  tl : t.toL = xs
  rs : Rises xs
def TabE (eK : K → Value) (eV : V → Value) (E : Set') (w : World) (g : Nat) (xs : List (K × V)) : Prop := ∃ A t, TabEAt eK eV E w g A t xs
variable {eK : K → Value} {eV : V → Value} {E : Set'} {g : Nat} {A : Option Addr} {t : Tr K V} {xs : List (K × V)}
theorem TabEAt.turn {w w3 : World} {A3 : Option Addr} {t3 : Tr K V} (h : TabEAt eK eV E w g A t xs) (hb : Below w.heap.size w w3) (h3 : TreeAt eK eV E w3 A3 t3) (hr : Rises t3.toL) (n : Int) (hn : n = (t3.toL.length : Int)) :
    TabEAt eK eV E ((w3.setCell ⟨g, 0, none⟩ (.pointer A3)).setCell ⟨g, 1, none⟩ (.int .i64 n)) g A3 t3 t3.toL ∧ Sp g w ((w3.setCell ⟨g, 0, none⟩ (.pointer A3)).setCell ⟨g, 1, none⟩ (.int .i64 n)) := by
  subst hn
  have b0 := (hb.cell (p := ⟨g, 0, none⟩) h.lg).trans h.c0
  have b1 := (hb.cell (p := ⟨g, 1, none⟩) h.lg).trans h.c1
  have bf : ∀ j, w3.frozen? ⟨g, j, none⟩ = false := fun j => (hb.frozen (p := ⟨g, j, none⟩) h.lg).trans (h.fz j)
  have hs := (((Sp.refl g w3).set 0 (.pointer A3)).set 1 (.int .i64 (t3.toL.length : Int)))
  refine ⟨⟨h.ge, Nat.lt_of_lt_of_le (Nat.lt_of_lt_of_le h.lg hb.size) hs.size, fun j hj => h.new j (Nat.le_trans (Nat.le_trans hb.size hs.size) hj), ?_, ?_, fun j => ?_, h3.kept hs.size fun k hk hl => hs.block k hl (fun e => h.ge (e ▸ hk)), rfl, hr⟩, (Sp.of_below hb).trans hs⟩
  · rw [World.cell?_setCell_other _ _ _ _ (by intro e; injection e with _ e; cases e)]
    exact World.cell?_setCell_same' _ _ _ (by rw [b0]; rfl)
  · exact World.cell?_setCell_same' _ _ _ (by rw [World.cell?_setCell_other _ _ _ _ (by intro e; injection e with _ e; cases e), b1]; rfl)
  · simpa using bf j
theorem TabEAt.turn1 {w w3 : World} {A3 : Option Addr} {t3 : Tr K V} (h : TabEAt eK eV E w g A t xs) (hb : Below w.heap.size w w3) (h3 : TreeAt eK eV E w3 A3 t3) (hr : Rises t3.toL) (hn : xs.length = t3.toL.length) :
    TabEAt eK eV E (w3.setCell ⟨g, 0, none⟩ (.pointer A3)) g A3 t3 t3.toL ∧ Sp g w (w3.setCell ⟨g, 0, none⟩ (.pointer A3)) := by
  have b0 := (hb.cell (p := ⟨g, 0, none⟩) h.lg).trans h.c0
  have b1 := (hb.cell (p := ⟨g, 1, none⟩) h.lg).trans h.c1
  have bf : ∀ j, w3.frozen? ⟨g, j, none⟩ = false := fun j => (hb.frozen (p := ⟨g, j, none⟩) h.lg).trans (h.fz j)
  have hs := (Sp.refl g w3).set 0 (.pointer A3)
  refine ⟨⟨h.ge, Nat.lt_of_lt_of_le (Nat.lt_of_lt_of_le h.lg hb.size) hs.size, fun j hj => h.new j (Nat.le_trans (Nat.le_trans hb.size hs.size) hj), ?_, ?_, fun j => ?_, h3.kept hs.size fun k hk hl => hs.block k hl (fun e => h.ge (e ▸ hk)), rfl, hr⟩, (Sp.of_below hb).trans hs⟩
  · exact World.cell?_setCell_same' _ _ _ (by rw [b0]; rfl)
  · rw [World.cell?_setCell_other _ _ _ _ (by intro e; injection e with _ e; cases e), ← hn]
    exact b1
  · simpa using bf j
/-- a call turned the table in g alone -/
def TurnedE (eK : K → Value) (eV : V → Value) (E : Set') (w : World) (g : Nat) (r : Value) (xs : List (K × V)) (e : Ending) (w' : World) : Prop := e = .returned r ∧ TabE eK eV E w' g xs ∧ Sp g w w'
theorem TabE.of {Z : List Nat} {w : World} (h : Tab eK eV Z w g xs) : TabE eK eV (fun k => k ∉ Z) w g xs := by
  obtain ⟨A, t, h⟩ := h
  exact ⟨A, t, fun e => e h.gz, h.zl g h.gz, h.new, h.c0, h.c1, h.fz, h.tr, h.tl, h.rs⟩
theorem TabE.kept {E' : Set'} {w w' : World} (h : TabE eK eV E w g xs) (hs : w.heap.size ≤ w'.heap.size) (hg : w'.heap[g]? = w.heap[g]?) (hk : ∀ k, E k → k < w.heap.size → w'.heap[k]? = w.heap[k]? ∧ E' k) (hg2 : ¬ E' g) (hn : ∀ j, w'.heap.size ≤ j → E' j) : TabE eK eV E' w' g xs := by
  obtain ⟨A, t, h⟩ := h
  exact ⟨A, t, hg2, Nat.lt_of_lt_of_le h.lg hs, hn, (World.cell?_of_block (w := w) hg).trans h.c0, (World.cell?_of_block (w := w) hg).trans h.c1, fun j => (World.frozen?_of_block (w := w) (a := ⟨g, j, none⟩) hg).trans (h.fz j),
    ((h.tr.less (E' := fun k => E k ∧ E' k) fun k h1 h2 => ⟨h1, (hk k h1 h2).2⟩).kept hs fun k h1 h2 => (hk k h1.1 h2).1).less fun k h1 _ => h1.2, h.tl, h.rs⟩
theorem TabE.rs {w : World} (h : TabE eK eV E w g xs) : Rises xs := by obtain ⟨A, t, h⟩ := h; exact h.rs
theorem TabE.lg {w : World} (h : TabE eK eV E w g xs) : g < w.heap.size := by obtain ⟨A, t, h⟩ := h; exact h.lg
theorem TabE.new {w : World} (h : TabE eK eV E w g xs) : ∀ j, w.heap.size ≤ j → E j := by obtain ⟨A, t, h⟩ := h; exact h.new
theorem TabE.ge {w : World} (h : TabE eK eV E w g xs) : ¬ E g := by obtain ⟨A, t, h⟩ := h; exact h.ge
end

section
variable {E : Set'} {w : World} {g : Nat} {xs : List (Int × Int)}
set_option maxHeartbeats 400000 in
theorem pute1_new (h : TabE vI vI E w g xs) (k : Int) (v : Int) (hl : xs.length ≤ 10000) (hk : got xs k = none) :
    Calls Try.prog 11 #[.pointer (some ⟨g, 0, none⟩), vI k, vI v] w (TurnedE vI vI E w g (.bool false) (ins xs k v)) := by
  obtain ⟨A, t, h⟩ := h
  have c0 := h.c0
  have c1 := h.c1
  have f0 := h.fz 0
  have f1 := h.fz 1
  have hlg := h.lg
  have hr2 : Rises t.toL := by rw [h.tl]; exact h.rs
  have e1 := find1_any A t k w h.tr
  rw [look_eq t k hr2, h.tl, hk] at e1
  have e2 := put1_any t k v A w h.new h.tr (by rw [h.tl]; omega)
  have hrise : Rises (t.put k v).toL := by rw [toL_put t k v hr2]; exact ins_rises k v hr2
  have hx : (t.put k v).toL = ins xs k v := by rw [toL_put t k v hr2, h.tl]
  have hlen : (xs.length : Int) + 1 = ((t.put k v).toL.length : Int) := by rw [hx, ins_len, hk]; simp
  have H := Lib.hid (And.intro hrise (And.intro hx hlen))
  clear hrise hx hlen hr2 hk
  go_enter Try.func11, Try.ntmps11
  go_wp2_with (first
    | (go_at_call 33; refine e1.mono ?_; rintro e w1 ⟨A1, rfl, hA1, rfl⟩; obtain rfl := hA1)
    | (go_at_call 34; refine e2.mono ?_; rintro e w3 ⟨A3, rfl, hT3, hB3⟩; have d1 := (hB3.cell (p := ⟨g, 1, none⟩) hlg).trans c1; have d0 := (hB3.cell (p := ⟨g, 0, none⟩) hlg).trans c0; have g0 := (hB3.frozen (p := ⟨g, 0, none⟩) hlg).trans f0; have g1 := (hB3.frozen (p := ⟨g, 1, none⟩) hlg).trans f1))
  go_ret
  have ht := h.turn hB3 hT3 H.out.1 _ H.out.2.2
  rw [H.out.2.1] at ht
  exact ⟨rfl, ⟨_, _, ht.1⟩, ht.2⟩
set_option maxHeartbeats 400000 in
theorem pute1_had (h : TabE vI vI E w g xs) (k : Int) (v : Int) (hl : xs.length ≤ 10000) {u : Int} (hk : got xs k = some u) :
    Calls Try.prog 11 #[.pointer (some ⟨g, 0, none⟩), vI k, vI v] w (TurnedE vI vI E w g (.bool true) (ins xs k v)) := by
  obtain ⟨A, t, h⟩ := h
  have c0 := h.c0
  have f0 := h.fz 0
  have hlg := h.lg
  have hr2 : Rises t.toL := by rw [h.tl]; exact h.rs
  have e1 := find1_any A t k w h.tr
  rw [look_eq t k hr2, h.tl, hk] at e1
  have e2 := put1_any t k v A w h.new h.tr (by rw [h.tl]; omega)
  have hrise : Rises (t.put k v).toL := by rw [toL_put t k v hr2]; exact ins_rises k v hr2
  have hx : (t.put k v).toL = ins xs k v := by rw [toL_put t k v hr2, h.tl]
  have hlen : xs.length = (t.put k v).toL.length := by rw [hx, ins_len, hk]; simp
  have H := Lib.hid (And.intro hrise (And.intro hx hlen))
  clear hrise hx hlen hr2 hk
  go_enter Try.func11, Try.ntmps11
  go_wp2_with (first
    | (go_at_call 33; refine e1.mono ?_; rintro e w1 ⟨A1, rfl, ⟨bb, pp, rfl, hP⟩, rfl⟩)
    | (go_at_call 34; refine e2.mono ?_; rintro e w3 ⟨A3, rfl, hT3, hB3⟩; have d0 := (hB3.cell (p := ⟨g, 0, none⟩) hlg).trans c0; have g0 := (hB3.frozen (p := ⟨g, 0, none⟩) hlg).trans f0))
  go_ret
  have ht := h.turn1 hB3 hT3 H.out.1 H.out.2.2
  rw [H.out.2.1] at ht
  exact ⟨rfl, ⟨_, _, ht.1⟩, ht.2⟩
theorem tpute1_any (h : TabE vI vI E w g xs) (k : Int) (v : Int) (hl : xs.length ≤ 10000) :
    Calls Try.prog 11 #[.pointer (some ⟨g, 0, none⟩), vI k, vI v] w (TurnedE vI vI E w g (.bool (got xs k).isSome) (ins xs k v)) := by
  cases e : got xs k with
  | none => exact pute1_new h k v hl e
  | some u => exact pute1_had h k v hl e
set_option maxHeartbeats 400000 in
theorem drope1_none (h : TabE vI vI E w g xs) (k : Int) (hk : got xs k = none) :
    Calls Try.prog 15 #[.pointer (some ⟨g, 0, none⟩), vI k] w (TurnedE vI vI E w g (.bool false) (del xs k)) := by
  have hd : del xs k = xs := by
    have := del_len (l := xs) k
    rw [hk] at this
    exact (del_sub xs k).eq_of_length (by simpa using this)
  rw [hd]
  obtain ⟨A, t, h⟩ := h
  have c0 := h.c0
  have hr2 : Rises t.toL := by rw [h.tl]; exact h.rs
  have e1 := find1_any A t k w h.tr
  rw [look_eq t k hr2, h.tl, hk] at e1
  clear hk hr2 hd
  go_enter Try.func15, Try.ntmps15
  go_wp2_with (first
    | (go_at_call 33; refine e1.mono ?_; rintro e w1 ⟨A1, rfl, hA1, rfl⟩; obtain rfl := hA1))
  go_ret
  exact ⟨rfl, ⟨_, _, h⟩, Sp.refl _ _⟩
set_option maxHeartbeats 400000 in
theorem drope1_had (h : TabE vI vI E w g xs) (k : Int) (hl : xs.length ≤ 10000) {u : Int} (hk : got xs k = some u) :
    Calls Try.prog 15 #[.pointer (some ⟨g, 0, none⟩), vI k] w (TurnedE vI vI E w g (.bool true) (del xs k)) := by
  obtain ⟨A, t, h⟩ := h
  have c0 := h.c0
  have c1 := h.c1
  have f0 := h.fz 0
  have f1 := h.fz 1
  have hlg := h.lg
  have hr2 : Rises t.toL := by rw [h.tl]; exact h.rs
  have e1 := find1_any A t k w h.tr
  rw [look_eq t k hr2, h.tl, hk] at e1
  have e2 := drop1_any (E := E) t k A w h.new h.tr hr2 (by rw [h.tl]; omega) (by rw [look_eq t k hr2, h.tl, hk]; simp)
  have hrise : Rises (t.drop k).toL := by rw [toL_drop t k hr2]; exact del_rises k hr2
  have hx : (t.drop k).toL = del xs k := by rw [toL_drop t k hr2, h.tl]
  have hpos : 0 < xs.length := by
    cases xs with
    | nil => simp [got] at hk
    | cons _ _ => simp
  have hlen : (xs.length : Int) - 1 = ((t.drop k).toL.length : Int) := by rw [hx, del_len, hk]; simp; omega
  have H := Lib.hid (And.intro hrise (And.intro hx hlen))
  clear hrise hx hlen hr2 hk
  go_enter Try.func15, Try.ntmps15
  go_wp2_with (first
    | (go_at_call 33; refine e1.mono ?_; rintro e w1 ⟨A1, rfl, ⟨bb, pp, rfl, hP⟩, rfl⟩)
    | (go_at_call 36; refine e2.mono ?_; rintro e w3 ⟨A3, rfl, hT3, hB3⟩; have d1 := (hB3.cell (p := ⟨g, 1, none⟩) hlg).trans c1; have d0 := (hB3.cell (p := ⟨g, 0, none⟩) hlg).trans c0; have g0 := (hB3.frozen (p := ⟨g, 0, none⟩) hlg).trans f0; have g1 := (hB3.frozen (p := ⟨g, 1, none⟩) hlg).trans f1))
  go_ret
  have ht := h.turn hB3 hT3 H.out.1 _ H.out.2.2
  rw [H.out.2.1] at ht
  exact ⟨rfl, ⟨_, _, ht.1⟩, ht.2⟩
theorem tdrope1_any (h : TabE vI vI E w g xs) (k : Int) (hl : xs.length ≤ 10000) :
    Calls Try.prog 15 #[.pointer (some ⟨g, 0, none⟩), vI k] w (TurnedE vI vI E w g (.bool (got xs k).isSome) (del xs k)) := by
  cases e : got xs k with
  | none => exact drope1_none h k e
  | some u => exact drope1_had h k hl e
theorem lene1_any (h : TabE vI vI E w g xs) : Calls Try.prog 17 #[.pointer (some ⟨g, 0, none⟩)] w (fun e w' => e = .returned (.int .i64 xs.length) ∧ w = w') := by
  obtain ⟨A, t, h⟩ := h
  have c1 := h.c1
  go_enter Try.func17, Try.ntmps17
  go_wp2
  go_ret
  exact ⟨rfl, rfl⟩
end
end Go.Proofs.Ytogeifnkjckaiaa
