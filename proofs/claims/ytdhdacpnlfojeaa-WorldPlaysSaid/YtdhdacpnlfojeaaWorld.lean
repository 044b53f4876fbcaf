/- A world behind a pointer; what its calls tell and leave. -/
import Derived.Test.YtdhdacpnlfojeaaList
namespace Go.Proofs.Ytdhdacpnlfojeaa
open Go.RowKit
attribute [local go_sem ↓] Go.wp_at_zero Go.wp_at_succ

abbrev vI (x : Int) : Value := .int .i64 x
theorem bstep {a b c : World} (h : Below a.heap.size a b) (k : Below b.heap.size b c) : Below a.heap.size a c := h.trans (k.mono h.size)
theorem bnew (w : World) (o : Obj) : Below w.heap.size w (w.alloc o) := (Below.refl _ w).alloc (Nat.le_refl _) _
theorem ret_B {a b : Bool} (h : a = b) : Ending.returned (.bool a) = .returned (.bool b) := by rw [h]
/-- what is told ahead behind a Feed -/
def feedA (xs : List Bool) (x : Bool) : List Bool := if xs.length < 1000 then xs ++ [x] else xs
/-- what comes -/
def nextA (xs : List Bool) : Bool := xs.headD true
theorem feedA_room {xs : List Bool} {x : Bool} (h : xs.length < 1000) : feedA xs x = xs ++ [x] := if_pos h
theorem feedA_full {xs : List Bool} {x : Bool} (h : ¬ xs.length < 1000) : feedA xs x = xs := if_neg h
theorem pushA_map (xs : List Bool) (x : Bool) : pushA 1000 (xs.map vB) (vB x) = (feedA xs x).map vB := by
  unfold pushA feedA
  rw [List.length_map]
  split <;> simp
theorem headD_map (xs : List Bool) : (xs.map vB).headD (.bool false) = vB (xs.headD false) := by cases xs <;> rfl
theorem isEmpty_map (xs : List Bool) : (xs.map vB).isEmpty = xs.isEmpty := by cases xs <;> rfl
theorem tail_map (xs : List Bool) : (xs.map vB).tail = xs.tail.map vB := by cases xs <;> rfl

/-- all blocks that are not in X are as they were -/
structure SpX (X : Nat → Prop) (w w' : World) : Prop where
  os : w'.os = w.os
  tape : w'.tape = w.tape
  output : w'.output = w.output
  size : w.heap.size ≤ w'.heap.size
  block : ∀ k, k < w.heap.size → ¬ X k → w'.heap[k]? = w.heap[k]?
theorem SpX.refl (X : Nat → Prop) (w : World) : SpX X w w := ⟨rfl, rfl, rfl, Nat.le_refl _, fun _ _ _ => rfl⟩
theorem SpX.trans {X : Nat → Prop} {a b c : World} (h : SpX X a b) (k : SpX X b c) : SpX X a c :=
  ⟨k.os.trans h.os, k.tape.trans h.tape, k.output.trans h.output, Nat.le_trans h.size k.size, fun i hi h1 => (k.block i (Nat.lt_of_lt_of_le hi h.size) h1).trans (h.block i hi h1)⟩
theorem SpX.of_below {X : Nat → Prop} {a b : World} (h : Below a.heap.size a b) : SpX X a b := ⟨h.os, h.tape, h.output, h.size, fun k hk _ => h.block k hk⟩
theorem SpX.of_sp {X : Nat → Prop} {g gb : Nat} {a b : World} (h : Sp g gb a b) (h1 : X g) (h2 : X gb) : SpX X a b :=
  ⟨h.os, h.tape, h.output, h.size, fun k hk hx => h.block k hk (fun e => hx (e ▸ h1)) (fun e => hx (e ▸ h2))⟩
theorem SpX.set {X : Nat → Prop} {a b : World} (h : SpX X a b) (g j : Nat) (v : Value) (hg : X g) : SpX X a (b.setCell ⟨g, j, none⟩ v) :=
  h.trans ⟨rfl, rfl, rfl, by simp [World.setCell], fun k _ h1 => Below.heap_setCell _ _ _ _ (fun e => h1 (e ▸ hg))⟩
theorem SpX.drewN {X : Nat → Prop} {a b : World} (h : SpX X a b) (n : Nat) : SpX X a (b.drewN n) := ⟨h.os, h.tape, h.output, h.size, h.block⟩
/-- behind a call that turns only blocks from B on all below B is as it was -/
theorem SpX.below {X : Nat → Prop} {B : Nat} {w a b : World} (hB : Below B w a) (h : SpX X a b) (hs : B ≤ a.heap.size) (h1 : ∀ k, X k → B ≤ k) : Below B w b :=
  hB.trans ⟨h.os, h.tape, h.output, h.size, fun k hk => h.block k (by omega) (fun e => by have := h1 k e; omega)⟩

def Of3 (a b c : Nat) : Nat → Prop := fun k => k = a ∨ k = b ∨ k = c
/-- the world in block gw, its ring in g and gb: what is told ahead; how often which was asked -/
structure WorldAt (w : World) (gw g gb : Nat) (xs : List Bool) (y n : Int) : Prop where
  lw : gw < w.heap.size
  c0 : w.cell? ⟨gw, 0, none⟩ = some (ptr g)
  c1 : w.cell? ⟨gw, 1, none⟩ = some (vI y)
  c2 : w.cell? ⟨gw, 2, none⟩ = some (vI n)
  fz : ∀ j, w.frozen? ⟨gw, j, none⟩ = false
  ring : Ring w g gb 1000 (xs.map vB)
  n1 : gw ≠ g
  n2 : gw ≠ gb
  y0 : 0 ≤ y
  n0 : 0 ≤ n
theorem WorldAt.of_blocks {w w' : World} {gw g gb : Nat} {xs : List Bool} {y n : Int} (h : WorldAt w gw g gb xs y n) (hz : w.heap.size ≤ w'.heap.size) (h1 : w'.heap[gw]? = w.heap[gw]?) (h2 : w'.heap[g]? = w.heap[g]?) (h3 : w'.heap[gb]? = w.heap[gb]?) : WorldAt w' gw g gb xs y n := by
  have e1 : ∀ j, w'.cell? ⟨gw, j, none⟩ = w.cell? ⟨gw, j, none⟩ := fun j => World.cell?_of_block (w := w) h1
  exact ⟨Nat.lt_of_lt_of_le h.lw hz, (e1 0).trans h.c0, (e1 1).trans h.c1, (e1 2).trans h.c2, fun j => (World.frozen?_of_block (w := w) (a := ⟨gw, j, none⟩) h1).trans (h.fz j), h.ring.of_blocks hz h2 h3, h.n1, h.n2, h.y0, h.n0⟩
theorem WorldAt.on {w w' : World} {gw g gb : Nat} {xs : List Bool} {y n : Int} (h : WorldAt w gw g gb xs y n) (hb : Below w.heap.size w w') : WorldAt w' gw g gb xs y n :=
  h.of_blocks hb.size (hb.block _ h.lw) (hb.block _ h.ring.lt.1) (hb.block _ h.ring.lt.2)
theorem WorldAt.spx {w w' : World} {gw g gb : Nat} {xs : List Bool} {y n : Int} {X : Nat → Prop} (h : WorldAt w gw g gb xs y n) (hs : SpX X w w') (h1 : ¬ X gw) (h2 : ¬ X g) (h3 : ¬ X gb) : WorldAt w' gw g gb xs y n :=
  h.of_blocks hs.size (hs.block _ h.lw h1) (hs.block _ h.ring.lt.1 h2) (hs.block _ h.ring.lt.2 h3)
theorem WorldAt.drewN {w : World} {gw g gb : Nat} {xs : List Bool} {y n : Int} (h : WorldAt w gw g gb xs y n) (q : Nat) : WorldAt (w.drewN q) gw g gb xs y n := h.of_blocks (Nat.le_refl _) rfl rfl rfl
theorem WorldAt.le {w : World} {gw g gb : Nat} {xs : List Bool} {y n : Int} (h : WorldAt w gw g gb xs y n) : xs.length ≤ 1000 := by have := h.ring.le; rwa [List.length_map] at this
/-- the ring has turned -/
theorem WorldAt.turn {w w' : World} {gw g gb gb' : Nat} {xs ys : List Bool} {y n : Int} (h : WorldAt w gw g gb xs y n) (hR : Ring w' g gb' 1000 (ys.map vB)) (hs : Sp g gb w w') (hgb : gb' = gb ∨ w.heap.size ≤ gb') : WorldAt w' gw g gb' ys y n := by
  have e1 : ∀ j, w'.cell? ⟨gw, j, none⟩ = w.cell? ⟨gw, j, none⟩ := fun j => hs.cell j h.lw h.n1 h.n2
  exact ⟨Nat.lt_of_lt_of_le h.lw hs.size, (e1 0).trans h.c0, (e1 1).trans h.c1, (e1 2).trans h.c2, fun j => (hs.frozen j h.lw h.n1 h.n2).trans (h.fz j), hR, h.n1, (by have := h.lw; have := h.n2; omega), h.y0, h.n0⟩
/-- one more was asked -/
theorem WorldAt.set1 {w : World} {gw g gb : Nat} {xs : List Bool} {y n : Int} (h : WorldAt w gw g gb xs y n) : WorldAt (w.setCell ⟨gw, 1, none⟩ (vI (y + 1))) gw g gb xs (y + 1) n := by
  have e2 : ∀ j v, j ≠ 1 → (w.setCell ⟨gw, 1, none⟩ v).cell? ⟨gw, j, none⟩ = w.cell? ⟨gw, j, none⟩ := fun j v hj => World.cell?_setCell_other _ _ _ _ (by intro e; injection e with _ e; exact hj e.symm)
  exact ⟨by simpa [World.setCell] using h.lw, (e2 0 _ (by decide)).trans h.c0, World.cell?_setCell_same' _ _ _ (by rw [h.c1]; rfl), (e2 2 _ (by decide)).trans h.c2, fun j => by simpa using h.fz j,
    h.ring.of_blocks (by simp [World.setCell]) (Below.heap_setCell _ _ _ _ (fun e => h.n1 e.symm)) (Below.heap_setCell _ _ _ _ (fun e => h.n2 e.symm)), h.n1, h.n2, by have := h.y0; omega, h.n0⟩
theorem WorldAt.set2 {w : World} {gw g gb : Nat} {xs : List Bool} {y n : Int} (h : WorldAt w gw g gb xs y n) : WorldAt (w.setCell ⟨gw, 2, none⟩ (vI (n + 1))) gw g gb xs y (n + 1) := by
  have e2 : ∀ j v, j ≠ 2 → (w.setCell ⟨gw, 2, none⟩ v).cell? ⟨gw, j, none⟩ = w.cell? ⟨gw, j, none⟩ := fun j v hj => World.cell?_setCell_other _ _ _ _ (by intro e; injection e with _ e; exact hj e.symm)
  exact ⟨by simpa [World.setCell] using h.lw, (e2 0 _ (by decide)).trans h.c0, (e2 1 _ (by decide)).trans h.c1, World.cell?_setCell_same' _ _ _ (by rw [h.c2]; rfl), fun j => by simpa using h.fz j,
    h.ring.of_blocks (by simp [World.setCell]) (Below.heap_setCell _ _ _ _ (fun e => h.n1 e.symm)) (Below.heap_setCell _ _ _ _ (fun e => h.n2 e.symm)), h.n1, h.n2, h.y0, by have := h.n0; omega⟩
/-- a call told v and left the world so -/
def Ends (w : World) (gw g gb : Nat) (xs : List Bool) (y n : Int) (v : Value) (e : Ending) (w' : World) : Prop :=
  e = .returned v ∧ ∃ gb', WorldAt w' gw g gb' xs y n ∧ SpX (Of3 gw g gb) w w' ∧ (gb' = gb ∨ w.heap.size ≤ gb')

set_option maxHeartbeats 400000 in
theorem push_line (g gb : Nat) (x : Bool) (xs : List Bool) (w : World) (h : Ring w g gb 1000 (xs.map vB)) :
    Calls Try.prog 17 #[.agg #[ptr g], vB x] w (fun e w' => e = .returned (.bool (decide (xs.length < 1000))) ∧ Turns w g gb 1000 ((feedA xs x).map vB) w') := by
  have hp := fun o => pushB_any g gb 1000 (vB x) (xs.map vB) (w.alloc o) (h.alloc o) (isB_map xs) ⟨x, rfl⟩
  rw [pushA_map, List.length_map] at hp
  go_enter Try.func17, Try.ntmps17
  go_wp2_with fail
  refine (hp _).mono ?_
  rintro e w1 ⟨rfl, gb', hR, hs, hg⟩
  go_wp2_with fail
  go_ret
  exact ⟨rfl, gb', hR, (Sp.of_below (bnew w _)).trans hs, hg.imp id (fun h => by simp at h; omega)⟩
set_option maxHeartbeats 400000 in
theorem pop_line (g gb : Nat) (xs : List Bool) (w : World) (h : Ring w g gb 1000 (xs.map vB)) :
    Calls Try.prog 18 #[.agg #[ptr g]] w (fun e w' => e = .returned (.tuple #[vB (xs.headD false), .bool (!xs.isEmpty)]) ∧ Turns w g gb 1000 (xs.tail.map vB) w') := by
  have hp := fun o => popB_any g gb 1000 (xs.map vB) (w.alloc o) (h.alloc o)
  rw [headD_map, isEmpty_map, tail_map] at hp
  obtain ⟨a, ea⟩ : ∃ a, a = xs.headD false := ⟨_, rfl⟩
  obtain ⟨b, eb⟩ : ∃ b, b = !xs.isEmpty := ⟨_, rfl⟩
  rw [← ea, ← eb] at hp ⊢
  clear ea eb
  go_enter Try.func18, Try.ntmps18
  go_wp2_with fail
  refine (hp _).mono ?_
  rintro e w1 ⟨rfl, gb', hR, hs, hg⟩
  go_wp2_with fail
  go_ret2
  exact ⟨rfl, gb', hR, (Sp.of_below (bnew w _)).trans hs, hg.imp id (fun h => by simp at h; omega)⟩
set_option maxHeartbeats 400000 in
theorem collect_any (Bs g gb room : Nat) (l : List Bool) (w : World) (h : Ring w g gb room (l.map vB)) (hBs : w.cell? ⟨Bs, 0, none⟩ = some (ptr g)) :
    Calls Try.prog 22 #[.func (.func 27) #[] #[ptr Bs]] w (RetBools w l) := by
  go_enter Try.func22, Try.ntmps22
  go_wp2_with fail
  refine (collects_any Bs g gb room l w h hBs).mono ?_
  rintro e w1 ⟨A, c, rfl, hc, hs, hnw, hb⟩
  go_wp2_with fail
  go_ret
  exact ⟨A, c, rfl, hc, hs, hnw, hb⟩
theorem allF_any (g : Nat) (w : World) : Calls Try.prog 23 #[ptr g] w fun e w' => e = .returned (.func (.func 27) #[] #[ptr w.heap.size]) ∧ w' = w.alloc (.cells #[ptr g] 39) := callsIn_wide.1 (allF_in 6 g w)
set_option maxHeartbeats 400000 in
theorem list_line (g gb : Nat) (xs : List Bool) (w : World) (h : Ring w g gb 1000 (xs.map vB)) :
    Calls Try.prog 19 #[.agg #[ptr g]] w (RetBools w xs) := by
  go_enter Try.func19, Try.ntmps19
  go_wp2_with fail
  refine (allF_any g _).mono ?_
  rintro e w1 ⟨rfl, rfl⟩
  have hb1 : Below w.heap.size w ((w.alloc (.cells #[ptr g] 42)).alloc (.cells #[ptr g] 39)) := bstep (bnew _ _) (bnew _ _)
  have hc1 := collect_any (w.heap.size + 1) g gb 1000 xs ((w.alloc (.cells #[ptr g] 42)).alloc (.cells #[ptr g] 39)) (h.on hb1) (by
    have := World.cell?_alloc_new (w.alloc (.cells #[ptr g] 42)) #[ptr g] 39 0
    rw [World.size_alloc] at this
    exact this.trans rfl)
  go_wp2_with fail
  refine hc1.mono ?_
  rintro e w1 ⟨A, c, rfl, hc, hs, hnw, hb⟩
  go_wp2_with fail
  go_ret
  exact ⟨A, c, rfl, hc, hs, (fun a ha => by have := hnw a ha; have := hb1.size; omega), bstep hb1 hb⟩
set_option maxHeartbeats 400000 in
theorem feed_any (gw g gb : Nat) (x : Bool) (xs : List Bool) (y n : Int) (w : World) (h : WorldAt w gw g gb xs y n) :
    Calls Try.prog 9 #[ptr gw, vB x] w (Ends w gw g gb (feedA xs x) y n (.bool (decide (xs.length < 1000)))) := by
  have h0 := h.c0
  go_enter Try.func9, Try.ntmps9
  go_wp2_with fail
  refine (push_line g gb x xs w h.ring).mono ?_
  rintro e w1 ⟨rfl, gb', hR, hs, hg⟩
  go_wp2_with fail
  go_ret
  exact ⟨rfl, gb', h.turn hR hs hg, .of_sp hs (.inr (.inl rfl)) (.inr (.inr rfl)), hg⟩
set_option maxHeartbeats 400000 in
theorem ahead_any (gw g gb : Nat) (xs : List Bool) (y n : Int) (w : World) (h : WorldAt w gw g gb xs y n) :
    Calls Try.prog 15 #[ptr gw] w (RetBools w xs) := by
  have h0 := h.c0
  go_enter Try.func15, Try.ntmps15
  go_wp2_with fail
  refine (list_line g gb xs w h.ring).mono ?_
  rintro e w1 ⟨A, c, rfl, hc, hs, hnw, hb⟩
  go_wp2_with fail
  go_ret
  exact ⟨A, c, rfl, hc, hs, hnw, hb⟩
/-- how often it went well -/
def goodA (xs : List Bool) (y : Int) : Int := if nextA xs then y + 1 else y
def badA (xs : List Bool) (n : Int) : Int := if nextA xs then n else n + 1
set_option maxHeartbeats 400000 in
theorem next_any (gw g gb : Nat) (xs : List Bool) (y n : Int) (w : World) (h : WorldAt w gw g gb xs y n) (hy : y < 1000000) (hn : n < 1000000) :
    Calls Try.prog 11 #[ptr gw] w (Ends w gw g gb xs.tail (goodA xs y) (badA xs n) (vB (nextA xs))) := by
  have h0 := h.c0
  have hy0 := h.y0
  have hn0 := h.n0
  go_enter Try.func11, Try.ntmps11
  go_wp2_with fail
  refine (pop_line g gb xs w h.ring).mono ?_
  rintro e w1 ⟨rfl, gb', hR, hs, hg⟩
  have hW := h.turn hR hs hg
  have hs1 : SpX (Of3 gw g gb) w w1 := .of_sp hs (.inr (.inl rfl)) (.inr (.inr rfl))
  have d1 := hW.c1
  have d2 := hW.c2
  have f1 := hW.fz 1
  have f2 := hW.fz 2
  cases xs with
  | nil =>
    go_wp2_with fail
    go_ret
    exact ⟨rfl, gb', hW.set1, hs1.set _ _ _ (.inl rfl), hg⟩
  | cons x l =>
    cases x with
    | true =>
      go_wp2_with fail
      go_ret
      exact ⟨rfl, gb', hW.set1, hs1.set _ _ _ (.inl rfl), hg⟩
    | false =>
      go_wp2_with fail
      go_ret
      exact ⟨rfl, gb', hW.set2, hs1.set _ _ _ (.inl rfl), hg⟩
set_option maxHeartbeats 400000 in
theorem asked_any (gw g gb : Nat) (xs : List Bool) (y n : Int) (w : World) (h : WorldAt w gw g gb xs y n) :
    Calls Try.prog 13 #[ptr gw] w fun e w' => e = .returned (.tuple #[vI y, vI n]) ∧ ∃ q, w' = w.drewN q := by
  have h1 := h.c1
  have h2 := h.c2
  go_enter Try.func13, Try.ntmps13
  go_wp2
  go_quiet (fail)
  go_wp2
  go_ret2
  exact ⟨rfl, _, rfl⟩
set_option maxHeartbeats 400000 in
theorem new_any (w : World) : Calls Try.prog 8 #[] w fun e w' => ∃ gw g, e = .returned (ptr gw) ∧ w.heap.size ≤ gw ∧ w.heap.size ≤ g ∧ WorldAt w' gw g g [] 0 0 ∧ Below w.heap.size w w' := by
  go_enter Try.func8, Try.ntmps8
  go_wp2_with fail
  refine (newB_any 1000 w).mono ?_
  rintro e w1 ⟨g, rfl, hg, hR, hb⟩
  go_wp2_with fail
  go_ret
  have hb2 := bnew w1 (.cells #[ptr g, vI 0, vI 0] 44)
  have hn : (w1.alloc (.cells #[ptr g, vI 0, vI 0] 44)).heap[w1.heap.size]? = some (.cells #[ptr g, vI 0, vI 0] 44 (0, 0)) := heap_alloc_new w1 _
  have hlt := hR.lt
  exact ⟨_, g, rfl, hb.size, hg, ⟨(Array.getElem?_eq_some_iff.1 hn).1, cell_of_row _ _ 0 _ 44 (0, 0) hn, cell_of_row _ _ 1 _ 44 (0, 0) hn, cell_of_row _ _ 2 _ 44 (0, 0) hn, fun j => frozen_row hn j, hR.on hb2, by omega, by omega, by omega, by omega⟩, bstep hb hb2⟩
end Go.Proofs.Ytdhdacpnlfojeaa
