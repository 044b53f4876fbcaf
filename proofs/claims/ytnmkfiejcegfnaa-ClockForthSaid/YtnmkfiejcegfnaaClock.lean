/- A clock behind a pointer; what its calls, and the document's answers, tell and leave. -/
import Derived.WalkKit
import Derived.WalkSpells
import Derived.WalkLawsBesides
import Derived.Deep.RegionHeld3
import Derived.Deep.DrawnRows
import Derived.Deep.QuietTactic
import Derived.BigQuiet
import Derived.Lib.Hide
import Derived.Shelf.RegionOpen
import Derived.Test.YtnmkfiejcegfnaaRows
namespace Go.Proofs.Ytnmkfiejcegfnaa
open Go.RowKit
attribute [local go_sem ↓] Go.wp_at_zero Go.wp_at_succ

abbrev vI (x : Int) : Value := .int .i64 x
abbrev pt (g : Nat) : Value := .pointer (some ⟨g, 0, none⟩)
theorem bstep {a b c : World} (h : Below a.heap.size a b) (k : Below b.heap.size b c) : Below a.heap.size a c := h.trans (k.mono h.size)
theorem bnew (w : World) (o : Obj) : Below w.heap.size w (w.alloc o) := (Below.refl _ w).alloc (Nat.le_refl _) _
theorem ret_I {a b : Int} (h : a = b) : Ending.returned (vI a) = .returned (vI b) := by rw [h]
theorem ret_B {a b : Bool} (h : a = b) : Ending.returned (.bool a) = .returned (.bool b) := by rw [h]

/-- the latest time -/
def mt : Int := 1099511627776
/-- t, n later -/
def tickA (t n : Int) : Int := min (t + max n 0) 1099511627776
/-- what is left at t -/
def leftA (t d : Int) : Int := if d ≤ t then 0 else d - t
theorem leftA_0 {t d : Int} (h : d ≤ t) : leftA t d = 0 := by simp [leftA, h]
theorem leftA_1 {t d : Int} (h : ¬ d ≤ t) : leftA t d = d - t := by simp [leftA, h]
/-- the clock in block g has the time t -/
structure ClockAt (w : World) (g : Nat) (t : Int) : Prop where
  lg : g < w.heap.size
  c0 : w.cell? ⟨g, 0, none⟩ = some (vI t)
  f0 : w.frozen? ⟨g, 0, none⟩ = false
  t0 : 0 ≤ t
  t1 : t ≤ 1099511627776
theorem ClockAt.on {w w' : World} {g : Nat} {t : Int} (h : ClockAt w g t) (hb : Below w.heap.size w w') : ClockAt w' g t :=
  ⟨Nat.lt_of_lt_of_le h.lg hb.size, (hb.cell (p := ⟨g, 0, none⟩) h.lg).trans h.c0, (hb.frozen (p := ⟨g, 0, none⟩) h.lg).trans h.f0, h.t0, h.t1⟩
/-- all blocks but g are as they were -/
structure Sp (g : Nat) (w w' : World) : Prop where
  os : w'.os = w.os
  tape : w'.tape = w.tape
  output : w'.output = w.output
  size : w.heap.size ≤ w'.heap.size
  block : ∀ k, k < w.heap.size → k ≠ g → w'.heap[k]? = w.heap[k]?
theorem Sp.refl (g : Nat) (w : World) : Sp g w w := ⟨rfl, rfl, rfl, Nat.le_refl _, fun _ _ _ => rfl⟩
theorem Sp.drewN {g : Nat} {a b : World} (h : Sp g a b) (n : Nat) : Sp g a (b.drewN n) := ⟨h.os, h.tape, h.output, h.size, h.block⟩
theorem Sp.set {g : Nat} {a b : World} (h : Sp g a b) (j : Nat) (v : Value) : Sp g a (b.setCell ⟨g, j, none⟩ v) :=
  ⟨h.os, h.tape, h.output, Nat.le_trans h.size (by simp [World.setCell]), fun k hk h1 => (Below.heap_setCell _ _ _ _ h1).trans (h.block k hk h1)⟩
theorem Sp.below {g B : Nat} {w a b : World} (hB : Below B w a) (h : Sp g a b) (hs : B ≤ a.heap.size) (h1 : B ≤ g) : Below B w b :=
  hB.trans ⟨h.os, h.tape, h.output, h.size, fun k hk => h.block k (by omega) (by omega)⟩
theorem ClockAt.sp {w w' : World} {g g2 : Nat} {t : Int} (h : ClockAt w g t) (hs : Sp g2 w w') (h1 : g ≠ g2) : ClockAt w' g t :=
  ⟨Nat.lt_of_lt_of_le h.lg hs.size, (World.cell?_of_block (w := w) (hs.block g h.lg h1)).trans h.c0, (World.frozen?_of_block (w := w) (hs.block g h.lg h1)).trans h.f0, h.t0, h.t1⟩
theorem ClockAt.drewN {w : World} {g : Nat} {t : Int} (h : ClockAt w g t) (n : Nat) : ClockAt (w.drewN n) g t := ⟨h.lg, h.c0, h.f0, h.t0, h.t1⟩
theorem ClockAt.set {w : World} {g : Nat} {t : Int} (h : ClockAt w g t) (u : Int) (h0 : 0 ≤ u) (h1 : u ≤ 1099511627776) : ClockAt (w.setCell ⟨g, 0, none⟩ (vI u)) g u :=
  ⟨by simpa [World.setCell] using h.lg, by rw [World.cell?_setCell_same' _ _ _ (by rw [h.c0]; rfl)], by simpa using h.f0, h0, h1⟩

theorem tickA_0 (t n : Int) (h : 0 ≤ t) : 0 ≤ tickA t n := by unfold tickA; omega
theorem tickA_1 (t n : Int) : tickA t n ≤ 1099511627776 := by unfold tickA; omega

set_option maxHeartbeats 400000 in
theorem past_any (m now : Int) (w : World) : Calls Try.prog 16 #[vI m, vI now] w fun e w' => e = .returned (.bool (decide (m ≤ now))) ∧ w = w' := by
  go_enter Try.func16, Try.ntmps16
  go_wp2
  go_ret
  exact ⟨rfl, rfl⟩
set_option maxHeartbeats 400000 in
theorem behind_any (m now : Int) (w : World) (h0 : 0 ≤ now) (h1 : now < m) (h2 : m ≤ 9223372036854775807) : Calls Try.prog 17 #[vI m, vI now] w fun e w' => e = .returned (vI (m - now)) ∧ w = w' := by
  go_enter Try.func17, Try.ntmps17
  go_wp2
  go_ret
  exact ⟨rfl, rfl⟩
set_option maxHeartbeats 400000 in
theorem now_any (g : Nat) (t : Int) (w : World) (h : ClockAt w g t) : Calls Try.prog 11 #[pt g] w fun e w' => e = .returned (vI t) ∧ w = w' := by
  have h0 := h.c0
  go_enter Try.func11, Try.ntmps11
  go_wp2
  go_ret
  exact ⟨rfl, rfl⟩
set_option maxHeartbeats 400000 in
theorem holds_any (g : Nat) (t m : Int) (w : World) (h : ClockAt w g t) : Calls Try.prog 15 #[pt g, .func (.func 16) #[vI m] #[]] w fun e w' => e = .returned (.bool (decide (m ≤ t))) ∧ w = w' := by
  have h0 := h.c0
  go_enter Try.func15, Try.ntmps15
  go_wp2_with fail
  refine (past_any m t w).mono ?_
  rintro e w1 ⟨rfl, rfl⟩
  go_wp2_with fail
  go_ret
  exact ⟨rfl, rfl⟩
theorem hmf (fn : Fn) (first cap : Array Value) (w : World) : (Instr.makeFunc fn first cap).run Try.prog w = .ok (.func fn first cap) w := rfl
set_option maxHeartbeats 400000 in
theorem clockPast (g : Nat) (t d : Int) (w : World) (h : ClockAt w g t) : Calls Try.prog 12 #[pt g, vI d] w fun e w' => e = .returned (.bool (decide (d ≤ t))) ∧ w = w' := by
  go_enter Try.func12, Try.ntmps12
  go_wp2_with fail
  refine (holds_any g t d w h).mono ?_
  rintro e w1 ⟨rfl, rfl⟩
  go_wp2_with fail
  go_ret
  exact ⟨rfl, rfl⟩
set_option maxHeartbeats 400000 in
theorem left_any (g : Nat) (t d : Int) (w : World) (h : ClockAt w g t) (hd : d ≤ 9223372036854775807) : Calls Try.prog 13 #[pt g, vI d] w fun e w' => e = .returned (vI (leftA t d)) ∧ w = w' := by
  have h0 := h.c0
  have ht0 := h.t0
  by_cases hq : d ≤ t
  · have dq : decide (d ≤ t) = true := by simpa using hq
    rw [leftA_0 hq]
    go_enter Try.func13, Try.ntmps13
    go_wp2_with fail
    refine (holds_any g t d w h).mono ?_
    rw [dq]
    rintro e w1 ⟨rfl, rfl⟩
    go_wp2_with fail
    go_ret
    exact ⟨rfl, rfl⟩
  · have dq : decide (d ≤ t) = false := by simpa using hq
    rw [leftA_1 hq]
    go_enter Try.func13, Try.ntmps13
    go_wp2_with fail
    refine (holds_any g t d w h).mono ?_
    rw [dq]
    rintro e w1 ⟨rfl, rfl⟩
    go_wp2_with fail
    refine (behind_any d t w ht0 (by omega) hd).mono ?_
    rintro e w1 ⟨rfl, rfl⟩
    go_wp2_with fail
    go_ret
    exact ⟨rfl, rfl⟩
set_option maxHeartbeats 400000 in
theorem rleft_any (t d : Int) (w : World) (h0 : 0 ≤ t) (hd : d ≤ 9223372036854775807) : Calls Try.prog 14 #[vI t, vI d] w fun e w' => e = .returned (vI (leftA t d)) ∧ w = w' := by
  by_cases hq : d ≤ t
  · rw [leftA_0 hq]
    go_enter Try.func14, Try.ntmps14
    go_wp2_with fail
    go_ret
    exact ⟨rfl, rfl⟩
  · rw [leftA_1 hq]
    go_enter Try.func14, Try.ntmps14
    go_wp2_with fail
    go_ret
    exact ⟨rfl, rfl⟩
theorem tickA_no {t n : Int} (h : n ≤ 0) (h1 : t ≤ 1099511627776) : tickA t n = t := by unfold tickA; omega
theorem tickA_max {t n : Int} (h : ¬ n ≤ 0) (h1 : 1099511627776 - t < n) : tickA t n = 1099511627776 := by unfold tickA; omega
theorem tickA_go {t n : Int} (h : ¬ n ≤ 0) (h1 : ¬ 1099511627776 - t < n) : tickA t n = t + n := by unfold tickA; omega
set_option maxHeartbeats 400000 in
theorem rtick_any (t n : Int) (w : World) (h0 : 0 ≤ t) (h1 : t ≤ 1099511627776) : Calls Try.prog 9 #[vI t, vI n] w fun e w' => e = .returned (vI (tickA t n)) ∧ w = w' := by
  by_cases hq : n ≤ 0
  · rw [tickA_no hq h1]
    go_enter Try.func9, Try.ntmps9
    go_wp2_with fail
    go_ret
    exact ⟨rfl, rfl⟩
  · by_cases hr : 1099511627776 - t < n
    · rw [tickA_max hq hr]
      go_enter Try.func9, Try.ntmps9
      go_wp2_with fail
      go_ret
      exact ⟨rfl, rfl⟩
    · rw [tickA_go hq hr]
      go_enter Try.func9, Try.ntmps9
      go_wp2_with fail
      go_ret
      exact ⟨rfl, rfl⟩
set_option maxHeartbeats 400000 in
theorem new_any (w : World) : Calls Try.prog 8 #[] w fun e w' => e = .returned (pt w.heap.size) ∧ ClockAt w' w.heap.size 0 ∧ Below w.heap.size w w' := by
  go_enter Try.func8, Try.ntmps8
  go_wp2_with fail
  go_ret
  exact ⟨rfl, ⟨by simp, by rw [World.cell?_alloc_new]; rfl, by simp, by omega, by omega⟩, bnew _ _⟩
end Go.Proofs.Ytnmkfiejcegfnaa
