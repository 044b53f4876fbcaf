/- The chapter's examples: the law's own 'awake' answers true. -/
import Derived.Test.YtfddeiodihhblaaRLeast
namespace Go.Proofs.Ytfddeiodihhblaa
open Go.RowKit
attribute [local go_sem ↓] Go.wp_at_zero Go.wp_at_succ

theorem is_new (w : World) (xs : List Int) : IS (w.alloc (.cells (xs.map vI).toArray 3)) (w.alloc (.cells (xs.map vI).toArray 3)).heap.size (some ⟨w.heap.size, 0, none⟩) xs := fun k x hk =>
  ⟨w.heap.size, 0, rfl, by simp, by rw [World.cell?_alloc_new]; simp [hk]⟩
theorem rng068 : Rng [0, 6, 8] := by unfold Rng; decide
theorem lw068 : lw [0, 6, 8] = 6 := by decide
theorem fr5 : freeB [0, 6, 8] (-1) 5 = false := by decide
theorem fr4 : freeB [0, 6, 8] (-1) 4 = true := by decide
theorem fr6 : freeB [0, 6, 8] 1 6 = true := by decide
set_option maxRecDepth 100000 in
set_option maxHeartbeats 1000000 in
theorem awake_any (w : World) : Calls Try.prog 7 #[] w fun e w' => e = .returned (.bool true) ∧ Below w.heap.size w w' := by
  have hI := is_new w [0, 6, 8]
  have c1 : ∀ w, Calls Try.prog 9 #[vI 6] w fun e w' => e = .returned (.tuple #[vI 5, .bool true]) ∧ w = w' := fun w => epoch_any 6 w ⟨by omega, by omega⟩
  have c2 : ∀ A w, IS w w.heap.size A [0, 6, 8] → Calls Try.prog 12 #[.slice A 3 3] w fun e w' => e = .returned (.tuple #[vI 5, .bool true]) ∧ Below w.heap.size w w' := fun A w h => by
    have := least_any A 3 [0, 6, 8] w h rng068 (by decide)
    rwa [lw068] at this
  have c3 : ∀ A w, IS w w.heap.size A [0, 6, 8] → Calls Try.prog 14 #[.slice A 3 3, vI (-1), vI 5] w fun e w' => e = .returned (.bool false) ∧ Below w.heap.size w w' := fun A w h => by
    have := free_any A 3 [0, 6, 8] (-1) 5 w h rng068 (by decide)
    rwa [fr5] at this
  have c4 : ∀ A w, IS w w.heap.size A [0, 6, 8] → Calls Try.prog 14 #[.slice A 3 3, vI (-1), vI 4] w fun e w' => e = .returned (.bool true) ∧ Below w.heap.size w w' := fun A w h => by
    have := free_any A 3 [0, 6, 8] (-1) 4 w h rng068 (by decide)
    rwa [fr4] at this
  have c5 : ∀ A w, IS w w.heap.size A [0, 6, 8] → Calls Try.prog 14 #[.slice A 3 3, vI 1, vI 6] w fun e w' => e = .returned (.bool true) ∧ Below w.heap.size w w' := fun A w h => by
    have := free_any A 3 [0, 6, 8] 1 6 w h rng068 (by decide)
    rwa [fr6] at this
  have c6 : ∀ w, Calls Try.prog 16 #[vI 5] w fun e w' => e = .returned (vI 6) ∧ w = w' := fun w => word_any 5 w (by omega) (by omega)
  have c7 : ∀ w, Calls Try.prog 10 #[vI 6, vI 5] w fun e w' => e = .returned (.bool true) ∧ w = w' := fun w => blocks_any 6 5 w ⟨by omega, by omega⟩
  go_enter Try.func7, Try.ntmps7
  go_wp2_with fail
  refine (c1 _).mono ?_
  rintro e w1 ⟨rfl, rfl⟩
  have hB := bnew w (.cells #[vI 0, vI 6, vI 8] 3)
  obtain ⟨A, eA⟩ : ∃ A : Addr, A = ⟨w.heap.size, 0, none⟩ := ⟨_, rfl⟩
  rw [← eA] at hI
  obtain ⟨w1, ew⟩ : ∃ w1, w1 = w.alloc (.cells #[vI 0, vI 6, vI 8] 3) := ⟨_, rfl⟩
  simp only [List.map_cons, List.map_nil] at hI
  rw [← ew] at hB hI
  rw [← ew, ← eA]
  clear ew eA c1
  go_wp2_with fail
  refine (c2 _ w1 hI).mono ?_
  rintro e w2 ⟨rfl, hB2⟩
  replace hB := bstep hB hB2
  replace hI := hI.on hB2
  clear c2 hB2
  go_wp2_with fail
  refine (c3 _ w2 hI).mono ?_
  rintro e w3 ⟨rfl, hB2⟩
  replace hB := bstep hB hB2
  replace hI := hI.on hB2
  clear c3 hB2
  go_wp2_with fail
  refine (c4 _ w3 hI).mono ?_
  rintro e w4 ⟨rfl, hB2⟩
  replace hB := bstep hB hB2
  replace hI := hI.on hB2
  clear c4 hB2
  go_wp2_with fail
  refine (c5 _ w4 hI).mono ?_
  rintro e w5 ⟨rfl, hB2⟩
  replace hB := bstep hB hB2
  clear c5 hB2 hI
  go_wp2_with (first
    | (go_at_call 16; refine (c6 _).mono ?_; rintro e w4 ⟨rfl, rfl⟩)
    | (go_at_call 10; refine (c7 _).mono ?_; rintro e w5 ⟨rfl, rfl⟩))
  go_ret
  exact ⟨rfl, hB⟩
end Go.Proofs.Ytfddeiodihhblaa
