/- What the laws pick by; the law's own 'awake' answers true. -/
import Derived.Test.YtpgidjebihgdaaaSmall
namespace Go.Proofs.Ytpgidjebihgdaaa
open Go.RowKit
attribute [local go_sem ↓] Go.wp_at_zero Go.wp_at_succ

theorem fits_even (w : World) : Fits no 12 #[] (fun x => (x.tmod 2 == 0)) w where
  lt _ h := h.elim
  tells x W _ := by
    go_enter Try.func12, Try.ntmps12
    go_wp2
    go_ret
    exact ⟨rfl, rfl⟩
theorem fits_all (w : World) : Fits no 20 #[] (fun _ => true) w where
  lt _ h := h.elim
  tells x W _ := by
    go_enter Try.func20, Try.ntmps20
    go_wp2
    go_ret
    exact ⟨rfl, rfl⟩
theorem fits_two (w : World) : Fits no 21 #[] (fun x => (x.tmod 2 == 0)) w where
  lt _ h := h.elim
  tells x W _ := by
    go_enter Try.func21, Try.ntmps21
    go_wp2
    go_ret
    exact ⟨rfl, rfl⟩
theorem fits_three (w : World) : Fits no 22 #[] (fun x => (x.tmod 3 == 0)) w where
  lt _ h := h.elim
  tells x W _ := by
    go_enter Try.func22, Try.ntmps22
    go_wp2
    go_ret
    exact ⟨rfl, rfl⟩
theorem fits_six (w : World) : Fits no 23 #[] (fun x => (x.tmod 6 == 0)) w where
  lt _ h := h.elim
  tells x W _ := by
    go_enter Try.func23, Try.ntmps23
    go_wp2
    go_ret
    exact ⟨rfl, rfl⟩
theorem fits_below (b : Int) (B : Nat) (w : World) (h : w.cell? ⟨B, 0, none⟩ = some (vI b)) : Fits (· = B) 24 #[ptr B] (fun x => decide (x < b)) w where
  lt k hk := by subst hk; exact World.block_lt_of_cell? w _ h
  tells x W hK := by
    have hc := hK.cell h (.inl rfl)
    go_enter Try.func24, Try.ntmps24
    go_wp2
    go_ret
    exact ⟨rfl, rfl⟩
theorem fits_above (b : Int) (B : Nat) (w : World) (h : w.cell? ⟨B, 0, none⟩ = some (vI b)) : Fits (· = B) 25 #[ptr B] (fun x => decide (b ≤ x)) w where
  lt k hk := by subst hk; exact World.block_lt_of_cell? w _ h
  tells x W hK := by
    have hc := hK.cell h (.inl rfl)
    go_enter Try.func25, Try.ntmps25
    go_wp2
    go_ret
    exact ⟨rfl, rfl⟩

theorem is_new (w : World) (xs : List Int) : IS (w.alloc (.cells (xs.map vI).toArray 3)) (w.alloc (.cells (xs.map vI).toArray 3)).heap.size (some ⟨w.heap.size, 0, none⟩) xs := fun k x hk =>
  ⟨w.heap.size, 0, rfl, by simp, by rw [World.cell?_alloc_new]; simp [hk]⟩
set_option maxRecDepth 100000 in
set_option maxHeartbeats 1000000 in
theorem awake_any (w : World) : Calls Try.prog 8 #[] w (fun e w' => e = .returned (.bool true) ∧ Below w.heap.size w w') := by
  go_enter Try.func8, Try.ntmps8
  go_wp2_with fail
  refine (of_any 5 3 w).mono ?_
  rw [show ofL 5 3 = [3, 4, 0, 1, 2] from rfl]
  rintro e w1 ⟨lb, rfl, hS, hB1⟩
  go_wp2_with fail
  refine hS.list.mono ?_
  rintro e w2 ⟨A2, c2, rfl, _, hI2, hB2⟩
  have hS2 := hS.below hB2
  go_wp2_with fail
  have bA := (Below.refl _ w2).alloc (Nat.le_refl _) (.cells #[vI 3, vI 4, vI 0, vI 1, vI 2] 3)
  refine (ints_any A2 _ c2 5 [3, 4, 0, 1, 2] [3, 4, 0, 1, 2] _ (hI2.on bA) (is_new w2 [3, 4, 0, 1, 2]) (by simp)).mono ?_
  rw [decide_eq_true rfl]
  rintro e w3 ⟨rfl, hB3⟩
  have b3 := (hB1.trans (hB2.mono hB1.size)).trans ((bA.trans (hB3.mono bA.size)).mono (hB1.trans (hB2.mono hB1.size)).size)
  have hS3 := (hS2.below bA).below hB3
  clear bA hI2 hS hB1 hB2 hS2 hB3
  go_wp2_with fail
  refine hS3.second.mono ?_
  rw [show sec [3, 4, 0, 1, 2] = [3, 0, 2] from rfl]
  rintro e w4 ⟨lb4, rfl, hS4, hB4⟩
  go_wp2_with fail
  refine hS4.list.mono ?_
  rintro e w5 ⟨A5, c5, rfl, _, hI5, hB5⟩
  go_wp2_with fail
  have bA := (Below.refl _ w5).alloc (Nat.le_refl _) (.cells #[vI 3, vI 0, vI 2] 3)
  refine (ints_any A5 _ c5 3 [3, 0, 2] [3, 0, 2] _ (hI5.on bA) (is_new w5 [3, 0, 2]) (by simp)).mono ?_
  rw [decide_eq_true rfl]
  rintro e w6 ⟨rfl, hB6⟩
  have hS6 := (((hS3.below hB4).below hB5).below bA).below hB6
  have b6 := b3.trans (((hB4.trans (hB5.mono hB4.size)).trans ((bA.trans (hB6.mono bA.size)).mono (hB4.trans (hB5.mono hB4.size)).size)).mono b3.size)
  clear bA hI5 hS3 hB4 hB5 hS4 hB6 b3
  go_wp2_with fail
  refine (hS6.first 2).mono ?_
  rw [show ([3, 4, 0, 1, 2] : List Int).take (2 : Int).toNat = [3, 4] from rfl]
  rintro e w7 ⟨lb7, rfl, hS7, hB7⟩
  go_wp2_with fail
  refine hS7.list.mono ?_
  rintro e w8 ⟨A8, c8, rfl, _, hI8, hB8⟩
  go_wp2_with fail
  have bA := (Below.refl _ w8).alloc (Nat.le_refl _) (.cells #[vI 3, vI 4] 3)
  refine (ints_any A8 _ c8 2 [3, 4] [3, 4] _ (hI8.on bA) (is_new w8 [3, 4]) (by simp)).mono ?_
  rw [decide_eq_true rfl]
  rintro e w9 ⟨rfl, hB9⟩
  go_wp2_with fail
  go_ret
  exact ⟨rfl, b6.trans (((hB7.trans (hB8.mono hB7.size)).trans ((bA.trans (hB9.mono bA.size)).mono (hB7.trans (hB8.mono hB7.size)).size)).mono b6.size)⟩
end Go.Proofs.Ytpgidjebihgdaaa
