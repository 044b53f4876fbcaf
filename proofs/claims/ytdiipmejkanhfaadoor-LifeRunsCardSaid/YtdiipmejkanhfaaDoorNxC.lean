/- Parts of the contract of Next. -/
import Derived.Test.YtdiipmejkanhfaaDoorNxD
namespace Go.Proofs.YtdiipmejkanhfaaDoor
open Go.RowKit
attribute [local go_sem ↓] Go.wp_at_zero Go.wp_at_succ
set_option maxRecDepth 100000 in
set_option maxHeartbeats 8000000 in
theorem next_no (s : Sl) (k : Nat) (a mo : Int) (w : World) (hT : Tab w) (hZ : TzAt w) (hr : Rt s) (h : rtB s = true) (hk : k < 18) (ha : 0 ≤ a) (ha2 : a ≤ 15) (hc : chB k s a mo = false) :
    Calls Tryd.prog 11 #[Value.agg #[Value.int .i64 s.st, Value.int .i64 s.ow, Value.int .i64 s.sr, Value.bool s.br, Value.bool s.ma, Value.int .i64 s.us, Value.int .i64 s.ge, Value.int .i64 s.ep, Value.int .i64 s.ve], .int .i64 (k : Int), .int .i64 a, .int .i64 mo] w fun e w' => e = .returned (.tuple #[.agg #[Value.int .i64 Sl.zero.st, Value.int .i64 Sl.zero.ow, Value.int .i64 Sl.zero.sr, Value.bool Sl.zero.br, Value.bool Sl.zero.ma, Value.int .i64 Sl.zero.us, Value.int .i64 Sl.zero.ge, Value.int .i64 Sl.zero.ep, Value.int .i64 Sl.zero.ve], .bool false]) ∧ Below w.heap.size w w' := by
  have Hr := Lib.hid h
  clear h
  have HC := Lib.hid hc
  clear hc
  have hB0 : Below w.heap.size w ((w.alloc (.cells #[Value.int .i64 s.st, Value.int .i64 s.ow, Value.int .i64 s.sr, Value.bool s.br, Value.bool s.ma, Value.int .i64 s.us, Value.int .i64 s.ge, Value.int .i64 s.ep, Value.int .i64 s.ve] 23)).alloc (.cells #[Value.int .i64 0, Value.int .i64 0, Value.int .i64 0, Value.bool false, Value.bool false, Value.int .i64 0, Value.int .i64 0, Value.int .i64 0, Value.int .i64 0] 23)) := ((Below.refl _ _).alloc (Nat.le_refl _) _).alloc (by simp) _
  have r0 := (RowAt.new w 23 #[Value.int .i64 s.st, Value.int .i64 s.ow, Value.int .i64 s.sr, Value.bool s.br, Value.bool s.ma, Value.int .i64 s.us, Value.int .i64 s.ge, Value.int .i64 s.ep, Value.int .i64 s.ve]).alloc (.cells #[Value.int .i64 0, Value.int .i64 0, Value.int .i64 0, Value.bool false, Value.bool false, Value.int .i64 0, Value.int .i64 0, Value.int .i64 0, Value.int .i64 0] 23)
  have r1 := new2 w (.cells #[Value.int .i64 s.st, Value.int .i64 s.ow, Value.int .i64 s.sr, Value.bool s.br, Value.bool s.ma, Value.int .i64 s.us, Value.int .i64 s.ge, Value.int .i64 s.ep, Value.int .i64 s.ve] 23) 23 #[Value.int .i64 0, Value.int .i64 0, Value.int .i64 0, Value.bool false, Value.bool false, Value.int .i64 0, Value.int .i64 0, Value.int .i64 0, Value.int .i64 0]
  have hT0 := hT.below hB0 hT.lt
  have hZ0 := hZ.below hB0 hZ.lt
  go_enter Tryd.func11, Tryd.ntmps11
  go_wp2_with fail
  obtain ⟨B1, e1⟩ : ∃ B1, B1 = w.heap.size := ⟨_, rfl⟩
  have hle : w.heap.size ≤ B1 := by omega
  rw [← e1] at r0 r1 ⊢
  clear e1
  refine (changes_any _).mono ?_
  rintro e w1 ⟨rfl, hb⟩
  replace r0 := r0.below hb r0.lt
  replace r1 := r1.below hb r1.lt
  replace hT0 := hT0.below hb hT0.lt
  replace hZ0 := hZ0.below hb hZ0.lt
  replace hB0 := hB0.trans (hb.mono hB0.size)
  clear hb
  have r2 := RowAt.new w1 36 #[Value.nilFunc, Value.nilFunc, Value.nilFunc, Value.nilFunc, Value.nilFunc, Value.nilFunc, Value.nilFunc, Value.nilFunc, Value.nilFunc, Value.nilFunc, Value.nilFunc, Value.nilFunc, Value.nilFunc, Value.nilFunc, Value.nilFunc, Value.nilFunc, Value.nilFunc, Value.nilFunc]
  have l0 := r0.lt
  have l1 := r1.lt
  have hB1 := below_setRow (hB0.alloc hB0.size (.cells #[Value.nilFunc, Value.nilFunc, Value.nilFunc, Value.nilFunc, Value.nilFunc, Value.nilFunc, Value.nilFunc, Value.nilFunc, Value.nilFunc, Value.nilFunc, Value.nilFunc, Value.nilFunc, Value.nilFunc, Value.nilFunc, Value.nilFunc, Value.nilFunc, Value.nilFunc, Value.nilFunc] 36)) hB0.size #[Value.func (.func 20) #[] #[], Value.func (.func 21) #[] #[], Value.func (.func 22) #[] #[], Value.func (.func 23) #[] #[], Value.func (.func 24) #[] #[], Value.func (.func 25) #[] #[], Value.func (.func 26) #[] #[], Value.func (.func 27) #[] #[], Value.func (.func 28) #[] #[], Value.func (.func 29) #[] #[], Value.func (.func 30) #[] #[], Value.func (.func 31) #[] #[], Value.func (.func 32) #[] #[], Value.func (.func 33) #[] #[], Value.func (.func 34) #[] #[], Value.func (.func 35) #[] #[], Value.func (.func 36) #[] #[], Value.func (.func 37) #[] #[]]
  have s0 := (r0.alloc (.cells #[Value.nilFunc, Value.nilFunc, Value.nilFunc, Value.nilFunc, Value.nilFunc, Value.nilFunc, Value.nilFunc, Value.nilFunc, Value.nilFunc, Value.nilFunc, Value.nilFunc, Value.nilFunc, Value.nilFunc, Value.nilFunc, Value.nilFunc, Value.nilFunc, Value.nilFunc, Value.nilFunc] 36)).other (Nat.ne_of_lt l0) #[Value.func (.func 20) #[] #[], Value.func (.func 21) #[] #[], Value.func (.func 22) #[] #[], Value.func (.func 23) #[] #[], Value.func (.func 24) #[] #[], Value.func (.func 25) #[] #[], Value.func (.func 26) #[] #[], Value.func (.func 27) #[] #[], Value.func (.func 28) #[] #[], Value.func (.func 29) #[] #[], Value.func (.func 30) #[] #[], Value.func (.func 31) #[] #[], Value.func (.func 32) #[] #[], Value.func (.func 33) #[] #[], Value.func (.func 34) #[] #[], Value.func (.func 35) #[] #[], Value.func (.func 36) #[] #[], Value.func (.func 37) #[] #[]]
  replace r1 := (r1.alloc (.cells #[Value.nilFunc, Value.nilFunc, Value.nilFunc, Value.nilFunc, Value.nilFunc, Value.nilFunc, Value.nilFunc, Value.nilFunc, Value.nilFunc, Value.nilFunc, Value.nilFunc, Value.nilFunc, Value.nilFunc, Value.nilFunc, Value.nilFunc, Value.nilFunc, Value.nilFunc, Value.nilFunc] 36)).other (Nat.ne_of_lt l1) #[Value.func (.func 20) #[] #[], Value.func (.func 21) #[] #[], Value.func (.func 22) #[] #[], Value.func (.func 23) #[] #[], Value.func (.func 24) #[] #[], Value.func (.func 25) #[] #[], Value.func (.func 26) #[] #[], Value.func (.func 27) #[] #[], Value.func (.func 28) #[] #[], Value.func (.func 29) #[] #[], Value.func (.func 30) #[] #[], Value.func (.func 31) #[] #[], Value.func (.func 32) #[] #[], Value.func (.func 33) #[] #[], Value.func (.func 34) #[] #[], Value.func (.func 35) #[] #[], Value.func (.func 36) #[] #[], Value.func (.func 37) #[] #[]]
  replace hT0 := hT0.below (below_setRow ((Below.refl w1.heap.size w1).alloc (Nat.le_refl _) (.cells #[Value.nilFunc, Value.nilFunc, Value.nilFunc, Value.nilFunc, Value.nilFunc, Value.nilFunc, Value.nilFunc, Value.nilFunc, Value.nilFunc, Value.nilFunc, Value.nilFunc, Value.nilFunc, Value.nilFunc, Value.nilFunc, Value.nilFunc, Value.nilFunc, Value.nilFunc, Value.nilFunc] 36)) (Nat.le_refl _) #[Value.func (.func 20) #[] #[], Value.func (.func 21) #[] #[], Value.func (.func 22) #[] #[], Value.func (.func 23) #[] #[], Value.func (.func 24) #[] #[], Value.func (.func 25) #[] #[], Value.func (.func 26) #[] #[], Value.func (.func 27) #[] #[], Value.func (.func 28) #[] #[], Value.func (.func 29) #[] #[], Value.func (.func 30) #[] #[], Value.func (.func 31) #[] #[], Value.func (.func 32) #[] #[], Value.func (.func 33) #[] #[], Value.func (.func 34) #[] #[], Value.func (.func 35) #[] #[], Value.func (.func 36) #[] #[], Value.func (.func 37) #[] #[]]) hT0.lt
  replace hZ0 := hZ0.below (below_setRow ((Below.refl w1.heap.size w1).alloc (Nat.le_refl _) (.cells #[Value.nilFunc, Value.nilFunc, Value.nilFunc, Value.nilFunc, Value.nilFunc, Value.nilFunc, Value.nilFunc, Value.nilFunc, Value.nilFunc, Value.nilFunc, Value.nilFunc, Value.nilFunc, Value.nilFunc, Value.nilFunc, Value.nilFunc, Value.nilFunc, Value.nilFunc, Value.nilFunc] 36)) (Nat.le_refl _) #[Value.func (.func 20) #[] #[], Value.func (.func 21) #[] #[], Value.func (.func 22) #[] #[], Value.func (.func 23) #[] #[], Value.func (.func 24) #[] #[], Value.func (.func 25) #[] #[], Value.func (.func 26) #[] #[], Value.func (.func 27) #[] #[], Value.func (.func 28) #[] #[], Value.func (.func 29) #[] #[], Value.func (.func 30) #[] #[], Value.func (.func 31) #[] #[], Value.func (.func 32) #[] #[], Value.func (.func 33) #[] #[], Value.func (.func 34) #[] #[], Value.func (.func 35) #[] #[], Value.func (.func 36) #[] #[], Value.func (.func 37) #[] #[]]) hZ0.lt
  have c0 : ((w1.alloc (.cells #[Value.nilFunc, Value.nilFunc, Value.nilFunc, Value.nilFunc, Value.nilFunc, Value.nilFunc, Value.nilFunc, Value.nilFunc, Value.nilFunc, Value.nilFunc, Value.nilFunc, Value.nilFunc, Value.nilFunc, Value.nilFunc, Value.nilFunc, Value.nilFunc, Value.nilFunc, Value.nilFunc] 36)).setRow w1.heap.size #[Value.func (.func 20) #[] #[], Value.func (.func 21) #[] #[], Value.func (.func 22) #[] #[], Value.func (.func 23) #[] #[], Value.func (.func 24) #[] #[], Value.func (.func 25) #[] #[], Value.func (.func 26) #[] #[], Value.func (.func 27) #[] #[], Value.func (.func 28) #[] #[], Value.func (.func 29) #[] #[], Value.func (.func 30) #[] #[], Value.func (.func 31) #[] #[], Value.func (.func 32) #[] #[], Value.func (.func 33) #[] #[], Value.func (.func 34) #[] #[], Value.func (.func 35) #[] #[], Value.func (.func 36) #[] #[], Value.func (.func 37) #[] #[]]).cell? ⟨B1, 0, none⟩ = some (Value.int .i64 s.st) := s0.cell 0 rfl
  have c1 : ((w1.alloc (.cells #[Value.nilFunc, Value.nilFunc, Value.nilFunc, Value.nilFunc, Value.nilFunc, Value.nilFunc, Value.nilFunc, Value.nilFunc, Value.nilFunc, Value.nilFunc, Value.nilFunc, Value.nilFunc, Value.nilFunc, Value.nilFunc, Value.nilFunc, Value.nilFunc, Value.nilFunc, Value.nilFunc] 36)).setRow w1.heap.size #[Value.func (.func 20) #[] #[], Value.func (.func 21) #[] #[], Value.func (.func 22) #[] #[], Value.func (.func 23) #[] #[], Value.func (.func 24) #[] #[], Value.func (.func 25) #[] #[], Value.func (.func 26) #[] #[], Value.func (.func 27) #[] #[], Value.func (.func 28) #[] #[], Value.func (.func 29) #[] #[], Value.func (.func 30) #[] #[], Value.func (.func 31) #[] #[], Value.func (.func 32) #[] #[], Value.func (.func 33) #[] #[], Value.func (.func 34) #[] #[], Value.func (.func 35) #[] #[], Value.func (.func 36) #[] #[], Value.func (.func 37) #[] #[]]).cell? ⟨B1, 1, none⟩ = some (Value.int .i64 s.ow) := s0.cell 1 rfl
  have c2 : ((w1.alloc (.cells #[Value.nilFunc, Value.nilFunc, Value.nilFunc, Value.nilFunc, Value.nilFunc, Value.nilFunc, Value.nilFunc, Value.nilFunc, Value.nilFunc, Value.nilFunc, Value.nilFunc, Value.nilFunc, Value.nilFunc, Value.nilFunc, Value.nilFunc, Value.nilFunc, Value.nilFunc, Value.nilFunc] 36)).setRow w1.heap.size #[Value.func (.func 20) #[] #[], Value.func (.func 21) #[] #[], Value.func (.func 22) #[] #[], Value.func (.func 23) #[] #[], Value.func (.func 24) #[] #[], Value.func (.func 25) #[] #[], Value.func (.func 26) #[] #[], Value.func (.func 27) #[] #[], Value.func (.func 28) #[] #[], Value.func (.func 29) #[] #[], Value.func (.func 30) #[] #[], Value.func (.func 31) #[] #[], Value.func (.func 32) #[] #[], Value.func (.func 33) #[] #[], Value.func (.func 34) #[] #[], Value.func (.func 35) #[] #[], Value.func (.func 36) #[] #[], Value.func (.func 37) #[] #[]]).cell? ⟨B1, 2, none⟩ = some (Value.int .i64 s.sr) := s0.cell 2 rfl
  have c3 : ((w1.alloc (.cells #[Value.nilFunc, Value.nilFunc, Value.nilFunc, Value.nilFunc, Value.nilFunc, Value.nilFunc, Value.nilFunc, Value.nilFunc, Value.nilFunc, Value.nilFunc, Value.nilFunc, Value.nilFunc, Value.nilFunc, Value.nilFunc, Value.nilFunc, Value.nilFunc, Value.nilFunc, Value.nilFunc] 36)).setRow w1.heap.size #[Value.func (.func 20) #[] #[], Value.func (.func 21) #[] #[], Value.func (.func 22) #[] #[], Value.func (.func 23) #[] #[], Value.func (.func 24) #[] #[], Value.func (.func 25) #[] #[], Value.func (.func 26) #[] #[], Value.func (.func 27) #[] #[], Value.func (.func 28) #[] #[], Value.func (.func 29) #[] #[], Value.func (.func 30) #[] #[], Value.func (.func 31) #[] #[], Value.func (.func 32) #[] #[], Value.func (.func 33) #[] #[], Value.func (.func 34) #[] #[], Value.func (.func 35) #[] #[], Value.func (.func 36) #[] #[], Value.func (.func 37) #[] #[]]).cell? ⟨B1, 3, none⟩ = some (Value.bool s.br) := s0.cell 3 rfl
  have c4 : ((w1.alloc (.cells #[Value.nilFunc, Value.nilFunc, Value.nilFunc, Value.nilFunc, Value.nilFunc, Value.nilFunc, Value.nilFunc, Value.nilFunc, Value.nilFunc, Value.nilFunc, Value.nilFunc, Value.nilFunc, Value.nilFunc, Value.nilFunc, Value.nilFunc, Value.nilFunc, Value.nilFunc, Value.nilFunc] 36)).setRow w1.heap.size #[Value.func (.func 20) #[] #[], Value.func (.func 21) #[] #[], Value.func (.func 22) #[] #[], Value.func (.func 23) #[] #[], Value.func (.func 24) #[] #[], Value.func (.func 25) #[] #[], Value.func (.func 26) #[] #[], Value.func (.func 27) #[] #[], Value.func (.func 28) #[] #[], Value.func (.func 29) #[] #[], Value.func (.func 30) #[] #[], Value.func (.func 31) #[] #[], Value.func (.func 32) #[] #[], Value.func (.func 33) #[] #[], Value.func (.func 34) #[] #[], Value.func (.func 35) #[] #[], Value.func (.func 36) #[] #[], Value.func (.func 37) #[] #[]]).cell? ⟨B1, 4, none⟩ = some (Value.bool s.ma) := s0.cell 4 rfl
  have c5 : ((w1.alloc (.cells #[Value.nilFunc, Value.nilFunc, Value.nilFunc, Value.nilFunc, Value.nilFunc, Value.nilFunc, Value.nilFunc, Value.nilFunc, Value.nilFunc, Value.nilFunc, Value.nilFunc, Value.nilFunc, Value.nilFunc, Value.nilFunc, Value.nilFunc, Value.nilFunc, Value.nilFunc, Value.nilFunc] 36)).setRow w1.heap.size #[Value.func (.func 20) #[] #[], Value.func (.func 21) #[] #[], Value.func (.func 22) #[] #[], Value.func (.func 23) #[] #[], Value.func (.func 24) #[] #[], Value.func (.func 25) #[] #[], Value.func (.func 26) #[] #[], Value.func (.func 27) #[] #[], Value.func (.func 28) #[] #[], Value.func (.func 29) #[] #[], Value.func (.func 30) #[] #[], Value.func (.func 31) #[] #[], Value.func (.func 32) #[] #[], Value.func (.func 33) #[] #[], Value.func (.func 34) #[] #[], Value.func (.func 35) #[] #[], Value.func (.func 36) #[] #[], Value.func (.func 37) #[] #[]]).cell? ⟨B1, 5, none⟩ = some (Value.int .i64 s.us) := s0.cell 5 rfl
  have c6 : ((w1.alloc (.cells #[Value.nilFunc, Value.nilFunc, Value.nilFunc, Value.nilFunc, Value.nilFunc, Value.nilFunc, Value.nilFunc, Value.nilFunc, Value.nilFunc, Value.nilFunc, Value.nilFunc, Value.nilFunc, Value.nilFunc, Value.nilFunc, Value.nilFunc, Value.nilFunc, Value.nilFunc, Value.nilFunc] 36)).setRow w1.heap.size #[Value.func (.func 20) #[] #[], Value.func (.func 21) #[] #[], Value.func (.func 22) #[] #[], Value.func (.func 23) #[] #[], Value.func (.func 24) #[] #[], Value.func (.func 25) #[] #[], Value.func (.func 26) #[] #[], Value.func (.func 27) #[] #[], Value.func (.func 28) #[] #[], Value.func (.func 29) #[] #[], Value.func (.func 30) #[] #[], Value.func (.func 31) #[] #[], Value.func (.func 32) #[] #[], Value.func (.func 33) #[] #[], Value.func (.func 34) #[] #[], Value.func (.func 35) #[] #[], Value.func (.func 36) #[] #[], Value.func (.func 37) #[] #[]]).cell? ⟨B1, 6, none⟩ = some (Value.int .i64 s.ge) := s0.cell 6 rfl
  have c7 : ((w1.alloc (.cells #[Value.nilFunc, Value.nilFunc, Value.nilFunc, Value.nilFunc, Value.nilFunc, Value.nilFunc, Value.nilFunc, Value.nilFunc, Value.nilFunc, Value.nilFunc, Value.nilFunc, Value.nilFunc, Value.nilFunc, Value.nilFunc, Value.nilFunc, Value.nilFunc, Value.nilFunc, Value.nilFunc] 36)).setRow w1.heap.size #[Value.func (.func 20) #[] #[], Value.func (.func 21) #[] #[], Value.func (.func 22) #[] #[], Value.func (.func 23) #[] #[], Value.func (.func 24) #[] #[], Value.func (.func 25) #[] #[], Value.func (.func 26) #[] #[], Value.func (.func 27) #[] #[], Value.func (.func 28) #[] #[], Value.func (.func 29) #[] #[], Value.func (.func 30) #[] #[], Value.func (.func 31) #[] #[], Value.func (.func 32) #[] #[], Value.func (.func 33) #[] #[], Value.func (.func 34) #[] #[], Value.func (.func 35) #[] #[], Value.func (.func 36) #[] #[], Value.func (.func 37) #[] #[]]).cell? ⟨B1, 7, none⟩ = some (Value.int .i64 s.ep) := s0.cell 7 rfl
  have c8 : ((w1.alloc (.cells #[Value.nilFunc, Value.nilFunc, Value.nilFunc, Value.nilFunc, Value.nilFunc, Value.nilFunc, Value.nilFunc, Value.nilFunc, Value.nilFunc, Value.nilFunc, Value.nilFunc, Value.nilFunc, Value.nilFunc, Value.nilFunc, Value.nilFunc, Value.nilFunc, Value.nilFunc, Value.nilFunc] 36)).setRow w1.heap.size #[Value.func (.func 20) #[] #[], Value.func (.func 21) #[] #[], Value.func (.func 22) #[] #[], Value.func (.func 23) #[] #[], Value.func (.func 24) #[] #[], Value.func (.func 25) #[] #[], Value.func (.func 26) #[] #[], Value.func (.func 27) #[] #[], Value.func (.func 28) #[] #[], Value.func (.func 29) #[] #[], Value.func (.func 30) #[] #[], Value.func (.func 31) #[] #[], Value.func (.func 32) #[] #[], Value.func (.func 33) #[] #[], Value.func (.func 34) #[] #[], Value.func (.func 35) #[] #[], Value.func (.func 36) #[] #[], Value.func (.func 37) #[] #[]]).cell? ⟨B1, 8, none⟩ = some (Value.int .i64 s.ve) := s0.cell 8 rfl
  go_wp2_with (refine wpList_store_row rfl 36 _ _ rfl _ #[Value.func (.func 20) #[] #[], Value.func (.func 21) #[] #[], Value.func (.func 22) #[] #[], Value.func (.func 23) #[] #[], Value.func (.func 24) #[] #[], Value.func (.func 25) #[] #[], Value.func (.func 26) #[] #[], Value.func (.func 27) #[] #[], Value.func (.func 28) #[] #[], Value.func (.func 29) #[] #[], Value.func (.func 30) #[] #[], Value.func (.func 31) #[] #[], Value.func (.func 32) #[] #[], Value.func (.func 33) #[] #[], Value.func (.func 34) #[] #[], Value.func (.func 35) #[] #[], Value.func (.func 36) #[] #[], Value.func (.func 37) #[] #[]] rfl rfl 36 _ r2 (by kernel_rfl) rfl (by simp [Value.oneCell']) ?_)
  clear c0 c1 c2 c3 c4 c5 c6 c7 c8
  clear r0
  replace r2 := r2.set #[Value.func (.func 20) #[] #[], Value.func (.func 21) #[] #[], Value.func (.func 22) #[] #[], Value.func (.func 23) #[] #[], Value.func (.func 24) #[] #[], Value.func (.func 25) #[] #[], Value.func (.func 26) #[] #[], Value.func (.func 27) #[] #[], Value.func (.func 28) #[] #[], Value.func (.func 29) #[] #[], Value.func (.func 30) #[] #[], Value.func (.func 31) #[] #[], Value.func (.func 32) #[] #[], Value.func (.func 33) #[] #[], Value.func (.func 34) #[] #[], Value.func (.func 35) #[] #[], Value.func (.func 36) #[] #[], Value.func (.func 37) #[] #[]]
  have r0 := s0
  clear s0
  obtain ⟨w2, e2⟩ : ∃ w2, w2 = (w1.alloc (.cells #[Value.nilFunc, Value.nilFunc, Value.nilFunc, Value.nilFunc, Value.nilFunc, Value.nilFunc, Value.nilFunc, Value.nilFunc, Value.nilFunc, Value.nilFunc, Value.nilFunc, Value.nilFunc, Value.nilFunc, Value.nilFunc, Value.nilFunc, Value.nilFunc, Value.nilFunc, Value.nilFunc] 36)).setRow w1.heap.size #[Value.func (.func 20) #[] #[], Value.func (.func 21) #[] #[], Value.func (.func 22) #[] #[], Value.func (.func 23) #[] #[], Value.func (.func 24) #[] #[], Value.func (.func 25) #[] #[], Value.func (.func 26) #[] #[], Value.func (.func 27) #[] #[], Value.func (.func 28) #[] #[], Value.func (.func 29) #[] #[], Value.func (.func 30) #[] #[], Value.func (.func 31) #[] #[], Value.func (.func 32) #[] #[], Value.func (.func 33) #[] #[], Value.func (.func 34) #[] #[], Value.func (.func 35) #[] #[], Value.func (.func 36) #[] #[], Value.func (.func 37) #[] #[]] := ⟨_, rfl⟩
  rw [← e2] at r0 r1 r2 hB1 hT0 hZ0 ⊢
  clear e2 hB0
  obtain ⟨B3, e3⟩ : ∃ B3, B3 = w1.heap.size := ⟨_, rfl⟩
  rw [← e3] at r2 l0 l1 ⊢
  clear e3
  refine (right_any s _ hT0).mono ?_
  rintro e w3 ⟨rfl, hb⟩
  rw [Hr.out]
  replace r0 := r0.below hb r0.lt
  replace r1 := r1.below hb r1.lt
  replace r2 := r2.below hb r2.lt
  replace hZ0 := hZ0.below hb hZ0.lt
  replace hB1 := hB1.trans (hb.mono hB1.size)
  clear hb hT0
  have hk0 : (0 : Int) ≤ k := by omega
  have hk1 : (k : Int) < 18 := by omega
  have hk2 : (k : Int) ≤ 17 := by omega
  go_wp2_with fail
  have q0 := r0.drew
  have p0 := r1.drew
  have u0 := r2.drew
  have hZd := hZ0.drew
  have hBd := hB1.drew
  clear hB1 r0 r1 r2 hZ0
  have c00 : w3.drew.cell? ⟨B1, 0, none⟩ = some (Value.int .i64 s.st) := q0.cell 0 rfl
  have c01 : w3.drew.cell? ⟨B1, 1, none⟩ = some (Value.int .i64 s.ow) := q0.cell 1 rfl
  have c02 : w3.drew.cell? ⟨B1, 2, none⟩ = some (Value.int .i64 s.sr) := q0.cell 2 rfl
  have c03 : w3.drew.cell? ⟨B1, 3, none⟩ = some (Value.bool s.br) := q0.cell 3 rfl
  have c04 : w3.drew.cell? ⟨B1, 4, none⟩ = some (Value.bool s.ma) := q0.cell 4 rfl
  have c05 : w3.drew.cell? ⟨B1, 5, none⟩ = some (Value.int .i64 s.us) := q0.cell 5 rfl
  have c06 : w3.drew.cell? ⟨B1, 6, none⟩ = some (Value.int .i64 s.ge) := q0.cell 6 rfl
  have c07 : w3.drew.cell? ⟨B1, 7, none⟩ = some (Value.int .i64 s.ep) := q0.cell 7 rfl
  have c08 : w3.drew.cell? ⟨B1, 8, none⟩ = some (Value.int .i64 s.ve) := q0.cell 8 rfl
  have f0 : w3.drew.cell? ⟨B3, k, none⟩ = some (fv k) := u0.cell k (fv_at hk)
  have hen := fv_enter hk
  unfold fv at f0
  refine wp_region_held_drew (S := (fun w' => w'.cell? ⟨B1, 0, none⟩ = some (Value.int .i64 s.st) ∧ w'.cell? ⟨B1, 1, none⟩ = some (Value.int .i64 s.ow) ∧ w'.cell? ⟨B1, 2, none⟩ = some (Value.int .i64 s.sr) ∧ w'.cell? ⟨B1, 3, none⟩ = some (Value.bool s.br) ∧ w'.cell? ⟨B1, 4, none⟩ = some (Value.bool s.ma) ∧ w'.cell? ⟨B1, 5, none⟩ = some (Value.int .i64 s.us) ∧ w'.cell? ⟨B1, 6, none⟩ = some (Value.int .i64 s.ge) ∧ w'.cell? ⟨B1, 7, none⟩ = some (Value.int .i64 s.ep) ∧ w'.cell? ⟨B1, 8, none⟩ = some (Value.int .i64 s.ve) ∧ w'.cell? ⟨B3, k, none⟩ = some (.func (.func (20 + k)) #[] #[]))) (by kernel_rfl) ⟨c00, c01, c02, c03, c04, c05, c06, c07, c08, f0⟩ (fun hS => ?_)
  generalize w3.drew = WD at *
  refine wpAnyH_take (i := 0) (oi := { dst := some 35, op := Op.move (Operand.tmp 1), type := 3, pos := "life.go:23", after := #[], guard := none }) (v := ?v0_16) rfl (by kernel_rfl) (by kernel_rfl) (by kernel_rfl) (fun _ _ _ h => h) (Or.inl ⟨by rfl, ?hy0_16⟩) hS ?rest0_16
  case hy0_16 =>
    intro w hSw
    (try dsimp only at hSw)
    go_simp
    try with_reducible rfl
  try simp only [Act.put, List.setIfInBounds_toArray, List.set_cons_zero, List.set_cons_succ]
  refine wpAnyH_take (i := 1) (oi := { dst := some 36, op := Op.indexAddr 36 (Operand.tmp 10) (Operand.tmp 35), type := 0, pos := "life.go:23", after := #[{ on := 0, ground := Ground.data }], guard := none }) (v := ?v1_17) rfl (by kernel_rfl) (by kernel_rfl) (by kernel_rfl) (fun _ _ _ h => h) (Or.inl ⟨by rfl, ?hy1_17⟩) hS ?rest1_17
  case hy1_17 =>
    intro w hSw
    (try dsimp only at hSw)
    go_simp
    try with_reducible rfl
  try simp only [Act.put, List.setIfInBounds_toArray, List.set_cons_zero, List.set_cons_succ]
  refine wpAnyH_take (i := 2) (oi := { dst := some 37, op := Op.load 35 (Operand.tmp 36), type := 35, pos := "life.go:23", after := #[{ on := 1, ground := Ground.data }], guard := none }) (v := ?v2_18) rfl (by kernel_rfl) (by kernel_rfl) (by kernel_rfl) (fun _ _ _ h => h) (Or.inl ⟨by rfl, ?hy2_18⟩) hS ?rest2_18
  case hy2_18 =>
    intro w hSw
    (try dsimp only at hSw)
    go_simp
    try with_reducible rfl
  try simp only [Act.put, List.setIfInBounds_toArray, List.set_cons_zero, List.set_cons_succ]
  refine wpAnyH_take (i := 3) (oi := { dst := some 38, op := Op.load 23 (Operand.tmp 4), type := 23, pos := "life.go:23", after := #[], guard := none }) (v := ?v3_19) rfl (by kernel_rfl) (by kernel_rfl) (by kernel_rfl) (fun _ _ _ h => h) (Or.inl ⟨by rfl, ?hy3_19⟩) hS ?rest3_19
  case hy3_19 =>
    intro w hSw
    (try dsimp only at hSw)
    go_simp
    try with_reducible rfl
  try simp only [Act.put, List.setIfInBounds_toArray, List.set_cons_zero, List.set_cons_succ]
  refine wpAnyH_take (i := 4) (oi := { dst := some 39, op := Op.move (Operand.tmp 2), type := 3, pos := "life.go:23", after := #[], guard := none }) (v := ?v4_20) rfl (by kernel_rfl) (by kernel_rfl) (by kernel_rfl) (fun _ _ _ h => h) (Or.inl ⟨by rfl, ?hy4_20⟩) hS ?rest4_20
  case hy4_20 =>
    intro w hSw
    (try dsimp only at hSw)
    go_simp
    try with_reducible rfl
  try simp only [Act.put, List.setIfInBounds_toArray, List.set_cons_zero, List.set_cons_succ]
  refine wpAnyH_take (i := 5) (oi := { dst := some 40, op := Op.move (Operand.tmp 3), type := 3, pos := "life.go:23", after := #[], guard := none }) (v := ?v5_21) rfl (by kernel_rfl) (by kernel_rfl) (by kernel_rfl) (fun _ _ _ h => h) (Or.inl ⟨by rfl, ?hy5_21⟩) hS ?rest5_21
  case hy5_21 =>
    intro w hSw
    (try dsimp only at hSw)
    go_simp
    try with_reducible rfl
  try simp only [Act.put, List.setIfInBounds_toArray, List.set_cons_zero, List.set_cons_succ]
  refine wpAnyH_take (i := 6) (oi := { dst := some 41, op := Op.build 39 #[(0, Operand.tmp 38), (1, Operand.tmp 39), (2, Operand.tmp 40)], type := 39, pos := "life.go:23", after := #[{ on := 3, ground := Ground.data }, { on := 4, ground := Ground.data }, { on := 5, ground := Ground.data }], guard := none }) (v := ?v6_22) rfl (by kernel_rfl) (by kernel_rfl) (by kernel_rfl) (fun _ _ _ h => h) (Or.inl ⟨by rfl, ?hy6_22⟩) hS ?rest6_22
  case hy6_22 =>
    intro w hSw
    (try dsimp only at hSw)
    go_simp
    try with_reducible rfl
  try simp only [Act.put, List.setIfInBounds_toArray, List.set_cons_zero, List.set_cons_succ]
  refine wpAnyH_ready (rs := [7, 11]) (by kernel_rfl) (by simp) ?_
  refine AllReadyH.cons (o := { dst := some 42, op := Op.call { callee := Callee.value (Operand.tmp 37), args := #[Operand.tmp 41], argTypes := #[39] }, type := 25, pos := "life.go:23", after := #[{ on := 2, ground := Ground.data }, { on := 6, ground := Ground.data }], guard := none }) rfl (fun K hK => ?_) ?_
  ·
    go_simp
    refine (ch_is hk s a mo _ false HC.out hr hZd).mono ?_
    rintro e v1 ⟨rfl, hb⟩
    have q1 := q0.below hb q0.lt
    have p1 := p0.below hb p0.lt
    have u1 := u0.below hb u0.lt
    have hB1 := hBd.trans (hb.mono hBd.size)
    have c10 : v1.cell? ⟨B1, 0, none⟩ = some (Value.int .i64 s.st) := q1.cell 0 rfl
    have c11 : v1.cell? ⟨B1, 1, none⟩ = some (Value.int .i64 s.ow) := q1.cell 1 rfl
    have c12 : v1.cell? ⟨B1, 2, none⟩ = some (Value.int .i64 s.sr) := q1.cell 2 rfl
    have c13 : v1.cell? ⟨B1, 3, none⟩ = some (Value.bool s.br) := q1.cell 3 rfl
    have c14 : v1.cell? ⟨B1, 4, none⟩ = some (Value.bool s.ma) := q1.cell 4 rfl
    have c15 : v1.cell? ⟨B1, 5, none⟩ = some (Value.int .i64 s.us) := q1.cell 5 rfl
    have c16 : v1.cell? ⟨B1, 6, none⟩ = some (Value.int .i64 s.ge) := q1.cell 6 rfl
    have c17 : v1.cell? ⟨B1, 7, none⟩ = some (Value.int .i64 s.ep) := q1.cell 7 rfl
    have c18 : v1.cell? ⟨B1, 8, none⟩ = some (Value.int .i64 s.ve) := q1.cell 8 rfl
    have f1 : v1.cell? ⟨B3, k, none⟩ = some (.func (.func (20 + k)) #[] #[]) := u1.cell k (fv_at hk)
    refine hK.out _ _ ⟨c10, c11, c12, c13, c14, c15, c16, c17, c18, f1⟩ (fun hS => ?_)
    clear hK K
    try simp only [Act.put, List.setIfInBounds_toArray, List.set_cons_zero, List.set_cons_succ]
    refine wpAnyH_take (i := 8) (oi := { dst := some 34, op := Op.move (Operand.tmp 42), type := 25, pos := "life.go:23", after := #[{ on := 7, ground := Ground.data }], guard := none }) (v := ?v8_23) rfl (by kernel_rfl) (by kernel_rfl) (by kernel_rfl) (fun _ _ _ h => h) (Or.inl ⟨by rfl, ?hy8_23⟩) hS ?rest8_23
    case hy8_23 =>
      intro w hSw
      (try dsimp only at hSw)
      go_simp
      try with_reducible rfl
    try simp only [Act.put, List.setIfInBounds_toArray, List.set_cons_zero, List.set_cons_succ]
    refine wpAnyH_take (i := 9) (oi := { dst := some 43, op := Op.extract (Operand.tmp 34) 0, type := 23, pos := "life.go:23", after := #[{ on := 8, ground := Ground.data }], guard := none }) (v := ?v9_24) rfl (by kernel_rfl) (by kernel_rfl) (by kernel_rfl) (fun _ _ _ h => h) (Or.inl ⟨by rfl, ?hy9_24⟩) hS ?rest9_24
    case hy9_24 =>
      intro w hSw
      (try dsimp only at hSw)
      go_simp
      try with_reducible rfl
    try simp only [Act.put, List.setIfInBounds_toArray, List.set_cons_zero, List.set_cons_succ]
    refine wpAnyH_take (i := 10) (oi := { dst := some 44, op := Op.extract (Operand.tmp 34) 1, type := 4, pos := "life.go:23", after := #[{ on := 8, ground := Ground.data }, { on := 12, ground := Ground.gcOnly Departure.lateStores }], guard := none }) (v := ?v10_25) rfl (by kernel_rfl) (by kernel_rfl) (by kernel_rfl) (fun _ _ _ h => h) (Or.inl ⟨by rfl, ?hy10_25⟩) hS ?rest10_25
    case hy10_25 =>
      intro w hSw
      (try dsimp only at hSw)
      go_simp
      try with_reducible rfl
    try simp only [Act.put, List.setIfInBounds_toArray, List.set_cons_zero, List.set_cons_succ]
    refine wpAnyH_ready (rs := [11]) (by kernel_rfl) (by simp) ?_
    refine AllReadyH.cons (o := { dst := some 11, op := Op.alloc 23, type := 0, pos := "life.go:23", after := #[], guard := none }) rfl (fun K hK => ?_) AllReadyH.nil
    go_simp
    have o2 := RowAt.new v1 23 #[Value.int .i64 0, Value.int .i64 0, Value.int .i64 0, Value.bool false, Value.bool false, Value.int .i64 0, Value.int .i64 0, Value.int .i64 0, Value.int .i64 0]
    have q2 := q1.alloc (.cells #[Value.int .i64 0, Value.int .i64 0, Value.int .i64 0, Value.bool false, Value.bool false, Value.int .i64 0, Value.int .i64 0, Value.int .i64 0, Value.int .i64 0] 23)
    have p2 := p1.alloc (.cells #[Value.int .i64 0, Value.int .i64 0, Value.int .i64 0, Value.bool false, Value.bool false, Value.int .i64 0, Value.int .i64 0, Value.int .i64 0, Value.int .i64 0] 23)
    have u2 := u1.alloc (.cells #[Value.int .i64 0, Value.int .i64 0, Value.int .i64 0, Value.bool false, Value.bool false, Value.int .i64 0, Value.int .i64 0, Value.int .i64 0, Value.int .i64 0] 23)
    have hB2 := hB1.alloc hB1.size (.cells #[Value.int .i64 0, Value.int .i64 0, Value.int .i64 0, Value.bool false, Value.bool false, Value.int .i64 0, Value.int .i64 0, Value.int .i64 0, Value.int .i64 0] 23)
    have c20 : (v1.alloc (.cells #[Value.int .i64 0, Value.int .i64 0, Value.int .i64 0, Value.bool false, Value.bool false, Value.int .i64 0, Value.int .i64 0, Value.int .i64 0, Value.int .i64 0] 23)).cell? ⟨B1, 0, none⟩ = some (Value.int .i64 s.st) := q2.cell 0 rfl
    have c21 : (v1.alloc (.cells #[Value.int .i64 0, Value.int .i64 0, Value.int .i64 0, Value.bool false, Value.bool false, Value.int .i64 0, Value.int .i64 0, Value.int .i64 0, Value.int .i64 0] 23)).cell? ⟨B1, 1, none⟩ = some (Value.int .i64 s.ow) := q2.cell 1 rfl
    have c22 : (v1.alloc (.cells #[Value.int .i64 0, Value.int .i64 0, Value.int .i64 0, Value.bool false, Value.bool false, Value.int .i64 0, Value.int .i64 0, Value.int .i64 0, Value.int .i64 0] 23)).cell? ⟨B1, 2, none⟩ = some (Value.int .i64 s.sr) := q2.cell 2 rfl
    have c23 : (v1.alloc (.cells #[Value.int .i64 0, Value.int .i64 0, Value.int .i64 0, Value.bool false, Value.bool false, Value.int .i64 0, Value.int .i64 0, Value.int .i64 0, Value.int .i64 0] 23)).cell? ⟨B1, 3, none⟩ = some (Value.bool s.br) := q2.cell 3 rfl
    have c24 : (v1.alloc (.cells #[Value.int .i64 0, Value.int .i64 0, Value.int .i64 0, Value.bool false, Value.bool false, Value.int .i64 0, Value.int .i64 0, Value.int .i64 0, Value.int .i64 0] 23)).cell? ⟨B1, 4, none⟩ = some (Value.bool s.ma) := q2.cell 4 rfl
    have c25 : (v1.alloc (.cells #[Value.int .i64 0, Value.int .i64 0, Value.int .i64 0, Value.bool false, Value.bool false, Value.int .i64 0, Value.int .i64 0, Value.int .i64 0, Value.int .i64 0] 23)).cell? ⟨B1, 5, none⟩ = some (Value.int .i64 s.us) := q2.cell 5 rfl
    have c26 : (v1.alloc (.cells #[Value.int .i64 0, Value.int .i64 0, Value.int .i64 0, Value.bool false, Value.bool false, Value.int .i64 0, Value.int .i64 0, Value.int .i64 0, Value.int .i64 0] 23)).cell? ⟨B1, 6, none⟩ = some (Value.int .i64 s.ge) := q2.cell 6 rfl
    have c27 : (v1.alloc (.cells #[Value.int .i64 0, Value.int .i64 0, Value.int .i64 0, Value.bool false, Value.bool false, Value.int .i64 0, Value.int .i64 0, Value.int .i64 0, Value.int .i64 0] 23)).cell? ⟨B1, 7, none⟩ = some (Value.int .i64 s.ep) := q2.cell 7 rfl
    have c28 : (v1.alloc (.cells #[Value.int .i64 0, Value.int .i64 0, Value.int .i64 0, Value.bool false, Value.bool false, Value.int .i64 0, Value.int .i64 0, Value.int .i64 0, Value.int .i64 0] 23)).cell? ⟨B1, 8, none⟩ = some (Value.int .i64 s.ve) := q2.cell 8 rfl
    have f2 : (v1.alloc (.cells #[Value.int .i64 0, Value.int .i64 0, Value.int .i64 0, Value.bool false, Value.bool false, Value.int .i64 0, Value.int .i64 0, Value.int .i64 0, Value.int .i64 0] 23)).cell? ⟨B3, k, none⟩ = some (.func (.func (20 + k)) #[] #[]) := u2.cell k (fv_at hk)
    refine hK.out _ _ ⟨c20, c21, c22, c23, c24, c25, c26, c27, c28, f2⟩ (fun hS => ?_)
    clear hK K
    try simp only [Act.put, List.setIfInBounds_toArray, List.set_cons_zero, List.set_cons_succ]
    refine wpAnyH_ready (rs := [12]) (by kernel_rfl) (by simp) ?_
    refine AllReadyH.cons (o := { dst := none, op := Op.store 23 (Operand.tmp 11) (Operand.tmp 43), type := 0, pos := "life.go:23", after := #[{ on := 11, ground := Ground.data }, { on := 9, ground := Ground.data }, { on := 7, ground := Ground.chain }, { on := 0, ground := Ground.phase }, { on := 1, ground := Ground.phase }, { on := 2, ground := Ground.phase }, { on := 3, ground := Ground.phase }, { on := 4, ground := Ground.phase }, { on := 5, ground := Ground.phase }, { on := 6, ground := Ground.phase }, { on := 7, ground := Ground.phase }, { on := 8, ground := Ground.phase }, { on := 9, ground := Ground.phase }, { on := 10, ground := Ground.textOnly Departure.lateStores }, { on := 11, ground := Ground.phase }], guard := none }) rfl (fun K hK => ?_) AllReadyH.nil
    go_simp
    have RB := RowAt.new v1 23 #[Value.int .i64 (chS k s a mo).st, Value.int .i64 (chS k s a mo).ow, Value.int .i64 (chS k s a mo).sr, Value.bool (chS k s a mo).br, Value.bool (chS k s a mo).ma, Value.int .i64 (chS k s a mo).us, Value.int .i64 (chS k s a mo).ge, Value.int .i64 (chS k s a mo).ep, Value.int .i64 (chS k s a mo).ve]
    have R0 := q1.alloc (.cells #[Value.int .i64 (chS k s a mo).st, Value.int .i64 (chS k s a mo).ow, Value.int .i64 (chS k s a mo).sr, Value.bool (chS k s a mo).br, Value.bool (chS k s a mo).ma, Value.int .i64 (chS k s a mo).us, Value.int .i64 (chS k s a mo).ge, Value.int .i64 (chS k s a mo).ep, Value.int .i64 (chS k s a mo).ve] 23)
    have R1 := p1.alloc (.cells #[Value.int .i64 (chS k s a mo).st, Value.int .i64 (chS k s a mo).ow, Value.int .i64 (chS k s a mo).sr, Value.bool (chS k s a mo).br, Value.bool (chS k s a mo).ma, Value.int .i64 (chS k s a mo).us, Value.int .i64 (chS k s a mo).ge, Value.int .i64 (chS k s a mo).ep, Value.int .i64 (chS k s a mo).ve] 23)
    have R2 := u1.alloc (.cells #[Value.int .i64 (chS k s a mo).st, Value.int .i64 (chS k s a mo).ow, Value.int .i64 (chS k s a mo).sr, Value.bool (chS k s a mo).br, Value.bool (chS k s a mo).ma, Value.int .i64 (chS k s a mo).us, Value.int .i64 (chS k s a mo).ge, Value.int .i64 (chS k s a mo).ep, Value.int .i64 (chS k s a mo).ve] 23)
    have HB := hB1.alloc hB1.size (.cells #[Value.int .i64 (chS k s a mo).st, Value.int .i64 (chS k s a mo).ow, Value.int .i64 (chS k s a mo).sr, Value.bool (chS k s a mo).br, Value.bool (chS k s a mo).ma, Value.int .i64 (chS k s a mo).us, Value.int .i64 (chS k s a mo).ge, Value.int .i64 (chS k s a mo).ep, Value.int .i64 (chS k s a mo).ve] 23)
    have hlB : w.heap.size ≤ v1.heap.size := hB1.size
    have hne2 : v1.heap.size ≠ B1 + 1 := Nat.ne_of_gt p1.lt
    obtain ⟨V, hV⟩ : ∃ V, V = (v1.alloc (.cells #[Value.int .i64 (chS k s a mo).st, Value.int .i64 (chS k s a mo).ow, Value.int .i64 (chS k s a mo).sr, Value.bool (chS k s a mo).br, Value.bool (chS k s a mo).ma, Value.int .i64 (chS k s a mo).us, Value.int .i64 (chS k s a mo).ge, Value.int .i64 (chS k s a mo).ep, Value.int .i64 (chS k s a mo).ve] 23)) := ⟨_, rfl⟩
    rw [← hV] at RB R0 R1 R2 HB ⊢
    clear hV
    obtain ⟨B, eB⟩ : ∃ B, B = v1.heap.size := ⟨_, rfl⟩
    rw [← eB] at RB hne2 hlB ⊢
    clear eB
    have z0 : V.cell? ⟨B1, 0, none⟩ = some (Value.int .i64 s.st) := R0.cell 0 rfl
    have z1 : V.cell? ⟨B1, 1, none⟩ = some (Value.int .i64 s.ow) := R0.cell 1 rfl
    have z2 : V.cell? ⟨B1, 2, none⟩ = some (Value.int .i64 s.sr) := R0.cell 2 rfl
    have z3 : V.cell? ⟨B1, 3, none⟩ = some (Value.bool s.br) := R0.cell 3 rfl
    have z4 : V.cell? ⟨B1, 4, none⟩ = some (Value.bool s.ma) := R0.cell 4 rfl
    have z5 : V.cell? ⟨B1, 5, none⟩ = some (Value.int .i64 s.us) := R0.cell 5 rfl
    have z6 : V.cell? ⟨B1, 6, none⟩ = some (Value.int .i64 s.ge) := R0.cell 6 rfl
    have z7 : V.cell? ⟨B1, 7, none⟩ = some (Value.int .i64 s.ep) := R0.cell 7 rfl
    have z8 : V.cell? ⟨B1, 8, none⟩ = some (Value.int .i64 s.ve) := R0.cell 8 rfl
    have fz : V.cell? ⟨B3, k, none⟩ = some (.func (.func (20 + k)) #[] #[]) := R2.cell k (fv_at hk)
    refine hK.out _ _ ⟨z0, z1, z2, z3, z4, z5, z6, z7, z8, fz⟩ (fun hS => ?_)
    clear hK K
    try simp only [Act.put, List.setIfInBounds_toArray, List.set_cons_zero, List.set_cons_succ]
    refine wpAnyH_take (i := 13) (oi := { dst := some 12, op := Op.assign (Operand.tmp 44), type := 4, pos := "life.go:23", after := #[{ on := 10, ground := Ground.data }, { on := 12, ground := Ground.chain }, { on := 0, ground := Ground.phase }, { on := 1, ground := Ground.phase }, { on := 2, ground := Ground.phase }, { on := 3, ground := Ground.phase }, { on := 4, ground := Ground.phase }, { on := 5, ground := Ground.phase }, { on := 6, ground := Ground.phase }, { on := 7, ground := Ground.phase }, { on := 8, ground := Ground.phase }, { on := 9, ground := Ground.phase }, { on := 10, ground := Ground.phase }, { on := 11, ground := Ground.phase }, { on := 12, ground := Ground.phase }], guard := none }) (v := ?v13_26) rfl (by kernel_rfl) (by kernel_rfl) (by kernel_rfl) (fun _ _ _ h => h) (Or.inl ⟨by rfl, ?hy13_26⟩) hS ?rest13_26
    case hy13_26 =>
      intro w hSw
      (try dsimp only at hSw)
      go_simp
      try with_reducible rfl
    try simp only [Act.put, List.setIfInBounds_toArray, List.set_cons_zero, List.set_cons_succ]
    refine wpAnyH_done (by kernel_rfl) ?_ _
    have lB := RB.lt
    go_wp2_with (refine wpList_store_row rfl 23 _ _ rfl _ #[Value.int .i64 0, Value.int .i64 0, Value.int .i64 0, Value.bool false, Value.bool false, Value.int .i64 0, Value.int .i64 0, Value.int .i64 0, Value.int .i64 0] rfl rfl 23 _ R1 (by kernel_rfl) rfl (by simp [Value.oneCell']) ?_)
    refine bodyPost_ret (res_pair (p := 8) (u := 9) rfl _ _ _ _ rfl (R1.set _) rfl) rfl ⟨rfl, below_setRow HB (by omega) _⟩
  refine AllReadyH.cons (o := { dst := some 11, op := Op.alloc 23, type := 0, pos := "life.go:23", after := #[], guard := none }) rfl (fun K hK => ?_) AllReadyH.nil
  go_simp
  have o1 := RowAt.new WD 23 #[Value.int .i64 0, Value.int .i64 0, Value.int .i64 0, Value.bool false, Value.bool false, Value.int .i64 0, Value.int .i64 0, Value.int .i64 0, Value.int .i64 0]
  have q1 := q0.alloc (.cells #[Value.int .i64 0, Value.int .i64 0, Value.int .i64 0, Value.bool false, Value.bool false, Value.int .i64 0, Value.int .i64 0, Value.int .i64 0, Value.int .i64 0] 23)
  have p1 := p0.alloc (.cells #[Value.int .i64 0, Value.int .i64 0, Value.int .i64 0, Value.bool false, Value.bool false, Value.int .i64 0, Value.int .i64 0, Value.int .i64 0, Value.int .i64 0] 23)
  have u1 := u0.alloc (.cells #[Value.int .i64 0, Value.int .i64 0, Value.int .i64 0, Value.bool false, Value.bool false, Value.int .i64 0, Value.int .i64 0, Value.int .i64 0, Value.int .i64 0] 23)
  have hB1 := hBd.alloc hBd.size (.cells #[Value.int .i64 0, Value.int .i64 0, Value.int .i64 0, Value.bool false, Value.bool false, Value.int .i64 0, Value.int .i64 0, Value.int .i64 0, Value.int .i64 0] 23)
  have c10 : (WD.alloc (.cells #[Value.int .i64 0, Value.int .i64 0, Value.int .i64 0, Value.bool false, Value.bool false, Value.int .i64 0, Value.int .i64 0, Value.int .i64 0, Value.int .i64 0] 23)).cell? ⟨B1, 0, none⟩ = some (Value.int .i64 s.st) := q1.cell 0 rfl
  have c11 : (WD.alloc (.cells #[Value.int .i64 0, Value.int .i64 0, Value.int .i64 0, Value.bool false, Value.bool false, Value.int .i64 0, Value.int .i64 0, Value.int .i64 0, Value.int .i64 0] 23)).cell? ⟨B1, 1, none⟩ = some (Value.int .i64 s.ow) := q1.cell 1 rfl
  have c12 : (WD.alloc (.cells #[Value.int .i64 0, Value.int .i64 0, Value.int .i64 0, Value.bool false, Value.bool false, Value.int .i64 0, Value.int .i64 0, Value.int .i64 0, Value.int .i64 0] 23)).cell? ⟨B1, 2, none⟩ = some (Value.int .i64 s.sr) := q1.cell 2 rfl
  have c13 : (WD.alloc (.cells #[Value.int .i64 0, Value.int .i64 0, Value.int .i64 0, Value.bool false, Value.bool false, Value.int .i64 0, Value.int .i64 0, Value.int .i64 0, Value.int .i64 0] 23)).cell? ⟨B1, 3, none⟩ = some (Value.bool s.br) := q1.cell 3 rfl
  have c14 : (WD.alloc (.cells #[Value.int .i64 0, Value.int .i64 0, Value.int .i64 0, Value.bool false, Value.bool false, Value.int .i64 0, Value.int .i64 0, Value.int .i64 0, Value.int .i64 0] 23)).cell? ⟨B1, 4, none⟩ = some (Value.bool s.ma) := q1.cell 4 rfl
  have c15 : (WD.alloc (.cells #[Value.int .i64 0, Value.int .i64 0, Value.int .i64 0, Value.bool false, Value.bool false, Value.int .i64 0, Value.int .i64 0, Value.int .i64 0, Value.int .i64 0] 23)).cell? ⟨B1, 5, none⟩ = some (Value.int .i64 s.us) := q1.cell 5 rfl
  have c16 : (WD.alloc (.cells #[Value.int .i64 0, Value.int .i64 0, Value.int .i64 0, Value.bool false, Value.bool false, Value.int .i64 0, Value.int .i64 0, Value.int .i64 0, Value.int .i64 0] 23)).cell? ⟨B1, 6, none⟩ = some (Value.int .i64 s.ge) := q1.cell 6 rfl
  have c17 : (WD.alloc (.cells #[Value.int .i64 0, Value.int .i64 0, Value.int .i64 0, Value.bool false, Value.bool false, Value.int .i64 0, Value.int .i64 0, Value.int .i64 0, Value.int .i64 0] 23)).cell? ⟨B1, 7, none⟩ = some (Value.int .i64 s.ep) := q1.cell 7 rfl
  have c18 : (WD.alloc (.cells #[Value.int .i64 0, Value.int .i64 0, Value.int .i64 0, Value.bool false, Value.bool false, Value.int .i64 0, Value.int .i64 0, Value.int .i64 0, Value.int .i64 0] 23)).cell? ⟨B1, 8, none⟩ = some (Value.int .i64 s.ve) := q1.cell 8 rfl
  have f1 : (WD.alloc (.cells #[Value.int .i64 0, Value.int .i64 0, Value.int .i64 0, Value.bool false, Value.bool false, Value.int .i64 0, Value.int .i64 0, Value.int .i64 0, Value.int .i64 0] 23)).cell? ⟨B3, k, none⟩ = some (.func (.func (20 + k)) #[] #[]) := u1.cell k (fv_at hk)
  refine hK.out _ _ ⟨c10, c11, c12, c13, c14, c15, c16, c17, c18, f1⟩ (fun hS => ?_)
  clear hK K
  try simp only [Act.put, List.setIfInBounds_toArray, List.set_cons_zero, List.set_cons_succ]
  refine wpAnyH_ready (rs := [7]) (by kernel_rfl) (by simp) ?_
  refine AllReadyH.cons (o := { dst := some 42, op := Op.call { callee := Callee.value (Operand.tmp 37), args := #[Operand.tmp 41], argTypes := #[39] }, type := 25, pos := "life.go:23", after := #[{ on := 2, ground := Ground.data }, { on := 6, ground := Ground.data }], guard := none }) rfl (fun K hK => ?_) AllReadyH.nil
  go_simp
  refine (ch_is hk s a mo _ false HC.out hr (hZd.alloc _)).mono ?_
  rintro e v2 ⟨rfl, hb⟩
  have q2 := q1.below hb q1.lt
  have p2 := p1.below hb p1.lt
  have u2 := u1.below hb u1.lt
  have o2 := o1.below hb o1.lt
  have hB2 := hB1.trans (hb.mono hB1.size)
  have d0 : v2.cell? ⟨WD.heap.size, 0, none⟩ = some (Value.int .i64 0) := o2.cell 0 rfl
  have d1 : v2.cell? ⟨WD.heap.size, 1, none⟩ = some (Value.int .i64 0) := o2.cell 1 rfl
  have d2 : v2.cell? ⟨WD.heap.size, 2, none⟩ = some (Value.int .i64 0) := o2.cell 2 rfl
  have d3 : v2.cell? ⟨WD.heap.size, 3, none⟩ = some (Value.bool false) := o2.cell 3 rfl
  have d4 : v2.cell? ⟨WD.heap.size, 4, none⟩ = some (Value.bool false) := o2.cell 4 rfl
  have d5 : v2.cell? ⟨WD.heap.size, 5, none⟩ = some (Value.int .i64 0) := o2.cell 5 rfl
  have d6 : v2.cell? ⟨WD.heap.size, 6, none⟩ = some (Value.int .i64 0) := o2.cell 6 rfl
  have d7 : v2.cell? ⟨WD.heap.size, 7, none⟩ = some (Value.int .i64 0) := o2.cell 7 rfl
  have d8 : v2.cell? ⟨WD.heap.size, 8, none⟩ = some (Value.int .i64 0) := o2.cell 8 rfl
  have g0 : v2.frozen? ⟨WD.heap.size, 0, none⟩ = false := o2.frozen 0
  have g1 : v2.frozen? ⟨WD.heap.size, 1, none⟩ = false := o2.frozen 1
  have g2 : v2.frozen? ⟨WD.heap.size, 2, none⟩ = false := o2.frozen 2
  have g3 : v2.frozen? ⟨WD.heap.size, 3, none⟩ = false := o2.frozen 3
  have g4 : v2.frozen? ⟨WD.heap.size, 4, none⟩ = false := o2.frozen 4
  have g5 : v2.frozen? ⟨WD.heap.size, 5, none⟩ = false := o2.frozen 5
  have g6 : v2.frozen? ⟨WD.heap.size, 6, none⟩ = false := o2.frozen 6
  have g7 : v2.frozen? ⟨WD.heap.size, 7, none⟩ = false := o2.frozen 7
  have g8 : v2.frozen? ⟨WD.heap.size, 8, none⟩ = false := o2.frozen 8
  have c20 : v2.cell? ⟨B1, 0, none⟩ = some (Value.int .i64 s.st) := q2.cell 0 rfl
  have c21 : v2.cell? ⟨B1, 1, none⟩ = some (Value.int .i64 s.ow) := q2.cell 1 rfl
  have c22 : v2.cell? ⟨B1, 2, none⟩ = some (Value.int .i64 s.sr) := q2.cell 2 rfl
  have c23 : v2.cell? ⟨B1, 3, none⟩ = some (Value.bool s.br) := q2.cell 3 rfl
  have c24 : v2.cell? ⟨B1, 4, none⟩ = some (Value.bool s.ma) := q2.cell 4 rfl
  have c25 : v2.cell? ⟨B1, 5, none⟩ = some (Value.int .i64 s.us) := q2.cell 5 rfl
  have c26 : v2.cell? ⟨B1, 6, none⟩ = some (Value.int .i64 s.ge) := q2.cell 6 rfl
  have c27 : v2.cell? ⟨B1, 7, none⟩ = some (Value.int .i64 s.ep) := q2.cell 7 rfl
  have c28 : v2.cell? ⟨B1, 8, none⟩ = some (Value.int .i64 s.ve) := q2.cell 8 rfl
  have f2 : v2.cell? ⟨B3, k, none⟩ = some (.func (.func (20 + k)) #[] #[]) := u2.cell k (fv_at hk)
  refine hK.out _ _ ⟨c20, c21, c22, c23, c24, c25, c26, c27, c28, f2⟩ (fun hS => ?_)
  clear hK K
  try simp only [Act.put, List.setIfInBounds_toArray, List.set_cons_zero, List.set_cons_succ]
  refine wpAnyH_take (i := 8) (oi := { dst := some 34, op := Op.move (Operand.tmp 42), type := 25, pos := "life.go:23", after := #[{ on := 7, ground := Ground.data }], guard := none }) (v := ?v8_27) rfl (by kernel_rfl) (by kernel_rfl) (by kernel_rfl) (fun _ _ _ h => h) (Or.inl ⟨by rfl, ?hy8_27⟩) hS ?rest8_27
  case hy8_27 =>
    intro w hSw
    (try dsimp only at hSw)
    go_simp
    try with_reducible rfl
  try simp only [Act.put, List.setIfInBounds_toArray, List.set_cons_zero, List.set_cons_succ]
  refine wpAnyH_take (i := 9) (oi := { dst := some 43, op := Op.extract (Operand.tmp 34) 0, type := 23, pos := "life.go:23", after := #[{ on := 8, ground := Ground.data }], guard := none }) (v := ?v9_28) rfl (by kernel_rfl) (by kernel_rfl) (by kernel_rfl) (fun _ _ _ h => h) (Or.inl ⟨by rfl, ?hy9_28⟩) hS ?rest9_28
  case hy9_28 =>
    intro w hSw
    (try dsimp only at hSw)
    go_simp
    try with_reducible rfl
  try simp only [Act.put, List.setIfInBounds_toArray, List.set_cons_zero, List.set_cons_succ]
  refine wpAnyH_take (i := 10) (oi := { dst := some 44, op := Op.extract (Operand.tmp 34) 1, type := 4, pos := "life.go:23", after := #[{ on := 8, ground := Ground.data }, { on := 12, ground := Ground.gcOnly Departure.lateStores }], guard := none }) (v := ?v10_29) rfl (by kernel_rfl) (by kernel_rfl) (by kernel_rfl) (fun _ _ _ h => h) (Or.inl ⟨by rfl, ?hy10_29⟩) hS ?rest10_29
  case hy10_29 =>
    intro w hSw
    (try dsimp only at hSw)
    go_simp
    try with_reducible rfl
  try simp only [Act.put, List.setIfInBounds_toArray, List.set_cons_zero, List.set_cons_succ]
  refine wpAnyH_ready (rs := [12]) (by kernel_rfl) (by simp) ?_
  refine AllReadyH.cons (o := { dst := none, op := Op.store 23 (Operand.tmp 11) (Operand.tmp 43), type := 0, pos := "life.go:23", after := #[{ on := 11, ground := Ground.data }, { on := 9, ground := Ground.data }, { on := 7, ground := Ground.chain }, { on := 0, ground := Ground.phase }, { on := 1, ground := Ground.phase }, { on := 2, ground := Ground.phase }, { on := 3, ground := Ground.phase }, { on := 4, ground := Ground.phase }, { on := 5, ground := Ground.phase }, { on := 6, ground := Ground.phase }, { on := 7, ground := Ground.phase }, { on := 8, ground := Ground.phase }, { on := 9, ground := Ground.phase }, { on := 10, ground := Ground.textOnly Departure.lateStores }, { on := 11, ground := Ground.phase }], guard := none }) rfl (fun K hK => ?_) AllReadyH.nil
  go_simp
  have RB := row9 o2 (Value.int .i64 (chS k s a mo).st) (Value.int .i64 (chS k s a mo).ow) (Value.int .i64 (chS k s a mo).sr) (Value.bool (chS k s a mo).br) (Value.bool (chS k s a mo).ma) (Value.int .i64 (chS k s a mo).us) (Value.int .i64 (chS k s a mo).ge) (Value.int .i64 (chS k s a mo).ep) (Value.int .i64 (chS k s a mo).ve)
  have R0 := oth9 q2 (Nat.ne_of_lt q0.lt) (Value.int .i64 (chS k s a mo).st) (Value.int .i64 (chS k s a mo).ow) (Value.int .i64 (chS k s a mo).sr) (Value.bool (chS k s a mo).br) (Value.bool (chS k s a mo).ma) (Value.int .i64 (chS k s a mo).us) (Value.int .i64 (chS k s a mo).ge) (Value.int .i64 (chS k s a mo).ep) (Value.int .i64 (chS k s a mo).ve)
  have R1 := oth9 p2 (Nat.ne_of_lt p0.lt) (Value.int .i64 (chS k s a mo).st) (Value.int .i64 (chS k s a mo).ow) (Value.int .i64 (chS k s a mo).sr) (Value.bool (chS k s a mo).br) (Value.bool (chS k s a mo).ma) (Value.int .i64 (chS k s a mo).us) (Value.int .i64 (chS k s a mo).ge) (Value.int .i64 (chS k s a mo).ep) (Value.int .i64 (chS k s a mo).ve)
  have R2 := oth9 u2 (Nat.ne_of_lt u0.lt) (Value.int .i64 (chS k s a mo).st) (Value.int .i64 (chS k s a mo).ow) (Value.int .i64 (chS k s a mo).sr) (Value.bool (chS k s a mo).br) (Value.bool (chS k s a mo).ma) (Value.int .i64 (chS k s a mo).us) (Value.int .i64 (chS k s a mo).ge) (Value.int .i64 (chS k s a mo).ep) (Value.int .i64 (chS k s a mo).ve)
  have HB := below9 (n := w.heap.size) (A := w) (b := WD.heap.size) hB2 hBd.size (Value.int .i64 (chS k s a mo).st) (Value.int .i64 (chS k s a mo).ow) (Value.int .i64 (chS k s a mo).sr) (Value.bool (chS k s a mo).br) (Value.bool (chS k s a mo).ma) (Value.int .i64 (chS k s a mo).us) (Value.int .i64 (chS k s a mo).ge) (Value.int .i64 (chS k s a mo).ep) (Value.int .i64 (chS k s a mo).ve)
  have hlB : w.heap.size ≤ WD.heap.size := hBd.size
  have hne2 : WD.heap.size ≠ B1 + 1 := Nat.ne_of_gt p0.lt
  obtain ⟨V, hV⟩ : ∃ V, V = (((((((((v2.setCell ⟨WD.heap.size, 0, none⟩ (Value.int .i64 (chS k s a mo).st)).setCell ⟨WD.heap.size, 1, none⟩ (Value.int .i64 (chS k s a mo).ow)).setCell ⟨WD.heap.size, 2, none⟩ (Value.int .i64 (chS k s a mo).sr)).setCell ⟨WD.heap.size, 3, none⟩ (Value.bool (chS k s a mo).br)).setCell ⟨WD.heap.size, 4, none⟩ (Value.bool (chS k s a mo).ma)).setCell ⟨WD.heap.size, 5, none⟩ (Value.int .i64 (chS k s a mo).us)).setCell ⟨WD.heap.size, 6, none⟩ (Value.int .i64 (chS k s a mo).ge)).setCell ⟨WD.heap.size, 7, none⟩ (Value.int .i64 (chS k s a mo).ep)).setCell ⟨WD.heap.size, 8, none⟩ (Value.int .i64 (chS k s a mo).ve)) := ⟨_, rfl⟩
  rw [← hV] at RB R0 R1 R2 HB ⊢
  clear hV
  obtain ⟨B, eB⟩ : ∃ B, B = WD.heap.size := ⟨_, rfl⟩
  rw [← eB] at RB hne2 hlB ⊢
  clear eB
  have z0 : V.cell? ⟨B1, 0, none⟩ = some (Value.int .i64 s.st) := R0.cell 0 rfl
  have z1 : V.cell? ⟨B1, 1, none⟩ = some (Value.int .i64 s.ow) := R0.cell 1 rfl
  have z2 : V.cell? ⟨B1, 2, none⟩ = some (Value.int .i64 s.sr) := R0.cell 2 rfl
  have z3 : V.cell? ⟨B1, 3, none⟩ = some (Value.bool s.br) := R0.cell 3 rfl
  have z4 : V.cell? ⟨B1, 4, none⟩ = some (Value.bool s.ma) := R0.cell 4 rfl
  have z5 : V.cell? ⟨B1, 5, none⟩ = some (Value.int .i64 s.us) := R0.cell 5 rfl
  have z6 : V.cell? ⟨B1, 6, none⟩ = some (Value.int .i64 s.ge) := R0.cell 6 rfl
  have z7 : V.cell? ⟨B1, 7, none⟩ = some (Value.int .i64 s.ep) := R0.cell 7 rfl
  have z8 : V.cell? ⟨B1, 8, none⟩ = some (Value.int .i64 s.ve) := R0.cell 8 rfl
  have fz : V.cell? ⟨B3, k, none⟩ = some (.func (.func (20 + k)) #[] #[]) := R2.cell k (fv_at hk)
  refine hK.out _ _ ⟨z0, z1, z2, z3, z4, z5, z6, z7, z8, fz⟩ (fun hS => ?_)
  clear hK K
  try simp only [Act.put, List.setIfInBounds_toArray, List.set_cons_zero, List.set_cons_succ]
  refine wpAnyH_take (i := 13) (oi := { dst := some 12, op := Op.assign (Operand.tmp 44), type := 4, pos := "life.go:23", after := #[{ on := 10, ground := Ground.data }, { on := 12, ground := Ground.chain }, { on := 0, ground := Ground.phase }, { on := 1, ground := Ground.phase }, { on := 2, ground := Ground.phase }, { on := 3, ground := Ground.phase }, { on := 4, ground := Ground.phase }, { on := 5, ground := Ground.phase }, { on := 6, ground := Ground.phase }, { on := 7, ground := Ground.phase }, { on := 8, ground := Ground.phase }, { on := 9, ground := Ground.phase }, { on := 10, ground := Ground.phase }, { on := 11, ground := Ground.phase }, { on := 12, ground := Ground.phase }], guard := none }) (v := ?v13_30) rfl (by kernel_rfl) (by kernel_rfl) (by kernel_rfl) (fun _ _ _ h => h) (Or.inl ⟨by rfl, ?hy13_30⟩) hS ?rest13_30
  case hy13_30 =>
    intro w hSw
    (try dsimp only at hSw)
    go_simp
    try with_reducible rfl
  try simp only [Act.put, List.setIfInBounds_toArray, List.set_cons_zero, List.set_cons_succ]
  refine wpAnyH_done (by kernel_rfl) ?_ _
  have lB := RB.lt
  go_wp2_with (refine wpList_store_row rfl 23 _ _ rfl _ #[Value.int .i64 0, Value.int .i64 0, Value.int .i64 0, Value.bool false, Value.bool false, Value.int .i64 0, Value.int .i64 0, Value.int .i64 0, Value.int .i64 0] rfl rfl 23 _ R1 (by kernel_rfl) rfl (by simp [Value.oneCell']) ?_)
  refine bodyPost_ret (res_pair (p := 8) (u := 9) rfl _ _ _ _ rfl (R1.set _) rfl) rfl ⟨rfl, below_setRow HB (by omega) _⟩
end Go.Proofs.YtdiipmejkanhfaaDoor
