/- The document's own Next tells just what the program's does; nothing that was there changes. -/
import Derived.Test.YtdiipmejkanhfaaDoorRefM
namespace Go.Proofs.YtdiipmejkanhfaaDoor
open Go.RowKit
attribute [local go_sem ↓] Go.wp_at_zero Go.wp_at_succ
set_option maxRecDepth 100000 in
set_option maxHeartbeats 4000000 in
theorem refWrong (s : Sl) (d a mo : Int) (w : World) (h : rrB s = false) :
    Calls Tryd.prog 12 #[Value.agg #[Value.int .i64 s.st, Value.int .i64 s.ow, Value.int .i64 s.sr, Value.bool s.br, Value.bool s.ma, Value.int .i64 s.us, Value.int .i64 s.ge, Value.int .i64 s.ep, Value.int .i64 s.ve], .int .i64 d, .int .i64 a, .int .i64 mo] w fun e w' => e = .returned (.tuple #[.agg #[Value.int .i64 Sl.zero.st, Value.int .i64 Sl.zero.ow, Value.int .i64 Sl.zero.sr, Value.bool Sl.zero.br, Value.bool Sl.zero.ma, Value.int .i64 Sl.zero.us, Value.int .i64 Sl.zero.ge, Value.int .i64 Sl.zero.ep, Value.int .i64 Sl.zero.ve], .bool false]) ∧ Below w.heap.size w w' := by
  have Hr := Lib.hid h
  clear h
  have hB0 : Below w.heap.size w ((w.alloc (.cells #[Value.int .i64 s.st, Value.int .i64 s.ow, Value.int .i64 s.sr, Value.bool s.br, Value.bool s.ma, Value.int .i64 s.us, Value.int .i64 s.ge, Value.int .i64 s.ep, Value.int .i64 s.ve] 23)).alloc (.cells #[Value.int .i64 0, Value.int .i64 0, Value.int .i64 0, Value.bool false, Value.bool false, Value.int .i64 0, Value.int .i64 0, Value.int .i64 0, Value.int .i64 0] 23)) := ((Below.refl _ _).alloc (Nat.le_refl _) _).alloc (by simp) _
  have r0 := (RowAt.new w 23 #[Value.int .i64 s.st, Value.int .i64 s.ow, Value.int .i64 s.sr, Value.bool s.br, Value.bool s.ma, Value.int .i64 s.us, Value.int .i64 s.ge, Value.int .i64 s.ep, Value.int .i64 s.ve]).alloc (.cells #[Value.int .i64 0, Value.int .i64 0, Value.int .i64 0, Value.bool false, Value.bool false, Value.int .i64 0, Value.int .i64 0, Value.int .i64 0, Value.int .i64 0] 23)
  have r1 := new2 w (.cells #[Value.int .i64 s.st, Value.int .i64 s.ow, Value.int .i64 s.sr, Value.bool s.br, Value.bool s.ma, Value.int .i64 s.us, Value.int .i64 s.ge, Value.int .i64 s.ep, Value.int .i64 s.ve] 23) 23 #[Value.int .i64 0, Value.int .i64 0, Value.int .i64 0, Value.bool false, Value.bool false, Value.int .i64 0, Value.int .i64 0, Value.int .i64 0, Value.int .i64 0]
  go_enter Tryd.func12, Tryd.ntmps12
  go_wp2_with fail
  obtain ⟨B1, e1⟩ : ∃ B1, B1 = w.heap.size := ⟨_, rfl⟩
  have hle : w.heap.size ≤ B1 := by omega
  rw [← e1] at r0 r1 ⊢
  clear e1
  refine (refRight_any s _).mono ?_
  rintro e w1 ⟨rfl, hb⟩
  rw [Hr.out]
  replace r0 := r0.below hb r0.lt
  replace r1 := r1.below hb r1.lt
  replace hB0 := hB0.trans (hb.mono hB0.size)
  clear hb
  go_wp2_with (refine wpList_store_row rfl 23 _ _ rfl _ #[Value.int .i64 0, Value.int .i64 0, Value.int .i64 0, Value.bool false, Value.bool false, Value.int .i64 0, Value.int .i64 0, Value.int .i64 0, Value.int .i64 0] rfl rfl 23 _ r1 (by kernel_rfl) rfl (by simp [Value.oneCell']) ?_)
  refine bodyPost_ret (res_pair (p := 8) (u := 9) rfl _ _ _ _ rfl (r1.set _) rfl) rfl ⟨rfl, below_setRow hB0 (by omega) _⟩
set_option maxRecDepth 100000 in
set_option maxHeartbeats 4000000 in
theorem refOut (s : Sl) (d a mo : Int) (w : World) (h : rrB s = true) (ha : ¬ (0 ≤ a ∧ a ≤ 15)) :
    Calls Tryd.prog 12 #[Value.agg #[Value.int .i64 s.st, Value.int .i64 s.ow, Value.int .i64 s.sr, Value.bool s.br, Value.bool s.ma, Value.int .i64 s.us, Value.int .i64 s.ge, Value.int .i64 s.ep, Value.int .i64 s.ve], .int .i64 d, .int .i64 a, .int .i64 mo] w fun e w' => e = .returned (.tuple #[.agg #[Value.int .i64 Sl.zero.st, Value.int .i64 Sl.zero.ow, Value.int .i64 Sl.zero.sr, Value.bool Sl.zero.br, Value.bool Sl.zero.ma, Value.int .i64 Sl.zero.us, Value.int .i64 Sl.zero.ge, Value.int .i64 Sl.zero.ep, Value.int .i64 Sl.zero.ve], .bool false]) ∧ Below w.heap.size w w' := by
  have Hr := Lib.hid h
  clear h
  have hB0 : Below w.heap.size w ((w.alloc (.cells #[Value.int .i64 s.st, Value.int .i64 s.ow, Value.int .i64 s.sr, Value.bool s.br, Value.bool s.ma, Value.int .i64 s.us, Value.int .i64 s.ge, Value.int .i64 s.ep, Value.int .i64 s.ve] 23)).alloc (.cells #[Value.int .i64 0, Value.int .i64 0, Value.int .i64 0, Value.bool false, Value.bool false, Value.int .i64 0, Value.int .i64 0, Value.int .i64 0, Value.int .i64 0] 23)) := ((Below.refl _ _).alloc (Nat.le_refl _) _).alloc (by simp) _
  have r0 := (RowAt.new w 23 #[Value.int .i64 s.st, Value.int .i64 s.ow, Value.int .i64 s.sr, Value.bool s.br, Value.bool s.ma, Value.int .i64 s.us, Value.int .i64 s.ge, Value.int .i64 s.ep, Value.int .i64 s.ve]).alloc (.cells #[Value.int .i64 0, Value.int .i64 0, Value.int .i64 0, Value.bool false, Value.bool false, Value.int .i64 0, Value.int .i64 0, Value.int .i64 0, Value.int .i64 0] 23)
  have r1 := new2 w (.cells #[Value.int .i64 s.st, Value.int .i64 s.ow, Value.int .i64 s.sr, Value.bool s.br, Value.bool s.ma, Value.int .i64 s.us, Value.int .i64 s.ge, Value.int .i64 s.ep, Value.int .i64 s.ve] 23) 23 #[Value.int .i64 0, Value.int .i64 0, Value.int .i64 0, Value.bool false, Value.bool false, Value.int .i64 0, Value.int .i64 0, Value.int .i64 0, Value.int .i64 0]
  go_enter Tryd.func12, Tryd.ntmps12
  go_wp2_with fail
  obtain ⟨B1, e1⟩ : ∃ B1, B1 = w.heap.size := ⟨_, rfl⟩
  have hle : w.heap.size ≤ B1 := by omega
  rw [← e1] at r0 r1 ⊢
  clear e1
  refine (refRight_any s _).mono ?_
  rintro e w1 ⟨rfl, hb⟩
  rw [Hr.out]
  replace r0 := r0.below hb r0.lt
  replace r1 := r1.below hb r1.lt
  replace hB0 := hB0.trans (hb.mono hB0.size)
  clear hb
  by_cases h1 : a < 0
  · go_wp2_with (refine wpList_store_row rfl 23 _ _ rfl _ #[Value.int .i64 0, Value.int .i64 0, Value.int .i64 0, Value.bool false, Value.bool false, Value.int .i64 0, Value.int .i64 0, Value.int .i64 0, Value.int .i64 0] rfl rfl 23 _ r1 (by kernel_rfl) rfl (by simp [Value.oneCell']) ?_)
    refine bodyPost_ret (res_pair (p := 8) (u := 9) rfl _ _ _ _ rfl (r1.set _) rfl) rfl ⟨rfl, below_setRow hB0 (by omega) _⟩
  have h2 : 15 < a := by omega
  go_wp2_with (refine wpList_store_row rfl 23 _ _ rfl _ #[Value.int .i64 0, Value.int .i64 0, Value.int .i64 0, Value.bool false, Value.bool false, Value.int .i64 0, Value.int .i64 0, Value.int .i64 0, Value.int .i64 0] rfl rfl 23 _ r1 (by kernel_rfl) rfl (by simp [Value.oneCell']) ?_)
  refine bodyPost_ret (res_pair (p := 8) (u := 9) rfl _ _ _ _ rfl (r1.set _) rfl) rfl ⟨rfl, below_setRow hB0 (by omega) _⟩
set_option maxRecDepth 100000 in
set_option maxHeartbeats 4000000 in
theorem refNo (s : Sl) (d a mo : Int) (w : World) (x : Sl) (h : rrB s = true) (ha : 0 ≤ a) (ha2 : a ≤ 15) (CR : ∀ w : World, Calls Tryd.prog 17 #[Value.agg #[Value.int .i64 s.st, Value.int .i64 s.ow, Value.int .i64 s.sr, Value.bool s.br, Value.bool s.ma, Value.int .i64 s.us, Value.int .i64 s.ge, Value.int .i64 s.ep, Value.int .i64 s.ve], .int .i64 d, .int .i64 a, .int .i64 mo] w fun e w' => e = .returned (.tuple #[.agg #[Value.int .i64 x.st, Value.int .i64 x.ow, Value.int .i64 x.sr, Value.bool x.br, Value.bool x.ma, Value.int .i64 x.us, Value.int .i64 x.ge, Value.int .i64 x.ep, Value.int .i64 x.ve], .bool false]) ∧ Below w.heap.size w w') :
    Calls Tryd.prog 12 #[Value.agg #[Value.int .i64 s.st, Value.int .i64 s.ow, Value.int .i64 s.sr, Value.bool s.br, Value.bool s.ma, Value.int .i64 s.us, Value.int .i64 s.ge, Value.int .i64 s.ep, Value.int .i64 s.ve], .int .i64 d, .int .i64 a, .int .i64 mo] w fun e w' => e = .returned (.tuple #[.agg #[Value.int .i64 Sl.zero.st, Value.int .i64 Sl.zero.ow, Value.int .i64 Sl.zero.sr, Value.bool Sl.zero.br, Value.bool Sl.zero.ma, Value.int .i64 Sl.zero.us, Value.int .i64 Sl.zero.ge, Value.int .i64 Sl.zero.ep, Value.int .i64 Sl.zero.ve], .bool false]) ∧ Below w.heap.size w w' := by
  have Hr := Lib.hid h
  clear h
  have hB0 : Below w.heap.size w ((w.alloc (.cells #[Value.int .i64 s.st, Value.int .i64 s.ow, Value.int .i64 s.sr, Value.bool s.br, Value.bool s.ma, Value.int .i64 s.us, Value.int .i64 s.ge, Value.int .i64 s.ep, Value.int .i64 s.ve] 23)).alloc (.cells #[Value.int .i64 0, Value.int .i64 0, Value.int .i64 0, Value.bool false, Value.bool false, Value.int .i64 0, Value.int .i64 0, Value.int .i64 0, Value.int .i64 0] 23)) := ((Below.refl _ _).alloc (Nat.le_refl _) _).alloc (by simp) _
  have r0 := (RowAt.new w 23 #[Value.int .i64 s.st, Value.int .i64 s.ow, Value.int .i64 s.sr, Value.bool s.br, Value.bool s.ma, Value.int .i64 s.us, Value.int .i64 s.ge, Value.int .i64 s.ep, Value.int .i64 s.ve]).alloc (.cells #[Value.int .i64 0, Value.int .i64 0, Value.int .i64 0, Value.bool false, Value.bool false, Value.int .i64 0, Value.int .i64 0, Value.int .i64 0, Value.int .i64 0] 23)
  have r1 := new2 w (.cells #[Value.int .i64 s.st, Value.int .i64 s.ow, Value.int .i64 s.sr, Value.bool s.br, Value.bool s.ma, Value.int .i64 s.us, Value.int .i64 s.ge, Value.int .i64 s.ep, Value.int .i64 s.ve] 23) 23 #[Value.int .i64 0, Value.int .i64 0, Value.int .i64 0, Value.bool false, Value.bool false, Value.int .i64 0, Value.int .i64 0, Value.int .i64 0, Value.int .i64 0]
  go_enter Tryd.func12, Tryd.ntmps12
  go_wp2_with fail
  obtain ⟨B1, e1⟩ : ∃ B1, B1 = w.heap.size := ⟨_, rfl⟩
  have hle : w.heap.size ≤ B1 := by omega
  rw [← e1] at r0 r1 ⊢
  clear e1
  refine (refRight_any s _).mono ?_
  rintro e w1 ⟨rfl, hb⟩
  rw [Hr.out]
  replace r0 := r0.below hb r0.lt
  replace r1 := r1.below hb r1.lt
  replace hB0 := hB0.trans (hb.mono hB0.size)
  clear hb
  have c0 : w1.cell? ⟨B1, 0, none⟩ = some (Value.int .i64 s.st) := r0.cell 0 rfl
  have c1 : w1.cell? ⟨B1, 1, none⟩ = some (Value.int .i64 s.ow) := r0.cell 1 rfl
  have c2 : w1.cell? ⟨B1, 2, none⟩ = some (Value.int .i64 s.sr) := r0.cell 2 rfl
  have c3 : w1.cell? ⟨B1, 3, none⟩ = some (Value.bool s.br) := r0.cell 3 rfl
  have c4 : w1.cell? ⟨B1, 4, none⟩ = some (Value.bool s.ma) := r0.cell 4 rfl
  have c5 : w1.cell? ⟨B1, 5, none⟩ = some (Value.int .i64 s.us) := r0.cell 5 rfl
  have c6 : w1.cell? ⟨B1, 6, none⟩ = some (Value.int .i64 s.ge) := r0.cell 6 rfl
  have c7 : w1.cell? ⟨B1, 7, none⟩ = some (Value.int .i64 s.ep) := r0.cell 7 rfl
  have c8 : w1.cell? ⟨B1, 8, none⟩ = some (Value.int .i64 s.ve) := r0.cell 8 rfl
  go_wp2_with fail
  refine (CR _).mono ?_
  rintro e w2 ⟨rfl, hb⟩
  clear c0 c1 c2 c3 c4 c5 c6 c7 c8
  replace r1 := (r1.below hb r1.lt)
  replace hB0 := (hB0.trans (hb.mono hB0.size))
  clear hb r0
  replace r1 := r1.alloc (.cells #[Value.int .i64 x.st, Value.int .i64 x.ow, Value.int .i64 x.sr, Value.bool x.br, Value.bool x.ma, Value.int .i64 x.us, Value.int .i64 x.ge, Value.int .i64 x.ep, Value.int .i64 x.ve] 23)
  replace hB0 := hB0.alloc hB0.size (.cells #[Value.int .i64 x.st, Value.int .i64 x.ow, Value.int .i64 x.sr, Value.bool x.br, Value.bool x.ma, Value.int .i64 x.us, Value.int .i64 x.ge, Value.int .i64 x.ep, Value.int .i64 x.ve] 23)
  go_wp2_with (refine wpList_store_row rfl 23 _ _ rfl _ #[Value.int .i64 0, Value.int .i64 0, Value.int .i64 0, Value.bool false, Value.bool false, Value.int .i64 0, Value.int .i64 0, Value.int .i64 0, Value.int .i64 0] rfl rfl 23 _ r1 (by kernel_rfl) rfl (by simp [Value.oneCell']) ?_)
  refine bodyPost_ret (res_pair (p := 8) (u := 9) rfl _ _ _ _ rfl (r1.set _) rfl) rfl ⟨rfl, below_setRow hB0 (by omega) _⟩
set_option maxRecDepth 100000 in
set_option maxHeartbeats 4000000 in
theorem refYes (s : Sl) (d a mo : Int) (w : World) (x : Sl) (h : rrB s = true) (ha : 0 ≤ a) (ha2 : a ≤ 15) (CR : ∀ w : World, Calls Tryd.prog 17 #[Value.agg #[Value.int .i64 s.st, Value.int .i64 s.ow, Value.int .i64 s.sr, Value.bool s.br, Value.bool s.ma, Value.int .i64 s.us, Value.int .i64 s.ge, Value.int .i64 s.ep, Value.int .i64 s.ve], .int .i64 d, .int .i64 a, .int .i64 mo] w fun e w' => e = .returned (.tuple #[.agg #[Value.int .i64 x.st, Value.int .i64 x.ow, Value.int .i64 x.sr, Value.bool x.br, Value.bool x.ma, Value.int .i64 x.us, Value.int .i64 x.ge, Value.int .i64 x.ep, Value.int .i64 x.ve], .bool true]) ∧ Below w.heap.size w w') (hv : 0 ≤ x.ve ∧ x.ve ≤ 32767) :
    Calls Tryd.prog 12 #[Value.agg #[Value.int .i64 s.st, Value.int .i64 s.ow, Value.int .i64 s.sr, Value.bool s.br, Value.bool s.ma, Value.int .i64 s.us, Value.int .i64 s.ge, Value.int .i64 s.ep, Value.int .i64 s.ve], .int .i64 d, .int .i64 a, .int .i64 mo] w fun e w' => e = .returned (.tuple #[.agg #[Value.int .i64 (x.ver (rve x.ve)).st, Value.int .i64 (x.ver (rve x.ve)).ow, Value.int .i64 (x.ver (rve x.ve)).sr, Value.bool (x.ver (rve x.ve)).br, Value.bool (x.ver (rve x.ve)).ma, Value.int .i64 (x.ver (rve x.ve)).us, Value.int .i64 (x.ver (rve x.ve)).ge, Value.int .i64 (x.ver (rve x.ve)).ep, Value.int .i64 (x.ver (rve x.ve)).ve], .bool true]) ∧ Below w.heap.size w w' := by
  have v0 := hv.1
  have v1 := hv.2
  clear hv
  have Hr := Lib.hid h
  clear h
  by_cases hq : x.ve + 1 = 32768
  · have Hv := Lib.hid (rve_eq hq)
    have hq2 : (x.ve + 1 == 32768) = true := by simp; omega
    clear hq
    have hB0 : Below w.heap.size w ((w.alloc (.cells #[Value.int .i64 s.st, Value.int .i64 s.ow, Value.int .i64 s.sr, Value.bool s.br, Value.bool s.ma, Value.int .i64 s.us, Value.int .i64 s.ge, Value.int .i64 s.ep, Value.int .i64 s.ve] 23)).alloc (.cells #[Value.int .i64 0, Value.int .i64 0, Value.int .i64 0, Value.bool false, Value.bool false, Value.int .i64 0, Value.int .i64 0, Value.int .i64 0, Value.int .i64 0] 23)) := ((Below.refl _ _).alloc (Nat.le_refl _) _).alloc (by simp) _
    have r0 := (RowAt.new w 23 #[Value.int .i64 s.st, Value.int .i64 s.ow, Value.int .i64 s.sr, Value.bool s.br, Value.bool s.ma, Value.int .i64 s.us, Value.int .i64 s.ge, Value.int .i64 s.ep, Value.int .i64 s.ve]).alloc (.cells #[Value.int .i64 0, Value.int .i64 0, Value.int .i64 0, Value.bool false, Value.bool false, Value.int .i64 0, Value.int .i64 0, Value.int .i64 0, Value.int .i64 0] 23)
    have r1 := new2 w (.cells #[Value.int .i64 s.st, Value.int .i64 s.ow, Value.int .i64 s.sr, Value.bool s.br, Value.bool s.ma, Value.int .i64 s.us, Value.int .i64 s.ge, Value.int .i64 s.ep, Value.int .i64 s.ve] 23) 23 #[Value.int .i64 0, Value.int .i64 0, Value.int .i64 0, Value.bool false, Value.bool false, Value.int .i64 0, Value.int .i64 0, Value.int .i64 0, Value.int .i64 0]
    go_enter Tryd.func12, Tryd.ntmps12
    go_wp2_with fail
    obtain ⟨B1, e1⟩ : ∃ B1, B1 = w.heap.size := ⟨_, rfl⟩
    have hle : w.heap.size ≤ B1 := by omega
    rw [← e1] at r0 r1 ⊢
    clear e1
    refine (refRight_any s _).mono ?_
    rintro e w1 ⟨rfl, hb⟩
    rw [Hr.out]
    replace r0 := r0.below hb r0.lt
    replace r1 := r1.below hb r1.lt
    replace hB0 := hB0.trans (hb.mono hB0.size)
    clear hb
    have c0 : w1.cell? ⟨B1, 0, none⟩ = some (Value.int .i64 s.st) := r0.cell 0 rfl
    have c1 : w1.cell? ⟨B1, 1, none⟩ = some (Value.int .i64 s.ow) := r0.cell 1 rfl
    have c2 : w1.cell? ⟨B1, 2, none⟩ = some (Value.int .i64 s.sr) := r0.cell 2 rfl
    have c3 : w1.cell? ⟨B1, 3, none⟩ = some (Value.bool s.br) := r0.cell 3 rfl
    have c4 : w1.cell? ⟨B1, 4, none⟩ = some (Value.bool s.ma) := r0.cell 4 rfl
    have c5 : w1.cell? ⟨B1, 5, none⟩ = some (Value.int .i64 s.us) := r0.cell 5 rfl
    have c6 : w1.cell? ⟨B1, 6, none⟩ = some (Value.int .i64 s.ge) := r0.cell 6 rfl
    have c7 : w1.cell? ⟨B1, 7, none⟩ = some (Value.int .i64 s.ep) := r0.cell 7 rfl
    have c8 : w1.cell? ⟨B1, 8, none⟩ = some (Value.int .i64 s.ve) := r0.cell 8 rfl
    go_wp2_with fail
    refine (CR _).mono ?_
    rintro e w2 ⟨rfl, hb⟩
    clear c0 c1 c2 c3 c4 c5 c6 c7 c8
    replace r1 := (r1.below hb r1.lt)
    replace hB0 := (hB0.trans (hb.mono hB0.size))
    clear hb r0
    replace r1 := r1.alloc (.cells #[Value.int .i64 x.st, Value.int .i64 x.ow, Value.int .i64 x.sr, Value.bool x.br, Value.bool x.ma, Value.int .i64 x.us, Value.int .i64 x.ge, Value.int .i64 x.ep, Value.int .i64 0] 23)
    replace hB0 := hB0.alloc hB0.size (.cells #[Value.int .i64 x.st, Value.int .i64 x.ow, Value.int .i64 x.sr, Value.bool x.br, Value.bool x.ma, Value.int .i64 x.us, Value.int .i64 x.ge, Value.int .i64 x.ep, Value.int .i64 0] 23)
    go_wp2_with (refine wpList_store_row rfl 23 _ _ rfl _ #[Value.int .i64 x.st, Value.int .i64 x.ow, Value.int .i64 x.sr, Value.bool x.br, Value.bool x.ma, Value.int .i64 x.us, Value.int .i64 x.ge, Value.int .i64 x.ep, Value.int .i64 0] rfl rfl 23 _ r1 (by kernel_rfl) rfl (by simp [Value.oneCell']) ?_)
    refine bodyPost_ret (res_pair (p := 8) (u := 9) rfl _ _ _ _ rfl (r1.set _) rfl) rfl ⟨?_, below_setRow hB0 (by omega) _⟩
    show Ending.returned (.tuple #[.agg #[Value.int .i64 x.st, Value.int .i64 x.ow, Value.int .i64 x.sr, Value.bool x.br, Value.bool x.ma, Value.int .i64 x.us, Value.int .i64 x.ge, Value.int .i64 x.ep, Value.int .i64 0], .bool true]) = _
    rw [Hv.out]
    rfl
  · have Hv := Lib.hid (rve_ne hq)
    have hq2 : (x.ve + 1 == 32768) = false := by simp; omega
    clear hq
    have hB0 : Below w.heap.size w ((w.alloc (.cells #[Value.int .i64 s.st, Value.int .i64 s.ow, Value.int .i64 s.sr, Value.bool s.br, Value.bool s.ma, Value.int .i64 s.us, Value.int .i64 s.ge, Value.int .i64 s.ep, Value.int .i64 s.ve] 23)).alloc (.cells #[Value.int .i64 0, Value.int .i64 0, Value.int .i64 0, Value.bool false, Value.bool false, Value.int .i64 0, Value.int .i64 0, Value.int .i64 0, Value.int .i64 0] 23)) := ((Below.refl _ _).alloc (Nat.le_refl _) _).alloc (by simp) _
    have r0 := (RowAt.new w 23 #[Value.int .i64 s.st, Value.int .i64 s.ow, Value.int .i64 s.sr, Value.bool s.br, Value.bool s.ma, Value.int .i64 s.us, Value.int .i64 s.ge, Value.int .i64 s.ep, Value.int .i64 s.ve]).alloc (.cells #[Value.int .i64 0, Value.int .i64 0, Value.int .i64 0, Value.bool false, Value.bool false, Value.int .i64 0, Value.int .i64 0, Value.int .i64 0, Value.int .i64 0] 23)
    have r1 := new2 w (.cells #[Value.int .i64 s.st, Value.int .i64 s.ow, Value.int .i64 s.sr, Value.bool s.br, Value.bool s.ma, Value.int .i64 s.us, Value.int .i64 s.ge, Value.int .i64 s.ep, Value.int .i64 s.ve] 23) 23 #[Value.int .i64 0, Value.int .i64 0, Value.int .i64 0, Value.bool false, Value.bool false, Value.int .i64 0, Value.int .i64 0, Value.int .i64 0, Value.int .i64 0]
    go_enter Tryd.func12, Tryd.ntmps12
    go_wp2_with fail
    obtain ⟨B1, e1⟩ : ∃ B1, B1 = w.heap.size := ⟨_, rfl⟩
    have hle : w.heap.size ≤ B1 := by omega
    rw [← e1] at r0 r1 ⊢
    clear e1
    refine (refRight_any s _).mono ?_
    rintro e w1 ⟨rfl, hb⟩
    rw [Hr.out]
    replace r0 := r0.below hb r0.lt
    replace r1 := r1.below hb r1.lt
    replace hB0 := hB0.trans (hb.mono hB0.size)
    clear hb
    have c0 : w1.cell? ⟨B1, 0, none⟩ = some (Value.int .i64 s.st) := r0.cell 0 rfl
    have c1 : w1.cell? ⟨B1, 1, none⟩ = some (Value.int .i64 s.ow) := r0.cell 1 rfl
    have c2 : w1.cell? ⟨B1, 2, none⟩ = some (Value.int .i64 s.sr) := r0.cell 2 rfl
    have c3 : w1.cell? ⟨B1, 3, none⟩ = some (Value.bool s.br) := r0.cell 3 rfl
    have c4 : w1.cell? ⟨B1, 4, none⟩ = some (Value.bool s.ma) := r0.cell 4 rfl
    have c5 : w1.cell? ⟨B1, 5, none⟩ = some (Value.int .i64 s.us) := r0.cell 5 rfl
    have c6 : w1.cell? ⟨B1, 6, none⟩ = some (Value.int .i64 s.ge) := r0.cell 6 rfl
    have c7 : w1.cell? ⟨B1, 7, none⟩ = some (Value.int .i64 s.ep) := r0.cell 7 rfl
    have c8 : w1.cell? ⟨B1, 8, none⟩ = some (Value.int .i64 s.ve) := r0.cell 8 rfl
    go_wp2_with fail
    refine (CR _).mono ?_
    rintro e w2 ⟨rfl, hb⟩
    clear c0 c1 c2 c3 c4 c5 c6 c7 c8
    replace r1 := (r1.below hb r1.lt)
    replace hB0 := (hB0.trans (hb.mono hB0.size))
    clear hb r0
    replace r1 := r1.alloc (.cells #[Value.int .i64 x.st, Value.int .i64 x.ow, Value.int .i64 x.sr, Value.bool x.br, Value.bool x.ma, Value.int .i64 x.us, Value.int .i64 x.ge, Value.int .i64 x.ep, Value.int .i64 (x.ve + 1)] 23)
    replace hB0 := hB0.alloc hB0.size (.cells #[Value.int .i64 x.st, Value.int .i64 x.ow, Value.int .i64 x.sr, Value.bool x.br, Value.bool x.ma, Value.int .i64 x.us, Value.int .i64 x.ge, Value.int .i64 x.ep, Value.int .i64 (x.ve + 1)] 23)
    go_wp2_with (refine wpList_store_row rfl 23 _ _ rfl _ #[Value.int .i64 x.st, Value.int .i64 x.ow, Value.int .i64 x.sr, Value.bool x.br, Value.bool x.ma, Value.int .i64 x.us, Value.int .i64 x.ge, Value.int .i64 x.ep, Value.int .i64 (x.ve + 1)] rfl rfl 23 _ r1 (by kernel_rfl) rfl (by simp [Value.oneCell']) ?_)
    refine bodyPost_ret (res_pair (p := 8) (u := 9) rfl _ _ _ _ rfl (r1.set _) rfl) rfl ⟨?_, below_setRow hB0 (by omega) _⟩
    show Ending.returned (.tuple #[.agg #[Value.int .i64 x.st, Value.int .i64 x.ow, Value.int .i64 x.sr, Value.bool x.br, Value.bool x.ma, Value.int .i64 x.us, Value.int .i64 x.ge, Value.int .i64 x.ep, Value.int .i64 (x.ve + 1)], .bool true]) = _
    rw [Hv.out]
    rfl
theorem own_outR {t : Sl} {d b mo : Int} (hb : ¬ (0 ≤ b ∧ b ≤ 15)) : nxB t d b mo = false := by
  cases h : nxB t d b mo with
  | false => rfl
  | true =>
    simp [nxB, okB] at h
    omega
theorem refNext_any (s : Sl) (d a mo : Int) (w : World) (hs : s.Wf) (hm : Big mo) :
    Calls Tryd.prog 12 #[Value.agg #[Value.int .i64 s.st, Value.int .i64 s.ow, Value.int .i64 s.sr, Value.bool s.br, Value.bool s.ma, Value.int .i64 s.us, Value.int .i64 s.ge, Value.int .i64 s.ep, Value.int .i64 s.ve], .int .i64 d, .int .i64 a, .int .i64 mo] w fun e w' => e = .returned (.tuple #[.agg #[Value.int .i64 (nxS s d a mo).st, Value.int .i64 (nxS s d a mo).ow, Value.int .i64 (nxS s d a mo).sr, Value.bool (nxS s d a mo).br, Value.bool (nxS s d a mo).ma, Value.int .i64 (nxS s d a mo).us, Value.int .i64 (nxS s d a mo).ge, Value.int .i64 (nxS s d a mo).ep, Value.int .i64 (nxS s d a mo).ve], .bool (nxB s d a mo)]) ∧ Below w.heap.size w w' := by
  cases hr : rrB s with
  | false =>
    have hn : nxB s d a mo = false := by simp [nxB, okB, rt_eq hs, hr]
    rw [nxS_no hn, hn]
    exact refWrong s d a mo w hr
  | true =>
    have hR := rrB_iff.1 hr
    by_cases ha : 0 ≤ a ∧ a ≤ 15
    · by_cases hd : 0 ≤ d ∧ d ≤ 17
      · obtain ⟨k, rfl⟩ : ∃ k : Nat, d = k := ⟨d.toNat, by omega⟩
        have hk : k < 18 := by omega
        have hbe := rB_eq hk (a := a) hR hm
        cases hc : chB k s a mo with
        | true =>
          have hn : nxB s k a mo = true := (nxB_spec hs).2 ⟨hR, by omega, by simpa using hc⟩
          rw [nxS_yes hn, hn]
          have hv := rS_ve hk s a mo
          have hx := refYes s k a mo w (rS k s a mo) hr ha.1 ha.2 (fun w => by
            have := row_any hk s a mo w hR
            rwa [hbe, hc] at this) (by rw [hv]; exact hR.ve)
          rw [hv, rve_nve hR.ve, rS_eq hk hR hm hc] at hx
          simpa using hx
        | false =>
          have hn : nxB s k a mo = false := by simp [nxB, hc]
          rw [nxS_no hn, hn]
          exact refNo s k a mo w (rS k s a mo) hr ha.1 ha.2 (fun w => by
            have := row_any hk s a mo w hR
            rwa [hbe, hc] at this)
      · have hn : nxB s d a mo = false := by simp [nxB, okB]; omega
        rw [nxS_no hn, hn]
        exact refNo s d a mo w s hr ha.1 ha.2 (fun w => wd_any s d a mo w hd)
    · have hn : nxB s d a mo = false := own_outR ha
      rw [nxS_no hn, hn]
      exact refOut s d a mo w hr ha
end Go.Proofs.YtdiipmejkanhfaaDoor
