/- Rows of the document's own table; nothing that was there changes. -/
import Derived.Test.YtdiipmejkanhfaaDoorRowD
namespace Go.Proofs.YtdiipmejkanhfaaDoor
open Go.RowKit
attribute [local go_sem ↓] Go.wp_at_zero Go.wp_at_succ
set_option maxRecDepth 100000 in
set_option maxHeartbeats 4000000 in
theorem w11_any (s : Sl) (a mo : Int) (w : World) (_ : Rt s) :
    Calls Tryd.prog 17 #[Value.agg #[Value.int .i64 s.st, Value.int .i64 s.ow, Value.int .i64 s.sr, Value.bool s.br, Value.bool s.ma, Value.int .i64 s.us, Value.int .i64 s.ge, Value.int .i64 s.ep, Value.int .i64 s.ve], .int .i64 11, .int .i64 a, .int .i64 mo] w fun e w' => e = .returned (.tuple #[.agg #[Value.int .i64 (rS 11 s a mo).st, Value.int .i64 (rS 11 s a mo).ow, Value.int .i64 (rS 11 s a mo).sr, Value.bool (rS 11 s a mo).br, Value.bool (rS 11 s a mo).ma, Value.int .i64 (rS 11 s a mo).us, Value.int .i64 (rS 11 s a mo).ge, Value.int .i64 (rS 11 s a mo).ep, Value.int .i64 (rS 11 s a mo).ve], .bool (rB 11 s a mo)]) ∧ Below w.heap.size w w' := by
  obtain ⟨st, ow, sr, br, ma, us, ge, ep, ve⟩ := s
  have CP : ∀ w : World, Calls Tryd.prog 39 #[Value.agg #[Value.int .i64 st, Value.int .i64 ow, Value.int .i64 sr, Value.bool br, Value.bool ma, Value.int .i64 us, Value.int .i64 ge, Value.int .i64 ep, Value.int .i64 ve], .int .i64 6, .int .i64 0] w fun e w' => e = .returned (.agg #[Value.int .i64 6, Value.int .i64 0, Value.int .i64 0, Value.bool false, Value.bool false, Value.int .i64 0, Value.int .i64 ge, Value.int .i64 0, Value.int .i64 ve]) ∧ Below w.heap.size w w' := fun w => plain_any ⟨st, ow, sr, br, ma, us, ge, ep, ve⟩ 6 0 w
  go_enter Tryd.func17, Tryd.ntmps17
  go_wp2_with fail
  have hB : Below w.heap.size w (((w.alloc (.cells #[Value.int .i64 st, Value.int .i64 ow, Value.int .i64 sr, Value.bool br, Value.bool ma, Value.int .i64 us, Value.int .i64 ge, Value.int .i64 ep, Value.int .i64 ve] 23)).alloc (.cells #[Value.int .i64 0, Value.int .i64 0, Value.int .i64 0, Value.bool false, Value.bool false, Value.int .i64 0, Value.int .i64 0, Value.int .i64 0, Value.int .i64 0] 23)).alloc (.cells #[Value.int .i64 st, Value.int .i64 ow, Value.int .i64 sr, Value.bool br, Value.bool ma, Value.int .i64 us, Value.int .i64 ge, Value.int .i64 ep, Value.int .i64 ve] 23)) := (((Below.refl _ _).alloc (Nat.le_refl _) _).alloc (by simp) _).alloc (by simp; omega) _
  have r0 := ((RowAt.new w 23 #[Value.int .i64 st, Value.int .i64 ow, Value.int .i64 sr, Value.bool br, Value.bool ma, Value.int .i64 us, Value.int .i64 ge, Value.int .i64 ep, Value.int .i64 ve]).alloc (.cells #[Value.int .i64 0, Value.int .i64 0, Value.int .i64 0, Value.bool false, Value.bool false, Value.int .i64 0, Value.int .i64 0, Value.int .i64 0, Value.int .i64 0] 23)).alloc (.cells #[Value.int .i64 st, Value.int .i64 ow, Value.int .i64 sr, Value.bool br, Value.bool ma, Value.int .i64 us, Value.int .i64 ge, Value.int .i64 ep, Value.int .i64 ve] 23)
  have r1 := (new2 w (.cells #[Value.int .i64 st, Value.int .i64 ow, Value.int .i64 sr, Value.bool br, Value.bool ma, Value.int .i64 us, Value.int .i64 ge, Value.int .i64 ep, Value.int .i64 ve] 23) 23 #[Value.int .i64 0, Value.int .i64 0, Value.int .i64 0, Value.bool false, Value.bool false, Value.int .i64 0, Value.int .i64 0, Value.int .i64 0, Value.int .i64 0]).alloc (.cells #[Value.int .i64 st, Value.int .i64 ow, Value.int .i64 sr, Value.bool br, Value.bool ma, Value.int .i64 us, Value.int .i64 ge, Value.int .i64 ep, Value.int .i64 ve] 23)
  have r2 := new3 w (.cells #[Value.int .i64 st, Value.int .i64 ow, Value.int .i64 sr, Value.bool br, Value.bool ma, Value.int .i64 us, Value.int .i64 ge, Value.int .i64 ep, Value.int .i64 ve] 23) (.cells #[Value.int .i64 0, Value.int .i64 0, Value.int .i64 0, Value.bool false, Value.bool false, Value.int .i64 0, Value.int .i64 0, Value.int .i64 0, Value.int .i64 0] 23) 23 #[Value.int .i64 st, Value.int .i64 ow, Value.int .i64 sr, Value.bool br, Value.bool ma, Value.int .i64 us, Value.int .i64 ge, Value.int .i64 ep, Value.int .i64 ve]
  obtain ⟨W, hW⟩ : ∃ W, W = ((w.alloc (.cells #[Value.int .i64 st, Value.int .i64 ow, Value.int .i64 sr, Value.bool br, Value.bool ma, Value.int .i64 us, Value.int .i64 ge, Value.int .i64 ep, Value.int .i64 ve] 23)).alloc (.cells #[Value.int .i64 0, Value.int .i64 0, Value.int .i64 0, Value.bool false, Value.bool false, Value.int .i64 0, Value.int .i64 0, Value.int .i64 0, Value.int .i64 0] 23)).alloc (.cells #[Value.int .i64 st, Value.int .i64 ow, Value.int .i64 sr, Value.bool br, Value.bool ma, Value.int .i64 us, Value.int .i64 ge, Value.int .i64 ep, Value.int .i64 ve] 23) := ⟨_, rfl⟩
  rw [← hW] at hB r0 r1 r2 ⊢
  clear hW
  obtain ⟨B1, e1⟩ : ∃ B1, B1 = w.heap.size := ⟨_, rfl⟩
  have hle : w.heap.size ≤ B1 := by omega
  rw [← e1] at r0 r1 r2 ⊢
  clear e1
  have hne : B1 ≠ B1 + 1 := by omega
  have hne2 : B1 + 2 ≠ B1 + 1 := by omega
  refine (CP _).mono ?_
  rintro e w1 ⟨rfl, hb⟩
  replace r0 := r0.below hb r0.lt
  replace r1 := r1.below hb r1.lt
  replace r2 := r2.below hb r2.lt
  replace hB := hB.trans (hb.mono hB.size)
  clear hb
  have n1 : B1 ≠ B1 + 2 := by omega
  have n2 : B1 + 1 ≠ B1 + 2 := by omega
  have t0 := (r0.other n1 #[Value.int .i64 6, Value.int .i64 0, Value.int .i64 0, Value.bool false, Value.bool false, Value.int .i64 0, Value.int .i64 ge, Value.int .i64 0, Value.int .i64 ve]).putOther ⟨B1 + 2, 7, none⟩ n1 (.int .i64 mo)
  have t1 := (r1.other n2 #[Value.int .i64 6, Value.int .i64 0, Value.int .i64 0, Value.bool false, Value.bool false, Value.int .i64 0, Value.int .i64 ge, Value.int .i64 0, Value.int .i64 ve]).putOther ⟨B1 + 2, 7, none⟩ n2 (.int .i64 mo)
  have s2 := r2.set #[Value.int .i64 6, Value.int .i64 0, Value.int .i64 0, Value.bool false, Value.bool false, Value.int .i64 0, Value.int .i64 ge, Value.int .i64 0, Value.int .i64 ve]
  have t2 : RowAt _ (B1 + 2) 23 #[Value.int .i64 6, Value.int .i64 0, Value.int .i64 0, Value.bool false, Value.bool false, Value.int .i64 0, Value.int .i64 ge, Value.int .i64 mo, Value.int .i64 ve] := s2.put 7 (.int .i64 mo)
  have hB2 := (below_setRow hB (show w.heap.size ≤ B1 + 2 by omega) #[Value.int .i64 6, Value.int .i64 0, Value.int .i64 0, Value.bool false, Value.bool false, Value.int .i64 0, Value.int .i64 ge, Value.int .i64 0, Value.int .i64 ve]).setCell (p := ⟨B1 + 2, 7, none⟩) (show w.heap.size ≤ B1 + 2 by omega) (.int .i64 mo)
  have z7 : (w1.setRow (B1 + 2) #[Value.int .i64 6, Value.int .i64 0, Value.int .i64 0, Value.bool false, Value.bool false, Value.int .i64 0, Value.int .i64 ge, Value.int .i64 0, Value.int .i64 ve]).cell? ⟨B1 + 2, 7, none⟩ = some (Value.int .i64 0) := s2.cell 7 rfl
  have zf : (w1.setRow (B1 + 2) #[Value.int .i64 6, Value.int .i64 0, Value.int .i64 0, Value.bool false, Value.bool false, Value.int .i64 0, Value.int .i64 ge, Value.int .i64 0, Value.int .i64 ve]).frozen? ⟨B1 + 2, 7, none⟩ = false := s2.frozen 7
  have c0 : ((w1.setRow (B1 + 2) #[Value.int .i64 6, Value.int .i64 0, Value.int .i64 0, Value.bool false, Value.bool false, Value.int .i64 0, Value.int .i64 ge, Value.int .i64 0, Value.int .i64 ve]).setCell ⟨B1 + 2, 7, none⟩ (.int .i64 mo)).cell? ⟨B1, 0, none⟩ = some (Value.int .i64 st) := t0.cell 0 rfl
  have c1 : ((w1.setRow (B1 + 2) #[Value.int .i64 6, Value.int .i64 0, Value.int .i64 0, Value.bool false, Value.bool false, Value.int .i64 0, Value.int .i64 ge, Value.int .i64 0, Value.int .i64 ve]).setCell ⟨B1 + 2, 7, none⟩ (.int .i64 mo)).cell? ⟨B1, 1, none⟩ = some (Value.int .i64 ow) := t0.cell 1 rfl
  have c2 : ((w1.setRow (B1 + 2) #[Value.int .i64 6, Value.int .i64 0, Value.int .i64 0, Value.bool false, Value.bool false, Value.int .i64 0, Value.int .i64 ge, Value.int .i64 0, Value.int .i64 ve]).setCell ⟨B1 + 2, 7, none⟩ (.int .i64 mo)).cell? ⟨B1, 2, none⟩ = some (Value.int .i64 sr) := t0.cell 2 rfl
  have c3 : ((w1.setRow (B1 + 2) #[Value.int .i64 6, Value.int .i64 0, Value.int .i64 0, Value.bool false, Value.bool false, Value.int .i64 0, Value.int .i64 ge, Value.int .i64 0, Value.int .i64 ve]).setCell ⟨B1 + 2, 7, none⟩ (.int .i64 mo)).cell? ⟨B1, 3, none⟩ = some (Value.bool br) := t0.cell 3 rfl
  have c4 : ((w1.setRow (B1 + 2) #[Value.int .i64 6, Value.int .i64 0, Value.int .i64 0, Value.bool false, Value.bool false, Value.int .i64 0, Value.int .i64 ge, Value.int .i64 0, Value.int .i64 ve]).setCell ⟨B1 + 2, 7, none⟩ (.int .i64 mo)).cell? ⟨B1, 4, none⟩ = some (Value.bool ma) := t0.cell 4 rfl
  have c5 : ((w1.setRow (B1 + 2) #[Value.int .i64 6, Value.int .i64 0, Value.int .i64 0, Value.bool false, Value.bool false, Value.int .i64 0, Value.int .i64 ge, Value.int .i64 0, Value.int .i64 ve]).setCell ⟨B1 + 2, 7, none⟩ (.int .i64 mo)).cell? ⟨B1, 5, none⟩ = some (Value.int .i64 us) := t0.cell 5 rfl
  have c6 : ((w1.setRow (B1 + 2) #[Value.int .i64 6, Value.int .i64 0, Value.int .i64 0, Value.bool false, Value.bool false, Value.int .i64 0, Value.int .i64 ge, Value.int .i64 0, Value.int .i64 ve]).setCell ⟨B1 + 2, 7, none⟩ (.int .i64 mo)).cell? ⟨B1, 6, none⟩ = some (Value.int .i64 ge) := t0.cell 6 rfl
  have c7 : ((w1.setRow (B1 + 2) #[Value.int .i64 6, Value.int .i64 0, Value.int .i64 0, Value.bool false, Value.bool false, Value.int .i64 0, Value.int .i64 ge, Value.int .i64 0, Value.int .i64 ve]).setCell ⟨B1 + 2, 7, none⟩ (.int .i64 mo)).cell? ⟨B1, 7, none⟩ = some (Value.int .i64 ep) := t0.cell 7 rfl
  have c8 : ((w1.setRow (B1 + 2) #[Value.int .i64 6, Value.int .i64 0, Value.int .i64 0, Value.bool false, Value.bool false, Value.int .i64 0, Value.int .i64 ge, Value.int .i64 0, Value.int .i64 ve]).setCell ⟨B1 + 2, 7, none⟩ (.int .i64 mo)).cell? ⟨B1, 8, none⟩ = some (Value.int .i64 ve) := t0.cell 8 rfl
  have y0 : ((w1.setRow (B1 + 2) #[Value.int .i64 6, Value.int .i64 0, Value.int .i64 0, Value.bool false, Value.bool false, Value.int .i64 0, Value.int .i64 ge, Value.int .i64 0, Value.int .i64 ve]).setCell ⟨B1 + 2, 7, none⟩ (.int .i64 mo)).cell? ⟨B1 + 2, 0, none⟩ = some (Value.int .i64 6) := t2.cell 0 rfl
  have y1 : ((w1.setRow (B1 + 2) #[Value.int .i64 6, Value.int .i64 0, Value.int .i64 0, Value.bool false, Value.bool false, Value.int .i64 0, Value.int .i64 ge, Value.int .i64 0, Value.int .i64 ve]).setCell ⟨B1 + 2, 7, none⟩ (.int .i64 mo)).cell? ⟨B1 + 2, 1, none⟩ = some (Value.int .i64 0) := t2.cell 1 rfl
  have y2 : ((w1.setRow (B1 + 2) #[Value.int .i64 6, Value.int .i64 0, Value.int .i64 0, Value.bool false, Value.bool false, Value.int .i64 0, Value.int .i64 ge, Value.int .i64 0, Value.int .i64 ve]).setCell ⟨B1 + 2, 7, none⟩ (.int .i64 mo)).cell? ⟨B1 + 2, 2, none⟩ = some (Value.int .i64 0) := t2.cell 2 rfl
  have y3 : ((w1.setRow (B1 + 2) #[Value.int .i64 6, Value.int .i64 0, Value.int .i64 0, Value.bool false, Value.bool false, Value.int .i64 0, Value.int .i64 ge, Value.int .i64 0, Value.int .i64 ve]).setCell ⟨B1 + 2, 7, none⟩ (.int .i64 mo)).cell? ⟨B1 + 2, 3, none⟩ = some (Value.bool false) := t2.cell 3 rfl
  have y4 : ((w1.setRow (B1 + 2) #[Value.int .i64 6, Value.int .i64 0, Value.int .i64 0, Value.bool false, Value.bool false, Value.int .i64 0, Value.int .i64 ge, Value.int .i64 0, Value.int .i64 ve]).setCell ⟨B1 + 2, 7, none⟩ (.int .i64 mo)).cell? ⟨B1 + 2, 4, none⟩ = some (Value.bool false) := t2.cell 4 rfl
  have y5 : ((w1.setRow (B1 + 2) #[Value.int .i64 6, Value.int .i64 0, Value.int .i64 0, Value.bool false, Value.bool false, Value.int .i64 0, Value.int .i64 ge, Value.int .i64 0, Value.int .i64 ve]).setCell ⟨B1 + 2, 7, none⟩ (.int .i64 mo)).cell? ⟨B1 + 2, 5, none⟩ = some (Value.int .i64 0) := t2.cell 5 rfl
  have y6 : ((w1.setRow (B1 + 2) #[Value.int .i64 6, Value.int .i64 0, Value.int .i64 0, Value.bool false, Value.bool false, Value.int .i64 0, Value.int .i64 ge, Value.int .i64 0, Value.int .i64 ve]).setCell ⟨B1 + 2, 7, none⟩ (.int .i64 mo)).cell? ⟨B1 + 2, 6, none⟩ = some (Value.int .i64 ge) := t2.cell 6 rfl
  have y7 : ((w1.setRow (B1 + 2) #[Value.int .i64 6, Value.int .i64 0, Value.int .i64 0, Value.bool false, Value.bool false, Value.int .i64 0, Value.int .i64 ge, Value.int .i64 0, Value.int .i64 ve]).setCell ⟨B1 + 2, 7, none⟩ (.int .i64 mo)).cell? ⟨B1 + 2, 7, none⟩ = some (Value.int .i64 mo) := t2.cell 7 rfl
  have y8 : ((w1.setRow (B1 + 2) #[Value.int .i64 6, Value.int .i64 0, Value.int .i64 0, Value.bool false, Value.bool false, Value.int .i64 0, Value.int .i64 ge, Value.int .i64 0, Value.int .i64 ve]).setCell ⟨B1 + 2, 7, none⟩ (.int .i64 mo)).cell? ⟨B1 + 2, 8, none⟩ = some (Value.int .i64 ve) := t2.cell 8 rfl
  go_wp2_with (first | (refine wpList_store_row rfl 23 _ _ rfl _ #[Value.int .i64 6, Value.int .i64 0, Value.int .i64 0, Value.bool false, Value.bool false, Value.int .i64 0, Value.int .i64 ge, Value.int .i64 0, Value.int .i64 ve] rfl rfl 23 _ r2 (by kernel_rfl) rfl (by simp [Value.oneCell']) ?_) | (refine wpList_store_row rfl 23 _ _ rfl _ #[Value.int .i64 6, Value.int .i64 0, Value.int .i64 0, Value.bool false, Value.bool false, Value.int .i64 0, Value.int .i64 ge, Value.int .i64 mo, Value.int .i64 ve] rfl rfl 23 _ t1 (by kernel_rfl) rfl (by simp [Value.oneCell']) ?_))
  all_goals (try subst_vars)
  all_goals refine bodyPost_ret (res_pair (p := 8) (u := 9) rfl _ _ _ _ rfl (t1.set _) rfl) rfl ⟨?_, below_setRow hB2 (by omega) _⟩
  all_goals (clear r0 r1 r2 t0 t1 s2 t2 hB hB2 z7 zf c0 c1 c2 c3 c4 c5 c6 c7 c8 y0 y1 y2 y3 y4 y5 y6 y7 y8)
  all_goals (refine ret_pair ?_; first | (simp [rB, *]; done) | (simp [rB, *]; omega))
set_option maxRecDepth 100000 in
set_option maxHeartbeats 4000000 in
theorem w17_any (s : Sl) (a mo : Int) (w : World) (_ : Rt s) :
    Calls Tryd.prog 17 #[Value.agg #[Value.int .i64 s.st, Value.int .i64 s.ow, Value.int .i64 s.sr, Value.bool s.br, Value.bool s.ma, Value.int .i64 s.us, Value.int .i64 s.ge, Value.int .i64 s.ep, Value.int .i64 s.ve], .int .i64 17, .int .i64 a, .int .i64 mo] w fun e w' => e = .returned (.tuple #[.agg #[Value.int .i64 (rS 17 s a mo).st, Value.int .i64 (rS 17 s a mo).ow, Value.int .i64 (rS 17 s a mo).sr, Value.bool (rS 17 s a mo).br, Value.bool (rS 17 s a mo).ma, Value.int .i64 (rS 17 s a mo).us, Value.int .i64 (rS 17 s a mo).ge, Value.int .i64 (rS 17 s a mo).ep, Value.int .i64 (rS 17 s a mo).ve], .bool (rB 17 s a mo)]) ∧ Below w.heap.size w w' := by
  obtain ⟨st, ow, sr, br, ma, us, ge, ep, ve⟩ := s
  go_enter Tryd.func17, Tryd.ntmps17
  go_wp2
  all_goals (try subst_vars)
  all_goals refine bodyPost_ret (res_pair (p := 8) (u := 9) rfl _ _ _ _ rfl ((new2 _ _ _ _).alloc _) rfl) rfl ⟨?_, (((Below.refl _ _).alloc (Nat.le_refl _) _).alloc (by simp) _).alloc (by simp; omega) _⟩
  all_goals (refine ret_pair ?_; first | (simp [rB, *]; done) | (simp [rB, *]; omega))
set_option maxRecDepth 100000 in
set_option maxHeartbeats 4000000 in
theorem wd_any (s : Sl) (d a mo : Int) (w : World) (hd : ¬ (0 ≤ d ∧ d ≤ 17)) :
    Calls Tryd.prog 17 #[Value.agg #[Value.int .i64 s.st, Value.int .i64 s.ow, Value.int .i64 s.sr, Value.bool s.br, Value.bool s.ma, Value.int .i64 s.us, Value.int .i64 s.ge, Value.int .i64 s.ep, Value.int .i64 s.ve], .int .i64 d, .int .i64 a, .int .i64 mo] w fun e w' => e = .returned (.tuple #[.agg #[Value.int .i64 (rS 99 s a mo).st, Value.int .i64 (rS 99 s a mo).ow, Value.int .i64 (rS 99 s a mo).sr, Value.bool (rS 99 s a mo).br, Value.bool (rS 99 s a mo).ma, Value.int .i64 (rS 99 s a mo).us, Value.int .i64 (rS 99 s a mo).ge, Value.int .i64 (rS 99 s a mo).ep, Value.int .i64 (rS 99 s a mo).ve], .bool (rB 99 s a mo)]) ∧ Below w.heap.size w w' := by
  have f0 : (d == 0) = false := by simp; omega
  have f1 : (d == 1) = false := by simp; omega
  have f2 : (d == 2) = false := by simp; omega
  have f3 : (d == 3) = false := by simp; omega
  have f4 : (d == 4) = false := by simp; omega
  have f5 : (d == 5) = false := by simp; omega
  have f6 : (d == 6) = false := by simp; omega
  have f7 : (d == 7) = false := by simp; omega
  have f8 : (d == 8) = false := by simp; omega
  have f9 : (d == 9) = false := by simp; omega
  have f10 : (d == 10) = false := by simp; omega
  have f11 : (d == 11) = false := by simp; omega
  have f12 : (d == 12) = false := by simp; omega
  have f13 : (d == 13) = false := by simp; omega
  have f14 : (d == 14) = false := by simp; omega
  have f15 : (d == 15) = false := by simp; omega
  have f16 : (d == 16) = false := by simp; omega
  have f17 : (d == 17) = false := by simp; omega
  clear hd
  go_enter Tryd.func17, Tryd.ntmps17
  go_wp2
  refine bodyPost_ret (res_pair (p := 8) (u := 9) rfl _ _ _ _ rfl ((new2 _ _ _ _).alloc _) rfl) rfl ⟨rfl, (((Below.refl _ _).alloc (Nat.le_refl _) _).alloc (by simp) _).alloc (by simp; omega) _⟩
end Go.Proofs.YtdiipmejkanhfaaDoor
