/- What is done with a slot, each thing by itself; nothing that was there changes. -/
import Derived.Test.YtdiipmejkanhfaaDoorChD
namespace Go.Proofs.YtdiipmejkanhfaaDoor
open Go.RowKit
attribute [local go_sem ↓] Go.wp_at_zero Go.wp_at_succ

set_option maxRecDepth 100000 in
set_option maxHeartbeats 4000000 in
theorem m0_any (s : Sl) (a mo : Int) (w : World) (_ : Rt s) :
    Calls Tryd.prog 20 #[Value.agg #[Value.int .i64 s.st, Value.int .i64 s.ow, Value.int .i64 s.sr, Value.bool s.br, Value.bool s.ma, Value.int .i64 s.us, Value.int .i64 s.ge, Value.int .i64 s.ep, Value.int .i64 s.ve, Value.int .i64 a, Value.int .i64 mo]] w fun e w' => e = .returned (.tuple #[.agg #[Value.int .i64 (chS 0 s a mo).st, Value.int .i64 (chS 0 s a mo).ow, Value.int .i64 (chS 0 s a mo).sr, Value.bool (chS 0 s a mo).br, Value.bool (chS 0 s a mo).ma, Value.int .i64 (chS 0 s a mo).us, Value.int .i64 (chS 0 s a mo).ge, Value.int .i64 (chS 0 s a mo).ep, Value.int .i64 (chS 0 s a mo).ve], .bool (chB 0 s a mo)]) ∧ Below w.heap.size w w' := by
  go_enter Tryd.func20, Tryd.ntmps20
  go_wp2_with fail
  have hB0 : Below w.heap.size w ((w.alloc (.cells #[Value.int .i64 s.st, Value.int .i64 s.ow, Value.int .i64 s.sr, Value.bool s.br, Value.bool s.ma, Value.int .i64 s.us, Value.int .i64 s.ge, Value.int .i64 s.ep, Value.int .i64 s.ve, Value.int .i64 a, Value.int .i64 mo] 39)).alloc (.cells #[Value.int .i64 0, Value.int .i64 0, Value.int .i64 0, Value.bool false, Value.bool false, Value.int .i64 0, Value.int .i64 0, Value.int .i64 0, Value.int .i64 0] 23)) := ((Below.refl _ _).alloc (Nat.le_refl _) _).alloc (by simp) _
  have r0 := (RowAt.new w 39 #[Value.int .i64 s.st, Value.int .i64 s.ow, Value.int .i64 s.sr, Value.bool s.br, Value.bool s.ma, Value.int .i64 s.us, Value.int .i64 s.ge, Value.int .i64 s.ep, Value.int .i64 s.ve, Value.int .i64 a, Value.int .i64 mo]).alloc (.cells #[Value.int .i64 0, Value.int .i64 0, Value.int .i64 0, Value.bool false, Value.bool false, Value.int .i64 0, Value.int .i64 0, Value.int .i64 0, Value.int .i64 0] 23)
  have r1 := new2 w (.cells #[Value.int .i64 s.st, Value.int .i64 s.ow, Value.int .i64 s.sr, Value.bool s.br, Value.bool s.ma, Value.int .i64 s.us, Value.int .i64 s.ge, Value.int .i64 s.ep, Value.int .i64 s.ve, Value.int .i64 a, Value.int .i64 mo] 39) 23 #[Value.int .i64 0, Value.int .i64 0, Value.int .i64 0, Value.bool false, Value.bool false, Value.int .i64 0, Value.int .i64 0, Value.int .i64 0, Value.int .i64 0]
  obtain ⟨W, hW⟩ : ∃ W, W = (w.alloc (.cells #[Value.int .i64 s.st, Value.int .i64 s.ow, Value.int .i64 s.sr, Value.bool s.br, Value.bool s.ma, Value.int .i64 s.us, Value.int .i64 s.ge, Value.int .i64 s.ep, Value.int .i64 s.ve, Value.int .i64 a, Value.int .i64 mo] 39)).alloc (.cells #[Value.int .i64 0, Value.int .i64 0, Value.int .i64 0, Value.bool false, Value.bool false, Value.int .i64 0, Value.int .i64 0, Value.int .i64 0, Value.int .i64 0] 23) := ⟨_, rfl⟩
  rw [← hW] at hB0 r0 r1 ⊢
  clear hW
  obtain ⟨B1, e1⟩ : ∃ B1, B1 = w.heap.size := ⟨_, rfl⟩
  have hle : w.heap.size ≤ B1 := by omega
  rw [← e1] at r0 r1 ⊢
  clear e1
  have hlt := r0.lt
  have hlt1 := r1.lt
  have hB := hB0.drew
  clear hB0
  have hne : B1 ≠ B1 + 1 := by omega
  have c00 : W.drew.cell? ⟨B1, 0, none⟩ = some (Value.int .i64 s.st) := r0.drew.cell 0 rfl
  have c01 : W.drew.cell? ⟨B1, 1, none⟩ = some (Value.int .i64 s.ow) := r0.drew.cell 1 rfl
  have c02 : W.drew.cell? ⟨B1, 2, none⟩ = some (Value.int .i64 s.sr) := r0.drew.cell 2 rfl
  have c03 : W.drew.cell? ⟨B1, 3, none⟩ = some (Value.bool s.br) := r0.drew.cell 3 rfl
  have c04 : W.drew.cell? ⟨B1, 4, none⟩ = some (Value.bool s.ma) := r0.drew.cell 4 rfl
  have c05 : W.drew.cell? ⟨B1, 5, none⟩ = some (Value.int .i64 s.us) := r0.drew.cell 5 rfl
  have c06 : W.drew.cell? ⟨B1, 6, none⟩ = some (Value.int .i64 s.ge) := r0.drew.cell 6 rfl
  have c07 : W.drew.cell? ⟨B1, 7, none⟩ = some (Value.int .i64 s.ep) := r0.drew.cell 7 rfl
  have c08 : W.drew.cell? ⟨B1, 8, none⟩ = some (Value.int .i64 s.ve) := r0.drew.cell 8 rfl
  have c09 : W.drew.cell? ⟨B1, 9, none⟩ = some (Value.int .i64 a) := r0.drew.cell 9 rfl
  have c010 : W.drew.cell? ⟨B1, 10, none⟩ = some (Value.int .i64 mo) := r0.drew.cell 10 rfl
  first | (go_region_held3 (fun w' => w'.cell? ⟨B1, 0, none⟩ = some (Value.int .i64 s.st) ∧ w'.cell? ⟨B1, 1, none⟩ = some (Value.int .i64 s.ow) ∧ w'.cell? ⟨B1, 2, none⟩ = some (Value.int .i64 s.sr) ∧ w'.cell? ⟨B1, 3, none⟩ = some (Value.bool s.br) ∧ w'.cell? ⟨B1, 4, none⟩ = some (Value.bool s.ma) ∧ w'.cell? ⟨B1, 5, none⟩ = some (Value.int .i64 s.us) ∧ w'.cell? ⟨B1, 6, none⟩ = some (Value.int .i64 s.ge) ∧ w'.cell? ⟨B1, 7, none⟩ = some (Value.int .i64 s.ep) ∧ w'.cell? ⟨B1, 8, none⟩ = some (Value.int .i64 s.ve) ∧ w'.cell? ⟨B1, 9, none⟩ = some (Value.int .i64 a) ∧ w'.cell? ⟨B1, 10, none⟩ = some (Value.int .i64 mo)) (first | go_keep | (simp only [cell_setCells hne]; exact ⟨c10, c11, c12, c13, c14, c15, c16, c17, c18, c19, c110⟩) | exact ⟨c10, c11, c12, c13, c14, c15, c16, c17, c18, c19, c110⟩ | (simp only [cell_setCells hne]; exact ⟨c00, c01, c02, c03, c04, c05, c06, c07, c08, c09, c010⟩) | exact ⟨c00, c01, c02, c03, c04, c05, c06, c07, c08, c09, c010⟩)
    (first
      | (go_at_call 46; refine (become_any s a mo 1 _).mono ?_; rintro e w1 ⟨rfl, hb1⟩
         have q1 := r0.drew.below hb1 (by simpa using r0.drew.lt)
         have p1 := r1.drew.below hb1 (by simpa using r1.drew.lt)
         have c10 : w1.cell? ⟨B1, 0, none⟩ = some (Value.int .i64 s.st) := q1.cell 0 rfl
         have c11 : w1.cell? ⟨B1, 1, none⟩ = some (Value.int .i64 s.ow) := q1.cell 1 rfl
         have c12 : w1.cell? ⟨B1, 2, none⟩ = some (Value.int .i64 s.sr) := q1.cell 2 rfl
         have c13 : w1.cell? ⟨B1, 3, none⟩ = some (Value.bool s.br) := q1.cell 3 rfl
         have c14 : w1.cell? ⟨B1, 4, none⟩ = some (Value.bool s.ma) := q1.cell 4 rfl
         have c15 : w1.cell? ⟨B1, 5, none⟩ = some (Value.int .i64 s.us) := q1.cell 5 rfl
         have c16 : w1.cell? ⟨B1, 6, none⟩ = some (Value.int .i64 s.ge) := q1.cell 6 rfl
         have c17 : w1.cell? ⟨B1, 7, none⟩ = some (Value.int .i64 s.ep) := q1.cell 7 rfl
         have c18 : w1.cell? ⟨B1, 8, none⟩ = some (Value.int .i64 s.ve) := q1.cell 8 rfl
         have c19 : w1.cell? ⟨B1, 9, none⟩ = some (Value.int .i64 a) := q1.cell 9 rfl
         have c110 : w1.cell? ⟨B1, 10, none⟩ = some (Value.int .i64 mo) := q1.cell 10 rfl
         have hB1 := hB.trans (hb1.mono (by simpa using hB.size))
         have d10 : w1.cell? ⟨B1 + 1, 0, none⟩ = some (Value.int .i64 0) := p1.cell 0 rfl
         have g10 : w1.frozen? ⟨B1 + 1, 0, none⟩ = false := p1.frozen 0
         have d11 : w1.cell? ⟨B1 + 1, 1, none⟩ = some (Value.int .i64 0) := p1.cell 1 rfl
         have g11 : w1.frozen? ⟨B1 + 1, 1, none⟩ = false := p1.frozen 1
         have d12 : w1.cell? ⟨B1 + 1, 2, none⟩ = some (Value.int .i64 0) := p1.cell 2 rfl
         have g12 : w1.frozen? ⟨B1 + 1, 2, none⟩ = false := p1.frozen 2
         have d13 : w1.cell? ⟨B1 + 1, 3, none⟩ = some (Value.bool false) := p1.cell 3 rfl
         have g13 : w1.frozen? ⟨B1 + 1, 3, none⟩ = false := p1.frozen 3
         have d14 : w1.cell? ⟨B1 + 1, 4, none⟩ = some (Value.bool false) := p1.cell 4 rfl
         have g14 : w1.frozen? ⟨B1 + 1, 4, none⟩ = false := p1.frozen 4
         have d15 : w1.cell? ⟨B1 + 1, 5, none⟩ = some (Value.int .i64 0) := p1.cell 5 rfl
         have g15 : w1.frozen? ⟨B1 + 1, 5, none⟩ = false := p1.frozen 5
         have d16 : w1.cell? ⟨B1 + 1, 6, none⟩ = some (Value.int .i64 0) := p1.cell 6 rfl
         have g16 : w1.frozen? ⟨B1 + 1, 6, none⟩ = false := p1.frozen 6
         have d17 : w1.cell? ⟨B1 + 1, 7, none⟩ = some (Value.int .i64 0) := p1.cell 7 rfl
         have g17 : w1.frozen? ⟨B1 + 1, 7, none⟩ = false := p1.frozen 7
         have d18 : w1.cell? ⟨B1 + 1, 8, none⟩ = some (Value.int .i64 0) := p1.cell 8 rfl
         have g18 : w1.frozen? ⟨B1 + 1, 8, none⟩ = false := p1.frozen 8
         ))) | fail
  first
    | (have rz := row9 p1 (Value.int .i64 (s.becm a 1).st) (Value.int .i64 (s.becm a 1).ow) (Value.int .i64 (s.becm a 1).sr) (Value.bool (s.becm a 1).br) (Value.bool (s.becm a 1).ma) (Value.int .i64 (s.becm a 1).us) (Value.int .i64 (s.becm a 1).ge) (Value.int .i64 (s.becm a 1).ep) (Value.int .i64 (s.becm a 1).ve)
       have hz := below9 (n := w.heap.size) (A := w) (b := B1 + 1) hB1 (by omega) (Value.int .i64 (s.becm a 1).st) (Value.int .i64 (s.becm a 1).ow) (Value.int .i64 (s.becm a 1).sr) (Value.bool (s.becm a 1).br) (Value.bool (s.becm a 1).ma) (Value.int .i64 (s.becm a 1).us) (Value.int .i64 (s.becm a 1).ge) (Value.int .i64 (s.becm a 1).ep) (Value.int .i64 (s.becm a 1).ve)
       go_wp2
       refine bodyPost_ret (res_pair (p := 2) (u := 3) rfl _ _ _ _ rfl rz rfl) rfl ⟨rfl, hz⟩)

set_option maxRecDepth 100000 in
set_option maxHeartbeats 4000000 in
theorem m1_any (s : Sl) (a mo : Int) (w : World) (hr : Rt s) :
    Calls Tryd.prog 21 #[Value.agg #[Value.int .i64 s.st, Value.int .i64 s.ow, Value.int .i64 s.sr, Value.bool s.br, Value.bool s.ma, Value.int .i64 s.us, Value.int .i64 s.ge, Value.int .i64 s.ep, Value.int .i64 s.ve, Value.int .i64 a, Value.int .i64 mo]] w fun e w' => e = .returned (.tuple #[.agg #[Value.int .i64 (chS 1 s a mo).st, Value.int .i64 (chS 1 s a mo).ow, Value.int .i64 (chS 1 s a mo).sr, Value.bool (chS 1 s a mo).br, Value.bool (chS 1 s a mo).ma, Value.int .i64 (chS 1 s a mo).us, Value.int .i64 (chS 1 s a mo).ge, Value.int .i64 (chS 1 s a mo).ep, Value.int .i64 (chS 1 s a mo).ve], .bool (chB 1 s a mo)]) ∧ Below w.heap.size w w' := by
  go_enter Tryd.func21, Tryd.ntmps21
  go_wp2_with fail
  have hB0 : Below w.heap.size w ((w.alloc (.cells #[Value.int .i64 s.st, Value.int .i64 s.ow, Value.int .i64 s.sr, Value.bool s.br, Value.bool s.ma, Value.int .i64 s.us, Value.int .i64 s.ge, Value.int .i64 s.ep, Value.int .i64 s.ve, Value.int .i64 a, Value.int .i64 mo] 39)).alloc (.cells #[Value.int .i64 0, Value.int .i64 0, Value.int .i64 0, Value.bool false, Value.bool false, Value.int .i64 0, Value.int .i64 0, Value.int .i64 0, Value.int .i64 0] 23)) := ((Below.refl _ _).alloc (Nat.le_refl _) _).alloc (by simp) _
  have r0 := (RowAt.new w 39 #[Value.int .i64 s.st, Value.int .i64 s.ow, Value.int .i64 s.sr, Value.bool s.br, Value.bool s.ma, Value.int .i64 s.us, Value.int .i64 s.ge, Value.int .i64 s.ep, Value.int .i64 s.ve, Value.int .i64 a, Value.int .i64 mo]).alloc (.cells #[Value.int .i64 0, Value.int .i64 0, Value.int .i64 0, Value.bool false, Value.bool false, Value.int .i64 0, Value.int .i64 0, Value.int .i64 0, Value.int .i64 0] 23)
  have r1 := new2 w (.cells #[Value.int .i64 s.st, Value.int .i64 s.ow, Value.int .i64 s.sr, Value.bool s.br, Value.bool s.ma, Value.int .i64 s.us, Value.int .i64 s.ge, Value.int .i64 s.ep, Value.int .i64 s.ve, Value.int .i64 a, Value.int .i64 mo] 39) 23 #[Value.int .i64 0, Value.int .i64 0, Value.int .i64 0, Value.bool false, Value.bool false, Value.int .i64 0, Value.int .i64 0, Value.int .i64 0, Value.int .i64 0]
  obtain ⟨W, hW⟩ : ∃ W, W = (w.alloc (.cells #[Value.int .i64 s.st, Value.int .i64 s.ow, Value.int .i64 s.sr, Value.bool s.br, Value.bool s.ma, Value.int .i64 s.us, Value.int .i64 s.ge, Value.int .i64 s.ep, Value.int .i64 s.ve, Value.int .i64 a, Value.int .i64 mo] 39)).alloc (.cells #[Value.int .i64 0, Value.int .i64 0, Value.int .i64 0, Value.bool false, Value.bool false, Value.int .i64 0, Value.int .i64 0, Value.int .i64 0, Value.int .i64 0] 23) := ⟨_, rfl⟩
  rw [← hW] at hB0 r0 r1 ⊢
  clear hW
  obtain ⟨B1, e1⟩ : ∃ B1, B1 = w.heap.size := ⟨_, rfl⟩
  have hle : w.heap.size ≤ B1 := by omega
  rw [← e1] at r0 r1 ⊢
  clear e1
  have hlt := r0.lt
  have hlt1 := r1.lt
  have hB := hB0.drew
  clear hB0
  have hne : B1 ≠ B1 + 1 := by omega
  have c00 : W.drew.cell? ⟨B1, 0, none⟩ = some (Value.int .i64 s.st) := r0.drew.cell 0 rfl
  have c01 : W.drew.cell? ⟨B1, 1, none⟩ = some (Value.int .i64 s.ow) := r0.drew.cell 1 rfl
  have c02 : W.drew.cell? ⟨B1, 2, none⟩ = some (Value.int .i64 s.sr) := r0.drew.cell 2 rfl
  have c03 : W.drew.cell? ⟨B1, 3, none⟩ = some (Value.bool s.br) := r0.drew.cell 3 rfl
  have c04 : W.drew.cell? ⟨B1, 4, none⟩ = some (Value.bool s.ma) := r0.drew.cell 4 rfl
  have c05 : W.drew.cell? ⟨B1, 5, none⟩ = some (Value.int .i64 s.us) := r0.drew.cell 5 rfl
  have c06 : W.drew.cell? ⟨B1, 6, none⟩ = some (Value.int .i64 s.ge) := r0.drew.cell 6 rfl
  have c07 : W.drew.cell? ⟨B1, 7, none⟩ = some (Value.int .i64 s.ep) := r0.drew.cell 7 rfl
  have c08 : W.drew.cell? ⟨B1, 8, none⟩ = some (Value.int .i64 s.ve) := r0.drew.cell 8 rfl
  have c09 : W.drew.cell? ⟨B1, 9, none⟩ = some (Value.int .i64 a) := r0.drew.cell 9 rfl
  have c010 : W.drew.cell? ⟨B1, 10, none⟩ = some (Value.int .i64 mo) := r0.drew.cell 10 rfl
  first | (go_region_held3 (fun w' => w'.cell? ⟨B1, 0, none⟩ = some (Value.int .i64 s.st) ∧ w'.cell? ⟨B1, 1, none⟩ = some (Value.int .i64 s.ow) ∧ w'.cell? ⟨B1, 2, none⟩ = some (Value.int .i64 s.sr) ∧ w'.cell? ⟨B1, 3, none⟩ = some (Value.bool s.br) ∧ w'.cell? ⟨B1, 4, none⟩ = some (Value.bool s.ma) ∧ w'.cell? ⟨B1, 5, none⟩ = some (Value.int .i64 s.us) ∧ w'.cell? ⟨B1, 6, none⟩ = some (Value.int .i64 s.ge) ∧ w'.cell? ⟨B1, 7, none⟩ = some (Value.int .i64 s.ep) ∧ w'.cell? ⟨B1, 8, none⟩ = some (Value.int .i64 s.ve) ∧ w'.cell? ⟨B1, 9, none⟩ = some (Value.int .i64 a) ∧ w'.cell? ⟨B1, 10, none⟩ = some (Value.int .i64 mo)) (first | go_keep | (simp only [cell_setCells hne]; exact ⟨c20, c21, c22, c23, c24, c25, c26, c27, c28, c29, c210⟩) | exact ⟨c20, c21, c22, c23, c24, c25, c26, c27, c28, c29, c210⟩ | (simp only [cell_setCells hne]; exact ⟨c10, c11, c12, c13, c14, c15, c16, c17, c18, c19, c110⟩) | exact ⟨c10, c11, c12, c13, c14, c15, c16, c17, c18, c19, c110⟩ | (simp only [cell_setCells hne]; exact ⟨c00, c01, c02, c03, c04, c05, c06, c07, c08, c09, c010⟩) | exact ⟨c00, c01, c02, c03, c04, c05, c06, c07, c08, c09, c010⟩)
    (first
      | (go_at_call 47; refine (leased_any s a mo _ hr.us.1 hr.us.2 hr.ge.1 hr.ge.2).mono ?_; rintro e w1 ⟨rfl, hb1⟩
         have q1 := r0.drew.below hb1 (by simpa using r0.drew.lt)
         have p1 := r1.drew.below hb1 (by simpa using r1.drew.lt)
         have c10 : w1.cell? ⟨B1, 0, none⟩ = some (Value.int .i64 s.st) := q1.cell 0 rfl
         have c11 : w1.cell? ⟨B1, 1, none⟩ = some (Value.int .i64 s.ow) := q1.cell 1 rfl
         have c12 : w1.cell? ⟨B1, 2, none⟩ = some (Value.int .i64 s.sr) := q1.cell 2 rfl
         have c13 : w1.cell? ⟨B1, 3, none⟩ = some (Value.bool s.br) := q1.cell 3 rfl
         have c14 : w1.cell? ⟨B1, 4, none⟩ = some (Value.bool s.ma) := q1.cell 4 rfl
         have c15 : w1.cell? ⟨B1, 5, none⟩ = some (Value.int .i64 s.us) := q1.cell 5 rfl
         have c16 : w1.cell? ⟨B1, 6, none⟩ = some (Value.int .i64 s.ge) := q1.cell 6 rfl
         have c17 : w1.cell? ⟨B1, 7, none⟩ = some (Value.int .i64 s.ep) := q1.cell 7 rfl
         have c18 : w1.cell? ⟨B1, 8, none⟩ = some (Value.int .i64 s.ve) := q1.cell 8 rfl
         have c19 : w1.cell? ⟨B1, 9, none⟩ = some (Value.int .i64 a) := q1.cell 9 rfl
         have c110 : w1.cell? ⟨B1, 10, none⟩ = some (Value.int .i64 mo) := q1.cell 10 rfl
         have hB1 := hB.trans (hb1.mono (by simpa using hB.size))
         have d10 : w1.cell? ⟨B1 + 1, 0, none⟩ = some (Value.int .i64 0) := p1.cell 0 rfl
         have g10 : w1.frozen? ⟨B1 + 1, 0, none⟩ = false := p1.frozen 0
         have d11 : w1.cell? ⟨B1 + 1, 1, none⟩ = some (Value.int .i64 0) := p1.cell 1 rfl
         have g11 : w1.frozen? ⟨B1 + 1, 1, none⟩ = false := p1.frozen 1
         have d12 : w1.cell? ⟨B1 + 1, 2, none⟩ = some (Value.int .i64 0) := p1.cell 2 rfl
         have g12 : w1.frozen? ⟨B1 + 1, 2, none⟩ = false := p1.frozen 2
         have d13 : w1.cell? ⟨B1 + 1, 3, none⟩ = some (Value.bool false) := p1.cell 3 rfl
         have g13 : w1.frozen? ⟨B1 + 1, 3, none⟩ = false := p1.frozen 3
         have d14 : w1.cell? ⟨B1 + 1, 4, none⟩ = some (Value.bool false) := p1.cell 4 rfl
         have g14 : w1.frozen? ⟨B1 + 1, 4, none⟩ = false := p1.frozen 4
         have d15 : w1.cell? ⟨B1 + 1, 5, none⟩ = some (Value.int .i64 0) := p1.cell 5 rfl
         have g15 : w1.frozen? ⟨B1 + 1, 5, none⟩ = false := p1.frozen 5
         have d16 : w1.cell? ⟨B1 + 1, 6, none⟩ = some (Value.int .i64 0) := p1.cell 6 rfl
         have g16 : w1.frozen? ⟨B1 + 1, 6, none⟩ = false := p1.frozen 6
         have d17 : w1.cell? ⟨B1 + 1, 7, none⟩ = some (Value.int .i64 0) := p1.cell 7 rfl
         have g17 : w1.frozen? ⟨B1 + 1, 7, none⟩ = false := p1.frozen 7
         have d18 : w1.cell? ⟨B1 + 1, 8, none⟩ = some (Value.int .i64 0) := p1.cell 8 rfl
         have g18 : w1.frozen? ⟨B1 + 1, 8, none⟩ = false := p1.frozen 8
         )
      | (go_at_call 48; refine (mine_any s a mo 1 _).mono ?_; rintro e w2 ⟨rfl, hb2⟩
         have q2 := q1.below hb2 (by simpa using q1.lt)
         have p2 := p1.below hb2 (by simpa using p1.lt)
         have c20 : w2.cell? ⟨B1, 0, none⟩ = some (Value.int .i64 s.st) := q2.cell 0 rfl
         have c21 : w2.cell? ⟨B1, 1, none⟩ = some (Value.int .i64 s.ow) := q2.cell 1 rfl
         have c22 : w2.cell? ⟨B1, 2, none⟩ = some (Value.int .i64 s.sr) := q2.cell 2 rfl
         have c23 : w2.cell? ⟨B1, 3, none⟩ = some (Value.bool s.br) := q2.cell 3 rfl
         have c24 : w2.cell? ⟨B1, 4, none⟩ = some (Value.bool s.ma) := q2.cell 4 rfl
         have c25 : w2.cell? ⟨B1, 5, none⟩ = some (Value.int .i64 s.us) := q2.cell 5 rfl
         have c26 : w2.cell? ⟨B1, 6, none⟩ = some (Value.int .i64 s.ge) := q2.cell 6 rfl
         have c27 : w2.cell? ⟨B1, 7, none⟩ = some (Value.int .i64 s.ep) := q2.cell 7 rfl
         have c28 : w2.cell? ⟨B1, 8, none⟩ = some (Value.int .i64 s.ve) := q2.cell 8 rfl
         have c29 : w2.cell? ⟨B1, 9, none⟩ = some (Value.int .i64 a) := q2.cell 9 rfl
         have c210 : w2.cell? ⟨B1, 10, none⟩ = some (Value.int .i64 mo) := q2.cell 10 rfl
         have hB2 := hB1.trans (hb2.mono (by simpa using hB1.size))
         have d20 : w2.cell? ⟨B1 + 1, 0, none⟩ = some (Value.int .i64 0) := p2.cell 0 rfl
         have g20 : w2.frozen? ⟨B1 + 1, 0, none⟩ = false := p2.frozen 0
         have d21 : w2.cell? ⟨B1 + 1, 1, none⟩ = some (Value.int .i64 0) := p2.cell 1 rfl
         have g21 : w2.frozen? ⟨B1 + 1, 1, none⟩ = false := p2.frozen 1
         have d22 : w2.cell? ⟨B1 + 1, 2, none⟩ = some (Value.int .i64 0) := p2.cell 2 rfl
         have g22 : w2.frozen? ⟨B1 + 1, 2, none⟩ = false := p2.frozen 2
         have d23 : w2.cell? ⟨B1 + 1, 3, none⟩ = some (Value.bool false) := p2.cell 3 rfl
         have g23 : w2.frozen? ⟨B1 + 1, 3, none⟩ = false := p2.frozen 3
         have d24 : w2.cell? ⟨B1 + 1, 4, none⟩ = some (Value.bool false) := p2.cell 4 rfl
         have g24 : w2.frozen? ⟨B1 + 1, 4, none⟩ = false := p2.frozen 4
         have d25 : w2.cell? ⟨B1 + 1, 5, none⟩ = some (Value.int .i64 0) := p2.cell 5 rfl
         have g25 : w2.frozen? ⟨B1 + 1, 5, none⟩ = false := p2.frozen 5
         have d26 : w2.cell? ⟨B1 + 1, 6, none⟩ = some (Value.int .i64 0) := p2.cell 6 rfl
         have g26 : w2.frozen? ⟨B1 + 1, 6, none⟩ = false := p2.frozen 6
         have d27 : w2.cell? ⟨B1 + 1, 7, none⟩ = some (Value.int .i64 0) := p2.cell 7 rfl
         have g27 : w2.frozen? ⟨B1 + 1, 7, none⟩ = false := p2.frozen 7
         have d28 : w2.cell? ⟨B1 + 1, 8, none⟩ = some (Value.int .i64 0) := p2.cell 8 rfl
         have g28 : w2.frozen? ⟨B1 + 1, 8, none⟩ = false := p2.frozen 8
         ))) | fail
  first
    | (have rz := row9 p2 (Value.int .i64 (s.leas a).st) (Value.int .i64 (s.leas a).ow) (Value.int .i64 (s.leas a).sr) (Value.bool (s.leas a).br) (Value.bool (s.leas a).ma) (Value.int .i64 (s.leas a).us) (Value.int .i64 (s.leas a).ge) (Value.int .i64 (s.leas a).ep) (Value.int .i64 (s.leas a).ve)
       have hz := below9 (n := w.heap.size) (A := w) (b := B1 + 1) hB2 (by omega) (Value.int .i64 (s.leas a).st) (Value.int .i64 (s.leas a).ow) (Value.int .i64 (s.leas a).sr) (Value.bool (s.leas a).br) (Value.bool (s.leas a).ma) (Value.int .i64 (s.leas a).us) (Value.int .i64 (s.leas a).ge) (Value.int .i64 (s.leas a).ep) (Value.int .i64 (s.leas a).ve)
       go_wp2
       refine bodyPost_ret (res_pair (p := 2) (u := 3) rfl _ _ _ _ rfl rz rfl) rfl ⟨rfl, hz⟩)

set_option maxRecDepth 100000 in
set_option maxHeartbeats 4000000 in
theorem m2_any (s : Sl) (a mo : Int) (w : World) (_ : Rt s) :
    Calls Tryd.prog 22 #[Value.agg #[Value.int .i64 s.st, Value.int .i64 s.ow, Value.int .i64 s.sr, Value.bool s.br, Value.bool s.ma, Value.int .i64 s.us, Value.int .i64 s.ge, Value.int .i64 s.ep, Value.int .i64 s.ve, Value.int .i64 a, Value.int .i64 mo]] w fun e w' => e = .returned (.tuple #[.agg #[Value.int .i64 (chS 2 s a mo).st, Value.int .i64 (chS 2 s a mo).ow, Value.int .i64 (chS 2 s a mo).sr, Value.bool (chS 2 s a mo).br, Value.bool (chS 2 s a mo).ma, Value.int .i64 (chS 2 s a mo).us, Value.int .i64 (chS 2 s a mo).ge, Value.int .i64 (chS 2 s a mo).ep, Value.int .i64 (chS 2 s a mo).ve], .bool (chB 2 s a mo)]) ∧ Below w.heap.size w w' := by
  go_enter Tryd.func22, Tryd.ntmps22
  go_wp2_with fail
  have hB0 : Below w.heap.size w ((w.alloc (.cells #[Value.int .i64 s.st, Value.int .i64 s.ow, Value.int .i64 s.sr, Value.bool s.br, Value.bool s.ma, Value.int .i64 s.us, Value.int .i64 s.ge, Value.int .i64 s.ep, Value.int .i64 s.ve, Value.int .i64 a, Value.int .i64 mo] 39)).alloc (.cells #[Value.int .i64 0, Value.int .i64 0, Value.int .i64 0, Value.bool false, Value.bool false, Value.int .i64 0, Value.int .i64 0, Value.int .i64 0, Value.int .i64 0] 23)) := ((Below.refl _ _).alloc (Nat.le_refl _) _).alloc (by simp) _
  have r0 := (RowAt.new w 39 #[Value.int .i64 s.st, Value.int .i64 s.ow, Value.int .i64 s.sr, Value.bool s.br, Value.bool s.ma, Value.int .i64 s.us, Value.int .i64 s.ge, Value.int .i64 s.ep, Value.int .i64 s.ve, Value.int .i64 a, Value.int .i64 mo]).alloc (.cells #[Value.int .i64 0, Value.int .i64 0, Value.int .i64 0, Value.bool false, Value.bool false, Value.int .i64 0, Value.int .i64 0, Value.int .i64 0, Value.int .i64 0] 23)
  have r1 := new2 w (.cells #[Value.int .i64 s.st, Value.int .i64 s.ow, Value.int .i64 s.sr, Value.bool s.br, Value.bool s.ma, Value.int .i64 s.us, Value.int .i64 s.ge, Value.int .i64 s.ep, Value.int .i64 s.ve, Value.int .i64 a, Value.int .i64 mo] 39) 23 #[Value.int .i64 0, Value.int .i64 0, Value.int .i64 0, Value.bool false, Value.bool false, Value.int .i64 0, Value.int .i64 0, Value.int .i64 0, Value.int .i64 0]
  obtain ⟨W, hW⟩ : ∃ W, W = (w.alloc (.cells #[Value.int .i64 s.st, Value.int .i64 s.ow, Value.int .i64 s.sr, Value.bool s.br, Value.bool s.ma, Value.int .i64 s.us, Value.int .i64 s.ge, Value.int .i64 s.ep, Value.int .i64 s.ve, Value.int .i64 a, Value.int .i64 mo] 39)).alloc (.cells #[Value.int .i64 0, Value.int .i64 0, Value.int .i64 0, Value.bool false, Value.bool false, Value.int .i64 0, Value.int .i64 0, Value.int .i64 0, Value.int .i64 0] 23) := ⟨_, rfl⟩
  rw [← hW] at hB0 r0 r1 ⊢
  clear hW
  obtain ⟨B1, e1⟩ : ∃ B1, B1 = w.heap.size := ⟨_, rfl⟩
  have hle : w.heap.size ≤ B1 := by omega
  rw [← e1] at r0 r1 ⊢
  clear e1
  have hlt := r0.lt
  have hlt1 := r1.lt
  have hB := hB0.drew
  clear hB0
  have hne : B1 ≠ B1 + 1 := by omega
  have c00 : W.drew.cell? ⟨B1, 0, none⟩ = some (Value.int .i64 s.st) := r0.drew.cell 0 rfl
  have c01 : W.drew.cell? ⟨B1, 1, none⟩ = some (Value.int .i64 s.ow) := r0.drew.cell 1 rfl
  have c02 : W.drew.cell? ⟨B1, 2, none⟩ = some (Value.int .i64 s.sr) := r0.drew.cell 2 rfl
  have c03 : W.drew.cell? ⟨B1, 3, none⟩ = some (Value.bool s.br) := r0.drew.cell 3 rfl
  have c04 : W.drew.cell? ⟨B1, 4, none⟩ = some (Value.bool s.ma) := r0.drew.cell 4 rfl
  have c05 : W.drew.cell? ⟨B1, 5, none⟩ = some (Value.int .i64 s.us) := r0.drew.cell 5 rfl
  have c06 : W.drew.cell? ⟨B1, 6, none⟩ = some (Value.int .i64 s.ge) := r0.drew.cell 6 rfl
  have c07 : W.drew.cell? ⟨B1, 7, none⟩ = some (Value.int .i64 s.ep) := r0.drew.cell 7 rfl
  have c08 : W.drew.cell? ⟨B1, 8, none⟩ = some (Value.int .i64 s.ve) := r0.drew.cell 8 rfl
  have c09 : W.drew.cell? ⟨B1, 9, none⟩ = some (Value.int .i64 a) := r0.drew.cell 9 rfl
  have c010 : W.drew.cell? ⟨B1, 10, none⟩ = some (Value.int .i64 mo) := r0.drew.cell 10 rfl
  first | (go_region_held3 (fun w' => w'.cell? ⟨B1, 0, none⟩ = some (Value.int .i64 s.st) ∧ w'.cell? ⟨B1, 1, none⟩ = some (Value.int .i64 s.ow) ∧ w'.cell? ⟨B1, 2, none⟩ = some (Value.int .i64 s.sr) ∧ w'.cell? ⟨B1, 3, none⟩ = some (Value.bool s.br) ∧ w'.cell? ⟨B1, 4, none⟩ = some (Value.bool s.ma) ∧ w'.cell? ⟨B1, 5, none⟩ = some (Value.int .i64 s.us) ∧ w'.cell? ⟨B1, 6, none⟩ = some (Value.int .i64 s.ge) ∧ w'.cell? ⟨B1, 7, none⟩ = some (Value.int .i64 s.ep) ∧ w'.cell? ⟨B1, 8, none⟩ = some (Value.int .i64 s.ve) ∧ w'.cell? ⟨B1, 9, none⟩ = some (Value.int .i64 a) ∧ w'.cell? ⟨B1, 10, none⟩ = some (Value.int .i64 mo)) (first | go_keep | (simp only [cell_setCells hne]; exact ⟨c20, c21, c22, c23, c24, c25, c26, c27, c28, c29, c210⟩) | exact ⟨c20, c21, c22, c23, c24, c25, c26, c27, c28, c29, c210⟩ | (simp only [cell_setCells hne]; exact ⟨c10, c11, c12, c13, c14, c15, c16, c17, c18, c19, c110⟩) | exact ⟨c10, c11, c12, c13, c14, c15, c16, c17, c18, c19, c110⟩ | (simp only [cell_setCells hne]; exact ⟨c00, c01, c02, c03, c04, c05, c06, c07, c08, c09, c010⟩) | exact ⟨c00, c01, c02, c03, c04, c05, c06, c07, c08, c09, c010⟩)
    (first
      | (go_at_call 49; refine (bare_any s a mo 0 _).mono ?_; rintro e w1 ⟨rfl, hb1⟩
         have q1 := r0.drew.below hb1 (by simpa using r0.drew.lt)
         have p1 := r1.drew.below hb1 (by simpa using r1.drew.lt)
         have c10 : w1.cell? ⟨B1, 0, none⟩ = some (Value.int .i64 s.st) := q1.cell 0 rfl
         have c11 : w1.cell? ⟨B1, 1, none⟩ = some (Value.int .i64 s.ow) := q1.cell 1 rfl
         have c12 : w1.cell? ⟨B1, 2, none⟩ = some (Value.int .i64 s.sr) := q1.cell 2 rfl
         have c13 : w1.cell? ⟨B1, 3, none⟩ = some (Value.bool s.br) := q1.cell 3 rfl
         have c14 : w1.cell? ⟨B1, 4, none⟩ = some (Value.bool s.ma) := q1.cell 4 rfl
         have c15 : w1.cell? ⟨B1, 5, none⟩ = some (Value.int .i64 s.us) := q1.cell 5 rfl
         have c16 : w1.cell? ⟨B1, 6, none⟩ = some (Value.int .i64 s.ge) := q1.cell 6 rfl
         have c17 : w1.cell? ⟨B1, 7, none⟩ = some (Value.int .i64 s.ep) := q1.cell 7 rfl
         have c18 : w1.cell? ⟨B1, 8, none⟩ = some (Value.int .i64 s.ve) := q1.cell 8 rfl
         have c19 : w1.cell? ⟨B1, 9, none⟩ = some (Value.int .i64 a) := q1.cell 9 rfl
         have c110 : w1.cell? ⟨B1, 10, none⟩ = some (Value.int .i64 mo) := q1.cell 10 rfl
         have hB1 := hB.trans (hb1.mono (by simpa using hB.size))
         have d10 : w1.cell? ⟨B1 + 1, 0, none⟩ = some (Value.int .i64 0) := p1.cell 0 rfl
         have g10 : w1.frozen? ⟨B1 + 1, 0, none⟩ = false := p1.frozen 0
         have d11 : w1.cell? ⟨B1 + 1, 1, none⟩ = some (Value.int .i64 0) := p1.cell 1 rfl
         have g11 : w1.frozen? ⟨B1 + 1, 1, none⟩ = false := p1.frozen 1
         have d12 : w1.cell? ⟨B1 + 1, 2, none⟩ = some (Value.int .i64 0) := p1.cell 2 rfl
         have g12 : w1.frozen? ⟨B1 + 1, 2, none⟩ = false := p1.frozen 2
         have d13 : w1.cell? ⟨B1 + 1, 3, none⟩ = some (Value.bool false) := p1.cell 3 rfl
         have g13 : w1.frozen? ⟨B1 + 1, 3, none⟩ = false := p1.frozen 3
         have d14 : w1.cell? ⟨B1 + 1, 4, none⟩ = some (Value.bool false) := p1.cell 4 rfl
         have g14 : w1.frozen? ⟨B1 + 1, 4, none⟩ = false := p1.frozen 4
         have d15 : w1.cell? ⟨B1 + 1, 5, none⟩ = some (Value.int .i64 0) := p1.cell 5 rfl
         have g15 : w1.frozen? ⟨B1 + 1, 5, none⟩ = false := p1.frozen 5
         have d16 : w1.cell? ⟨B1 + 1, 6, none⟩ = some (Value.int .i64 0) := p1.cell 6 rfl
         have g16 : w1.frozen? ⟨B1 + 1, 6, none⟩ = false := p1.frozen 6
         have d17 : w1.cell? ⟨B1 + 1, 7, none⟩ = some (Value.int .i64 0) := p1.cell 7 rfl
         have g17 : w1.frozen? ⟨B1 + 1, 7, none⟩ = false := p1.frozen 7
         have d18 : w1.cell? ⟨B1 + 1, 8, none⟩ = some (Value.int .i64 0) := p1.cell 8 rfl
         have g18 : w1.frozen? ⟨B1 + 1, 8, none⟩ = false := p1.frozen 8
         )
      | (go_at_call 48; refine (mine_any s a mo 1 _).mono ?_; rintro e w2 ⟨rfl, hb2⟩
         have q2 := q1.below hb2 (by simpa using q1.lt)
         have p2 := p1.below hb2 (by simpa using p1.lt)
         have c20 : w2.cell? ⟨B1, 0, none⟩ = some (Value.int .i64 s.st) := q2.cell 0 rfl
         have c21 : w2.cell? ⟨B1, 1, none⟩ = some (Value.int .i64 s.ow) := q2.cell 1 rfl
         have c22 : w2.cell? ⟨B1, 2, none⟩ = some (Value.int .i64 s.sr) := q2.cell 2 rfl
         have c23 : w2.cell? ⟨B1, 3, none⟩ = some (Value.bool s.br) := q2.cell 3 rfl
         have c24 : w2.cell? ⟨B1, 4, none⟩ = some (Value.bool s.ma) := q2.cell 4 rfl
         have c25 : w2.cell? ⟨B1, 5, none⟩ = some (Value.int .i64 s.us) := q2.cell 5 rfl
         have c26 : w2.cell? ⟨B1, 6, none⟩ = some (Value.int .i64 s.ge) := q2.cell 6 rfl
         have c27 : w2.cell? ⟨B1, 7, none⟩ = some (Value.int .i64 s.ep) := q2.cell 7 rfl
         have c28 : w2.cell? ⟨B1, 8, none⟩ = some (Value.int .i64 s.ve) := q2.cell 8 rfl
         have c29 : w2.cell? ⟨B1, 9, none⟩ = some (Value.int .i64 a) := q2.cell 9 rfl
         have c210 : w2.cell? ⟨B1, 10, none⟩ = some (Value.int .i64 mo) := q2.cell 10 rfl
         have hB2 := hB1.trans (hb2.mono (by simpa using hB1.size))
         have d20 : w2.cell? ⟨B1 + 1, 0, none⟩ = some (Value.int .i64 0) := p2.cell 0 rfl
         have g20 : w2.frozen? ⟨B1 + 1, 0, none⟩ = false := p2.frozen 0
         have d21 : w2.cell? ⟨B1 + 1, 1, none⟩ = some (Value.int .i64 0) := p2.cell 1 rfl
         have g21 : w2.frozen? ⟨B1 + 1, 1, none⟩ = false := p2.frozen 1
         have d22 : w2.cell? ⟨B1 + 1, 2, none⟩ = some (Value.int .i64 0) := p2.cell 2 rfl
         have g22 : w2.frozen? ⟨B1 + 1, 2, none⟩ = false := p2.frozen 2
         have d23 : w2.cell? ⟨B1 + 1, 3, none⟩ = some (Value.bool false) := p2.cell 3 rfl
         have g23 : w2.frozen? ⟨B1 + 1, 3, none⟩ = false := p2.frozen 3
         have d24 : w2.cell? ⟨B1 + 1, 4, none⟩ = some (Value.bool false) := p2.cell 4 rfl
         have g24 : w2.frozen? ⟨B1 + 1, 4, none⟩ = false := p2.frozen 4
         have d25 : w2.cell? ⟨B1 + 1, 5, none⟩ = some (Value.int .i64 0) := p2.cell 5 rfl
         have g25 : w2.frozen? ⟨B1 + 1, 5, none⟩ = false := p2.frozen 5
         have d26 : w2.cell? ⟨B1 + 1, 6, none⟩ = some (Value.int .i64 0) := p2.cell 6 rfl
         have g26 : w2.frozen? ⟨B1 + 1, 6, none⟩ = false := p2.frozen 6
         have d27 : w2.cell? ⟨B1 + 1, 7, none⟩ = some (Value.int .i64 0) := p2.cell 7 rfl
         have g27 : w2.frozen? ⟨B1 + 1, 7, none⟩ = false := p2.frozen 7
         have d28 : w2.cell? ⟨B1 + 1, 8, none⟩ = some (Value.int .i64 0) := p2.cell 8 rfl
         have g28 : w2.frozen? ⟨B1 + 1, 8, none⟩ = false := p2.frozen 8
         ))) | fail
  first
    | (have rz := row9 p2 (Value.int .i64 (s.bare 0).st) (Value.int .i64 (s.bare 0).ow) (Value.int .i64 (s.bare 0).sr) (Value.bool (s.bare 0).br) (Value.bool (s.bare 0).ma) (Value.int .i64 (s.bare 0).us) (Value.int .i64 (s.bare 0).ge) (Value.int .i64 (s.bare 0).ep) (Value.int .i64 (s.bare 0).ve)
       have hz := below9 (n := w.heap.size) (A := w) (b := B1 + 1) hB2 (by omega) (Value.int .i64 (s.bare 0).st) (Value.int .i64 (s.bare 0).ow) (Value.int .i64 (s.bare 0).sr) (Value.bool (s.bare 0).br) (Value.bool (s.bare 0).ma) (Value.int .i64 (s.bare 0).us) (Value.int .i64 (s.bare 0).ge) (Value.int .i64 (s.bare 0).ep) (Value.int .i64 (s.bare 0).ve)
       go_wp2
       refine bodyPost_ret (res_pair (p := 2) (u := 3) rfl _ _ _ _ rfl rz rfl) rfl ⟨rfl, hz⟩)

set_option maxRecDepth 100000 in
set_option maxHeartbeats 4000000 in
theorem m3_any (s : Sl) (a mo : Int) (w : World) (hr : Rt s) :
    Calls Tryd.prog 23 #[Value.agg #[Value.int .i64 s.st, Value.int .i64 s.ow, Value.int .i64 s.sr, Value.bool s.br, Value.bool s.ma, Value.int .i64 s.us, Value.int .i64 s.ge, Value.int .i64 s.ep, Value.int .i64 s.ve, Value.int .i64 a, Value.int .i64 mo]] w fun e w' => e = .returned (.tuple #[.agg #[Value.int .i64 (chS 3 s a mo).st, Value.int .i64 (chS 3 s a mo).ow, Value.int .i64 (chS 3 s a mo).sr, Value.bool (chS 3 s a mo).br, Value.bool (chS 3 s a mo).ma, Value.int .i64 (chS 3 s a mo).us, Value.int .i64 (chS 3 s a mo).ge, Value.int .i64 (chS 3 s a mo).ep, Value.int .i64 (chS 3 s a mo).ve], .bool (chB 3 s a mo)]) ∧ Below w.heap.size w w' := by
  go_enter Tryd.func23, Tryd.ntmps23
  go_wp2_with fail
  have hB0 : Below w.heap.size w ((w.alloc (.cells #[Value.int .i64 s.st, Value.int .i64 s.ow, Value.int .i64 s.sr, Value.bool s.br, Value.bool s.ma, Value.int .i64 s.us, Value.int .i64 s.ge, Value.int .i64 s.ep, Value.int .i64 s.ve, Value.int .i64 a, Value.int .i64 mo] 39)).alloc (.cells #[Value.int .i64 0, Value.int .i64 0, Value.int .i64 0, Value.bool false, Value.bool false, Value.int .i64 0, Value.int .i64 0, Value.int .i64 0, Value.int .i64 0] 23)) := ((Below.refl _ _).alloc (Nat.le_refl _) _).alloc (by simp) _
  have r0 := (RowAt.new w 39 #[Value.int .i64 s.st, Value.int .i64 s.ow, Value.int .i64 s.sr, Value.bool s.br, Value.bool s.ma, Value.int .i64 s.us, Value.int .i64 s.ge, Value.int .i64 s.ep, Value.int .i64 s.ve, Value.int .i64 a, Value.int .i64 mo]).alloc (.cells #[Value.int .i64 0, Value.int .i64 0, Value.int .i64 0, Value.bool false, Value.bool false, Value.int .i64 0, Value.int .i64 0, Value.int .i64 0, Value.int .i64 0] 23)
  have r1 := new2 w (.cells #[Value.int .i64 s.st, Value.int .i64 s.ow, Value.int .i64 s.sr, Value.bool s.br, Value.bool s.ma, Value.int .i64 s.us, Value.int .i64 s.ge, Value.int .i64 s.ep, Value.int .i64 s.ve, Value.int .i64 a, Value.int .i64 mo] 39) 23 #[Value.int .i64 0, Value.int .i64 0, Value.int .i64 0, Value.bool false, Value.bool false, Value.int .i64 0, Value.int .i64 0, Value.int .i64 0, Value.int .i64 0]
  obtain ⟨W, hW⟩ : ∃ W, W = (w.alloc (.cells #[Value.int .i64 s.st, Value.int .i64 s.ow, Value.int .i64 s.sr, Value.bool s.br, Value.bool s.ma, Value.int .i64 s.us, Value.int .i64 s.ge, Value.int .i64 s.ep, Value.int .i64 s.ve, Value.int .i64 a, Value.int .i64 mo] 39)).alloc (.cells #[Value.int .i64 0, Value.int .i64 0, Value.int .i64 0, Value.bool false, Value.bool false, Value.int .i64 0, Value.int .i64 0, Value.int .i64 0, Value.int .i64 0] 23) := ⟨_, rfl⟩
  rw [← hW] at hB0 r0 r1 ⊢
  clear hW
  obtain ⟨B1, e1⟩ : ∃ B1, B1 = w.heap.size := ⟨_, rfl⟩
  have hle : w.heap.size ≤ B1 := by omega
  rw [← e1] at r0 r1 ⊢
  clear e1
  have hlt := r0.lt
  have hlt1 := r1.lt
  have hB := hB0.drew
  clear hB0
  have hne : B1 ≠ B1 + 1 := by omega
  have c00 : W.drew.cell? ⟨B1, 0, none⟩ = some (Value.int .i64 s.st) := r0.drew.cell 0 rfl
  have c01 : W.drew.cell? ⟨B1, 1, none⟩ = some (Value.int .i64 s.ow) := r0.drew.cell 1 rfl
  have c02 : W.drew.cell? ⟨B1, 2, none⟩ = some (Value.int .i64 s.sr) := r0.drew.cell 2 rfl
  have c03 : W.drew.cell? ⟨B1, 3, none⟩ = some (Value.bool s.br) := r0.drew.cell 3 rfl
  have c04 : W.drew.cell? ⟨B1, 4, none⟩ = some (Value.bool s.ma) := r0.drew.cell 4 rfl
  have c05 : W.drew.cell? ⟨B1, 5, none⟩ = some (Value.int .i64 s.us) := r0.drew.cell 5 rfl
  have c06 : W.drew.cell? ⟨B1, 6, none⟩ = some (Value.int .i64 s.ge) := r0.drew.cell 6 rfl
  have c07 : W.drew.cell? ⟨B1, 7, none⟩ = some (Value.int .i64 s.ep) := r0.drew.cell 7 rfl
  have c08 : W.drew.cell? ⟨B1, 8, none⟩ = some (Value.int .i64 s.ve) := r0.drew.cell 8 rfl
  have c09 : W.drew.cell? ⟨B1, 9, none⟩ = some (Value.int .i64 a) := r0.drew.cell 9 rfl
  have c010 : W.drew.cell? ⟨B1, 10, none⟩ = some (Value.int .i64 mo) := r0.drew.cell 10 rfl
  first | (go_region_held3 (fun w' => w'.cell? ⟨B1, 0, none⟩ = some (Value.int .i64 s.st) ∧ w'.cell? ⟨B1, 1, none⟩ = some (Value.int .i64 s.ow) ∧ w'.cell? ⟨B1, 2, none⟩ = some (Value.int .i64 s.sr) ∧ w'.cell? ⟨B1, 3, none⟩ = some (Value.bool s.br) ∧ w'.cell? ⟨B1, 4, none⟩ = some (Value.bool s.ma) ∧ w'.cell? ⟨B1, 5, none⟩ = some (Value.int .i64 s.us) ∧ w'.cell? ⟨B1, 6, none⟩ = some (Value.int .i64 s.ge) ∧ w'.cell? ⟨B1, 7, none⟩ = some (Value.int .i64 s.ep) ∧ w'.cell? ⟨B1, 8, none⟩ = some (Value.int .i64 s.ve) ∧ w'.cell? ⟨B1, 9, none⟩ = some (Value.int .i64 a) ∧ w'.cell? ⟨B1, 10, none⟩ = some (Value.int .i64 mo)) (first | go_keep | (simp only [cell_setCells hne]; exact ⟨c20, c21, c22, c23, c24, c25, c26, c27, c28, c29, c210⟩) | exact ⟨c20, c21, c22, c23, c24, c25, c26, c27, c28, c29, c210⟩ | (simp only [cell_setCells hne]; exact ⟨c10, c11, c12, c13, c14, c15, c16, c17, c18, c19, c110⟩) | exact ⟨c10, c11, c12, c13, c14, c15, c16, c17, c18, c19, c110⟩ | (simp only [cell_setCells hne]; exact ⟨c00, c01, c02, c03, c04, c05, c06, c07, c08, c09, c010⟩) | exact ⟨c00, c01, c02, c03, c04, c05, c06, c07, c08, c09, c010⟩)
    (first
      | (go_at_call 47; refine (leased_any s a mo _ hr.us.1 hr.us.2 hr.ge.1 hr.ge.2).mono ?_; rintro e w1 ⟨rfl, hb1⟩
         have q1 := r0.drew.below hb1 (by simpa using r0.drew.lt)
         have p1 := r1.drew.below hb1 (by simpa using r1.drew.lt)
         have c10 : w1.cell? ⟨B1, 0, none⟩ = some (Value.int .i64 s.st) := q1.cell 0 rfl
         have c11 : w1.cell? ⟨B1, 1, none⟩ = some (Value.int .i64 s.ow) := q1.cell 1 rfl
         have c12 : w1.cell? ⟨B1, 2, none⟩ = some (Value.int .i64 s.sr) := q1.cell 2 rfl
         have c13 : w1.cell? ⟨B1, 3, none⟩ = some (Value.bool s.br) := q1.cell 3 rfl
         have c14 : w1.cell? ⟨B1, 4, none⟩ = some (Value.bool s.ma) := q1.cell 4 rfl
         have c15 : w1.cell? ⟨B1, 5, none⟩ = some (Value.int .i64 s.us) := q1.cell 5 rfl
         have c16 : w1.cell? ⟨B1, 6, none⟩ = some (Value.int .i64 s.ge) := q1.cell 6 rfl
         have c17 : w1.cell? ⟨B1, 7, none⟩ = some (Value.int .i64 s.ep) := q1.cell 7 rfl
         have c18 : w1.cell? ⟨B1, 8, none⟩ = some (Value.int .i64 s.ve) := q1.cell 8 rfl
         have c19 : w1.cell? ⟨B1, 9, none⟩ = some (Value.int .i64 a) := q1.cell 9 rfl
         have c110 : w1.cell? ⟨B1, 10, none⟩ = some (Value.int .i64 mo) := q1.cell 10 rfl
         have hB1 := hB.trans (hb1.mono (by simpa using hB.size))
         have d10 : w1.cell? ⟨B1 + 1, 0, none⟩ = some (Value.int .i64 0) := p1.cell 0 rfl
         have g10 : w1.frozen? ⟨B1 + 1, 0, none⟩ = false := p1.frozen 0
         have d11 : w1.cell? ⟨B1 + 1, 1, none⟩ = some (Value.int .i64 0) := p1.cell 1 rfl
         have g11 : w1.frozen? ⟨B1 + 1, 1, none⟩ = false := p1.frozen 1
         have d12 : w1.cell? ⟨B1 + 1, 2, none⟩ = some (Value.int .i64 0) := p1.cell 2 rfl
         have g12 : w1.frozen? ⟨B1 + 1, 2, none⟩ = false := p1.frozen 2
         have d13 : w1.cell? ⟨B1 + 1, 3, none⟩ = some (Value.bool false) := p1.cell 3 rfl
         have g13 : w1.frozen? ⟨B1 + 1, 3, none⟩ = false := p1.frozen 3
         have d14 : w1.cell? ⟨B1 + 1, 4, none⟩ = some (Value.bool false) := p1.cell 4 rfl
         have g14 : w1.frozen? ⟨B1 + 1, 4, none⟩ = false := p1.frozen 4
         have d15 : w1.cell? ⟨B1 + 1, 5, none⟩ = some (Value.int .i64 0) := p1.cell 5 rfl
         have g15 : w1.frozen? ⟨B1 + 1, 5, none⟩ = false := p1.frozen 5
         have d16 : w1.cell? ⟨B1 + 1, 6, none⟩ = some (Value.int .i64 0) := p1.cell 6 rfl
         have g16 : w1.frozen? ⟨B1 + 1, 6, none⟩ = false := p1.frozen 6
         have d17 : w1.cell? ⟨B1 + 1, 7, none⟩ = some (Value.int .i64 0) := p1.cell 7 rfl
         have g17 : w1.frozen? ⟨B1 + 1, 7, none⟩ = false := p1.frozen 7
         have d18 : w1.cell? ⟨B1 + 1, 8, none⟩ = some (Value.int .i64 0) := p1.cell 8 rfl
         have g18 : w1.frozen? ⟨B1 + 1, 8, none⟩ = false := p1.frozen 8
         )
      | (go_at_call 50; refine (sound_any s a mo _).mono ?_; rintro e w2 ⟨rfl, hb2⟩
         have q2 := q1.below hb2 (by simpa using q1.lt)
         have p2 := p1.below hb2 (by simpa using p1.lt)
         have c20 : w2.cell? ⟨B1, 0, none⟩ = some (Value.int .i64 s.st) := q2.cell 0 rfl
         have c21 : w2.cell? ⟨B1, 1, none⟩ = some (Value.int .i64 s.ow) := q2.cell 1 rfl
         have c22 : w2.cell? ⟨B1, 2, none⟩ = some (Value.int .i64 s.sr) := q2.cell 2 rfl
         have c23 : w2.cell? ⟨B1, 3, none⟩ = some (Value.bool s.br) := q2.cell 3 rfl
         have c24 : w2.cell? ⟨B1, 4, none⟩ = some (Value.bool s.ma) := q2.cell 4 rfl
         have c25 : w2.cell? ⟨B1, 5, none⟩ = some (Value.int .i64 s.us) := q2.cell 5 rfl
         have c26 : w2.cell? ⟨B1, 6, none⟩ = some (Value.int .i64 s.ge) := q2.cell 6 rfl
         have c27 : w2.cell? ⟨B1, 7, none⟩ = some (Value.int .i64 s.ep) := q2.cell 7 rfl
         have c28 : w2.cell? ⟨B1, 8, none⟩ = some (Value.int .i64 s.ve) := q2.cell 8 rfl
         have c29 : w2.cell? ⟨B1, 9, none⟩ = some (Value.int .i64 a) := q2.cell 9 rfl
         have c210 : w2.cell? ⟨B1, 10, none⟩ = some (Value.int .i64 mo) := q2.cell 10 rfl
         have hB2 := hB1.trans (hb2.mono (by simpa using hB1.size))
         have d20 : w2.cell? ⟨B1 + 1, 0, none⟩ = some (Value.int .i64 0) := p2.cell 0 rfl
         have g20 : w2.frozen? ⟨B1 + 1, 0, none⟩ = false := p2.frozen 0
         have d21 : w2.cell? ⟨B1 + 1, 1, none⟩ = some (Value.int .i64 0) := p2.cell 1 rfl
         have g21 : w2.frozen? ⟨B1 + 1, 1, none⟩ = false := p2.frozen 1
         have d22 : w2.cell? ⟨B1 + 1, 2, none⟩ = some (Value.int .i64 0) := p2.cell 2 rfl
         have g22 : w2.frozen? ⟨B1 + 1, 2, none⟩ = false := p2.frozen 2
         have d23 : w2.cell? ⟨B1 + 1, 3, none⟩ = some (Value.bool false) := p2.cell 3 rfl
         have g23 : w2.frozen? ⟨B1 + 1, 3, none⟩ = false := p2.frozen 3
         have d24 : w2.cell? ⟨B1 + 1, 4, none⟩ = some (Value.bool false) := p2.cell 4 rfl
         have g24 : w2.frozen? ⟨B1 + 1, 4, none⟩ = false := p2.frozen 4
         have d25 : w2.cell? ⟨B1 + 1, 5, none⟩ = some (Value.int .i64 0) := p2.cell 5 rfl
         have g25 : w2.frozen? ⟨B1 + 1, 5, none⟩ = false := p2.frozen 5
         have d26 : w2.cell? ⟨B1 + 1, 6, none⟩ = some (Value.int .i64 0) := p2.cell 6 rfl
         have g26 : w2.frozen? ⟨B1 + 1, 6, none⟩ = false := p2.frozen 6
         have d27 : w2.cell? ⟨B1 + 1, 7, none⟩ = some (Value.int .i64 0) := p2.cell 7 rfl
         have g27 : w2.frozen? ⟨B1 + 1, 7, none⟩ = false := p2.frozen 7
         have d28 : w2.cell? ⟨B1 + 1, 8, none⟩ = some (Value.int .i64 0) := p2.cell 8 rfl
         have g28 : w2.frozen? ⟨B1 + 1, 8, none⟩ = false := p2.frozen 8
         ))) | fail
  first
    | (have rz := row9 p2 (Value.int .i64 (s.leas a).st) (Value.int .i64 (s.leas a).ow) (Value.int .i64 (s.leas a).sr) (Value.bool (s.leas a).br) (Value.bool (s.leas a).ma) (Value.int .i64 (s.leas a).us) (Value.int .i64 (s.leas a).ge) (Value.int .i64 (s.leas a).ep) (Value.int .i64 (s.leas a).ve)
       have hz := below9 (n := w.heap.size) (A := w) (b := B1 + 1) hB2 (by omega) (Value.int .i64 (s.leas a).st) (Value.int .i64 (s.leas a).ow) (Value.int .i64 (s.leas a).sr) (Value.bool (s.leas a).br) (Value.bool (s.leas a).ma) (Value.int .i64 (s.leas a).us) (Value.int .i64 (s.leas a).ge) (Value.int .i64 (s.leas a).ep) (Value.int .i64 (s.leas a).ve)
       go_wp2
       refine bodyPost_ret (res_pair (p := 2) (u := 3) rfl _ _ _ _ rfl rz rfl) rfl ⟨rfl, hz⟩)

set_option maxRecDepth 100000 in
set_option maxHeartbeats 4000000 in
theorem m4_any (s : Sl) (a mo : Int) (w : World) (_ : Rt s) :
    Calls Tryd.prog 24 #[Value.agg #[Value.int .i64 s.st, Value.int .i64 s.ow, Value.int .i64 s.sr, Value.bool s.br, Value.bool s.ma, Value.int .i64 s.us, Value.int .i64 s.ge, Value.int .i64 s.ep, Value.int .i64 s.ve, Value.int .i64 a, Value.int .i64 mo]] w fun e w' => e = .returned (.tuple #[.agg #[Value.int .i64 (chS 4 s a mo).st, Value.int .i64 (chS 4 s a mo).ow, Value.int .i64 (chS 4 s a mo).sr, Value.bool (chS 4 s a mo).br, Value.bool (chS 4 s a mo).ma, Value.int .i64 (chS 4 s a mo).us, Value.int .i64 (chS 4 s a mo).ge, Value.int .i64 (chS 4 s a mo).ep, Value.int .i64 (chS 4 s a mo).ve], .bool (chB 4 s a mo)]) ∧ Below w.heap.size w w' := by
  cases h0 : (minB s a 3) with
  | true =>
    go_enter Tryd.func24, Tryd.ntmps24
    go_wp2_with fail
    have hB0 : Below w.heap.size w ((w.alloc (.cells #[Value.int .i64 s.st, Value.int .i64 s.ow, Value.int .i64 s.sr, Value.bool s.br, Value.bool s.ma, Value.int .i64 s.us, Value.int .i64 s.ge, Value.int .i64 s.ep, Value.int .i64 s.ve, Value.int .i64 a, Value.int .i64 mo] 39)).alloc (.cells #[Value.int .i64 0, Value.int .i64 0, Value.int .i64 0, Value.bool false, Value.bool false, Value.int .i64 0, Value.int .i64 0, Value.int .i64 0, Value.int .i64 0] 23)) := ((Below.refl _ _).alloc (Nat.le_refl _) _).alloc (by simp) _
    have r0 := (RowAt.new w 39 #[Value.int .i64 s.st, Value.int .i64 s.ow, Value.int .i64 s.sr, Value.bool s.br, Value.bool s.ma, Value.int .i64 s.us, Value.int .i64 s.ge, Value.int .i64 s.ep, Value.int .i64 s.ve, Value.int .i64 a, Value.int .i64 mo]).alloc (.cells #[Value.int .i64 0, Value.int .i64 0, Value.int .i64 0, Value.bool false, Value.bool false, Value.int .i64 0, Value.int .i64 0, Value.int .i64 0, Value.int .i64 0] 23)
    have r1 := new2 w (.cells #[Value.int .i64 s.st, Value.int .i64 s.ow, Value.int .i64 s.sr, Value.bool s.br, Value.bool s.ma, Value.int .i64 s.us, Value.int .i64 s.ge, Value.int .i64 s.ep, Value.int .i64 s.ve, Value.int .i64 a, Value.int .i64 mo] 39) 23 #[Value.int .i64 0, Value.int .i64 0, Value.int .i64 0, Value.bool false, Value.bool false, Value.int .i64 0, Value.int .i64 0, Value.int .i64 0, Value.int .i64 0]
    obtain ⟨W, hW⟩ : ∃ W, W = (w.alloc (.cells #[Value.int .i64 s.st, Value.int .i64 s.ow, Value.int .i64 s.sr, Value.bool s.br, Value.bool s.ma, Value.int .i64 s.us, Value.int .i64 s.ge, Value.int .i64 s.ep, Value.int .i64 s.ve, Value.int .i64 a, Value.int .i64 mo] 39)).alloc (.cells #[Value.int .i64 0, Value.int .i64 0, Value.int .i64 0, Value.bool false, Value.bool false, Value.int .i64 0, Value.int .i64 0, Value.int .i64 0, Value.int .i64 0] 23) := ⟨_, rfl⟩
    rw [← hW] at hB0 r0 r1 ⊢
    clear hW
    obtain ⟨B1, e1⟩ : ∃ B1, B1 = w.heap.size := ⟨_, rfl⟩
    have hle : w.heap.size ≤ B1 := by omega
    rw [← e1] at r0 r1 ⊢
    clear e1
    have hne : B1 ≠ B1 + 1 := by omega
    have q0 := r0.drew
    have p0 := r1.drew
    have hBd := hB0.drew
    clear hB0 r0 r1
    have c00 : W.drew.cell? ⟨B1, 0, none⟩ = some (Value.int .i64 s.st) := q0.cell 0 rfl
    have c01 : W.drew.cell? ⟨B1, 1, none⟩ = some (Value.int .i64 s.ow) := q0.cell 1 rfl
    have c02 : W.drew.cell? ⟨B1, 2, none⟩ = some (Value.int .i64 s.sr) := q0.cell 2 rfl
    have c03 : W.drew.cell? ⟨B1, 3, none⟩ = some (Value.bool s.br) := q0.cell 3 rfl
    have c04 : W.drew.cell? ⟨B1, 4, none⟩ = some (Value.bool s.ma) := q0.cell 4 rfl
    have c05 : W.drew.cell? ⟨B1, 5, none⟩ = some (Value.int .i64 s.us) := q0.cell 5 rfl
    have c06 : W.drew.cell? ⟨B1, 6, none⟩ = some (Value.int .i64 s.ge) := q0.cell 6 rfl
    have c07 : W.drew.cell? ⟨B1, 7, none⟩ = some (Value.int .i64 s.ep) := q0.cell 7 rfl
    have c08 : W.drew.cell? ⟨B1, 8, none⟩ = some (Value.int .i64 s.ve) := q0.cell 8 rfl
    have c09 : W.drew.cell? ⟨B1, 9, none⟩ = some (Value.int .i64 a) := q0.cell 9 rfl
    have c010 : W.drew.cell? ⟨B1, 10, none⟩ = some (Value.int .i64 mo) := q0.cell 10 rfl
    have d00 : W.drew.cell? ⟨B1 + 1, 0, none⟩ = some (Value.int .i64 0) := p0.cell 0 rfl
    have g00 : W.drew.frozen? ⟨B1 + 1, 0, none⟩ = false := p0.frozen 0
    have d01 : W.drew.cell? ⟨B1 + 1, 1, none⟩ = some (Value.int .i64 0) := p0.cell 1 rfl
    have g01 : W.drew.frozen? ⟨B1 + 1, 1, none⟩ = false := p0.frozen 1
    have d02 : W.drew.cell? ⟨B1 + 1, 2, none⟩ = some (Value.int .i64 0) := p0.cell 2 rfl
    have g02 : W.drew.frozen? ⟨B1 + 1, 2, none⟩ = false := p0.frozen 2
    have d03 : W.drew.cell? ⟨B1 + 1, 3, none⟩ = some (Value.bool false) := p0.cell 3 rfl
    have g03 : W.drew.frozen? ⟨B1 + 1, 3, none⟩ = false := p0.frozen 3
    have d04 : W.drew.cell? ⟨B1 + 1, 4, none⟩ = some (Value.bool false) := p0.cell 4 rfl
    have g04 : W.drew.frozen? ⟨B1 + 1, 4, none⟩ = false := p0.frozen 4
    have d05 : W.drew.cell? ⟨B1 + 1, 5, none⟩ = some (Value.int .i64 0) := p0.cell 5 rfl
    have g05 : W.drew.frozen? ⟨B1 + 1, 5, none⟩ = false := p0.frozen 5
    have d06 : W.drew.cell? ⟨B1 + 1, 6, none⟩ = some (Value.int .i64 0) := p0.cell 6 rfl
    have g06 : W.drew.frozen? ⟨B1 + 1, 6, none⟩ = false := p0.frozen 6
    have d07 : W.drew.cell? ⟨B1 + 1, 7, none⟩ = some (Value.int .i64 0) := p0.cell 7 rfl
    have g07 : W.drew.frozen? ⟨B1 + 1, 7, none⟩ = false := p0.frozen 7
    have d08 : W.drew.cell? ⟨B1 + 1, 8, none⟩ = some (Value.int .i64 0) := p0.cell 8 rfl
    have g08 : W.drew.frozen? ⟨B1 + 1, 8, none⟩ = false := p0.frozen 8
    refine wp_region_held_drew (S := (fun w' => w'.cell? ⟨B1, 0, none⟩ = some (Value.int .i64 s.st) ∧ w'.cell? ⟨B1, 1, none⟩ = some (Value.int .i64 s.ow) ∧ w'.cell? ⟨B1, 2, none⟩ = some (Value.int .i64 s.sr) ∧ w'.cell? ⟨B1, 3, none⟩ = some (Value.bool s.br) ∧ w'.cell? ⟨B1, 4, none⟩ = some (Value.bool s.ma) ∧ w'.cell? ⟨B1, 5, none⟩ = some (Value.int .i64 s.us) ∧ w'.cell? ⟨B1, 6, none⟩ = some (Value.int .i64 s.ge) ∧ w'.cell? ⟨B1, 7, none⟩ = some (Value.int .i64 s.ep) ∧ w'.cell? ⟨B1, 8, none⟩ = some (Value.int .i64 s.ve) ∧ w'.cell? ⟨B1, 9, none⟩ = some (Value.int .i64 a) ∧ w'.cell? ⟨B1, 10, none⟩ = some (Value.int .i64 mo))) (by kernel_rfl) ⟨c00, c01, c02, c03, c04, c05, c06, c07, c08, c09, c010⟩ (fun hS => ?_)
    generalize W.drew = WD at *
    refine wpAnyH_take (i := 0) (oi := { dst := some 4, op := Op.load 39 (Operand.tmp 1), type := 39, pos := "life.go:117", after := #[], guard := none }) (v := ?v0_1) rfl (by kernel_rfl) (by kernel_rfl) (by kernel_rfl) (fun _ _ _ h => h) (Or.inl ⟨by rfl, ?hy0_1⟩) hS ?rest0_1
    case hy0_1 =>
      intro w hSw
      (try dsimp only at hSw)
      go_simp
      try with_reducible rfl
    try simp only [Act.put, List.setIfInBounds_toArray, List.set_cons_zero, List.set_cons_succ]
    refine wpAnyH_take (i := 2) (oi := { dst := some 6, op := Op.load 39 (Operand.tmp 1), type := 39, pos := "life.go:117", after := #[], guard := none }) (v := ?v2_2) rfl (by kernel_rfl) (by kernel_rfl) (by kernel_rfl) (fun _ _ _ h => h) (Or.inl ⟨by rfl, ?hy2_2⟩) hS ?rest2_2
    case hy2_2 =>
      intro w hSw
      (try dsimp only at hSw)
      go_simp
      try with_reducible rfl
    try simp only [Act.put, List.setIfInBounds_toArray, List.set_cons_zero, List.set_cons_succ]
    refine wpAnyH_ready (rs := [1]) (by kernel_rfl) (by simp) ?_
    refine AllReadyH.cons (o := { dst := some 5, op := Op.call { callee := Callee.value (Operand.func 46), args := #[Operand.tmp 4, Operand.const (Value.int IntKind.i64 2)], argTypes := #[39, 3] }, type := 23, pos := "life.go:117", after := #[{ on := 0, ground := Ground.data }], guard := none }) rfl (fun K hK => ?_) AllReadyH.nil
    go_simp
    refine (become_any s a mo 2 _).mono ?_
    rintro e w1 ⟨rfl, hb1⟩
    have q1 := q0.below hb1 (by simpa using q0.lt)
    have p1 := p0.below hb1 (by simpa using p0.lt)
    have hB1 := hBd.trans (hb1.mono (by simpa using hBd.size))
    have c10 : w1.cell? ⟨B1, 0, none⟩ = some (Value.int .i64 s.st) := q1.cell 0 rfl
    have c11 : w1.cell? ⟨B1, 1, none⟩ = some (Value.int .i64 s.ow) := q1.cell 1 rfl
    have c12 : w1.cell? ⟨B1, 2, none⟩ = some (Value.int .i64 s.sr) := q1.cell 2 rfl
    have c13 : w1.cell? ⟨B1, 3, none⟩ = some (Value.bool s.br) := q1.cell 3 rfl
    have c14 : w1.cell? ⟨B1, 4, none⟩ = some (Value.bool s.ma) := q1.cell 4 rfl
    have c15 : w1.cell? ⟨B1, 5, none⟩ = some (Value.int .i64 s.us) := q1.cell 5 rfl
    have c16 : w1.cell? ⟨B1, 6, none⟩ = some (Value.int .i64 s.ge) := q1.cell 6 rfl
    have c17 : w1.cell? ⟨B1, 7, none⟩ = some (Value.int .i64 s.ep) := q1.cell 7 rfl
    have c18 : w1.cell? ⟨B1, 8, none⟩ = some (Value.int .i64 s.ve) := q1.cell 8 rfl
    have c19 : w1.cell? ⟨B1, 9, none⟩ = some (Value.int .i64 a) := q1.cell 9 rfl
    have c110 : w1.cell? ⟨B1, 10, none⟩ = some (Value.int .i64 mo) := q1.cell 10 rfl
    have d10 : w1.cell? ⟨B1 + 1, 0, none⟩ = some (Value.int .i64 0) := p1.cell 0 rfl
    have g10 : w1.frozen? ⟨B1 + 1, 0, none⟩ = false := p1.frozen 0
    have d11 : w1.cell? ⟨B1 + 1, 1, none⟩ = some (Value.int .i64 0) := p1.cell 1 rfl
    have g11 : w1.frozen? ⟨B1 + 1, 1, none⟩ = false := p1.frozen 1
    have d12 : w1.cell? ⟨B1 + 1, 2, none⟩ = some (Value.int .i64 0) := p1.cell 2 rfl
    have g12 : w1.frozen? ⟨B1 + 1, 2, none⟩ = false := p1.frozen 2
    have d13 : w1.cell? ⟨B1 + 1, 3, none⟩ = some (Value.bool false) := p1.cell 3 rfl
    have g13 : w1.frozen? ⟨B1 + 1, 3, none⟩ = false := p1.frozen 3
    have d14 : w1.cell? ⟨B1 + 1, 4, none⟩ = some (Value.bool false) := p1.cell 4 rfl
    have g14 : w1.frozen? ⟨B1 + 1, 4, none⟩ = false := p1.frozen 4
    have d15 : w1.cell? ⟨B1 + 1, 5, none⟩ = some (Value.int .i64 0) := p1.cell 5 rfl
    have g15 : w1.frozen? ⟨B1 + 1, 5, none⟩ = false := p1.frozen 5
    have d16 : w1.cell? ⟨B1 + 1, 6, none⟩ = some (Value.int .i64 0) := p1.cell 6 rfl
    have g16 : w1.frozen? ⟨B1 + 1, 6, none⟩ = false := p1.frozen 6
    have d17 : w1.cell? ⟨B1 + 1, 7, none⟩ = some (Value.int .i64 0) := p1.cell 7 rfl
    have g17 : w1.frozen? ⟨B1 + 1, 7, none⟩ = false := p1.frozen 7
    have d18 : w1.cell? ⟨B1 + 1, 8, none⟩ = some (Value.int .i64 0) := p1.cell 8 rfl
    have g18 : w1.frozen? ⟨B1 + 1, 8, none⟩ = false := p1.frozen 8
    refine hK.out _ _ ⟨c10, c11, c12, c13, c14, c15, c16, c17, c18, c19, c110⟩ (fun hS => ?_)
    clear hK K
    try simp only [Act.put, List.setIfInBounds_toArray, List.set_cons_zero, List.set_cons_succ]
    refine wpAnyH_ready (rs := [3]) (by kernel_rfl) (by simp) ?_
    refine AllReadyH.cons (o := { dst := some 7, op := Op.call { callee := Callee.value (Operand.func 48), args := #[Operand.tmp 6, Operand.const (Value.int IntKind.i64 3)], argTypes := #[39, 3] }, type := 4, pos := "life.go:117", after := #[{ on := 2, ground := Ground.data }, { on := 1, ground := Ground.chain }], guard := none }) rfl (fun K hK => ?_) AllReadyH.nil
    go_simp
    refine (mine_is s a mo 3 _ _ h0).mono ?_
    rintro e w2 ⟨rfl, hb2⟩
    have q2 := q1.below hb2 (by simpa using q1.lt)
    have p2 := p1.below hb2 (by simpa using p1.lt)
    have hB2 := hB1.trans (hb2.mono (by simpa using hB1.size))
    have c20 : w2.cell? ⟨B1, 0, none⟩ = some (Value.int .i64 s.st) := q2.cell 0 rfl
    have c21 : w2.cell? ⟨B1, 1, none⟩ = some (Value.int .i64 s.ow) := q2.cell 1 rfl
    have c22 : w2.cell? ⟨B1, 2, none⟩ = some (Value.int .i64 s.sr) := q2.cell 2 rfl
    have c23 : w2.cell? ⟨B1, 3, none⟩ = some (Value.bool s.br) := q2.cell 3 rfl
    have c24 : w2.cell? ⟨B1, 4, none⟩ = some (Value.bool s.ma) := q2.cell 4 rfl
    have c25 : w2.cell? ⟨B1, 5, none⟩ = some (Value.int .i64 s.us) := q2.cell 5 rfl
    have c26 : w2.cell? ⟨B1, 6, none⟩ = some (Value.int .i64 s.ge) := q2.cell 6 rfl
    have c27 : w2.cell? ⟨B1, 7, none⟩ = some (Value.int .i64 s.ep) := q2.cell 7 rfl
    have c28 : w2.cell? ⟨B1, 8, none⟩ = some (Value.int .i64 s.ve) := q2.cell 8 rfl
    have c29 : w2.cell? ⟨B1, 9, none⟩ = some (Value.int .i64 a) := q2.cell 9 rfl
    have c210 : w2.cell? ⟨B1, 10, none⟩ = some (Value.int .i64 mo) := q2.cell 10 rfl
    have d20 : w2.cell? ⟨B1 + 1, 0, none⟩ = some (Value.int .i64 0) := p2.cell 0 rfl
    have g20 : w2.frozen? ⟨B1 + 1, 0, none⟩ = false := p2.frozen 0
    have d21 : w2.cell? ⟨B1 + 1, 1, none⟩ = some (Value.int .i64 0) := p2.cell 1 rfl
    have g21 : w2.frozen? ⟨B1 + 1, 1, none⟩ = false := p2.frozen 1
    have d22 : w2.cell? ⟨B1 + 1, 2, none⟩ = some (Value.int .i64 0) := p2.cell 2 rfl
    have g22 : w2.frozen? ⟨B1 + 1, 2, none⟩ = false := p2.frozen 2
    have d23 : w2.cell? ⟨B1 + 1, 3, none⟩ = some (Value.bool false) := p2.cell 3 rfl
    have g23 : w2.frozen? ⟨B1 + 1, 3, none⟩ = false := p2.frozen 3
    have d24 : w2.cell? ⟨B1 + 1, 4, none⟩ = some (Value.bool false) := p2.cell 4 rfl
    have g24 : w2.frozen? ⟨B1 + 1, 4, none⟩ = false := p2.frozen 4
    have d25 : w2.cell? ⟨B1 + 1, 5, none⟩ = some (Value.int .i64 0) := p2.cell 5 rfl
    have g25 : w2.frozen? ⟨B1 + 1, 5, none⟩ = false := p2.frozen 5
    have d26 : w2.cell? ⟨B1 + 1, 6, none⟩ = some (Value.int .i64 0) := p2.cell 6 rfl
    have g26 : w2.frozen? ⟨B1 + 1, 6, none⟩ = false := p2.frozen 6
    have d27 : w2.cell? ⟨B1 + 1, 7, none⟩ = some (Value.int .i64 0) := p2.cell 7 rfl
    have g27 : w2.frozen? ⟨B1 + 1, 7, none⟩ = false := p2.frozen 7
    have d28 : w2.cell? ⟨B1 + 1, 8, none⟩ = some (Value.int .i64 0) := p2.cell 8 rfl
    have g28 : w2.frozen? ⟨B1 + 1, 8, none⟩ = false := p2.frozen 8
    refine hK.out _ _ ⟨c20, c21, c22, c23, c24, c25, c26, c27, c28, c29, c210⟩ (fun hS => ?_)
    clear hK K
    try simp only [Act.put, List.setIfInBounds_toArray, List.set_cons_zero, List.set_cons_succ]
    refine wpAnyH_take (i := 4) (oi := { dst := some 8, op := Op.move (Operand.tmp 7), type := 4, pos := "life.go:117", after := #[{ on := 3, ground := Ground.data }, { on := 3, ground := Ground.chain }], guard := none }) (v := ?v4_3) rfl (by kernel_rfl) (by kernel_rfl) (by kernel_rfl) (fun _ _ _ h => h) (Or.inl ⟨by rfl, ?hy4_3⟩) hS ?rest4_3
    case hy4_3 =>
      intro w hSw
      (try dsimp only at hSw)
      go_simp
      try with_reducible rfl
    try simp only [Act.put, List.setIfInBounds_toArray, List.set_cons_zero, List.set_cons_succ]
    refine wpAnyH_take (i := 5) (oi := { dst := some 9, op := Op.fieldAddr 39 (Operand.tmp 1) 0, type := 0, pos := "life.go:117", after := #[{ on := 4, ground := Ground.guard }, { on := 10, ground := Ground.gcOnly Departure.lateStores }], guard := some (4, true) }) (v := ?v5_4) rfl (by kernel_rfl) (by kernel_rfl) (by kernel_rfl) (fun _ _ _ h => h) (Or.inl ⟨by rfl, ?hy5_4⟩) hS ?rest5_4
    case hy5_4 =>
      intro w hSw
      (try dsimp only at hSw)
      go_simp
      try with_reducible rfl
    try simp only [Act.put, List.setIfInBounds_toArray, List.set_cons_zero, List.set_cons_succ]
    refine wpAnyH_take (i := 6) (oi := { dst := some 10, op := Op.fieldAddr 23 (Operand.tmp 9) 2, type := 0, pos := "life.go:117", after := #[{ on := 5, ground := Ground.data }, { on := 4, ground := Ground.guard }, { on := 10, ground := Ground.gcOnly Departure.lateStores }], guard := some (4, true) }) (v := ?v6_5) rfl (by kernel_rfl) (by kernel_rfl) (by kernel_rfl) (fun _ _ _ h => h) (Or.inl ⟨by rfl, ?hy6_5⟩) hS ?rest6_5
    case hy6_5 =>
      intro w hSw
      (try dsimp only at hSw)
      go_simp
      try with_reducible rfl
    try simp only [Act.put, List.setIfInBounds_toArray, List.set_cons_zero, List.set_cons_succ]
    refine wpAnyH_take (i := 7) (oi := { dst := some 11, op := Op.load 3 (Operand.tmp 10), type := 3, pos := "life.go:117", after := #[{ on := 6, ground := Ground.data }, { on := 4, ground := Ground.guard }, { on := 10, ground := Ground.gcOnly Departure.lateStores }], guard := some (4, true) }) (v := ?v7_6) rfl (by kernel_rfl) (by kernel_rfl) (by kernel_rfl) (fun _ _ _ h => h) (Or.inl ⟨by rfl, ?hy7_6⟩) hS ?rest7_6
    case hy7_6 =>
      intro w hSw
      (try dsimp only at hSw)
      go_simp
      try with_reducible rfl
    try simp only [Act.put, List.setIfInBounds_toArray, List.set_cons_zero, List.set_cons_succ]
    refine wpAnyH_take (i := 8) (oi := { dst := some 12, op := Op.binOp BinOp.eql 3 (Operand.tmp 11) (Operand.const (Value.int IntKind.i64 0)) 3, type := 4, pos := "life.go:117", after := #[{ on := 7, ground := Ground.data }, { on := 4, ground := Ground.guard }, { on := 10, ground := Ground.gcOnly Departure.lateStores }], guard := some (4, true) }) (v := ?v8_7) rfl (by kernel_rfl) (by kernel_rfl) (by kernel_rfl) (fun _ _ _ h => h) (Or.inl ⟨by rfl, ?hy8_7⟩) hS ?rest8_7
    case hy8_7 =>
      intro w hSw
      (try dsimp only at hSw)
      go_simp
      try with_reducible rfl
    try simp only [Act.put, List.setIfInBounds_toArray, List.set_cons_zero, List.set_cons_succ]
    refine wpAnyH_take (i := 9) (oi := { dst := some 13, op := Op.pick (Operand.tmp 8) (Operand.tmp 12) (Operand.const (Value.bool false)), type := 4, pos := "life.go:117", after := #[{ on := 4, ground := Ground.data }, { on := 8, ground := Ground.data }, { on := 10, ground := Ground.gcOnly Departure.lateStores }], guard := none }) (v := ?v9_8) rfl (by kernel_rfl) (by kernel_rfl) (by kernel_rfl) (fun _ _ _ h => h) (Or.inl ⟨by rfl, ?hy9_8⟩) hS ?rest9_8
    case hy9_8 =>
      intro w hSw
      (try dsimp only at hSw)
      go_simp
      try with_reducible rfl
    try simp only [Act.put, List.setIfInBounds_toArray, List.set_cons_zero, List.set_cons_succ]
    refine wpAnyH_ready (rs := [10]) (by kernel_rfl) (by simp) ?_
    refine AllReadyH.cons (o := { dst := none, op := Op.store 23 (Operand.tmp 2) (Operand.tmp 5), type := 0, pos := "life.go:117", after := #[{ on := 1, ground := Ground.data }, { on := 4, ground := Ground.chain }, { on := 0, ground := Ground.phase }, { on := 1, ground := Ground.phase }, { on := 2, ground := Ground.textOnly Departure.lateStores }, { on := 3, ground := Ground.textOnly Departure.lateStoresUnsure }, { on := 4, ground := Ground.textOnly Departure.lateStores }, { on := 5, ground := Ground.textOnly Departure.lateStores }, { on := 6, ground := Ground.textOnly Departure.lateStores }, { on := 7, ground := Ground.textOnly Departure.lateStores }, { on := 8, ground := Ground.textOnly Departure.lateStores }, { on := 9, ground := Ground.textOnly Departure.lateStores }], guard := none }) rfl (fun K hK => ?_) AllReadyH.nil
    go_simp
    refine hK.out _ _ (by (try dsimp only); go_keep) (fun hS => ?_)
    clear hK K
    try simp only [Act.put, List.setIfInBounds_toArray, List.set_cons_zero, List.set_cons_succ]
    refine wpAnyH_take (i := 11) (oi := { dst := some 3, op := Op.assign (Operand.tmp 13), type := 4, pos := "life.go:117", after := #[{ on := 9, ground := Ground.data }, { on := 10, ground := Ground.chain }, { on := 0, ground := Ground.phase }, { on := 1, ground := Ground.phase }, { on := 2, ground := Ground.phase }, { on := 3, ground := Ground.phase }, { on := 4, ground := Ground.phase }, { on := 5, ground := Ground.phase }, { on := 6, ground := Ground.phase }, { on := 7, ground := Ground.phase }, { on := 8, ground := Ground.phase }, { on := 9, ground := Ground.phase }, { on := 10, ground := Ground.phase }], guard := none }) (v := ?v11_9) rfl (by kernel_rfl) (by kernel_rfl) (by kernel_rfl) (fun _ _ _ h => h) (Or.inl ⟨by rfl, ?hy11_9⟩) hS ?rest11_9
    case hy11_9 =>
      intro w hSw
      (try dsimp only at hSw)
      go_simp
      try with_reducible rfl
    try simp only [Act.put, List.setIfInBounds_toArray, List.set_cons_zero, List.set_cons_succ]
    refine wpAnyH_done (by kernel_rfl) ?_ _
    have rz := row9 p2 (Value.int .i64 (s.becm a 2).st) (Value.int .i64 (s.becm a 2).ow) (Value.int .i64 (s.becm a 2).sr) (Value.bool (s.becm a 2).br) (Value.bool (s.becm a 2).ma) (Value.int .i64 (s.becm a 2).us) (Value.int .i64 (s.becm a 2).ge) (Value.int .i64 (s.becm a 2).ep) (Value.int .i64 (s.becm a 2).ve)
    have hz := below9 (n := w.heap.size) (A := w) (b := B1 + 1) hB2 (by omega) (Value.int .i64 (s.becm a 2).st) (Value.int .i64 (s.becm a 2).ow) (Value.int .i64 (s.becm a 2).sr) (Value.bool (s.becm a 2).br) (Value.bool (s.becm a 2).ma) (Value.int .i64 (s.becm a 2).us) (Value.int .i64 (s.becm a 2).ge) (Value.int .i64 (s.becm a 2).ep) (Value.int .i64 (s.becm a 2).ve)
    go_wp2
    refine bodyPost_ret (res_pair (p := 2) (u := 3) rfl _ _ _ _ rfl rz rfl) rfl ⟨ret_pair (by simp [chB, *]), hz⟩
  | false =>
    go_enter Tryd.func24, Tryd.ntmps24
    go_wp2_with fail
    have hB0 : Below w.heap.size w ((w.alloc (.cells #[Value.int .i64 s.st, Value.int .i64 s.ow, Value.int .i64 s.sr, Value.bool s.br, Value.bool s.ma, Value.int .i64 s.us, Value.int .i64 s.ge, Value.int .i64 s.ep, Value.int .i64 s.ve, Value.int .i64 a, Value.int .i64 mo] 39)).alloc (.cells #[Value.int .i64 0, Value.int .i64 0, Value.int .i64 0, Value.bool false, Value.bool false, Value.int .i64 0, Value.int .i64 0, Value.int .i64 0, Value.int .i64 0] 23)) := ((Below.refl _ _).alloc (Nat.le_refl _) _).alloc (by simp) _
    have r0 := (RowAt.new w 39 #[Value.int .i64 s.st, Value.int .i64 s.ow, Value.int .i64 s.sr, Value.bool s.br, Value.bool s.ma, Value.int .i64 s.us, Value.int .i64 s.ge, Value.int .i64 s.ep, Value.int .i64 s.ve, Value.int .i64 a, Value.int .i64 mo]).alloc (.cells #[Value.int .i64 0, Value.int .i64 0, Value.int .i64 0, Value.bool false, Value.bool false, Value.int .i64 0, Value.int .i64 0, Value.int .i64 0, Value.int .i64 0] 23)
    have r1 := new2 w (.cells #[Value.int .i64 s.st, Value.int .i64 s.ow, Value.int .i64 s.sr, Value.bool s.br, Value.bool s.ma, Value.int .i64 s.us, Value.int .i64 s.ge, Value.int .i64 s.ep, Value.int .i64 s.ve, Value.int .i64 a, Value.int .i64 mo] 39) 23 #[Value.int .i64 0, Value.int .i64 0, Value.int .i64 0, Value.bool false, Value.bool false, Value.int .i64 0, Value.int .i64 0, Value.int .i64 0, Value.int .i64 0]
    obtain ⟨W, hW⟩ : ∃ W, W = (w.alloc (.cells #[Value.int .i64 s.st, Value.int .i64 s.ow, Value.int .i64 s.sr, Value.bool s.br, Value.bool s.ma, Value.int .i64 s.us, Value.int .i64 s.ge, Value.int .i64 s.ep, Value.int .i64 s.ve, Value.int .i64 a, Value.int .i64 mo] 39)).alloc (.cells #[Value.int .i64 0, Value.int .i64 0, Value.int .i64 0, Value.bool false, Value.bool false, Value.int .i64 0, Value.int .i64 0, Value.int .i64 0, Value.int .i64 0] 23) := ⟨_, rfl⟩
    rw [← hW] at hB0 r0 r1 ⊢
    clear hW
    obtain ⟨B1, e1⟩ : ∃ B1, B1 = w.heap.size := ⟨_, rfl⟩
    have hle : w.heap.size ≤ B1 := by omega
    rw [← e1] at r0 r1 ⊢
    clear e1
    have hne : B1 ≠ B1 + 1 := by omega
    have q0 := r0.drew
    have p0 := r1.drew
    have hBd := hB0.drew
    clear hB0 r0 r1
    have c00 : W.drew.cell? ⟨B1, 0, none⟩ = some (Value.int .i64 s.st) := q0.cell 0 rfl
    have c01 : W.drew.cell? ⟨B1, 1, none⟩ = some (Value.int .i64 s.ow) := q0.cell 1 rfl
    have c02 : W.drew.cell? ⟨B1, 2, none⟩ = some (Value.int .i64 s.sr) := q0.cell 2 rfl
    have c03 : W.drew.cell? ⟨B1, 3, none⟩ = some (Value.bool s.br) := q0.cell 3 rfl
    have c04 : W.drew.cell? ⟨B1, 4, none⟩ = some (Value.bool s.ma) := q0.cell 4 rfl
    have c05 : W.drew.cell? ⟨B1, 5, none⟩ = some (Value.int .i64 s.us) := q0.cell 5 rfl
    have c06 : W.drew.cell? ⟨B1, 6, none⟩ = some (Value.int .i64 s.ge) := q0.cell 6 rfl
    have c07 : W.drew.cell? ⟨B1, 7, none⟩ = some (Value.int .i64 s.ep) := q0.cell 7 rfl
    have c08 : W.drew.cell? ⟨B1, 8, none⟩ = some (Value.int .i64 s.ve) := q0.cell 8 rfl
    have c09 : W.drew.cell? ⟨B1, 9, none⟩ = some (Value.int .i64 a) := q0.cell 9 rfl
    have c010 : W.drew.cell? ⟨B1, 10, none⟩ = some (Value.int .i64 mo) := q0.cell 10 rfl
    have d00 : W.drew.cell? ⟨B1 + 1, 0, none⟩ = some (Value.int .i64 0) := p0.cell 0 rfl
    have g00 : W.drew.frozen? ⟨B1 + 1, 0, none⟩ = false := p0.frozen 0
    have d01 : W.drew.cell? ⟨B1 + 1, 1, none⟩ = some (Value.int .i64 0) := p0.cell 1 rfl
    have g01 : W.drew.frozen? ⟨B1 + 1, 1, none⟩ = false := p0.frozen 1
    have d02 : W.drew.cell? ⟨B1 + 1, 2, none⟩ = some (Value.int .i64 0) := p0.cell 2 rfl
    have g02 : W.drew.frozen? ⟨B1 + 1, 2, none⟩ = false := p0.frozen 2
    have d03 : W.drew.cell? ⟨B1 + 1, 3, none⟩ = some (Value.bool false) := p0.cell 3 rfl
    have g03 : W.drew.frozen? ⟨B1 + 1, 3, none⟩ = false := p0.frozen 3
    have d04 : W.drew.cell? ⟨B1 + 1, 4, none⟩ = some (Value.bool false) := p0.cell 4 rfl
    have g04 : W.drew.frozen? ⟨B1 + 1, 4, none⟩ = false := p0.frozen 4
    have d05 : W.drew.cell? ⟨B1 + 1, 5, none⟩ = some (Value.int .i64 0) := p0.cell 5 rfl
    have g05 : W.drew.frozen? ⟨B1 + 1, 5, none⟩ = false := p0.frozen 5
    have d06 : W.drew.cell? ⟨B1 + 1, 6, none⟩ = some (Value.int .i64 0) := p0.cell 6 rfl
    have g06 : W.drew.frozen? ⟨B1 + 1, 6, none⟩ = false := p0.frozen 6
    have d07 : W.drew.cell? ⟨B1 + 1, 7, none⟩ = some (Value.int .i64 0) := p0.cell 7 rfl
    have g07 : W.drew.frozen? ⟨B1 + 1, 7, none⟩ = false := p0.frozen 7
    have d08 : W.drew.cell? ⟨B1 + 1, 8, none⟩ = some (Value.int .i64 0) := p0.cell 8 rfl
    have g08 : W.drew.frozen? ⟨B1 + 1, 8, none⟩ = false := p0.frozen 8
    refine wp_region_held_drew (S := (fun w' => w'.cell? ⟨B1, 0, none⟩ = some (Value.int .i64 s.st) ∧ w'.cell? ⟨B1, 1, none⟩ = some (Value.int .i64 s.ow) ∧ w'.cell? ⟨B1, 2, none⟩ = some (Value.int .i64 s.sr) ∧ w'.cell? ⟨B1, 3, none⟩ = some (Value.bool s.br) ∧ w'.cell? ⟨B1, 4, none⟩ = some (Value.bool s.ma) ∧ w'.cell? ⟨B1, 5, none⟩ = some (Value.int .i64 s.us) ∧ w'.cell? ⟨B1, 6, none⟩ = some (Value.int .i64 s.ge) ∧ w'.cell? ⟨B1, 7, none⟩ = some (Value.int .i64 s.ep) ∧ w'.cell? ⟨B1, 8, none⟩ = some (Value.int .i64 s.ve) ∧ w'.cell? ⟨B1, 9, none⟩ = some (Value.int .i64 a) ∧ w'.cell? ⟨B1, 10, none⟩ = some (Value.int .i64 mo))) (by kernel_rfl) ⟨c00, c01, c02, c03, c04, c05, c06, c07, c08, c09, c010⟩ (fun hS => ?_)
    generalize W.drew = WD at *
    refine wpAnyH_take (i := 0) (oi := { dst := some 4, op := Op.load 39 (Operand.tmp 1), type := 39, pos := "life.go:117", after := #[], guard := none }) (v := ?v0_10) rfl (by kernel_rfl) (by kernel_rfl) (by kernel_rfl) (fun _ _ _ h => h) (Or.inl ⟨by rfl, ?hy0_10⟩) hS ?rest0_10
    case hy0_10 =>
      intro w hSw
      (try dsimp only at hSw)
      go_simp
      try with_reducible rfl
    try simp only [Act.put, List.setIfInBounds_toArray, List.set_cons_zero, List.set_cons_succ]
    refine wpAnyH_take (i := 2) (oi := { dst := some 6, op := Op.load 39 (Operand.tmp 1), type := 39, pos := "life.go:117", after := #[], guard := none }) (v := ?v2_11) rfl (by kernel_rfl) (by kernel_rfl) (by kernel_rfl) (fun _ _ _ h => h) (Or.inl ⟨by rfl, ?hy2_11⟩) hS ?rest2_11
    case hy2_11 =>
      intro w hSw
      (try dsimp only at hSw)
      go_simp
      try with_reducible rfl
    try simp only [Act.put, List.setIfInBounds_toArray, List.set_cons_zero, List.set_cons_succ]
    refine wpAnyH_ready (rs := [1]) (by kernel_rfl) (by simp) ?_
    refine AllReadyH.cons (o := { dst := some 5, op := Op.call { callee := Callee.value (Operand.func 46), args := #[Operand.tmp 4, Operand.const (Value.int IntKind.i64 2)], argTypes := #[39, 3] }, type := 23, pos := "life.go:117", after := #[{ on := 0, ground := Ground.data }], guard := none }) rfl (fun K hK => ?_) AllReadyH.nil
    go_simp
    refine (become_any s a mo 2 _).mono ?_
    rintro e w1 ⟨rfl, hb1⟩
    have q1 := q0.below hb1 (by simpa using q0.lt)
    have p1 := p0.below hb1 (by simpa using p0.lt)
    have hB1 := hBd.trans (hb1.mono (by simpa using hBd.size))
    have c10 : w1.cell? ⟨B1, 0, none⟩ = some (Value.int .i64 s.st) := q1.cell 0 rfl
    have c11 : w1.cell? ⟨B1, 1, none⟩ = some (Value.int .i64 s.ow) := q1.cell 1 rfl
    have c12 : w1.cell? ⟨B1, 2, none⟩ = some (Value.int .i64 s.sr) := q1.cell 2 rfl
    have c13 : w1.cell? ⟨B1, 3, none⟩ = some (Value.bool s.br) := q1.cell 3 rfl
    have c14 : w1.cell? ⟨B1, 4, none⟩ = some (Value.bool s.ma) := q1.cell 4 rfl
    have c15 : w1.cell? ⟨B1, 5, none⟩ = some (Value.int .i64 s.us) := q1.cell 5 rfl
    have c16 : w1.cell? ⟨B1, 6, none⟩ = some (Value.int .i64 s.ge) := q1.cell 6 rfl
    have c17 : w1.cell? ⟨B1, 7, none⟩ = some (Value.int .i64 s.ep) := q1.cell 7 rfl
    have c18 : w1.cell? ⟨B1, 8, none⟩ = some (Value.int .i64 s.ve) := q1.cell 8 rfl
    have c19 : w1.cell? ⟨B1, 9, none⟩ = some (Value.int .i64 a) := q1.cell 9 rfl
    have c110 : w1.cell? ⟨B1, 10, none⟩ = some (Value.int .i64 mo) := q1.cell 10 rfl
    have d10 : w1.cell? ⟨B1 + 1, 0, none⟩ = some (Value.int .i64 0) := p1.cell 0 rfl
    have g10 : w1.frozen? ⟨B1 + 1, 0, none⟩ = false := p1.frozen 0
    have d11 : w1.cell? ⟨B1 + 1, 1, none⟩ = some (Value.int .i64 0) := p1.cell 1 rfl
    have g11 : w1.frozen? ⟨B1 + 1, 1, none⟩ = false := p1.frozen 1
    have d12 : w1.cell? ⟨B1 + 1, 2, none⟩ = some (Value.int .i64 0) := p1.cell 2 rfl
    have g12 : w1.frozen? ⟨B1 + 1, 2, none⟩ = false := p1.frozen 2
    have d13 : w1.cell? ⟨B1 + 1, 3, none⟩ = some (Value.bool false) := p1.cell 3 rfl
    have g13 : w1.frozen? ⟨B1 + 1, 3, none⟩ = false := p1.frozen 3
    have d14 : w1.cell? ⟨B1 + 1, 4, none⟩ = some (Value.bool false) := p1.cell 4 rfl
    have g14 : w1.frozen? ⟨B1 + 1, 4, none⟩ = false := p1.frozen 4
    have d15 : w1.cell? ⟨B1 + 1, 5, none⟩ = some (Value.int .i64 0) := p1.cell 5 rfl
    have g15 : w1.frozen? ⟨B1 + 1, 5, none⟩ = false := p1.frozen 5
    have d16 : w1.cell? ⟨B1 + 1, 6, none⟩ = some (Value.int .i64 0) := p1.cell 6 rfl
    have g16 : w1.frozen? ⟨B1 + 1, 6, none⟩ = false := p1.frozen 6
    have d17 : w1.cell? ⟨B1 + 1, 7, none⟩ = some (Value.int .i64 0) := p1.cell 7 rfl
    have g17 : w1.frozen? ⟨B1 + 1, 7, none⟩ = false := p1.frozen 7
    have d18 : w1.cell? ⟨B1 + 1, 8, none⟩ = some (Value.int .i64 0) := p1.cell 8 rfl
    have g18 : w1.frozen? ⟨B1 + 1, 8, none⟩ = false := p1.frozen 8
    refine hK.out _ _ ⟨c10, c11, c12, c13, c14, c15, c16, c17, c18, c19, c110⟩ (fun hS => ?_)
    clear hK K
    try simp only [Act.put, List.setIfInBounds_toArray, List.set_cons_zero, List.set_cons_succ]
    refine wpAnyH_ready (rs := [3]) (by kernel_rfl) (by simp) ?_
    refine AllReadyH.cons (o := { dst := some 7, op := Op.call { callee := Callee.value (Operand.func 48), args := #[Operand.tmp 6, Operand.const (Value.int IntKind.i64 3)], argTypes := #[39, 3] }, type := 4, pos := "life.go:117", after := #[{ on := 2, ground := Ground.data }, { on := 1, ground := Ground.chain }], guard := none }) rfl (fun K hK => ?_) AllReadyH.nil
    go_simp
    refine (mine_is s a mo 3 _ _ h0).mono ?_
    rintro e w2 ⟨rfl, hb2⟩
    have q2 := q1.below hb2 (by simpa using q1.lt)
    have p2 := p1.below hb2 (by simpa using p1.lt)
    have hB2 := hB1.trans (hb2.mono (by simpa using hB1.size))
    have c20 : w2.cell? ⟨B1, 0, none⟩ = some (Value.int .i64 s.st) := q2.cell 0 rfl
    have c21 : w2.cell? ⟨B1, 1, none⟩ = some (Value.int .i64 s.ow) := q2.cell 1 rfl
    have c22 : w2.cell? ⟨B1, 2, none⟩ = some (Value.int .i64 s.sr) := q2.cell 2 rfl
    have c23 : w2.cell? ⟨B1, 3, none⟩ = some (Value.bool s.br) := q2.cell 3 rfl
    have c24 : w2.cell? ⟨B1, 4, none⟩ = some (Value.bool s.ma) := q2.cell 4 rfl
    have c25 : w2.cell? ⟨B1, 5, none⟩ = some (Value.int .i64 s.us) := q2.cell 5 rfl
    have c26 : w2.cell? ⟨B1, 6, none⟩ = some (Value.int .i64 s.ge) := q2.cell 6 rfl
    have c27 : w2.cell? ⟨B1, 7, none⟩ = some (Value.int .i64 s.ep) := q2.cell 7 rfl
    have c28 : w2.cell? ⟨B1, 8, none⟩ = some (Value.int .i64 s.ve) := q2.cell 8 rfl
    have c29 : w2.cell? ⟨B1, 9, none⟩ = some (Value.int .i64 a) := q2.cell 9 rfl
    have c210 : w2.cell? ⟨B1, 10, none⟩ = some (Value.int .i64 mo) := q2.cell 10 rfl
    have d20 : w2.cell? ⟨B1 + 1, 0, none⟩ = some (Value.int .i64 0) := p2.cell 0 rfl
    have g20 : w2.frozen? ⟨B1 + 1, 0, none⟩ = false := p2.frozen 0
    have d21 : w2.cell? ⟨B1 + 1, 1, none⟩ = some (Value.int .i64 0) := p2.cell 1 rfl
    have g21 : w2.frozen? ⟨B1 + 1, 1, none⟩ = false := p2.frozen 1
    have d22 : w2.cell? ⟨B1 + 1, 2, none⟩ = some (Value.int .i64 0) := p2.cell 2 rfl
    have g22 : w2.frozen? ⟨B1 + 1, 2, none⟩ = false := p2.frozen 2
    have d23 : w2.cell? ⟨B1 + 1, 3, none⟩ = some (Value.bool false) := p2.cell 3 rfl
    have g23 : w2.frozen? ⟨B1 + 1, 3, none⟩ = false := p2.frozen 3
    have d24 : w2.cell? ⟨B1 + 1, 4, none⟩ = some (Value.bool false) := p2.cell 4 rfl
    have g24 : w2.frozen? ⟨B1 + 1, 4, none⟩ = false := p2.frozen 4
    have d25 : w2.cell? ⟨B1 + 1, 5, none⟩ = some (Value.int .i64 0) := p2.cell 5 rfl
    have g25 : w2.frozen? ⟨B1 + 1, 5, none⟩ = false := p2.frozen 5
    have d26 : w2.cell? ⟨B1 + 1, 6, none⟩ = some (Value.int .i64 0) := p2.cell 6 rfl
    have g26 : w2.frozen? ⟨B1 + 1, 6, none⟩ = false := p2.frozen 6
    have d27 : w2.cell? ⟨B1 + 1, 7, none⟩ = some (Value.int .i64 0) := p2.cell 7 rfl
    have g27 : w2.frozen? ⟨B1 + 1, 7, none⟩ = false := p2.frozen 7
    have d28 : w2.cell? ⟨B1 + 1, 8, none⟩ = some (Value.int .i64 0) := p2.cell 8 rfl
    have g28 : w2.frozen? ⟨B1 + 1, 8, none⟩ = false := p2.frozen 8
    refine hK.out _ _ ⟨c20, c21, c22, c23, c24, c25, c26, c27, c28, c29, c210⟩ (fun hS => ?_)
    clear hK K
    try simp only [Act.put, List.setIfInBounds_toArray, List.set_cons_zero, List.set_cons_succ]
    refine wpAnyH_take (i := 4) (oi := { dst := some 8, op := Op.move (Operand.tmp 7), type := 4, pos := "life.go:117", after := #[{ on := 3, ground := Ground.data }, { on := 3, ground := Ground.chain }], guard := none }) (v := ?v4_12) rfl (by kernel_rfl) (by kernel_rfl) (by kernel_rfl) (fun _ _ _ h => h) (Or.inl ⟨by rfl, ?hy4_12⟩) hS ?rest4_12
    case hy4_12 =>
      intro w hSw
      (try dsimp only at hSw)
      go_simp
      try with_reducible rfl
    try simp only [Act.put, List.setIfInBounds_toArray, List.set_cons_zero, List.set_cons_succ]
    refine wpAnyH_take (i := 5) (oi := { dst := some 9, op := Op.fieldAddr 39 (Operand.tmp 1) 0, type := 0, pos := "life.go:117", after := #[{ on := 4, ground := Ground.guard }, { on := 10, ground := Ground.gcOnly Departure.lateStores }], guard := some (4, true) }) (v := undef) rfl (by kernel_rfl) (by kernel_rfl) (by kernel_rfl) (fun _ _ _ h => h) (Or.inr ⟨by rfl, rfl⟩) hS ?_
    try simp only [Act.put, List.setIfInBounds_toArray, List.set_cons_zero, List.set_cons_succ]
    refine wpAnyH_take (i := 6) (oi := { dst := some 10, op := Op.fieldAddr 23 (Operand.tmp 9) 2, type := 0, pos := "life.go:117", after := #[{ on := 5, ground := Ground.data }, { on := 4, ground := Ground.guard }, { on := 10, ground := Ground.gcOnly Departure.lateStores }], guard := some (4, true) }) (v := undef) rfl (by kernel_rfl) (by kernel_rfl) (by kernel_rfl) (fun _ _ _ h => h) (Or.inr ⟨by rfl, rfl⟩) hS ?_
    try simp only [Act.put, List.setIfInBounds_toArray, List.set_cons_zero, List.set_cons_succ]
    refine wpAnyH_take (i := 7) (oi := { dst := some 11, op := Op.load 3 (Operand.tmp 10), type := 3, pos := "life.go:117", after := #[{ on := 6, ground := Ground.data }, { on := 4, ground := Ground.guard }, { on := 10, ground := Ground.gcOnly Departure.lateStores }], guard := some (4, true) }) (v := undef) rfl (by kernel_rfl) (by kernel_rfl) (by kernel_rfl) (fun _ _ _ h => h) (Or.inr ⟨by rfl, rfl⟩) hS ?_
    try simp only [Act.put, List.setIfInBounds_toArray, List.set_cons_zero, List.set_cons_succ]
    refine wpAnyH_take (i := 8) (oi := { dst := some 12, op := Op.binOp BinOp.eql 3 (Operand.tmp 11) (Operand.const (Value.int IntKind.i64 0)) 3, type := 4, pos := "life.go:117", after := #[{ on := 7, ground := Ground.data }, { on := 4, ground := Ground.guard }, { on := 10, ground := Ground.gcOnly Departure.lateStores }], guard := some (4, true) }) (v := undef) rfl (by kernel_rfl) (by kernel_rfl) (by kernel_rfl) (fun _ _ _ h => h) (Or.inr ⟨by rfl, rfl⟩) hS ?_
    try simp only [Act.put, List.setIfInBounds_toArray, List.set_cons_zero, List.set_cons_succ]
    refine wpAnyH_take (i := 9) (oi := { dst := some 13, op := Op.pick (Operand.tmp 8) (Operand.tmp 12) (Operand.const (Value.bool false)), type := 4, pos := "life.go:117", after := #[{ on := 4, ground := Ground.data }, { on := 8, ground := Ground.data }, { on := 10, ground := Ground.gcOnly Departure.lateStores }], guard := none }) (v := ?v9_13) rfl (by kernel_rfl) (by kernel_rfl) (by kernel_rfl) (fun _ _ _ h => h) (Or.inl ⟨by rfl, ?hy9_13⟩) hS ?rest9_13
    case hy9_13 =>
      intro w hSw
      (try dsimp only at hSw)
      go_simp
      try with_reducible rfl
    try simp only [Act.put, List.setIfInBounds_toArray, List.set_cons_zero, List.set_cons_succ]
    refine wpAnyH_ready (rs := [10]) (by kernel_rfl) (by simp) ?_
    refine AllReadyH.cons (o := { dst := none, op := Op.store 23 (Operand.tmp 2) (Operand.tmp 5), type := 0, pos := "life.go:117", after := #[{ on := 1, ground := Ground.data }, { on := 4, ground := Ground.chain }, { on := 0, ground := Ground.phase }, { on := 1, ground := Ground.phase }, { on := 2, ground := Ground.textOnly Departure.lateStores }, { on := 3, ground := Ground.textOnly Departure.lateStoresUnsure }, { on := 4, ground := Ground.textOnly Departure.lateStores }, { on := 5, ground := Ground.textOnly Departure.lateStores }, { on := 6, ground := Ground.textOnly Departure.lateStores }, { on := 7, ground := Ground.textOnly Departure.lateStores }, { on := 8, ground := Ground.textOnly Departure.lateStores }, { on := 9, ground := Ground.textOnly Departure.lateStores }], guard := none }) rfl (fun K hK => ?_) AllReadyH.nil
    go_simp
    refine hK.out _ _ (by (try dsimp only); go_keep) (fun hS => ?_)
    clear hK K
    try simp only [Act.put, List.setIfInBounds_toArray, List.set_cons_zero, List.set_cons_succ]
    refine wpAnyH_take (i := 11) (oi := { dst := some 3, op := Op.assign (Operand.tmp 13), type := 4, pos := "life.go:117", after := #[{ on := 9, ground := Ground.data }, { on := 10, ground := Ground.chain }, { on := 0, ground := Ground.phase }, { on := 1, ground := Ground.phase }, { on := 2, ground := Ground.phase }, { on := 3, ground := Ground.phase }, { on := 4, ground := Ground.phase }, { on := 5, ground := Ground.phase }, { on := 6, ground := Ground.phase }, { on := 7, ground := Ground.phase }, { on := 8, ground := Ground.phase }, { on := 9, ground := Ground.phase }, { on := 10, ground := Ground.phase }], guard := none }) (v := ?v11_14) rfl (by kernel_rfl) (by kernel_rfl) (by kernel_rfl) (fun _ _ _ h => h) (Or.inl ⟨by rfl, ?hy11_14⟩) hS ?rest11_14
    case hy11_14 =>
      intro w hSw
      (try dsimp only at hSw)
      go_simp
      try with_reducible rfl
    try simp only [Act.put, List.setIfInBounds_toArray, List.set_cons_zero, List.set_cons_succ]
    refine wpAnyH_done (by kernel_rfl) ?_ _
    have rz := row9 p2 (Value.int .i64 (s.becm a 2).st) (Value.int .i64 (s.becm a 2).ow) (Value.int .i64 (s.becm a 2).sr) (Value.bool (s.becm a 2).br) (Value.bool (s.becm a 2).ma) (Value.int .i64 (s.becm a 2).us) (Value.int .i64 (s.becm a 2).ge) (Value.int .i64 (s.becm a 2).ep) (Value.int .i64 (s.becm a 2).ve)
    have hz := below9 (n := w.heap.size) (A := w) (b := B1 + 1) hB2 (by omega) (Value.int .i64 (s.becm a 2).st) (Value.int .i64 (s.becm a 2).ow) (Value.int .i64 (s.becm a 2).sr) (Value.bool (s.becm a 2).br) (Value.bool (s.becm a 2).ma) (Value.int .i64 (s.becm a 2).us) (Value.int .i64 (s.becm a 2).ge) (Value.int .i64 (s.becm a 2).ep) (Value.int .i64 (s.becm a 2).ve)
    go_wp2
    refine bodyPost_ret (res_pair (p := 2) (u := 3) rfl _ _ _ _ rfl rz rfl) rfl ⟨ret_pair (by simp [chB, *]), hz⟩
end Go.Proofs.YtdiipmejkanhfaaDoor
