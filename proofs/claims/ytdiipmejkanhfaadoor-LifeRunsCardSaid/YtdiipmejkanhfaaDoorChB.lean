/- What is done with a slot, each thing by itself; nothing that was there changes. -/
import Derived.Test.YtdiipmejkanhfaaDoorChD
namespace Go.Proofs.YtdiipmejkanhfaaDoor
open Go.RowKit
attribute [local go_sem ↓] Go.wp_at_zero Go.wp_at_succ

set_option maxRecDepth 100000 in
set_option maxHeartbeats 4000000 in
theorem m5_any (s : Sl) (a mo : Int) (w : World) (_ : Rt s) :
    Calls Tryd.prog 25 #[Value.agg #[Value.int .i64 s.st, Value.int .i64 s.ow, Value.int .i64 s.sr, Value.bool s.br, Value.bool s.ma, Value.int .i64 s.us, Value.int .i64 s.ge, Value.int .i64 s.ep, Value.int .i64 s.ve, Value.int .i64 a, Value.int .i64 mo]] w fun e w' => e = .returned (.tuple #[.agg #[Value.int .i64 (chS 5 s a mo).st, Value.int .i64 (chS 5 s a mo).ow, Value.int .i64 (chS 5 s a mo).sr, Value.bool (chS 5 s a mo).br, Value.bool (chS 5 s a mo).ma, Value.int .i64 (chS 5 s a mo).us, Value.int .i64 (chS 5 s a mo).ge, Value.int .i64 (chS 5 s a mo).ep, Value.int .i64 (chS 5 s a mo).ve], .bool (chB 5 s a mo)]) ∧ Below w.heap.size w w' := by
  go_enter Tryd.func25, Tryd.ntmps25
  go_wp2_with fail
  have hB0 : Below w.heap.size w ((w.alloc (.cells #[Value.int .i64 s.st, Value.int .i64 s.ow, Value.int .i64 s.sr, Value.bool s.br, Value.bool s.ma, Value.int .i64 s.us, Value.int .i64 s.ge, Value.int .i64 s.ep, Value.int .i64 s.ve, Value.int .i64 a, Value.int .i64 mo] 39)).alloc (.cells #[Value.int .i64 0, Value.int .i64 0, Value.int .i64 0, Value.bool false, Value.bool false, Value.int .i64 0, Value.int .i64 0, Value.int .i64 0, Value.int .i64 0] 23)) := ((Below.refl _ _).alloc (Nat.le_refl _) _).alloc (by simp) _
  have r0 := (RowAt.new w 39 #[Value.int .i64 s.st, Value.int .i64 s.ow, Value.int .i64 s.sr, Value.bool s.br, Value.bool s.ma, Value.int .i64 s.us, Value.int .i64 s.ge, Value.int .i64 s.ep, Value.int .i64 s.ve, Value.int .i64 a, Value.int .i64 mo]).alloc (.cells #[Value.int .i64 0, Value.int .i64 0, Value.int .i64 0, Value.bool false, Value.bool false, Value.int .i64 0, Value.int .i64 0, Value.int .i64 0, Value.int .i64 0] 23)
  have r1 := new2 w (.cells #[Value.int .i64 s.st, Value.int .i64 s.ow, Value.int .i64 s.sr, Value.bool s.br, Value.bool s.ma, Value.int .i64 s.us, Value.int .i64 s.ge, Value.int .i64 s.ep, Value.int .i64 s.ve, Value.int .i64 a, Value.int .i64 mo] 39) 23 #[Value.int .i64 0, Value.int .i64 0, Value.int .i64 0, Value.bool false, Value.bool false, Value.int .i64 0, Value.int .i64 0, Value.int .i64 0, Value.int .i64 0]
  obtain ⟨W, hW⟩ : ∃ W, W = (w.alloc (.cells #[Value.int .i64 s.st, Value.int .i64 s.ow, Value.int .i64 s.sr, Value.bool s.br, Value.bool s.ma, Value.int .i64 s.us, Value.int .i64 s.ge, Value.int .i64 s.ep, Value.int .i64 s.ve, Value.int .i64 a, Value.int .i64 mo] 39)).alloc (.cells #[Value.int .i64 0, Value.int .i64 0, Value.int .i64 0, Value.bool false, Value.bool false, Value.int .i64 0, Value.int .i64 0, Value.int .i64 0, Value.int .i64 0] 23) := ⟨_, rfl⟩
  rw [← hW] at hB0 r0 r1 ⊢
  clear hW
  obtain ⟨B1, e1⟩ : ∃ B1, B1 = w.heap.size := ⟨_, rfl⟩
  have hle : w.heap.size ≤ B1 := by omega
  rw [← e1] at r0 r1 ⊢
  clear e1
  have hlt := r0.lt
  have hlt1 := r1.lt
  have hB := hB0.drew
  clear hB0
  have hne : B1 ≠ B1 + 1 := by omega
  have c00 : W.drew.cell? ⟨B1, 0, none⟩ = some (Value.int .i64 s.st) := r0.drew.cell 0 rfl
  have c01 : W.drew.cell? ⟨B1, 1, none⟩ = some (Value.int .i64 s.ow) := r0.drew.cell 1 rfl
  have c02 : W.drew.cell? ⟨B1, 2, none⟩ = some (Value.int .i64 s.sr) := r0.drew.cell 2 rfl
  have c03 : W.drew.cell? ⟨B1, 3, none⟩ = some (Value.bool s.br) := r0.drew.cell 3 rfl
  have c04 : W.drew.cell? ⟨B1, 4, none⟩ = some (Value.bool s.ma) := r0.drew.cell 4 rfl
  have c05 : W.drew.cell? ⟨B1, 5, none⟩ = some (Value.int .i64 s.us) := r0.drew.cell 5 rfl
  have c06 : W.drew.cell? ⟨B1, 6, none⟩ = some (Value.int .i64 s.ge) := r0.drew.cell 6 rfl
  have c07 : W.drew.cell? ⟨B1, 7, none⟩ = some (Value.int .i64 s.ep) := r0.drew.cell 7 rfl
  have c08 : W.drew.cell? ⟨B1, 8, none⟩ = some (Value.int .i64 s.ve) := r0.drew.cell 8 rfl
  have c09 : W.drew.cell? ⟨B1, 9, none⟩ = some (Value.int .i64 a) := r0.drew.cell 9 rfl
  have c010 : W.drew.cell? ⟨B1, 10, none⟩ = some (Value.int .i64 mo) := r0.drew.cell 10 rfl
  first | (go_region_held3 (fun w' => w'.cell? ⟨B1, 0, none⟩ = some (Value.int .i64 s.st) ∧ w'.cell? ⟨B1, 1, none⟩ = some (Value.int .i64 s.ow) ∧ w'.cell? ⟨B1, 2, none⟩ = some (Value.int .i64 s.sr) ∧ w'.cell? ⟨B1, 3, none⟩ = some (Value.bool s.br) ∧ w'.cell? ⟨B1, 4, none⟩ = some (Value.bool s.ma) ∧ w'.cell? ⟨B1, 5, none⟩ = some (Value.int .i64 s.us) ∧ w'.cell? ⟨B1, 6, none⟩ = some (Value.int .i64 s.ge) ∧ w'.cell? ⟨B1, 7, none⟩ = some (Value.int .i64 s.ep) ∧ w'.cell? ⟨B1, 8, none⟩ = some (Value.int .i64 s.ve) ∧ w'.cell? ⟨B1, 9, none⟩ = some (Value.int .i64 a) ∧ w'.cell? ⟨B1, 10, none⟩ = some (Value.int .i64 mo)) (first | go_keep | (simp only [cell_setCells hne]; exact ⟨c20, c21, c22, c23, c24, c25, c26, c27, c28, c29, c210⟩) | exact ⟨c20, c21, c22, c23, c24, c25, c26, c27, c28, c29, c210⟩ | (simp only [cell_setCells hne]; exact ⟨c10, c11, c12, c13, c14, c15, c16, c17, c18, c19, c110⟩) | exact ⟨c10, c11, c12, c13, c14, c15, c16, c17, c18, c19, c110⟩ | (simp only [cell_setCells hne]; exact ⟨c00, c01, c02, c03, c04, c05, c06, c07, c08, c09, c010⟩) | exact ⟨c00, c01, c02, c03, c04, c05, c06, c07, c08, c09, c010⟩)
    (first
      | (go_at_call 46; refine (become_any s a mo 4 _).mono ?_; rintro e w1 ⟨rfl, hb1⟩
         have q1 := r0.drew.below hb1 (by simpa using r0.drew.lt)
         have p1 := r1.drew.below hb1 (by simpa using r1.drew.lt)
         have c10 : w1.cell? ⟨B1, 0, none⟩ = some (Value.int .i64 s.st) := q1.cell 0 rfl
         have c11 : w1.cell? ⟨B1, 1, none⟩ = some (Value.int .i64 s.ow) := q1.cell 1 rfl
         have c12 : w1.cell? ⟨B1, 2, none⟩ = some (Value.int .i64 s.sr) := q1.cell 2 rfl
         have c13 : w1.cell? ⟨B1, 3, none⟩ = some (Value.bool s.br) := q1.cell 3 rfl
         have c14 : w1.cell? ⟨B1, 4, none⟩ = some (Value.bool s.ma) := q1.cell 4 rfl
         have c15 : w1.cell? ⟨B1, 5, none⟩ = some (Value.int .i64 s.us) := q1.cell 5 rfl
         have c16 : w1.cell? ⟨B1, 6, none⟩ = some (Value.int .i64 s.ge) := q1.cell 6 rfl
         have c17 : w1.cell? ⟨B1, 7, none⟩ = some (Value.int .i64 s.ep) := q1.cell 7 rfl
         have c18 : w1.cell? ⟨B1, 8, none⟩ = some (Value.int .i64 s.ve) := q1.cell 8 rfl
         have c19 : w1.cell? ⟨B1, 9, none⟩ = some (Value.int .i64 a) := q1.cell 9 rfl
         have c110 : w1.cell? ⟨B1, 10, none⟩ = some (Value.int .i64 mo) := q1.cell 10 rfl
         have hB1 := hB.trans (hb1.mono (by simpa using hB.size))
         have d10 : w1.cell? ⟨B1 + 1, 0, none⟩ = some (Value.int .i64 0) := p1.cell 0 rfl
         have g10 : w1.frozen? ⟨B1 + 1, 0, none⟩ = false := p1.frozen 0
         have d11 : w1.cell? ⟨B1 + 1, 1, none⟩ = some (Value.int .i64 0) := p1.cell 1 rfl
         have g11 : w1.frozen? ⟨B1 + 1, 1, none⟩ = false := p1.frozen 1
         have d12 : w1.cell? ⟨B1 + 1, 2, none⟩ = some (Value.int .i64 0) := p1.cell 2 rfl
         have g12 : w1.frozen? ⟨B1 + 1, 2, none⟩ = false := p1.frozen 2
         have d13 : w1.cell? ⟨B1 + 1, 3, none⟩ = some (Value.bool false) := p1.cell 3 rfl
         have g13 : w1.frozen? ⟨B1 + 1, 3, none⟩ = false := p1.frozen 3
         have d14 : w1.cell? ⟨B1 + 1, 4, none⟩ = some (Value.bool false) := p1.cell 4 rfl
         have g14 : w1.frozen? ⟨B1 + 1, 4, none⟩ = false := p1.frozen 4
         have d15 : w1.cell? ⟨B1 + 1, 5, none⟩ = some (Value.int .i64 0) := p1.cell 5 rfl
         have g15 : w1.frozen? ⟨B1 + 1, 5, none⟩ = false := p1.frozen 5
         have d16 : w1.cell? ⟨B1 + 1, 6, none⟩ = some (Value.int .i64 0) := p1.cell 6 rfl
         have g16 : w1.frozen? ⟨B1 + 1, 6, none⟩ = false := p1.frozen 6
         have d17 : w1.cell? ⟨B1 + 1, 7, none⟩ = some (Value.int .i64 0) := p1.cell 7 rfl
         have g17 : w1.frozen? ⟨B1 + 1, 7, none⟩ = false := p1.frozen 7
         have d18 : w1.cell? ⟨B1 + 1, 8, none⟩ = some (Value.int .i64 0) := p1.cell 8 rfl
         have g18 : w1.frozen? ⟨B1 + 1, 8, none⟩ = false := p1.frozen 8
         )
      | (go_at_call 50; refine (sound_any s a mo _).mono ?_; rintro e w2 ⟨rfl, hb2⟩
         have q2 := q1.below hb2 (by simpa using q1.lt)
         have p2 := p1.below hb2 (by simpa using p1.lt)
         have c20 : w2.cell? ⟨B1, 0, none⟩ = some (Value.int .i64 s.st) := q2.cell 0 rfl
         have c21 : w2.cell? ⟨B1, 1, none⟩ = some (Value.int .i64 s.ow) := q2.cell 1 rfl
         have c22 : w2.cell? ⟨B1, 2, none⟩ = some (Value.int .i64 s.sr) := q2.cell 2 rfl
         have c23 : w2.cell? ⟨B1, 3, none⟩ = some (Value.bool s.br) := q2.cell 3 rfl
         have c24 : w2.cell? ⟨B1, 4, none⟩ = some (Value.bool s.ma) := q2.cell 4 rfl
         have c25 : w2.cell? ⟨B1, 5, none⟩ = some (Value.int .i64 s.us) := q2.cell 5 rfl
         have c26 : w2.cell? ⟨B1, 6, none⟩ = some (Value.int .i64 s.ge) := q2.cell 6 rfl
         have c27 : w2.cell? ⟨B1, 7, none⟩ = some (Value.int .i64 s.ep) := q2.cell 7 rfl
         have c28 : w2.cell? ⟨B1, 8, none⟩ = some (Value.int .i64 s.ve) := q2.cell 8 rfl
         have c29 : w2.cell? ⟨B1, 9, none⟩ = some (Value.int .i64 a) := q2.cell 9 rfl
         have c210 : w2.cell? ⟨B1, 10, none⟩ = some (Value.int .i64 mo) := q2.cell 10 rfl
         have hB2 := hB1.trans (hb2.mono (by simpa using hB1.size))
         have d20 : w2.cell? ⟨B1 + 1, 0, none⟩ = some (Value.int .i64 0) := p2.cell 0 rfl
         have g20 : w2.frozen? ⟨B1 + 1, 0, none⟩ = false := p2.frozen 0
         have d21 : w2.cell? ⟨B1 + 1, 1, none⟩ = some (Value.int .i64 0) := p2.cell 1 rfl
         have g21 : w2.frozen? ⟨B1 + 1, 1, none⟩ = false := p2.frozen 1
         have d22 : w2.cell? ⟨B1 + 1, 2, none⟩ = some (Value.int .i64 0) := p2.cell 2 rfl
         have g22 : w2.frozen? ⟨B1 + 1, 2, none⟩ = false := p2.frozen 2
         have d23 : w2.cell? ⟨B1 + 1, 3, none⟩ = some (Value.bool false) := p2.cell 3 rfl
         have g23 : w2.frozen? ⟨B1 + 1, 3, none⟩ = false := p2.frozen 3
         have d24 : w2.cell? ⟨B1 + 1, 4, none⟩ = some (Value.bool false) := p2.cell 4 rfl
         have g24 : w2.frozen? ⟨B1 + 1, 4, none⟩ = false := p2.frozen 4
         have d25 : w2.cell? ⟨B1 + 1, 5, none⟩ = some (Value.int .i64 0) := p2.cell 5 rfl
         have g25 : w2.frozen? ⟨B1 + 1, 5, none⟩ = false := p2.frozen 5
         have d26 : w2.cell? ⟨B1 + 1, 6, none⟩ = some (Value.int .i64 0) := p2.cell 6 rfl
         have g26 : w2.frozen? ⟨B1 + 1, 6, none⟩ = false := p2.frozen 6
         have d27 : w2.cell? ⟨B1 + 1, 7, none⟩ = some (Value.int .i64 0) := p2.cell 7 rfl
         have g27 : w2.frozen? ⟨B1 + 1, 7, none⟩ = false := p2.frozen 7
         have d28 : w2.cell? ⟨B1 + 1, 8, none⟩ = some (Value.int .i64 0) := p2.cell 8 rfl
         have g28 : w2.frozen? ⟨B1 + 1, 8, none⟩ = false := p2.frozen 8
         ))) | fail
  first
    | (have rz := row9 p2 (Value.int .i64 (s.becm a 4).st) (Value.int .i64 (s.becm a 4).ow) (Value.int .i64 (s.becm a 4).sr) (Value.bool (s.becm a 4).br) (Value.bool (s.becm a 4).ma) (Value.int .i64 (s.becm a 4).us) (Value.int .i64 (s.becm a 4).ge) (Value.int .i64 (s.becm a 4).ep) (Value.int .i64 (s.becm a 4).ve)
       have hz := below9 (n := w.heap.size) (A := w) (b := B1 + 1) hB2 (by omega) (Value.int .i64 (s.becm a 4).st) (Value.int .i64 (s.becm a 4).ow) (Value.int .i64 (s.becm a 4).sr) (Value.bool (s.becm a 4).br) (Value.bool (s.becm a 4).ma) (Value.int .i64 (s.becm a 4).us) (Value.int .i64 (s.becm a 4).ge) (Value.int .i64 (s.becm a 4).ep) (Value.int .i64 (s.becm a 4).ve)
       go_wp2
       refine bodyPost_ret (res_pair (p := 2) (u := 3) rfl _ _ _ _ rfl rz rfl) rfl ⟨rfl, hz⟩)

set_option maxRecDepth 100000 in
set_option maxHeartbeats 4000000 in
theorem m6_any (s : Sl) (a mo : Int) (w : World) (_ : Rt s) :
    Calls Tryd.prog 26 #[Value.agg #[Value.int .i64 s.st, Value.int .i64 s.ow, Value.int .i64 s.sr, Value.bool s.br, Value.bool s.ma, Value.int .i64 s.us, Value.int .i64 s.ge, Value.int .i64 s.ep, Value.int .i64 s.ve, Value.int .i64 a, Value.int .i64 mo]] w fun e w' => e = .returned (.tuple #[.agg #[Value.int .i64 (chS 6 s a mo).st, Value.int .i64 (chS 6 s a mo).ow, Value.int .i64 (chS 6 s a mo).sr, Value.bool (chS 6 s a mo).br, Value.bool (chS 6 s a mo).ma, Value.int .i64 (chS 6 s a mo).us, Value.int .i64 (chS 6 s a mo).ge, Value.int .i64 (chS 6 s a mo).ep, Value.int .i64 (chS 6 s a mo).ve], .bool (chB 6 s a mo)]) ∧ Below w.heap.size w w' := by
  go_enter Tryd.func26, Tryd.ntmps26
  go_wp2_with fail
  have hB0 : Below w.heap.size w ((w.alloc (.cells #[Value.int .i64 s.st, Value.int .i64 s.ow, Value.int .i64 s.sr, Value.bool s.br, Value.bool s.ma, Value.int .i64 s.us, Value.int .i64 s.ge, Value.int .i64 s.ep, Value.int .i64 s.ve, Value.int .i64 a, Value.int .i64 mo] 39)).alloc (.cells #[Value.int .i64 0, Value.int .i64 0, Value.int .i64 0, Value.bool false, Value.bool false, Value.int .i64 0, Value.int .i64 0, Value.int .i64 0, Value.int .i64 0] 23)) := ((Below.refl _ _).alloc (Nat.le_refl _) _).alloc (by simp) _
  have r0 := (RowAt.new w 39 #[Value.int .i64 s.st, Value.int .i64 s.ow, Value.int .i64 s.sr, Value.bool s.br, Value.bool s.ma, Value.int .i64 s.us, Value.int .i64 s.ge, Value.int .i64 s.ep, Value.int .i64 s.ve, Value.int .i64 a, Value.int .i64 mo]).alloc (.cells #[Value.int .i64 0, Value.int .i64 0, Value.int .i64 0, Value.bool false, Value.bool false, Value.int .i64 0, Value.int .i64 0, Value.int .i64 0, Value.int .i64 0] 23)
  have r1 := new2 w (.cells #[Value.int .i64 s.st, Value.int .i64 s.ow, Value.int .i64 s.sr, Value.bool s.br, Value.bool s.ma, Value.int .i64 s.us, Value.int .i64 s.ge, Value.int .i64 s.ep, Value.int .i64 s.ve, Value.int .i64 a, Value.int .i64 mo] 39) 23 #[Value.int .i64 0, Value.int .i64 0, Value.int .i64 0, Value.bool false, Value.bool false, Value.int .i64 0, Value.int .i64 0, Value.int .i64 0, Value.int .i64 0]
  obtain ⟨W, hW⟩ : ∃ W, W = (w.alloc (.cells #[Value.int .i64 s.st, Value.int .i64 s.ow, Value.int .i64 s.sr, Value.bool s.br, Value.bool s.ma, Value.int .i64 s.us, Value.int .i64 s.ge, Value.int .i64 s.ep, Value.int .i64 s.ve, Value.int .i64 a, Value.int .i64 mo] 39)).alloc (.cells #[Value.int .i64 0, Value.int .i64 0, Value.int .i64 0, Value.bool false, Value.bool false, Value.int .i64 0, Value.int .i64 0, Value.int .i64 0, Value.int .i64 0] 23) := ⟨_, rfl⟩
  rw [← hW] at hB0 r0 r1 ⊢
  clear hW
  obtain ⟨B1, e1⟩ : ∃ B1, B1 = w.heap.size := ⟨_, rfl⟩
  have hle : w.heap.size ≤ B1 := by omega
  rw [← e1] at r0 r1 ⊢
  clear e1
  have hlt := r0.lt
  have hlt1 := r1.lt
  have hB := hB0.drew
  clear hB0
  have hne : B1 ≠ B1 + 1 := by omega
  have c00 : W.drew.cell? ⟨B1, 0, none⟩ = some (Value.int .i64 s.st) := r0.drew.cell 0 rfl
  have c01 : W.drew.cell? ⟨B1, 1, none⟩ = some (Value.int .i64 s.ow) := r0.drew.cell 1 rfl
  have c02 : W.drew.cell? ⟨B1, 2, none⟩ = some (Value.int .i64 s.sr) := r0.drew.cell 2 rfl
  have c03 : W.drew.cell? ⟨B1, 3, none⟩ = some (Value.bool s.br) := r0.drew.cell 3 rfl
  have c04 : W.drew.cell? ⟨B1, 4, none⟩ = some (Value.bool s.ma) := r0.drew.cell 4 rfl
  have c05 : W.drew.cell? ⟨B1, 5, none⟩ = some (Value.int .i64 s.us) := r0.drew.cell 5 rfl
  have c06 : W.drew.cell? ⟨B1, 6, none⟩ = some (Value.int .i64 s.ge) := r0.drew.cell 6 rfl
  have c07 : W.drew.cell? ⟨B1, 7, none⟩ = some (Value.int .i64 s.ep) := r0.drew.cell 7 rfl
  have c08 : W.drew.cell? ⟨B1, 8, none⟩ = some (Value.int .i64 s.ve) := r0.drew.cell 8 rfl
  have c09 : W.drew.cell? ⟨B1, 9, none⟩ = some (Value.int .i64 a) := r0.drew.cell 9 rfl
  have c010 : W.drew.cell? ⟨B1, 10, none⟩ = some (Value.int .i64 mo) := r0.drew.cell 10 rfl
  first | (go_region_held3 (fun w' => w'.cell? ⟨B1, 0, none⟩ = some (Value.int .i64 s.st) ∧ w'.cell? ⟨B1, 1, none⟩ = some (Value.int .i64 s.ow) ∧ w'.cell? ⟨B1, 2, none⟩ = some (Value.int .i64 s.sr) ∧ w'.cell? ⟨B1, 3, none⟩ = some (Value.bool s.br) ∧ w'.cell? ⟨B1, 4, none⟩ = some (Value.bool s.ma) ∧ w'.cell? ⟨B1, 5, none⟩ = some (Value.int .i64 s.us) ∧ w'.cell? ⟨B1, 6, none⟩ = some (Value.int .i64 s.ge) ∧ w'.cell? ⟨B1, 7, none⟩ = some (Value.int .i64 s.ep) ∧ w'.cell? ⟨B1, 8, none⟩ = some (Value.int .i64 s.ve) ∧ w'.cell? ⟨B1, 9, none⟩ = some (Value.int .i64 a) ∧ w'.cell? ⟨B1, 10, none⟩ = some (Value.int .i64 mo)) (first | go_keep | (simp only [cell_setCells hne]; exact ⟨c10, c11, c12, c13, c14, c15, c16, c17, c18, c19, c110⟩) | exact ⟨c10, c11, c12, c13, c14, c15, c16, c17, c18, c19, c110⟩ | (simp only [cell_setCells hne]; exact ⟨c00, c01, c02, c03, c04, c05, c06, c07, c08, c09, c010⟩) | exact ⟨c00, c01, c02, c03, c04, c05, c06, c07, c08, c09, c010⟩)
    (first
      | (go_at_call 46; refine (become_any s a mo 2 _).mono ?_; rintro e w1 ⟨rfl, hb1⟩
         have q1 := r0.drew.below hb1 (by simpa using r0.drew.lt)
         have p1 := r1.drew.below hb1 (by simpa using r1.drew.lt)
         have c10 : w1.cell? ⟨B1, 0, none⟩ = some (Value.int .i64 s.st) := q1.cell 0 rfl
         have c11 : w1.cell? ⟨B1, 1, none⟩ = some (Value.int .i64 s.ow) := q1.cell 1 rfl
         have c12 : w1.cell? ⟨B1, 2, none⟩ = some (Value.int .i64 s.sr) := q1.cell 2 rfl
         have c13 : w1.cell? ⟨B1, 3, none⟩ = some (Value.bool s.br) := q1.cell 3 rfl
         have c14 : w1.cell? ⟨B1, 4, none⟩ = some (Value.bool s.ma) := q1.cell 4 rfl
         have c15 : w1.cell? ⟨B1, 5, none⟩ = some (Value.int .i64 s.us) := q1.cell 5 rfl
         have c16 : w1.cell? ⟨B1, 6, none⟩ = some (Value.int .i64 s.ge) := q1.cell 6 rfl
         have c17 : w1.cell? ⟨B1, 7, none⟩ = some (Value.int .i64 s.ep) := q1.cell 7 rfl
         have c18 : w1.cell? ⟨B1, 8, none⟩ = some (Value.int .i64 s.ve) := q1.cell 8 rfl
         have c19 : w1.cell? ⟨B1, 9, none⟩ = some (Value.int .i64 a) := q1.cell 9 rfl
         have c110 : w1.cell? ⟨B1, 10, none⟩ = some (Value.int .i64 mo) := q1.cell 10 rfl
         have hB1 := hB.trans (hb1.mono (by simpa using hB.size))
         have d10 : w1.cell? ⟨B1 + 1, 0, none⟩ = some (Value.int .i64 0) := p1.cell 0 rfl
         have g10 : w1.frozen? ⟨B1 + 1, 0, none⟩ = false := p1.frozen 0
         have d11 : w1.cell? ⟨B1 + 1, 1, none⟩ = some (Value.int .i64 0) := p1.cell 1 rfl
         have g11 : w1.frozen? ⟨B1 + 1, 1, none⟩ = false := p1.frozen 1
         have d12 : w1.cell? ⟨B1 + 1, 2, none⟩ = some (Value.int .i64 0) := p1.cell 2 rfl
         have g12 : w1.frozen? ⟨B1 + 1, 2, none⟩ = false := p1.frozen 2
         have d13 : w1.cell? ⟨B1 + 1, 3, none⟩ = some (Value.bool false) := p1.cell 3 rfl
         have g13 : w1.frozen? ⟨B1 + 1, 3, none⟩ = false := p1.frozen 3
         have d14 : w1.cell? ⟨B1 + 1, 4, none⟩ = some (Value.bool false) := p1.cell 4 rfl
         have g14 : w1.frozen? ⟨B1 + 1, 4, none⟩ = false := p1.frozen 4
         have d15 : w1.cell? ⟨B1 + 1, 5, none⟩ = some (Value.int .i64 0) := p1.cell 5 rfl
         have g15 : w1.frozen? ⟨B1 + 1, 5, none⟩ = false := p1.frozen 5
         have d16 : w1.cell? ⟨B1 + 1, 6, none⟩ = some (Value.int .i64 0) := p1.cell 6 rfl
         have g16 : w1.frozen? ⟨B1 + 1, 6, none⟩ = false := p1.frozen 6
         have d17 : w1.cell? ⟨B1 + 1, 7, none⟩ = some (Value.int .i64 0) := p1.cell 7 rfl
         have g17 : w1.frozen? ⟨B1 + 1, 7, none⟩ = false := p1.frozen 7
         have d18 : w1.cell? ⟨B1 + 1, 8, none⟩ = some (Value.int .i64 0) := p1.cell 8 rfl
         have g18 : w1.frozen? ⟨B1 + 1, 8, none⟩ = false := p1.frozen 8
         ))) | fail
  first
    | (have rz := row9 p1 (Value.int .i64 (s.becm a 2).st) (Value.int .i64 (s.becm a 2).ow) (Value.int .i64 (s.becm a 2).sr) (Value.bool (s.becm a 2).br) (Value.bool (s.becm a 2).ma) (Value.int .i64 (s.becm a 2).us) (Value.int .i64 (s.becm a 2).ge) (Value.int .i64 (s.becm a 2).ep) (Value.int .i64 (s.becm a 2).ve)
       have hz := below9 (n := w.heap.size) (A := w) (b := B1 + 1) hB1 (by omega) (Value.int .i64 (s.becm a 2).st) (Value.int .i64 (s.becm a 2).ow) (Value.int .i64 (s.becm a 2).sr) (Value.bool (s.becm a 2).br) (Value.bool (s.becm a 2).ma) (Value.int .i64 (s.becm a 2).us) (Value.int .i64 (s.becm a 2).ge) (Value.int .i64 (s.becm a 2).ep) (Value.int .i64 (s.becm a 2).ve)
       go_wp2
       refine bodyPost_ret (res_pair (p := 2) (u := 3) rfl _ _ _ _ rfl rz rfl) rfl ⟨rfl, hz⟩)

set_option maxRecDepth 100000 in
set_option maxHeartbeats 4000000 in
theorem m7_any (s : Sl) (a mo : Int) (w : World) (_ : Rt s) :
    Calls Tryd.prog 27 #[Value.agg #[Value.int .i64 s.st, Value.int .i64 s.ow, Value.int .i64 s.sr, Value.bool s.br, Value.bool s.ma, Value.int .i64 s.us, Value.int .i64 s.ge, Value.int .i64 s.ep, Value.int .i64 s.ve, Value.int .i64 a, Value.int .i64 mo]] w fun e w' => e = .returned (.tuple #[.agg #[Value.int .i64 (chS 7 s a mo).st, Value.int .i64 (chS 7 s a mo).ow, Value.int .i64 (chS 7 s a mo).sr, Value.bool (chS 7 s a mo).br, Value.bool (chS 7 s a mo).ma, Value.int .i64 (chS 7 s a mo).us, Value.int .i64 (chS 7 s a mo).ge, Value.int .i64 (chS 7 s a mo).ep, Value.int .i64 (chS 7 s a mo).ve], .bool (chB 7 s a mo)]) ∧ Below w.heap.size w w' := by
  go_enter Tryd.func27, Tryd.ntmps27
  go_wp2_with fail
  have hB0 : Below w.heap.size w ((w.alloc (.cells #[Value.int .i64 s.st, Value.int .i64 s.ow, Value.int .i64 s.sr, Value.bool s.br, Value.bool s.ma, Value.int .i64 s.us, Value.int .i64 s.ge, Value.int .i64 s.ep, Value.int .i64 s.ve, Value.int .i64 a, Value.int .i64 mo] 39)).alloc (.cells #[Value.int .i64 0, Value.int .i64 0, Value.int .i64 0, Value.bool false, Value.bool false, Value.int .i64 0, Value.int .i64 0, Value.int .i64 0, Value.int .i64 0] 23)) := ((Below.refl _ _).alloc (Nat.le_refl _) _).alloc (by simp) _
  have r0 := (RowAt.new w 39 #[Value.int .i64 s.st, Value.int .i64 s.ow, Value.int .i64 s.sr, Value.bool s.br, Value.bool s.ma, Value.int .i64 s.us, Value.int .i64 s.ge, Value.int .i64 s.ep, Value.int .i64 s.ve, Value.int .i64 a, Value.int .i64 mo]).alloc (.cells #[Value.int .i64 0, Value.int .i64 0, Value.int .i64 0, Value.bool false, Value.bool false, Value.int .i64 0, Value.int .i64 0, Value.int .i64 0, Value.int .i64 0] 23)
  have r1 := new2 w (.cells #[Value.int .i64 s.st, Value.int .i64 s.ow, Value.int .i64 s.sr, Value.bool s.br, Value.bool s.ma, Value.int .i64 s.us, Value.int .i64 s.ge, Value.int .i64 s.ep, Value.int .i64 s.ve, Value.int .i64 a, Value.int .i64 mo] 39) 23 #[Value.int .i64 0, Value.int .i64 0, Value.int .i64 0, Value.bool false, Value.bool false, Value.int .i64 0, Value.int .i64 0, Value.int .i64 0, Value.int .i64 0]
  obtain ⟨W, hW⟩ : ∃ W, W = (w.alloc (.cells #[Value.int .i64 s.st, Value.int .i64 s.ow, Value.int .i64 s.sr, Value.bool s.br, Value.bool s.ma, Value.int .i64 s.us, Value.int .i64 s.ge, Value.int .i64 s.ep, Value.int .i64 s.ve, Value.int .i64 a, Value.int .i64 mo] 39)).alloc (.cells #[Value.int .i64 0, Value.int .i64 0, Value.int .i64 0, Value.bool false, Value.bool false, Value.int .i64 0, Value.int .i64 0, Value.int .i64 0, Value.int .i64 0] 23) := ⟨_, rfl⟩
  rw [← hW] at hB0 r0 r1 ⊢
  clear hW
  obtain ⟨B1, e1⟩ : ∃ B1, B1 = w.heap.size := ⟨_, rfl⟩
  have hle : w.heap.size ≤ B1 := by omega
  rw [← e1] at r0 r1 ⊢
  clear e1
  have hlt := r0.lt
  have hlt1 := r1.lt
  have hB := hB0.drew
  clear hB0
  have hne : B1 ≠ B1 + 1 := by omega
  have c00 : W.drew.cell? ⟨B1, 0, none⟩ = some (Value.int .i64 s.st) := r0.drew.cell 0 rfl
  have c01 : W.drew.cell? ⟨B1, 1, none⟩ = some (Value.int .i64 s.ow) := r0.drew.cell 1 rfl
  have c02 : W.drew.cell? ⟨B1, 2, none⟩ = some (Value.int .i64 s.sr) := r0.drew.cell 2 rfl
  have c03 : W.drew.cell? ⟨B1, 3, none⟩ = some (Value.bool s.br) := r0.drew.cell 3 rfl
  have c04 : W.drew.cell? ⟨B1, 4, none⟩ = some (Value.bool s.ma) := r0.drew.cell 4 rfl
  have c05 : W.drew.cell? ⟨B1, 5, none⟩ = some (Value.int .i64 s.us) := r0.drew.cell 5 rfl
  have c06 : W.drew.cell? ⟨B1, 6, none⟩ = some (Value.int .i64 s.ge) := r0.drew.cell 6 rfl
  have c07 : W.drew.cell? ⟨B1, 7, none⟩ = some (Value.int .i64 s.ep) := r0.drew.cell 7 rfl
  have c08 : W.drew.cell? ⟨B1, 8, none⟩ = some (Value.int .i64 s.ve) := r0.drew.cell 8 rfl
  have c09 : W.drew.cell? ⟨B1, 9, none⟩ = some (Value.int .i64 a) := r0.drew.cell 9 rfl
  have c010 : W.drew.cell? ⟨B1, 10, none⟩ = some (Value.int .i64 mo) := r0.drew.cell 10 rfl
  first | (go_region_held3 (fun w' => w'.cell? ⟨B1, 0, none⟩ = some (Value.int .i64 s.st) ∧ w'.cell? ⟨B1, 1, none⟩ = some (Value.int .i64 s.ow) ∧ w'.cell? ⟨B1, 2, none⟩ = some (Value.int .i64 s.sr) ∧ w'.cell? ⟨B1, 3, none⟩ = some (Value.bool s.br) ∧ w'.cell? ⟨B1, 4, none⟩ = some (Value.bool s.ma) ∧ w'.cell? ⟨B1, 5, none⟩ = some (Value.int .i64 s.us) ∧ w'.cell? ⟨B1, 6, none⟩ = some (Value.int .i64 s.ge) ∧ w'.cell? ⟨B1, 7, none⟩ = some (Value.int .i64 s.ep) ∧ w'.cell? ⟨B1, 8, none⟩ = some (Value.int .i64 s.ve) ∧ w'.cell? ⟨B1, 9, none⟩ = some (Value.int .i64 a) ∧ w'.cell? ⟨B1, 10, none⟩ = some (Value.int .i64 mo)) (first | go_keep | (simp only [cell_setCells hne]; exact ⟨c10, c11, c12, c13, c14, c15, c16, c17, c18, c19, c110⟩) | exact ⟨c10, c11, c12, c13, c14, c15, c16, c17, c18, c19, c110⟩ | (simp only [cell_setCells hne]; exact ⟨c00, c01, c02, c03, c04, c05, c06, c07, c08, c09, c010⟩) | exact ⟨c00, c01, c02, c03, c04, c05, c06, c07, c08, c09, c010⟩)
    (first
      | (go_at_call 46; refine (become_any s a mo 5 _).mono ?_; rintro e w1 ⟨rfl, hb1⟩
         have q1 := r0.drew.below hb1 (by simpa using r0.drew.lt)
         have p1 := r1.drew.below hb1 (by simpa using r1.drew.lt)
         have c10 : w1.cell? ⟨B1, 0, none⟩ = some (Value.int .i64 s.st) := q1.cell 0 rfl
         have c11 : w1.cell? ⟨B1, 1, none⟩ = some (Value.int .i64 s.ow) := q1.cell 1 rfl
         have c12 : w1.cell? ⟨B1, 2, none⟩ = some (Value.int .i64 s.sr) := q1.cell 2 rfl
         have c13 : w1.cell? ⟨B1, 3, none⟩ = some (Value.bool s.br) := q1.cell 3 rfl
         have c14 : w1.cell? ⟨B1, 4, none⟩ = some (Value.bool s.ma) := q1.cell 4 rfl
         have c15 : w1.cell? ⟨B1, 5, none⟩ = some (Value.int .i64 s.us) := q1.cell 5 rfl
         have c16 : w1.cell? ⟨B1, 6, none⟩ = some (Value.int .i64 s.ge) := q1.cell 6 rfl
         have c17 : w1.cell? ⟨B1, 7, none⟩ = some (Value.int .i64 s.ep) := q1.cell 7 rfl
         have c18 : w1.cell? ⟨B1, 8, none⟩ = some (Value.int .i64 s.ve) := q1.cell 8 rfl
         have c19 : w1.cell? ⟨B1, 9, none⟩ = some (Value.int .i64 a) := q1.cell 9 rfl
         have c110 : w1.cell? ⟨B1, 10, none⟩ = some (Value.int .i64 mo) := q1.cell 10 rfl
         have hB1 := hB.trans (hb1.mono (by simpa using hB.size))
         have d10 : w1.cell? ⟨B1 + 1, 0, none⟩ = some (Value.int .i64 0) := p1.cell 0 rfl
         have g10 : w1.frozen? ⟨B1 + 1, 0, none⟩ = false := p1.frozen 0
         have d11 : w1.cell? ⟨B1 + 1, 1, none⟩ = some (Value.int .i64 0) := p1.cell 1 rfl
         have g11 : w1.frozen? ⟨B1 + 1, 1, none⟩ = false := p1.frozen 1
         have d12 : w1.cell? ⟨B1 + 1, 2, none⟩ = some (Value.int .i64 0) := p1.cell 2 rfl
         have g12 : w1.frozen? ⟨B1 + 1, 2, none⟩ = false := p1.frozen 2
         have d13 : w1.cell? ⟨B1 + 1, 3, none⟩ = some (Value.bool false) := p1.cell 3 rfl
         have g13 : w1.frozen? ⟨B1 + 1, 3, none⟩ = false := p1.frozen 3
         have d14 : w1.cell? ⟨B1 + 1, 4, none⟩ = some (Value.bool false) := p1.cell 4 rfl
         have g14 : w1.frozen? ⟨B1 + 1, 4, none⟩ = false := p1.frozen 4
         have d15 : w1.cell? ⟨B1 + 1, 5, none⟩ = some (Value.int .i64 0) := p1.cell 5 rfl
         have g15 : w1.frozen? ⟨B1 + 1, 5, none⟩ = false := p1.frozen 5
         have d16 : w1.cell? ⟨B1 + 1, 6, none⟩ = some (Value.int .i64 0) := p1.cell 6 rfl
         have g16 : w1.frozen? ⟨B1 + 1, 6, none⟩ = false := p1.frozen 6
         have d17 : w1.cell? ⟨B1 + 1, 7, none⟩ = some (Value.int .i64 0) := p1.cell 7 rfl
         have g17 : w1.frozen? ⟨B1 + 1, 7, none⟩ = false := p1.frozen 7
         have d18 : w1.cell? ⟨B1 + 1, 8, none⟩ = some (Value.int .i64 0) := p1.cell 8 rfl
         have g18 : w1.frozen? ⟨B1 + 1, 8, none⟩ = false := p1.frozen 8
         ))) | fail
  first
    | (have rz := row9 p1 (Value.int .i64 (s.becm a 5).st) (Value.int .i64 (s.becm a 5).ow) (Value.int .i64 (s.becm a 5).sr) (Value.bool (s.becm a 5).br) (Value.bool (s.becm a 5).ma) (Value.int .i64 (s.becm a 5).us) (Value.int .i64 (s.becm a 5).ge) (Value.int .i64 (s.becm a 5).ep) (Value.int .i64 (s.becm a 5).ve)
       have hz := below9 (n := w.heap.size) (A := w) (b := B1 + 1) hB1 (by omega) (Value.int .i64 (s.becm a 5).st) (Value.int .i64 (s.becm a 5).ow) (Value.int .i64 (s.becm a 5).sr) (Value.bool (s.becm a 5).br) (Value.bool (s.becm a 5).ma) (Value.int .i64 (s.becm a 5).us) (Value.int .i64 (s.becm a 5).ge) (Value.int .i64 (s.becm a 5).ep) (Value.int .i64 (s.becm a 5).ve)
       go_wp2
       refine bodyPost_ret (res_pair (p := 2) (u := 3) rfl _ _ _ _ rfl rz rfl) rfl ⟨rfl, hz⟩)

set_option maxRecDepth 100000 in
set_option maxHeartbeats 4000000 in
theorem m8_any (s : Sl) (a mo : Int) (w : World) (_ : Rt s) :
    Calls Tryd.prog 28 #[Value.agg #[Value.int .i64 s.st, Value.int .i64 s.ow, Value.int .i64 s.sr, Value.bool s.br, Value.bool s.ma, Value.int .i64 s.us, Value.int .i64 s.ge, Value.int .i64 s.ep, Value.int .i64 s.ve, Value.int .i64 a, Value.int .i64 mo]] w fun e w' => e = .returned (.tuple #[.agg #[Value.int .i64 (chS 8 s a mo).st, Value.int .i64 (chS 8 s a mo).ow, Value.int .i64 (chS 8 s a mo).sr, Value.bool (chS 8 s a mo).br, Value.bool (chS 8 s a mo).ma, Value.int .i64 (chS 8 s a mo).us, Value.int .i64 (chS 8 s a mo).ge, Value.int .i64 (chS 8 s a mo).ep, Value.int .i64 (chS 8 s a mo).ve], .bool (chB 8 s a mo)]) ∧ Below w.heap.size w w' := by
  go_enter Tryd.func28, Tryd.ntmps28
  go_wp2_with fail
  have hB0 : Below w.heap.size w ((w.alloc (.cells #[Value.int .i64 s.st, Value.int .i64 s.ow, Value.int .i64 s.sr, Value.bool s.br, Value.bool s.ma, Value.int .i64 s.us, Value.int .i64 s.ge, Value.int .i64 s.ep, Value.int .i64 s.ve, Value.int .i64 a, Value.int .i64 mo] 39)).alloc (.cells #[Value.int .i64 0, Value.int .i64 0, Value.int .i64 0, Value.bool false, Value.bool false, Value.int .i64 0, Value.int .i64 0, Value.int .i64 0, Value.int .i64 0] 23)) := ((Below.refl _ _).alloc (Nat.le_refl _) _).alloc (by simp) _
  have r0 := (RowAt.new w 39 #[Value.int .i64 s.st, Value.int .i64 s.ow, Value.int .i64 s.sr, Value.bool s.br, Value.bool s.ma, Value.int .i64 s.us, Value.int .i64 s.ge, Value.int .i64 s.ep, Value.int .i64 s.ve, Value.int .i64 a, Value.int .i64 mo]).alloc (.cells #[Value.int .i64 0, Value.int .i64 0, Value.int .i64 0, Value.bool false, Value.bool false, Value.int .i64 0, Value.int .i64 0, Value.int .i64 0, Value.int .i64 0] 23)
  have r1 := new2 w (.cells #[Value.int .i64 s.st, Value.int .i64 s.ow, Value.int .i64 s.sr, Value.bool s.br, Value.bool s.ma, Value.int .i64 s.us, Value.int .i64 s.ge, Value.int .i64 s.ep, Value.int .i64 s.ve, Value.int .i64 a, Value.int .i64 mo] 39) 23 #[Value.int .i64 0, Value.int .i64 0, Value.int .i64 0, Value.bool false, Value.bool false, Value.int .i64 0, Value.int .i64 0, Value.int .i64 0, Value.int .i64 0]
  obtain ⟨W, hW⟩ : ∃ W, W = (w.alloc (.cells #[Value.int .i64 s.st, Value.int .i64 s.ow, Value.int .i64 s.sr, Value.bool s.br, Value.bool s.ma, Value.int .i64 s.us, Value.int .i64 s.ge, Value.int .i64 s.ep, Value.int .i64 s.ve, Value.int .i64 a, Value.int .i64 mo] 39)).alloc (.cells #[Value.int .i64 0, Value.int .i64 0, Value.int .i64 0, Value.bool false, Value.bool false, Value.int .i64 0, Value.int .i64 0, Value.int .i64 0, Value.int .i64 0] 23) := ⟨_, rfl⟩
  rw [← hW] at hB0 r0 r1 ⊢
  clear hW
  obtain ⟨B1, e1⟩ : ∃ B1, B1 = w.heap.size := ⟨_, rfl⟩
  have hle : w.heap.size ≤ B1 := by omega
  rw [← e1] at r0 r1 ⊢
  clear e1
  have hlt := r0.lt
  have hlt1 := r1.lt
  have hB := hB0.drew
  clear hB0
  have hne : B1 ≠ B1 + 1 := by omega
  have c00 : W.drew.cell? ⟨B1, 0, none⟩ = some (Value.int .i64 s.st) := r0.drew.cell 0 rfl
  have c01 : W.drew.cell? ⟨B1, 1, none⟩ = some (Value.int .i64 s.ow) := r0.drew.cell 1 rfl
  have c02 : W.drew.cell? ⟨B1, 2, none⟩ = some (Value.int .i64 s.sr) := r0.drew.cell 2 rfl
  have c03 : W.drew.cell? ⟨B1, 3, none⟩ = some (Value.bool s.br) := r0.drew.cell 3 rfl
  have c04 : W.drew.cell? ⟨B1, 4, none⟩ = some (Value.bool s.ma) := r0.drew.cell 4 rfl
  have c05 : W.drew.cell? ⟨B1, 5, none⟩ = some (Value.int .i64 s.us) := r0.drew.cell 5 rfl
  have c06 : W.drew.cell? ⟨B1, 6, none⟩ = some (Value.int .i64 s.ge) := r0.drew.cell 6 rfl
  have c07 : W.drew.cell? ⟨B1, 7, none⟩ = some (Value.int .i64 s.ep) := r0.drew.cell 7 rfl
  have c08 : W.drew.cell? ⟨B1, 8, none⟩ = some (Value.int .i64 s.ve) := r0.drew.cell 8 rfl
  have c09 : W.drew.cell? ⟨B1, 9, none⟩ = some (Value.int .i64 a) := r0.drew.cell 9 rfl
  have c010 : W.drew.cell? ⟨B1, 10, none⟩ = some (Value.int .i64 mo) := r0.drew.cell 10 rfl
  first | (go_region_held3 (fun w' => w'.cell? ⟨B1, 0, none⟩ = some (Value.int .i64 s.st) ∧ w'.cell? ⟨B1, 1, none⟩ = some (Value.int .i64 s.ow) ∧ w'.cell? ⟨B1, 2, none⟩ = some (Value.int .i64 s.sr) ∧ w'.cell? ⟨B1, 3, none⟩ = some (Value.bool s.br) ∧ w'.cell? ⟨B1, 4, none⟩ = some (Value.bool s.ma) ∧ w'.cell? ⟨B1, 5, none⟩ = some (Value.int .i64 s.us) ∧ w'.cell? ⟨B1, 6, none⟩ = some (Value.int .i64 s.ge) ∧ w'.cell? ⟨B1, 7, none⟩ = some (Value.int .i64 s.ep) ∧ w'.cell? ⟨B1, 8, none⟩ = some (Value.int .i64 s.ve) ∧ w'.cell? ⟨B1, 9, none⟩ = some (Value.int .i64 a) ∧ w'.cell? ⟨B1, 10, none⟩ = some (Value.int .i64 mo)) (first | go_keep | (simp only [cell_setCells hne]; exact ⟨c10, c11, c12, c13, c14, c15, c16, c17, c18, c19, c110⟩) | exact ⟨c10, c11, c12, c13, c14, c15, c16, c17, c18, c19, c110⟩ | (simp only [cell_setCells hne]; exact ⟨c00, c01, c02, c03, c04, c05, c06, c07, c08, c09, c010⟩) | exact ⟨c00, c01, c02, c03, c04, c05, c06, c07, c08, c09, c010⟩)
    (first
      | (go_at_call 49; refine (bare_any s a mo 0 _).mono ?_; rintro e w1 ⟨rfl, hb1⟩
         have q1 := r0.drew.below hb1 (by simpa using r0.drew.lt)
         have p1 := r1.drew.below hb1 (by simpa using r1.drew.lt)
         have c10 : w1.cell? ⟨B1, 0, none⟩ = some (Value.int .i64 s.st) := q1.cell 0 rfl
         have c11 : w1.cell? ⟨B1, 1, none⟩ = some (Value.int .i64 s.ow) := q1.cell 1 rfl
         have c12 : w1.cell? ⟨B1, 2, none⟩ = some (Value.int .i64 s.sr) := q1.cell 2 rfl
         have c13 : w1.cell? ⟨B1, 3, none⟩ = some (Value.bool s.br) := q1.cell 3 rfl
         have c14 : w1.cell? ⟨B1, 4, none⟩ = some (Value.bool s.ma) := q1.cell 4 rfl
         have c15 : w1.cell? ⟨B1, 5, none⟩ = some (Value.int .i64 s.us) := q1.cell 5 rfl
         have c16 : w1.cell? ⟨B1, 6, none⟩ = some (Value.int .i64 s.ge) := q1.cell 6 rfl
         have c17 : w1.cell? ⟨B1, 7, none⟩ = some (Value.int .i64 s.ep) := q1.cell 7 rfl
         have c18 : w1.cell? ⟨B1, 8, none⟩ = some (Value.int .i64 s.ve) := q1.cell 8 rfl
         have c19 : w1.cell? ⟨B1, 9, none⟩ = some (Value.int .i64 a) := q1.cell 9 rfl
         have c110 : w1.cell? ⟨B1, 10, none⟩ = some (Value.int .i64 mo) := q1.cell 10 rfl
         have hB1 := hB.trans (hb1.mono (by simpa using hB.size))
         have d10 : w1.cell? ⟨B1 + 1, 0, none⟩ = some (Value.int .i64 0) := p1.cell 0 rfl
         have g10 : w1.frozen? ⟨B1 + 1, 0, none⟩ = false := p1.frozen 0
         have d11 : w1.cell? ⟨B1 + 1, 1, none⟩ = some (Value.int .i64 0) := p1.cell 1 rfl
         have g11 : w1.frozen? ⟨B1 + 1, 1, none⟩ = false := p1.frozen 1
         have d12 : w1.cell? ⟨B1 + 1, 2, none⟩ = some (Value.int .i64 0) := p1.cell 2 rfl
         have g12 : w1.frozen? ⟨B1 + 1, 2, none⟩ = false := p1.frozen 2
         have d13 : w1.cell? ⟨B1 + 1, 3, none⟩ = some (Value.bool false) := p1.cell 3 rfl
         have g13 : w1.frozen? ⟨B1 + 1, 3, none⟩ = false := p1.frozen 3
         have d14 : w1.cell? ⟨B1 + 1, 4, none⟩ = some (Value.bool false) := p1.cell 4 rfl
         have g14 : w1.frozen? ⟨B1 + 1, 4, none⟩ = false := p1.frozen 4
         have d15 : w1.cell? ⟨B1 + 1, 5, none⟩ = some (Value.int .i64 0) := p1.cell 5 rfl
         have g15 : w1.frozen? ⟨B1 + 1, 5, none⟩ = false := p1.frozen 5
         have d16 : w1.cell? ⟨B1 + 1, 6, none⟩ = some (Value.int .i64 0) := p1.cell 6 rfl
         have g16 : w1.frozen? ⟨B1 + 1, 6, none⟩ = false := p1.frozen 6
         have d17 : w1.cell? ⟨B1 + 1, 7, none⟩ = some (Value.int .i64 0) := p1.cell 7 rfl
         have g17 : w1.frozen? ⟨B1 + 1, 7, none⟩ = false := p1.frozen 7
         have d18 : w1.cell? ⟨B1 + 1, 8, none⟩ = some (Value.int .i64 0) := p1.cell 8 rfl
         have g18 : w1.frozen? ⟨B1 + 1, 8, none⟩ = false := p1.frozen 8
         ))) | fail
  first
    | (have rz := row9 p1 (Value.int .i64 (s.bare 0).st) (Value.int .i64 (s.bare 0).ow) (Value.int .i64 (s.bare 0).sr) (Value.bool (s.bare 0).br) (Value.bool (s.bare 0).ma) (Value.int .i64 (s.bare 0).us) (Value.int .i64 (s.bare 0).ge) (Value.int .i64 (s.bare 0).ep) (Value.int .i64 (s.bare 0).ve)
       have hz := below9 (n := w.heap.size) (A := w) (b := B1 + 1) hB1 (by omega) (Value.int .i64 (s.bare 0).st) (Value.int .i64 (s.bare 0).ow) (Value.int .i64 (s.bare 0).sr) (Value.bool (s.bare 0).br) (Value.bool (s.bare 0).ma) (Value.int .i64 (s.bare 0).us) (Value.int .i64 (s.bare 0).ge) (Value.int .i64 (s.bare 0).ep) (Value.int .i64 (s.bare 0).ve)
       go_wp2
       refine bodyPost_ret (res_pair (p := 2) (u := 3) rfl _ _ _ _ rfl rz rfl) rfl ⟨rfl, hz⟩)

set_option maxRecDepth 100000 in
set_option maxHeartbeats 4000000 in
theorem m12_any (s : Sl) (a mo : Int) (w : World) (_ : Rt s) :
    Calls Tryd.prog 32 #[Value.agg #[Value.int .i64 s.st, Value.int .i64 s.ow, Value.int .i64 s.sr, Value.bool s.br, Value.bool s.ma, Value.int .i64 s.us, Value.int .i64 s.ge, Value.int .i64 s.ep, Value.int .i64 s.ve, Value.int .i64 a, Value.int .i64 mo]] w fun e w' => e = .returned (.tuple #[.agg #[Value.int .i64 (chS 12 s a mo).st, Value.int .i64 (chS 12 s a mo).ow, Value.int .i64 (chS 12 s a mo).sr, Value.bool (chS 12 s a mo).br, Value.bool (chS 12 s a mo).ma, Value.int .i64 (chS 12 s a mo).us, Value.int .i64 (chS 12 s a mo).ge, Value.int .i64 (chS 12 s a mo).ep, Value.int .i64 (chS 12 s a mo).ve], .bool (chB 12 s a mo)]) ∧ Below w.heap.size w w' := by
  go_enter Tryd.func32, Tryd.ntmps32
  go_wp2_with fail
  have hB0 : Below w.heap.size w ((w.alloc (.cells #[Value.int .i64 s.st, Value.int .i64 s.ow, Value.int .i64 s.sr, Value.bool s.br, Value.bool s.ma, Value.int .i64 s.us, Value.int .i64 s.ge, Value.int .i64 s.ep, Value.int .i64 s.ve, Value.int .i64 a, Value.int .i64 mo] 39)).alloc (.cells #[Value.int .i64 0, Value.int .i64 0, Value.int .i64 0, Value.bool false, Value.bool false, Value.int .i64 0, Value.int .i64 0, Value.int .i64 0, Value.int .i64 0] 23)) := ((Below.refl _ _).alloc (Nat.le_refl _) _).alloc (by simp) _
  have r0 := (RowAt.new w 39 #[Value.int .i64 s.st, Value.int .i64 s.ow, Value.int .i64 s.sr, Value.bool s.br, Value.bool s.ma, Value.int .i64 s.us, Value.int .i64 s.ge, Value.int .i64 s.ep, Value.int .i64 s.ve, Value.int .i64 a, Value.int .i64 mo]).alloc (.cells #[Value.int .i64 0, Value.int .i64 0, Value.int .i64 0, Value.bool false, Value.bool false, Value.int .i64 0, Value.int .i64 0, Value.int .i64 0, Value.int .i64 0] 23)
  have r1 := new2 w (.cells #[Value.int .i64 s.st, Value.int .i64 s.ow, Value.int .i64 s.sr, Value.bool s.br, Value.bool s.ma, Value.int .i64 s.us, Value.int .i64 s.ge, Value.int .i64 s.ep, Value.int .i64 s.ve, Value.int .i64 a, Value.int .i64 mo] 39) 23 #[Value.int .i64 0, Value.int .i64 0, Value.int .i64 0, Value.bool false, Value.bool false, Value.int .i64 0, Value.int .i64 0, Value.int .i64 0, Value.int .i64 0]
  obtain ⟨W, hW⟩ : ∃ W, W = (w.alloc (.cells #[Value.int .i64 s.st, Value.int .i64 s.ow, Value.int .i64 s.sr, Value.bool s.br, Value.bool s.ma, Value.int .i64 s.us, Value.int .i64 s.ge, Value.int .i64 s.ep, Value.int .i64 s.ve, Value.int .i64 a, Value.int .i64 mo] 39)).alloc (.cells #[Value.int .i64 0, Value.int .i64 0, Value.int .i64 0, Value.bool false, Value.bool false, Value.int .i64 0, Value.int .i64 0, Value.int .i64 0, Value.int .i64 0] 23) := ⟨_, rfl⟩
  rw [← hW] at hB0 r0 r1 ⊢
  clear hW
  obtain ⟨B1, e1⟩ : ∃ B1, B1 = w.heap.size := ⟨_, rfl⟩
  have hle : w.heap.size ≤ B1 := by omega
  rw [← e1] at r0 r1 ⊢
  clear e1
  have hlt := r0.lt
  have hlt1 := r1.lt
  have hB := hB0.drew
  clear hB0
  have hne : B1 ≠ B1 + 1 := by omega
  have c00 : W.drew.cell? ⟨B1, 0, none⟩ = some (Value.int .i64 s.st) := r0.drew.cell 0 rfl
  have c01 : W.drew.cell? ⟨B1, 1, none⟩ = some (Value.int .i64 s.ow) := r0.drew.cell 1 rfl
  have c02 : W.drew.cell? ⟨B1, 2, none⟩ = some (Value.int .i64 s.sr) := r0.drew.cell 2 rfl
  have c03 : W.drew.cell? ⟨B1, 3, none⟩ = some (Value.bool s.br) := r0.drew.cell 3 rfl
  have c04 : W.drew.cell? ⟨B1, 4, none⟩ = some (Value.bool s.ma) := r0.drew.cell 4 rfl
  have c05 : W.drew.cell? ⟨B1, 5, none⟩ = some (Value.int .i64 s.us) := r0.drew.cell 5 rfl
  have c06 : W.drew.cell? ⟨B1, 6, none⟩ = some (Value.int .i64 s.ge) := r0.drew.cell 6 rfl
  have c07 : W.drew.cell? ⟨B1, 7, none⟩ = some (Value.int .i64 s.ep) := r0.drew.cell 7 rfl
  have c08 : W.drew.cell? ⟨B1, 8, none⟩ = some (Value.int .i64 s.ve) := r0.drew.cell 8 rfl
  have c09 : W.drew.cell? ⟨B1, 9, none⟩ = some (Value.int .i64 a) := r0.drew.cell 9 rfl
  have c010 : W.drew.cell? ⟨B1, 10, none⟩ = some (Value.int .i64 mo) := r0.drew.cell 10 rfl
  first | (go_region_held3 (fun w' => w'.cell? ⟨B1, 0, none⟩ = some (Value.int .i64 s.st) ∧ w'.cell? ⟨B1, 1, none⟩ = some (Value.int .i64 s.ow) ∧ w'.cell? ⟨B1, 2, none⟩ = some (Value.int .i64 s.sr) ∧ w'.cell? ⟨B1, 3, none⟩ = some (Value.bool s.br) ∧ w'.cell? ⟨B1, 4, none⟩ = some (Value.bool s.ma) ∧ w'.cell? ⟨B1, 5, none⟩ = some (Value.int .i64 s.us) ∧ w'.cell? ⟨B1, 6, none⟩ = some (Value.int .i64 s.ge) ∧ w'.cell? ⟨B1, 7, none⟩ = some (Value.int .i64 s.ep) ∧ w'.cell? ⟨B1, 8, none⟩ = some (Value.int .i64 s.ve) ∧ w'.cell? ⟨B1, 9, none⟩ = some (Value.int .i64 a) ∧ w'.cell? ⟨B1, 10, none⟩ = some (Value.int .i64 mo)) (first | go_keep | (simp only [cell_setCells hne]; exact ⟨c10, c11, c12, c13, c14, c15, c16, c17, c18, c19, c110⟩) | exact ⟨c10, c11, c12, c13, c14, c15, c16, c17, c18, c19, c110⟩ | (simp only [cell_setCells hne]; exact ⟨c00, c01, c02, c03, c04, c05, c06, c07, c08, c09, c010⟩) | exact ⟨c00, c01, c02, c03, c04, c05, c06, c07, c08, c09, c010⟩)
    (first
      | (go_at_call 49; refine (bare_any s a mo 0 _).mono ?_; rintro e w1 ⟨rfl, hb1⟩
         have q1 := r0.drew.below hb1 (by simpa using r0.drew.lt)
         have p1 := r1.drew.below hb1 (by simpa using r1.drew.lt)
         have c10 : w1.cell? ⟨B1, 0, none⟩ = some (Value.int .i64 s.st) := q1.cell 0 rfl
         have c11 : w1.cell? ⟨B1, 1, none⟩ = some (Value.int .i64 s.ow) := q1.cell 1 rfl
         have c12 : w1.cell? ⟨B1, 2, none⟩ = some (Value.int .i64 s.sr) := q1.cell 2 rfl
         have c13 : w1.cell? ⟨B1, 3, none⟩ = some (Value.bool s.br) := q1.cell 3 rfl
         have c14 : w1.cell? ⟨B1, 4, none⟩ = some (Value.bool s.ma) := q1.cell 4 rfl
         have c15 : w1.cell? ⟨B1, 5, none⟩ = some (Value.int .i64 s.us) := q1.cell 5 rfl
         have c16 : w1.cell? ⟨B1, 6, none⟩ = some (Value.int .i64 s.ge) := q1.cell 6 rfl
         have c17 : w1.cell? ⟨B1, 7, none⟩ = some (Value.int .i64 s.ep) := q1.cell 7 rfl
         have c18 : w1.cell? ⟨B1, 8, none⟩ = some (Value.int .i64 s.ve) := q1.cell 8 rfl
         have c19 : w1.cell? ⟨B1, 9, none⟩ = some (Value.int .i64 a) := q1.cell 9 rfl
         have c110 : w1.cell? ⟨B1, 10, none⟩ = some (Value.int .i64 mo) := q1.cell 10 rfl
         have hB1 := hB.trans (hb1.mono (by simpa using hB.size))
         have d10 : w1.cell? ⟨B1 + 1, 0, none⟩ = some (Value.int .i64 0) := p1.cell 0 rfl
         have g10 : w1.frozen? ⟨B1 + 1, 0, none⟩ = false := p1.frozen 0
         have d11 : w1.cell? ⟨B1 + 1, 1, none⟩ = some (Value.int .i64 0) := p1.cell 1 rfl
         have g11 : w1.frozen? ⟨B1 + 1, 1, none⟩ = false := p1.frozen 1
         have d12 : w1.cell? ⟨B1 + 1, 2, none⟩ = some (Value.int .i64 0) := p1.cell 2 rfl
         have g12 : w1.frozen? ⟨B1 + 1, 2, none⟩ = false := p1.frozen 2
         have d13 : w1.cell? ⟨B1 + 1, 3, none⟩ = some (Value.bool false) := p1.cell 3 rfl
         have g13 : w1.frozen? ⟨B1 + 1, 3, none⟩ = false := p1.frozen 3
         have d14 : w1.cell? ⟨B1 + 1, 4, none⟩ = some (Value.bool false) := p1.cell 4 rfl
         have g14 : w1.frozen? ⟨B1 + 1, 4, none⟩ = false := p1.frozen 4
         have d15 : w1.cell? ⟨B1 + 1, 5, none⟩ = some (Value.int .i64 0) := p1.cell 5 rfl
         have g15 : w1.frozen? ⟨B1 + 1, 5, none⟩ = false := p1.frozen 5
         have d16 : w1.cell? ⟨B1 + 1, 6, none⟩ = some (Value.int .i64 0) := p1.cell 6 rfl
         have g16 : w1.frozen? ⟨B1 + 1, 6, none⟩ = false := p1.frozen 6
         have d17 : w1.cell? ⟨B1 + 1, 7, none⟩ = some (Value.int .i64 0) := p1.cell 7 rfl
         have g17 : w1.frozen? ⟨B1 + 1, 7, none⟩ = false := p1.frozen 7
         have d18 : w1.cell? ⟨B1 + 1, 8, none⟩ = some (Value.int .i64 0) := p1.cell 8 rfl
         have g18 : w1.frozen? ⟨B1 + 1, 8, none⟩ = false := p1.frozen 8
         ))) | fail
  first
    | (have rz := row9 p1 (Value.int .i64 (s.bare 0).st) (Value.int .i64 (s.bare 0).ow) (Value.int .i64 (s.bare 0).sr) (Value.bool (s.bare 0).br) (Value.bool (s.bare 0).ma) (Value.int .i64 (s.bare 0).us) (Value.int .i64 (s.bare 0).ge) (Value.int .i64 (s.bare 0).ep) (Value.int .i64 (s.bare 0).ve)
       have hz := below9 (n := w.heap.size) (A := w) (b := B1 + 1) hB1 (by omega) (Value.int .i64 (s.bare 0).st) (Value.int .i64 (s.bare 0).ow) (Value.int .i64 (s.bare 0).sr) (Value.bool (s.bare 0).br) (Value.bool (s.bare 0).ma) (Value.int .i64 (s.bare 0).us) (Value.int .i64 (s.bare 0).ge) (Value.int .i64 (s.bare 0).ep) (Value.int .i64 (s.bare 0).ve)
       go_wp2
       refine bodyPost_ret (res_pair (p := 2) (u := 3) rfl _ _ _ _ rfl rz rfl) rfl ⟨rfl, hz⟩)
end Go.Proofs.YtdiipmejkanhfaaDoor
