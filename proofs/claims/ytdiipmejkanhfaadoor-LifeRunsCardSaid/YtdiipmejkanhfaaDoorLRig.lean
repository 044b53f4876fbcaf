/- LifeRight: what is then is right, and another one; who can't be has none. -/
import Derived.Test.YtdiipmejkanhfaaDoorNMath
namespace Go.Proofs.YtdiipmejkanhfaaDoor
open Go.RowKit
attribute [local go_sem ↓] Go.wp_at_zero Go.wp_at_succ

theorem eq_zero (w : World) : (binOp .eql 23 (Value.agg #[Value.int .i64 Sl.zero.st, Value.int .i64 Sl.zero.ow, Value.int .i64 Sl.zero.sr, Value.bool Sl.zero.br, Value.bool Sl.zero.ma, Value.int .i64 Sl.zero.us, Value.int .i64 Sl.zero.ge, Value.int .i64 Sl.zero.ep, Value.int .i64 Sl.zero.ve]) (Value.agg #[Value.int .i64 0, Value.int .i64 0, Value.int .i64 0, Value.bool false, Value.bool false, Value.int .i64 0, Value.int .i64 0, Value.int .i64 0, Value.int .i64 0])).run Tryd.prog w = .ok (.bool true) w :=
  (eq_sl Sl.zero Sl.zero w).trans (by simp)
theorem right_yes {x : Sl} (h : Rt x) (w : World) (hT : Tb w) :
    Calls Tryd.prog 13 #[Value.agg #[Value.int .i64 x.st, Value.int .i64 x.ow, Value.int .i64 x.sr, Value.bool x.br, Value.bool x.ma, Value.int .i64 x.us, Value.int .i64 x.ge, Value.int .i64 x.ep, Value.int .i64 x.ve]] w fun e w' => e = .returned (.bool true) ∧ Below w.heap.size w w' := by
  have := right_any x w hT.1
  rwa [rtB_of h] at this
set_option maxRecDepth 100000 in
set_option maxHeartbeats 4000000 in
theorem lrig_any (s : Sl) (d a mo : Int) (w : World) (hT : Tb w) (hs : s.Wf) (hm : Big mo) :
    Calls Tryd.prog 4 #[Value.agg #[Value.int .i64 s.st, Value.int .i64 s.ow, Value.int .i64 s.sr, Value.bool s.br, Value.bool s.ma, Value.int .i64 s.us, Value.int .i64 s.ge, Value.int .i64 s.ep, Value.int .i64 s.ve], .int .i64 d, .int .i64 a, .int .i64 mo] w fun e w' => e = .returned (.bool true) ∧ Below w.heap.size w w' := by
  cases hn : nxB s d a mo with
  | false =>
    have CN := next_is hs (nxS_no hn) hn
    have heq := eq_zero
    clear hn
    have r0 := RowAt.new w 23 #[Value.int .i64 s.st, Value.int .i64 s.ow, Value.int .i64 s.sr, Value.bool s.br, Value.bool s.ma, Value.int .i64 s.us, Value.int .i64 s.ge, Value.int .i64 s.ep, Value.int .i64 s.ve]
    have hB := (Below.refl w.heap.size w).alloc (Nat.le_refl _) (.cells #[Value.int .i64 s.st, Value.int .i64 s.ow, Value.int .i64 s.sr, Value.bool s.br, Value.bool s.ma, Value.int .i64 s.us, Value.int .i64 s.ge, Value.int .i64 s.ep, Value.int .i64 s.ve] 23)
    have HT := Lib.hid (hT.alloc (.cells #[Value.int .i64 s.st, Value.int .i64 s.ow, Value.int .i64 s.sr, Value.bool s.br, Value.bool s.ma, Value.int .i64 s.us, Value.int .i64 s.ge, Value.int .i64 s.ep, Value.int .i64 s.ve] 23))
    clear hT
    go_enter Tryd.func4, Tryd.ntmps4
    go_wp2_with fail
    refine (awake_any _ HT.out).mono ?_
    rintro e w1 ⟨rfl, hb⟩
    replace r0 := r0.below hb r0.lt
    replace hB := hB.trans (hb.mono hB.size)
    replace HT := Lib.hid (HT.out.below hb HT.out.lt)
    clear hb
    obtain ⟨B1, e1⟩ : ∃ B1, B1 = w.heap.size := ⟨_, rfl⟩
    have hle : w.heap.size ≤ B1 := by omega
    rw [← e1] at r0 ⊢
    clear e1
    have l0 := r0.lt
    have c0 : w1.cell? ⟨B1, 0, none⟩ = some (Value.int .i64 s.st) := r0.cell 0 rfl
    have c1 : w1.cell? ⟨B1, 1, none⟩ = some (Value.int .i64 s.ow) := r0.cell 1 rfl
    have c2 : w1.cell? ⟨B1, 2, none⟩ = some (Value.int .i64 s.sr) := r0.cell 2 rfl
    have c3 : w1.cell? ⟨B1, 3, none⟩ = some (Value.bool s.br) := r0.cell 3 rfl
    have c4 : w1.cell? ⟨B1, 4, none⟩ = some (Value.bool s.ma) := r0.cell 4 rfl
    have c5 : w1.cell? ⟨B1, 5, none⟩ = some (Value.int .i64 s.us) := r0.cell 5 rfl
    have c6 : w1.cell? ⟨B1, 6, none⟩ = some (Value.int .i64 s.ge) := r0.cell 6 rfl
    have c7 : w1.cell? ⟨B1, 7, none⟩ = some (Value.int .i64 s.ep) := r0.cell 7 rfl
    have c8 : w1.cell? ⟨B1, 8, none⟩ = some (Value.int .i64 s.ve) := r0.cell 8 rfl
    go_wp2_with fail
    refine (CN _ HT.out).mono ?_
    rintro e w2 ⟨rfl, hb⟩
    clear c0 c1 c2 c3 c4 c5 c6 c7 c8
    replace hB := (hB.trans (hb.mono hB.size)).alloc (hB.trans (hb.mono hB.size)).size (.cells #[Value.int .i64 Sl.zero.st, Value.int .i64 Sl.zero.ow, Value.int .i64 Sl.zero.sr, Value.bool Sl.zero.br, Value.bool Sl.zero.ma, Value.int .i64 Sl.zero.us, Value.int .i64 Sl.zero.ge, Value.int .i64 Sl.zero.ep, Value.int .i64 Sl.zero.ve] 23)
    clear hb CN
    go_wp2
    go_ret
    exact ⟨rfl, hB⟩
  | true =>
    have R0 := Lib.hid (nx_src hs hn)
    have R1 := Lib.hid (nx_rt hs hm hn)
    have v0 := R0.out.ve
    have hne := nx_ne hs hn
    have hst := nx_step hs hn
    obtain ⟨t, et⟩ : ∃ t, nxS s d a mo = t := ⟨_, rfl⟩
    have CN := next_is hs et hn
    rw [et] at R1 hne hst
    have heq : ∀ w : World, (binOp .neq 23 (Value.agg #[Value.int .i64 t.st, Value.int .i64 t.ow, Value.int .i64 t.sr, Value.bool t.br, Value.bool t.ma, Value.int .i64 t.us, Value.int .i64 t.ge, Value.int .i64 t.ep, Value.int .i64 t.ve]) (Value.agg #[Value.int .i64 s.st, Value.int .i64 s.ow, Value.int .i64 s.sr, Value.bool s.br, Value.bool s.ma, Value.int .i64 s.us, Value.int .i64 s.ge, Value.int .i64 s.ep, Value.int .i64 s.ve])).run Tryd.prog w = .ok (.bool true) w := fun w => (ne_sl t s w).trans (by simp [hne])
    clear hn et hne
    rcases hst with hst | hst
    · have hq : (t.ve == s.ve + 1) = true := by simpa using hst
      clear hst
      have r0 := RowAt.new w 23 #[Value.int .i64 s.st, Value.int .i64 s.ow, Value.int .i64 s.sr, Value.bool s.br, Value.bool s.ma, Value.int .i64 s.us, Value.int .i64 s.ge, Value.int .i64 s.ep, Value.int .i64 s.ve]
      have hB := (Below.refl w.heap.size w).alloc (Nat.le_refl _) (.cells #[Value.int .i64 s.st, Value.int .i64 s.ow, Value.int .i64 s.sr, Value.bool s.br, Value.bool s.ma, Value.int .i64 s.us, Value.int .i64 s.ge, Value.int .i64 s.ep, Value.int .i64 s.ve] 23)
      have HT := Lib.hid (hT.alloc (.cells #[Value.int .i64 s.st, Value.int .i64 s.ow, Value.int .i64 s.sr, Value.bool s.br, Value.bool s.ma, Value.int .i64 s.us, Value.int .i64 s.ge, Value.int .i64 s.ep, Value.int .i64 s.ve] 23))
      clear hT
      go_enter Tryd.func4, Tryd.ntmps4
      go_wp2_with fail
      refine (awake_any _ HT.out).mono ?_
      rintro e w1 ⟨rfl, hb⟩
      replace r0 := r0.below hb r0.lt
      replace hB := hB.trans (hb.mono hB.size)
      replace HT := Lib.hid (HT.out.below hb HT.out.lt)
      clear hb
      obtain ⟨B1, e1⟩ : ∃ B1, B1 = w.heap.size := ⟨_, rfl⟩
      have hle : w.heap.size ≤ B1 := by omega
      rw [← e1] at r0 ⊢
      clear e1
      have l0 := r0.lt
      have c0 : w1.cell? ⟨B1, 0, none⟩ = some (Value.int .i64 s.st) := r0.cell 0 rfl
      have c1 : w1.cell? ⟨B1, 1, none⟩ = some (Value.int .i64 s.ow) := r0.cell 1 rfl
      have c2 : w1.cell? ⟨B1, 2, none⟩ = some (Value.int .i64 s.sr) := r0.cell 2 rfl
      have c3 : w1.cell? ⟨B1, 3, none⟩ = some (Value.bool s.br) := r0.cell 3 rfl
      have c4 : w1.cell? ⟨B1, 4, none⟩ = some (Value.bool s.ma) := r0.cell 4 rfl
      have c5 : w1.cell? ⟨B1, 5, none⟩ = some (Value.int .i64 s.us) := r0.cell 5 rfl
      have c6 : w1.cell? ⟨B1, 6, none⟩ = some (Value.int .i64 s.ge) := r0.cell 6 rfl
      have c7 : w1.cell? ⟨B1, 7, none⟩ = some (Value.int .i64 s.ep) := r0.cell 7 rfl
      have c8 : w1.cell? ⟨B1, 8, none⟩ = some (Value.int .i64 s.ve) := r0.cell 8 rfl
      go_wp2_with fail
      refine (CN _ HT.out).mono ?_
      rintro e w2 ⟨rfl, hb⟩
      clear c0 c1 c2 c3 c4 c5 c6 c7 c8
      have r1 := RowAt.new w2 23 #[Value.int .i64 t.st, Value.int .i64 t.ow, Value.int .i64 t.sr, Value.bool t.br, Value.bool t.ma, Value.int .i64 t.us, Value.int .i64 t.ge, Value.int .i64 t.ep, Value.int .i64 t.ve]
      replace r0 := (r0.below hb r0.lt).alloc (.cells #[Value.int .i64 t.st, Value.int .i64 t.ow, Value.int .i64 t.sr, Value.bool t.br, Value.bool t.ma, Value.int .i64 t.us, Value.int .i64 t.ge, Value.int .i64 t.ep, Value.int .i64 t.ve] 23)
      replace HT := Lib.hid ((HT.out.below hb HT.out.lt).alloc (.cells #[Value.int .i64 t.st, Value.int .i64 t.ow, Value.int .i64 t.sr, Value.bool t.br, Value.bool t.ma, Value.int .i64 t.us, Value.int .i64 t.ge, Value.int .i64 t.ep, Value.int .i64 t.ve] 23))
      replace hB := (hB.trans (hb.mono hB.size)).alloc (hB.trans (hb.mono hB.size)).size (.cells #[Value.int .i64 t.st, Value.int .i64 t.ow, Value.int .i64 t.sr, Value.bool t.br, Value.bool t.ma, Value.int .i64 t.us, Value.int .i64 t.ge, Value.int .i64 t.ep, Value.int .i64 t.ve] 23)
      clear hb CN l0
      have c0 : (w2.alloc (.cells #[Value.int .i64 t.st, Value.int .i64 t.ow, Value.int .i64 t.sr, Value.bool t.br, Value.bool t.ma, Value.int .i64 t.us, Value.int .i64 t.ge, Value.int .i64 t.ep, Value.int .i64 t.ve] 23)).cell? ⟨B1, 0, none⟩ = some (Value.int .i64 s.st) := r0.cell 0 rfl
      have c1 : (w2.alloc (.cells #[Value.int .i64 t.st, Value.int .i64 t.ow, Value.int .i64 t.sr, Value.bool t.br, Value.bool t.ma, Value.int .i64 t.us, Value.int .i64 t.ge, Value.int .i64 t.ep, Value.int .i64 t.ve] 23)).cell? ⟨B1, 1, none⟩ = some (Value.int .i64 s.ow) := r0.cell 1 rfl
      have c2 : (w2.alloc (.cells #[Value.int .i64 t.st, Value.int .i64 t.ow, Value.int .i64 t.sr, Value.bool t.br, Value.bool t.ma, Value.int .i64 t.us, Value.int .i64 t.ge, Value.int .i64 t.ep, Value.int .i64 t.ve] 23)).cell? ⟨B1, 2, none⟩ = some (Value.int .i64 s.sr) := r0.cell 2 rfl
      have c3 : (w2.alloc (.cells #[Value.int .i64 t.st, Value.int .i64 t.ow, Value.int .i64 t.sr, Value.bool t.br, Value.bool t.ma, Value.int .i64 t.us, Value.int .i64 t.ge, Value.int .i64 t.ep, Value.int .i64 t.ve] 23)).cell? ⟨B1, 3, none⟩ = some (Value.bool s.br) := r0.cell 3 rfl
      have c4 : (w2.alloc (.cells #[Value.int .i64 t.st, Value.int .i64 t.ow, Value.int .i64 t.sr, Value.bool t.br, Value.bool t.ma, Value.int .i64 t.us, Value.int .i64 t.ge, Value.int .i64 t.ep, Value.int .i64 t.ve] 23)).cell? ⟨B1, 4, none⟩ = some (Value.bool s.ma) := r0.cell 4 rfl
      have c5 : (w2.alloc (.cells #[Value.int .i64 t.st, Value.int .i64 t.ow, Value.int .i64 t.sr, Value.bool t.br, Value.bool t.ma, Value.int .i64 t.us, Value.int .i64 t.ge, Value.int .i64 t.ep, Value.int .i64 t.ve] 23)).cell? ⟨B1, 5, none⟩ = some (Value.int .i64 s.us) := r0.cell 5 rfl
      have c6 : (w2.alloc (.cells #[Value.int .i64 t.st, Value.int .i64 t.ow, Value.int .i64 t.sr, Value.bool t.br, Value.bool t.ma, Value.int .i64 t.us, Value.int .i64 t.ge, Value.int .i64 t.ep, Value.int .i64 t.ve] 23)).cell? ⟨B1, 6, none⟩ = some (Value.int .i64 s.ge) := r0.cell 6 rfl
      have c7 : (w2.alloc (.cells #[Value.int .i64 t.st, Value.int .i64 t.ow, Value.int .i64 t.sr, Value.bool t.br, Value.bool t.ma, Value.int .i64 t.us, Value.int .i64 t.ge, Value.int .i64 t.ep, Value.int .i64 t.ve] 23)).cell? ⟨B1, 7, none⟩ = some (Value.int .i64 s.ep) := r0.cell 7 rfl
      have c8 : (w2.alloc (.cells #[Value.int .i64 t.st, Value.int .i64 t.ow, Value.int .i64 t.sr, Value.bool t.br, Value.bool t.ma, Value.int .i64 t.us, Value.int .i64 t.ge, Value.int .i64 t.ep, Value.int .i64 t.ve] 23)).cell? ⟨B1, 8, none⟩ = some (Value.int .i64 s.ve) := r0.cell 8 rfl
      have l0 := r0.lt
      go_wp2_with fail
      refine (right_yes R0.out _ HT.out).mono ?_
      rintro e w3 ⟨rfl, hb⟩
      clear c0 c1 c2 c3 c4 c5 c6 c7 c8
      replace r0 := r0.below hb r0.lt
      replace r1 := r1.below hb r1.lt
      replace HT := Lib.hid (HT.out.below hb HT.out.lt)
      replace hB := hB.trans (hb.mono hB.size)
      obtain ⟨B2, e2⟩ : ∃ B2, B2 = w2.heap.size := ⟨_, rfl⟩
      rw [← e2] at r1 ⊢
      clear hb l0 e2
      have c0 : w3.cell? ⟨B1, 0, none⟩ = some (Value.int .i64 s.st) := r0.cell 0 rfl
      have c1 : w3.cell? ⟨B1, 1, none⟩ = some (Value.int .i64 s.ow) := r0.cell 1 rfl
      have c2 : w3.cell? ⟨B1, 2, none⟩ = some (Value.int .i64 s.sr) := r0.cell 2 rfl
      have c3 : w3.cell? ⟨B1, 3, none⟩ = some (Value.bool s.br) := r0.cell 3 rfl
      have c4 : w3.cell? ⟨B1, 4, none⟩ = some (Value.bool s.ma) := r0.cell 4 rfl
      have c5 : w3.cell? ⟨B1, 5, none⟩ = some (Value.int .i64 s.us) := r0.cell 5 rfl
      have c6 : w3.cell? ⟨B1, 6, none⟩ = some (Value.int .i64 s.ge) := r0.cell 6 rfl
      have c7 : w3.cell? ⟨B1, 7, none⟩ = some (Value.int .i64 s.ep) := r0.cell 7 rfl
      have c8 : w3.cell? ⟨B1, 8, none⟩ = some (Value.int .i64 s.ve) := r0.cell 8 rfl
      have z0 : w3.cell? ⟨B2, 0, none⟩ = some (Value.int .i64 t.st) := r1.cell 0 rfl
      have z1 : w3.cell? ⟨B2, 1, none⟩ = some (Value.int .i64 t.ow) := r1.cell 1 rfl
      have z2 : w3.cell? ⟨B2, 2, none⟩ = some (Value.int .i64 t.sr) := r1.cell 2 rfl
      have z3 : w3.cell? ⟨B2, 3, none⟩ = some (Value.bool t.br) := r1.cell 3 rfl
      have z4 : w3.cell? ⟨B2, 4, none⟩ = some (Value.bool t.ma) := r1.cell 4 rfl
      have z5 : w3.cell? ⟨B2, 5, none⟩ = some (Value.int .i64 t.us) := r1.cell 5 rfl
      have z6 : w3.cell? ⟨B2, 6, none⟩ = some (Value.int .i64 t.ge) := r1.cell 6 rfl
      have z7 : w3.cell? ⟨B2, 7, none⟩ = some (Value.int .i64 t.ep) := r1.cell 7 rfl
      have z8 : w3.cell? ⟨B2, 8, none⟩ = some (Value.int .i64 t.ve) := r1.cell 8 rfl
      go_wp2_with fail
      refine (right_yes R1.out _ HT.out).mono ?_
      rintro e w4 ⟨rfl, hb⟩
      clear c0 c1 c2 c3 c4 c5 c6 c7 c8
      clear z0 z1 z2 z3 z4 z5 z6 z7 z8
      replace r0 := r0.below hb r0.lt
      replace r1 := r1.below hb r1.lt
      replace hB := hB.trans (hb.mono hB.size)
      clear hb
      have c0 : w4.cell? ⟨B1, 0, none⟩ = some (Value.int .i64 s.st) := r0.cell 0 rfl
      have c1 : w4.cell? ⟨B1, 1, none⟩ = some (Value.int .i64 s.ow) := r0.cell 1 rfl
      have c2 : w4.cell? ⟨B1, 2, none⟩ = some (Value.int .i64 s.sr) := r0.cell 2 rfl
      have c3 : w4.cell? ⟨B1, 3, none⟩ = some (Value.bool s.br) := r0.cell 3 rfl
      have c4 : w4.cell? ⟨B1, 4, none⟩ = some (Value.bool s.ma) := r0.cell 4 rfl
      have c5 : w4.cell? ⟨B1, 5, none⟩ = some (Value.int .i64 s.us) := r0.cell 5 rfl
      have c6 : w4.cell? ⟨B1, 6, none⟩ = some (Value.int .i64 s.ge) := r0.cell 6 rfl
      have c7 : w4.cell? ⟨B1, 7, none⟩ = some (Value.int .i64 s.ep) := r0.cell 7 rfl
      have c8 : w4.cell? ⟨B1, 8, none⟩ = some (Value.int .i64 s.ve) := r0.cell 8 rfl
      have z0 : w4.cell? ⟨B2, 0, none⟩ = some (Value.int .i64 t.st) := r1.cell 0 rfl
      have z1 : w4.cell? ⟨B2, 1, none⟩ = some (Value.int .i64 t.ow) := r1.cell 1 rfl
      have z2 : w4.cell? ⟨B2, 2, none⟩ = some (Value.int .i64 t.sr) := r1.cell 2 rfl
      have z3 : w4.cell? ⟨B2, 3, none⟩ = some (Value.bool t.br) := r1.cell 3 rfl
      have z4 : w4.cell? ⟨B2, 4, none⟩ = some (Value.bool t.ma) := r1.cell 4 rfl
      have z5 : w4.cell? ⟨B2, 5, none⟩ = some (Value.int .i64 t.us) := r1.cell 5 rfl
      have z6 : w4.cell? ⟨B2, 6, none⟩ = some (Value.int .i64 t.ge) := r1.cell 6 rfl
      have z7 : w4.cell? ⟨B2, 7, none⟩ = some (Value.int .i64 t.ep) := r1.cell 7 rfl
      have z8 : w4.cell? ⟨B2, 8, none⟩ = some (Value.int .i64 t.ve) := r1.cell 8 rfl
      go_wp2
      go_ret
      exact ⟨rfl, hB⟩
    · have hq : (t.ve == s.ve + 1) = false := by simp; omega
      have hq1 : (s.ve == 32767) = true := by simpa using hst.1
      have hq2 : (t.ve == 0) = true := by simpa using hst.2
      clear hst
      have r0 := RowAt.new w 23 #[Value.int .i64 s.st, Value.int .i64 s.ow, Value.int .i64 s.sr, Value.bool s.br, Value.bool s.ma, Value.int .i64 s.us, Value.int .i64 s.ge, Value.int .i64 s.ep, Value.int .i64 s.ve]
      have hB := (Below.refl w.heap.size w).alloc (Nat.le_refl _) (.cells #[Value.int .i64 s.st, Value.int .i64 s.ow, Value.int .i64 s.sr, Value.bool s.br, Value.bool s.ma, Value.int .i64 s.us, Value.int .i64 s.ge, Value.int .i64 s.ep, Value.int .i64 s.ve] 23)
      have HT := Lib.hid (hT.alloc (.cells #[Value.int .i64 s.st, Value.int .i64 s.ow, Value.int .i64 s.sr, Value.bool s.br, Value.bool s.ma, Value.int .i64 s.us, Value.int .i64 s.ge, Value.int .i64 s.ep, Value.int .i64 s.ve] 23))
      clear hT
      go_enter Tryd.func4, Tryd.ntmps4
      go_wp2_with fail
      refine (awake_any _ HT.out).mono ?_
      rintro e w1 ⟨rfl, hb⟩
      replace r0 := r0.below hb r0.lt
      replace hB := hB.trans (hb.mono hB.size)
      replace HT := Lib.hid (HT.out.below hb HT.out.lt)
      clear hb
      obtain ⟨B1, e1⟩ : ∃ B1, B1 = w.heap.size := ⟨_, rfl⟩
      have hle : w.heap.size ≤ B1 := by omega
      rw [← e1] at r0 ⊢
      clear e1
      have l0 := r0.lt
      have c0 : w1.cell? ⟨B1, 0, none⟩ = some (Value.int .i64 s.st) := r0.cell 0 rfl
      have c1 : w1.cell? ⟨B1, 1, none⟩ = some (Value.int .i64 s.ow) := r0.cell 1 rfl
      have c2 : w1.cell? ⟨B1, 2, none⟩ = some (Value.int .i64 s.sr) := r0.cell 2 rfl
      have c3 : w1.cell? ⟨B1, 3, none⟩ = some (Value.bool s.br) := r0.cell 3 rfl
      have c4 : w1.cell? ⟨B1, 4, none⟩ = some (Value.bool s.ma) := r0.cell 4 rfl
      have c5 : w1.cell? ⟨B1, 5, none⟩ = some (Value.int .i64 s.us) := r0.cell 5 rfl
      have c6 : w1.cell? ⟨B1, 6, none⟩ = some (Value.int .i64 s.ge) := r0.cell 6 rfl
      have c7 : w1.cell? ⟨B1, 7, none⟩ = some (Value.int .i64 s.ep) := r0.cell 7 rfl
      have c8 : w1.cell? ⟨B1, 8, none⟩ = some (Value.int .i64 s.ve) := r0.cell 8 rfl
      go_wp2_with fail
      refine (CN _ HT.out).mono ?_
      rintro e w2 ⟨rfl, hb⟩
      clear c0 c1 c2 c3 c4 c5 c6 c7 c8
      have r1 := RowAt.new w2 23 #[Value.int .i64 t.st, Value.int .i64 t.ow, Value.int .i64 t.sr, Value.bool t.br, Value.bool t.ma, Value.int .i64 t.us, Value.int .i64 t.ge, Value.int .i64 t.ep, Value.int .i64 t.ve]
      replace r0 := (r0.below hb r0.lt).alloc (.cells #[Value.int .i64 t.st, Value.int .i64 t.ow, Value.int .i64 t.sr, Value.bool t.br, Value.bool t.ma, Value.int .i64 t.us, Value.int .i64 t.ge, Value.int .i64 t.ep, Value.int .i64 t.ve] 23)
      replace HT := Lib.hid ((HT.out.below hb HT.out.lt).alloc (.cells #[Value.int .i64 t.st, Value.int .i64 t.ow, Value.int .i64 t.sr, Value.bool t.br, Value.bool t.ma, Value.int .i64 t.us, Value.int .i64 t.ge, Value.int .i64 t.ep, Value.int .i64 t.ve] 23))
      replace hB := (hB.trans (hb.mono hB.size)).alloc (hB.trans (hb.mono hB.size)).size (.cells #[Value.int .i64 t.st, Value.int .i64 t.ow, Value.int .i64 t.sr, Value.bool t.br, Value.bool t.ma, Value.int .i64 t.us, Value.int .i64 t.ge, Value.int .i64 t.ep, Value.int .i64 t.ve] 23)
      clear hb CN l0
      have c0 : (w2.alloc (.cells #[Value.int .i64 t.st, Value.int .i64 t.ow, Value.int .i64 t.sr, Value.bool t.br, Value.bool t.ma, Value.int .i64 t.us, Value.int .i64 t.ge, Value.int .i64 t.ep, Value.int .i64 t.ve] 23)).cell? ⟨B1, 0, none⟩ = some (Value.int .i64 s.st) := r0.cell 0 rfl
      have c1 : (w2.alloc (.cells #[Value.int .i64 t.st, Value.int .i64 t.ow, Value.int .i64 t.sr, Value.bool t.br, Value.bool t.ma, Value.int .i64 t.us, Value.int .i64 t.ge, Value.int .i64 t.ep, Value.int .i64 t.ve] 23)).cell? ⟨B1, 1, none⟩ = some (Value.int .i64 s.ow) := r0.cell 1 rfl
      have c2 : (w2.alloc (.cells #[Value.int .i64 t.st, Value.int .i64 t.ow, Value.int .i64 t.sr, Value.bool t.br, Value.bool t.ma, Value.int .i64 t.us, Value.int .i64 t.ge, Value.int .i64 t.ep, Value.int .i64 t.ve] 23)).cell? ⟨B1, 2, none⟩ = some (Value.int .i64 s.sr) := r0.cell 2 rfl
      have c3 : (w2.alloc (.cells #[Value.int .i64 t.st, Value.int .i64 t.ow, Value.int .i64 t.sr, Value.bool t.br, Value.bool t.ma, Value.int .i64 t.us, Value.int .i64 t.ge, Value.int .i64 t.ep, Value.int .i64 t.ve] 23)).cell? ⟨B1, 3, none⟩ = some (Value.bool s.br) := r0.cell 3 rfl
      have c4 : (w2.alloc (.cells #[Value.int .i64 t.st, Value.int .i64 t.ow, Value.int .i64 t.sr, Value.bool t.br, Value.bool t.ma, Value.int .i64 t.us, Value.int .i64 t.ge, Value.int .i64 t.ep, Value.int .i64 t.ve] 23)).cell? ⟨B1, 4, none⟩ = some (Value.bool s.ma) := r0.cell 4 rfl
      have c5 : (w2.alloc (.cells #[Value.int .i64 t.st, Value.int .i64 t.ow, Value.int .i64 t.sr, Value.bool t.br, Value.bool t.ma, Value.int .i64 t.us, Value.int .i64 t.ge, Value.int .i64 t.ep, Value.int .i64 t.ve] 23)).cell? ⟨B1, 5, none⟩ = some (Value.int .i64 s.us) := r0.cell 5 rfl
      have c6 : (w2.alloc (.cells #[Value.int .i64 t.st, Value.int .i64 t.ow, Value.int .i64 t.sr, Value.bool t.br, Value.bool t.ma, Value.int .i64 t.us, Value.int .i64 t.ge, Value.int .i64 t.ep, Value.int .i64 t.ve] 23)).cell? ⟨B1, 6, none⟩ = some (Value.int .i64 s.ge) := r0.cell 6 rfl
      have c7 : (w2.alloc (.cells #[Value.int .i64 t.st, Value.int .i64 t.ow, Value.int .i64 t.sr, Value.bool t.br, Value.bool t.ma, Value.int .i64 t.us, Value.int .i64 t.ge, Value.int .i64 t.ep, Value.int .i64 t.ve] 23)).cell? ⟨B1, 7, none⟩ = some (Value.int .i64 s.ep) := r0.cell 7 rfl
      have c8 : (w2.alloc (.cells #[Value.int .i64 t.st, Value.int .i64 t.ow, Value.int .i64 t.sr, Value.bool t.br, Value.bool t.ma, Value.int .i64 t.us, Value.int .i64 t.ge, Value.int .i64 t.ep, Value.int .i64 t.ve] 23)).cell? ⟨B1, 8, none⟩ = some (Value.int .i64 s.ve) := r0.cell 8 rfl
      have l0 := r0.lt
      go_wp2_with fail
      refine (right_yes R0.out _ HT.out).mono ?_
      rintro e w3 ⟨rfl, hb⟩
      clear c0 c1 c2 c3 c4 c5 c6 c7 c8
      replace r0 := r0.below hb r0.lt
      replace r1 := r1.below hb r1.lt
      replace HT := Lib.hid (HT.out.below hb HT.out.lt)
      replace hB := hB.trans (hb.mono hB.size)
      obtain ⟨B2, e2⟩ : ∃ B2, B2 = w2.heap.size := ⟨_, rfl⟩
      rw [← e2] at r1 ⊢
      clear hb l0 e2
      have c0 : w3.cell? ⟨B1, 0, none⟩ = some (Value.int .i64 s.st) := r0.cell 0 rfl
      have c1 : w3.cell? ⟨B1, 1, none⟩ = some (Value.int .i64 s.ow) := r0.cell 1 rfl
      have c2 : w3.cell? ⟨B1, 2, none⟩ = some (Value.int .i64 s.sr) := r0.cell 2 rfl
      have c3 : w3.cell? ⟨B1, 3, none⟩ = some (Value.bool s.br) := r0.cell 3 rfl
      have c4 : w3.cell? ⟨B1, 4, none⟩ = some (Value.bool s.ma) := r0.cell 4 rfl
      have c5 : w3.cell? ⟨B1, 5, none⟩ = some (Value.int .i64 s.us) := r0.cell 5 rfl
      have c6 : w3.cell? ⟨B1, 6, none⟩ = some (Value.int .i64 s.ge) := r0.cell 6 rfl
      have c7 : w3.cell? ⟨B1, 7, none⟩ = some (Value.int .i64 s.ep) := r0.cell 7 rfl
      have c8 : w3.cell? ⟨B1, 8, none⟩ = some (Value.int .i64 s.ve) := r0.cell 8 rfl
      have z0 : w3.cell? ⟨B2, 0, none⟩ = some (Value.int .i64 t.st) := r1.cell 0 rfl
      have z1 : w3.cell? ⟨B2, 1, none⟩ = some (Value.int .i64 t.ow) := r1.cell 1 rfl
      have z2 : w3.cell? ⟨B2, 2, none⟩ = some (Value.int .i64 t.sr) := r1.cell 2 rfl
      have z3 : w3.cell? ⟨B2, 3, none⟩ = some (Value.bool t.br) := r1.cell 3 rfl
      have z4 : w3.cell? ⟨B2, 4, none⟩ = some (Value.bool t.ma) := r1.cell 4 rfl
      have z5 : w3.cell? ⟨B2, 5, none⟩ = some (Value.int .i64 t.us) := r1.cell 5 rfl
      have z6 : w3.cell? ⟨B2, 6, none⟩ = some (Value.int .i64 t.ge) := r1.cell 6 rfl
      have z7 : w3.cell? ⟨B2, 7, none⟩ = some (Value.int .i64 t.ep) := r1.cell 7 rfl
      have z8 : w3.cell? ⟨B2, 8, none⟩ = some (Value.int .i64 t.ve) := r1.cell 8 rfl
      go_wp2_with fail
      refine (right_yes R1.out _ HT.out).mono ?_
      rintro e w4 ⟨rfl, hb⟩
      clear c0 c1 c2 c3 c4 c5 c6 c7 c8
      clear z0 z1 z2 z3 z4 z5 z6 z7 z8
      replace r0 := r0.below hb r0.lt
      replace r1 := r1.below hb r1.lt
      replace hB := hB.trans (hb.mono hB.size)
      clear hb
      have c0 : w4.cell? ⟨B1, 0, none⟩ = some (Value.int .i64 s.st) := r0.cell 0 rfl
      have c1 : w4.cell? ⟨B1, 1, none⟩ = some (Value.int .i64 s.ow) := r0.cell 1 rfl
      have c2 : w4.cell? ⟨B1, 2, none⟩ = some (Value.int .i64 s.sr) := r0.cell 2 rfl
      have c3 : w4.cell? ⟨B1, 3, none⟩ = some (Value.bool s.br) := r0.cell 3 rfl
      have c4 : w4.cell? ⟨B1, 4, none⟩ = some (Value.bool s.ma) := r0.cell 4 rfl
      have c5 : w4.cell? ⟨B1, 5, none⟩ = some (Value.int .i64 s.us) := r0.cell 5 rfl
      have c6 : w4.cell? ⟨B1, 6, none⟩ = some (Value.int .i64 s.ge) := r0.cell 6 rfl
      have c7 : w4.cell? ⟨B1, 7, none⟩ = some (Value.int .i64 s.ep) := r0.cell 7 rfl
      have c8 : w4.cell? ⟨B1, 8, none⟩ = some (Value.int .i64 s.ve) := r0.cell 8 rfl
      have z0 : w4.cell? ⟨B2, 0, none⟩ = some (Value.int .i64 t.st) := r1.cell 0 rfl
      have z1 : w4.cell? ⟨B2, 1, none⟩ = some (Value.int .i64 t.ow) := r1.cell 1 rfl
      have z2 : w4.cell? ⟨B2, 2, none⟩ = some (Value.int .i64 t.sr) := r1.cell 2 rfl
      have z3 : w4.cell? ⟨B2, 3, none⟩ = some (Value.bool t.br) := r1.cell 3 rfl
      have z4 : w4.cell? ⟨B2, 4, none⟩ = some (Value.bool t.ma) := r1.cell 4 rfl
      have z5 : w4.cell? ⟨B2, 5, none⟩ = some (Value.int .i64 t.us) := r1.cell 5 rfl
      have z6 : w4.cell? ⟨B2, 6, none⟩ = some (Value.int .i64 t.ge) := r1.cell 6 rfl
      have z7 : w4.cell? ⟨B2, 7, none⟩ = some (Value.int .i64 t.ep) := r1.cell 7 rfl
      have z8 : w4.cell? ⟨B2, 8, none⟩ = some (Value.int .i64 t.ve) := r1.cell 8 rfl
      go_wp2
      go_ret
      exact ⟨rfl, hB⟩
end Go.Proofs.YtdiipmejkanhfaaDoor
