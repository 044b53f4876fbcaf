/- LifeTells: what becomes of any slot, whatever is done with it, or that it can't be, is as the document says. -/
import Derived.Test.YtdiipmejkanhfaaDoorRefN
import Derived.Test.YtdiipmejkanhfaaDoorAwake
namespace Go.Proofs.YtdiipmejkanhfaaDoor
open Go.RowKit
attribute [local go_sem ↓] Go.wp_at_zero Go.wp_at_succ

set_option maxRecDepth 100000 in
set_option maxHeartbeats 4000000 in
theorem ltel_any (s : Sl) (d a mo : Int) (w : World) (hT : Tb w) (hs : s.Wf) (hm : Big mo) :
    Calls Tryd.prog 3 #[Value.agg #[Value.int .i64 s.st, Value.int .i64 s.ow, Value.int .i64 s.sr, Value.bool s.br, Value.bool s.ma, Value.int .i64 s.us, Value.int .i64 s.ge, Value.int .i64 s.ep, Value.int .i64 s.ve], .int .i64 d, .int .i64 a, .int .i64 mo] w fun e w' => e = .returned (.bool true) ∧ Below w.heap.size w w' := by
  obtain ⟨t, et⟩ : ∃ t, nxS s d a mo = t := ⟨_, rfl⟩
  obtain ⟨b, eb⟩ : ∃ b, nxB s d a mo = b := ⟨_, rfl⟩
  have CN := next_is hs et eb
  have CR : ∀ w : World, Calls Tryd.prog 12 #[Value.agg #[Value.int .i64 s.st, Value.int .i64 s.ow, Value.int .i64 s.sr, Value.bool s.br, Value.bool s.ma, Value.int .i64 s.us, Value.int .i64 s.ge, Value.int .i64 s.ep, Value.int .i64 s.ve], .int .i64 d, .int .i64 a, .int .i64 mo] w fun e w' => e = .returned (.tuple #[.agg #[Value.int .i64 t.st, Value.int .i64 t.ow, Value.int .i64 t.sr, Value.bool t.br, Value.bool t.ma, Value.int .i64 t.us, Value.int .i64 t.ge, Value.int .i64 t.ep, Value.int .i64 t.ve], .bool b]) ∧ Below w.heap.size w w' := fun w => by
    have := refNext_any s d a mo w hs hm
    rwa [et, eb] at this
  have heq : ∀ w : World, (binOp .eql 23 (Value.agg #[Value.int .i64 t.st, Value.int .i64 t.ow, Value.int .i64 t.sr, Value.bool t.br, Value.bool t.ma, Value.int .i64 t.us, Value.int .i64 t.ge, Value.int .i64 t.ep, Value.int .i64 t.ve]) (Value.agg #[Value.int .i64 t.st, Value.int .i64 t.ow, Value.int .i64 t.sr, Value.bool t.br, Value.bool t.ma, Value.int .i64 t.us, Value.int .i64 t.ge, Value.int .i64 t.ep, Value.int .i64 t.ve])).run Tryd.prog w = .ok (.bool true) w := fun w => (eq_sl t t w).trans (by simp)
  clear et eb
  cases b with
  | false =>
    have r0 := RowAt.new w 23 #[Value.int .i64 s.st, Value.int .i64 s.ow, Value.int .i64 s.sr, Value.bool s.br, Value.bool s.ma, Value.int .i64 s.us, Value.int .i64 s.ge, Value.int .i64 s.ep, Value.int .i64 s.ve]
    have hB := (Below.refl w.heap.size w).alloc (Nat.le_refl _) (.cells #[Value.int .i64 s.st, Value.int .i64 s.ow, Value.int .i64 s.sr, Value.bool s.br, Value.bool s.ma, Value.int .i64 s.us, Value.int .i64 s.ge, Value.int .i64 s.ep, Value.int .i64 s.ve] 23)
    have HT := Lib.hid (hT.alloc (.cells #[Value.int .i64 s.st, Value.int .i64 s.ow, Value.int .i64 s.sr, Value.bool s.br, Value.bool s.ma, Value.int .i64 s.us, Value.int .i64 s.ge, Value.int .i64 s.ep, Value.int .i64 s.ve] 23))
    clear hT
    go_enter Tryd.func3, Tryd.ntmps3
    go_wp2_with fail
    refine (awake_any _ HT.out).mono ?_
    rintro e w1 ⟨rfl, hb⟩
    replace r0 := r0.below hb r0.lt
    replace hB := hB.trans (hb.mono hB.size)
    replace HT := Lib.hid (HT.out.below hb HT.out.lt)
    clear hb
    obtain ⟨B1, e1⟩ : ∃ B1, B1 = w.heap.size := ⟨_, rfl⟩
    have hle : w.heap.size ≤ B1 := by omega
    rw [← e1] at r0 ⊢
    clear e1
    have l0 := r0.lt
    have c0 : w1.cell? ⟨B1, 0, none⟩ = some (Value.int .i64 s.st) := r0.cell 0 rfl
    have c1 : w1.cell? ⟨B1, 1, none⟩ = some (Value.int .i64 s.ow) := r0.cell 1 rfl
    have c2 : w1.cell? ⟨B1, 2, none⟩ = some (Value.int .i64 s.sr) := r0.cell 2 rfl
    have c3 : w1.cell? ⟨B1, 3, none⟩ = some (Value.bool s.br) := r0.cell 3 rfl
    have c4 : w1.cell? ⟨B1, 4, none⟩ = some (Value.bool s.ma) := r0.cell 4 rfl
    have c5 : w1.cell? ⟨B1, 5, none⟩ = some (Value.int .i64 s.us) := r0.cell 5 rfl
    have c6 : w1.cell? ⟨B1, 6, none⟩ = some (Value.int .i64 s.ge) := r0.cell 6 rfl
    have c7 : w1.cell? ⟨B1, 7, none⟩ = some (Value.int .i64 s.ep) := r0.cell 7 rfl
    have c8 : w1.cell? ⟨B1, 8, none⟩ = some (Value.int .i64 s.ve) := r0.cell 8 rfl
    go_wp2_with fail
    refine (CN _ HT.out).mono ?_
    rintro e w2 ⟨rfl, hb⟩
    clear c0 c1 c2 c3 c4 c5 c6 c7 c8
    replace r0 := r0.below hb r0.lt
    replace hB := hB.trans (hb.mono hB.size)
    have r1 := RowAt.new w2 23 #[Value.int .i64 t.st, Value.int .i64 t.ow, Value.int .i64 t.sr, Value.bool t.br, Value.bool t.ma, Value.int .i64 t.us, Value.int .i64 t.ge, Value.int .i64 t.ep, Value.int .i64 t.ve]
    clear hb l0 HT
    have l0 := r0.lt
    have c0 : w2.cell? ⟨B1, 0, none⟩ = some (Value.int .i64 s.st) := r0.cell 0 rfl
    have c1 : w2.cell? ⟨B1, 1, none⟩ = some (Value.int .i64 s.ow) := r0.cell 1 rfl
    have c2 : w2.cell? ⟨B1, 2, none⟩ = some (Value.int .i64 s.sr) := r0.cell 2 rfl
    have c3 : w2.cell? ⟨B1, 3, none⟩ = some (Value.bool s.br) := r0.cell 3 rfl
    have c4 : w2.cell? ⟨B1, 4, none⟩ = some (Value.bool s.ma) := r0.cell 4 rfl
    have c5 : w2.cell? ⟨B1, 5, none⟩ = some (Value.int .i64 s.us) := r0.cell 5 rfl
    have c6 : w2.cell? ⟨B1, 6, none⟩ = some (Value.int .i64 s.ge) := r0.cell 6 rfl
    have c7 : w2.cell? ⟨B1, 7, none⟩ = some (Value.int .i64 s.ep) := r0.cell 7 rfl
    have c8 : w2.cell? ⟨B1, 8, none⟩ = some (Value.int .i64 s.ve) := r0.cell 8 rfl
    go_wp2_with fail
    replace hB := hB.alloc hB.size (.cells #[Value.int .i64 t.st, Value.int .i64 t.ow, Value.int .i64 t.sr, Value.bool t.br, Value.bool t.ma, Value.int .i64 t.us, Value.int .i64 t.ge, Value.int .i64 t.ep, Value.int .i64 t.ve] 23)
    refine (CR _).mono ?_
    rintro e w3 ⟨rfl, hb⟩
    clear c0 c1 c2 c3 c4 c5 c6 c7 c8
    replace r1 := r1.below hb r1.lt
    replace hB := hB.trans (hb.mono hB.size)
    clear hb l0 r0
    obtain ⟨B2, e2⟩ : ∃ B2, B2 = w2.heap.size := ⟨_, rfl⟩
    rw [← e2] at r1 ⊢
    clear e2
    have l1 := r1.lt
    have z0 : w3.cell? ⟨B2, 0, none⟩ = some (Value.int .i64 t.st) := r1.cell 0 rfl
    have z1 : w3.cell? ⟨B2, 1, none⟩ = some (Value.int .i64 t.ow) := r1.cell 1 rfl
    have z2 : w3.cell? ⟨B2, 2, none⟩ = some (Value.int .i64 t.sr) := r1.cell 2 rfl
    have z3 : w3.cell? ⟨B2, 3, none⟩ = some (Value.bool t.br) := r1.cell 3 rfl
    have z4 : w3.cell? ⟨B2, 4, none⟩ = some (Value.bool t.ma) := r1.cell 4 rfl
    have z5 : w3.cell? ⟨B2, 5, none⟩ = some (Value.int .i64 t.us) := r1.cell 5 rfl
    have z6 : w3.cell? ⟨B2, 6, none⟩ = some (Value.int .i64 t.ge) := r1.cell 6 rfl
    have z7 : w3.cell? ⟨B2, 7, none⟩ = some (Value.int .i64 t.ep) := r1.cell 7 rfl
    have z8 : w3.cell? ⟨B2, 8, none⟩ = some (Value.int .i64 t.ve) := r1.cell 8 rfl
    go_wp2
    go_ret
    exact ⟨rfl, hB.alloc hB.size _⟩
  | true =>
    have r0 := RowAt.new w 23 #[Value.int .i64 s.st, Value.int .i64 s.ow, Value.int .i64 s.sr, Value.bool s.br, Value.bool s.ma, Value.int .i64 s.us, Value.int .i64 s.ge, Value.int .i64 s.ep, Value.int .i64 s.ve]
    have hB := (Below.refl w.heap.size w).alloc (Nat.le_refl _) (.cells #[Value.int .i64 s.st, Value.int .i64 s.ow, Value.int .i64 s.sr, Value.bool s.br, Value.bool s.ma, Value.int .i64 s.us, Value.int .i64 s.ge, Value.int .i64 s.ep, Value.int .i64 s.ve] 23)
    have HT := Lib.hid (hT.alloc (.cells #[Value.int .i64 s.st, Value.int .i64 s.ow, Value.int .i64 s.sr, Value.bool s.br, Value.bool s.ma, Value.int .i64 s.us, Value.int .i64 s.ge, Value.int .i64 s.ep, Value.int .i64 s.ve] 23))
    clear hT
    go_enter Tryd.func3, Tryd.ntmps3
    go_wp2_with fail
    refine (awake_any _ HT.out).mono ?_
    rintro e w1 ⟨rfl, hb⟩
    replace r0 := r0.below hb r0.lt
    replace hB := hB.trans (hb.mono hB.size)
    replace HT := Lib.hid (HT.out.below hb HT.out.lt)
    clear hb
    obtain ⟨B1, e1⟩ : ∃ B1, B1 = w.heap.size := ⟨_, rfl⟩
    have hle : w.heap.size ≤ B1 := by omega
    rw [← e1] at r0 ⊢
    clear e1
    have l0 := r0.lt
    have c0 : w1.cell? ⟨B1, 0, none⟩ = some (Value.int .i64 s.st) := r0.cell 0 rfl
    have c1 : w1.cell? ⟨B1, 1, none⟩ = some (Value.int .i64 s.ow) := r0.cell 1 rfl
    have c2 : w1.cell? ⟨B1, 2, none⟩ = some (Value.int .i64 s.sr) := r0.cell 2 rfl
    have c3 : w1.cell? ⟨B1, 3, none⟩ = some (Value.bool s.br) := r0.cell 3 rfl
    have c4 : w1.cell? ⟨B1, 4, none⟩ = some (Value.bool s.ma) := r0.cell 4 rfl
    have c5 : w1.cell? ⟨B1, 5, none⟩ = some (Value.int .i64 s.us) := r0.cell 5 rfl
    have c6 : w1.cell? ⟨B1, 6, none⟩ = some (Value.int .i64 s.ge) := r0.cell 6 rfl
    have c7 : w1.cell? ⟨B1, 7, none⟩ = some (Value.int .i64 s.ep) := r0.cell 7 rfl
    have c8 : w1.cell? ⟨B1, 8, none⟩ = some (Value.int .i64 s.ve) := r0.cell 8 rfl
    go_wp2_with fail
    refine (CN _ HT.out).mono ?_
    rintro e w2 ⟨rfl, hb⟩
    clear c0 c1 c2 c3 c4 c5 c6 c7 c8
    replace r0 := r0.below hb r0.lt
    replace hB := hB.trans (hb.mono hB.size)
    have r1 := RowAt.new w2 23 #[Value.int .i64 t.st, Value.int .i64 t.ow, Value.int .i64 t.sr, Value.bool t.br, Value.bool t.ma, Value.int .i64 t.us, Value.int .i64 t.ge, Value.int .i64 t.ep, Value.int .i64 t.ve]
    clear hb l0 HT
    have l0 := r0.lt
    have c0 : w2.cell? ⟨B1, 0, none⟩ = some (Value.int .i64 s.st) := r0.cell 0 rfl
    have c1 : w2.cell? ⟨B1, 1, none⟩ = some (Value.int .i64 s.ow) := r0.cell 1 rfl
    have c2 : w2.cell? ⟨B1, 2, none⟩ = some (Value.int .i64 s.sr) := r0.cell 2 rfl
    have c3 : w2.cell? ⟨B1, 3, none⟩ = some (Value.bool s.br) := r0.cell 3 rfl
    have c4 : w2.cell? ⟨B1, 4, none⟩ = some (Value.bool s.ma) := r0.cell 4 rfl
    have c5 : w2.cell? ⟨B1, 5, none⟩ = some (Value.int .i64 s.us) := r0.cell 5 rfl
    have c6 : w2.cell? ⟨B1, 6, none⟩ = some (Value.int .i64 s.ge) := r0.cell 6 rfl
    have c7 : w2.cell? ⟨B1, 7, none⟩ = some (Value.int .i64 s.ep) := r0.cell 7 rfl
    have c8 : w2.cell? ⟨B1, 8, none⟩ = some (Value.int .i64 s.ve) := r0.cell 8 rfl
    go_wp2_with fail
    replace hB := hB.alloc hB.size (.cells #[Value.int .i64 t.st, Value.int .i64 t.ow, Value.int .i64 t.sr, Value.bool t.br, Value.bool t.ma, Value.int .i64 t.us, Value.int .i64 t.ge, Value.int .i64 t.ep, Value.int .i64 t.ve] 23)
    refine (CR _).mono ?_
    rintro e w3 ⟨rfl, hb⟩
    clear c0 c1 c2 c3 c4 c5 c6 c7 c8
    replace r1 := r1.below hb r1.lt
    replace hB := hB.trans (hb.mono hB.size)
    clear hb l0 r0
    obtain ⟨B2, e2⟩ : ∃ B2, B2 = w2.heap.size := ⟨_, rfl⟩
    rw [← e2] at r1 ⊢
    clear e2
    have l1 := r1.lt
    have z0 : w3.cell? ⟨B2, 0, none⟩ = some (Value.int .i64 t.st) := r1.cell 0 rfl
    have z1 : w3.cell? ⟨B2, 1, none⟩ = some (Value.int .i64 t.ow) := r1.cell 1 rfl
    have z2 : w3.cell? ⟨B2, 2, none⟩ = some (Value.int .i64 t.sr) := r1.cell 2 rfl
    have z3 : w3.cell? ⟨B2, 3, none⟩ = some (Value.bool t.br) := r1.cell 3 rfl
    have z4 : w3.cell? ⟨B2, 4, none⟩ = some (Value.bool t.ma) := r1.cell 4 rfl
    have z5 : w3.cell? ⟨B2, 5, none⟩ = some (Value.int .i64 t.us) := r1.cell 5 rfl
    have z6 : w3.cell? ⟨B2, 6, none⟩ = some (Value.int .i64 t.ge) := r1.cell 6 rfl
    have z7 : w3.cell? ⟨B2, 7, none⟩ = some (Value.int .i64 t.ep) := r1.cell 7 rfl
    have z8 : w3.cell? ⟨B2, 8, none⟩ = some (Value.int .i64 t.ve) := r1.cell 8 rfl
    go_wp2
    go_ret
    exact ⟨rfl, hB.alloc hB.size _⟩
end Go.Proofs.YtdiipmejkanhfaaDoor
