/- LifeLittle: who moves a slot, marks it, or breaks it, changes nothing else of it but its Version. -/
import Derived.Test.YtdiipmejkanhfaaDoorAwake
namespace Go.Proofs.YtdiipmejkanhfaaDoor
open Go.RowKit
attribute [local go_sem ↓] Go.wp_at_zero Go.wp_at_succ

theorem ne_same {x s : Sl} (h : x = s) (w : World) : (binOp .neq 23 (Value.agg #[Value.int .i64 x.st, Value.int .i64 x.ow, Value.int .i64 x.sr, Value.bool x.br, Value.bool x.ma, Value.int .i64 x.us, Value.int .i64 x.ge, Value.int .i64 x.ep, Value.int .i64 x.ve]) (Value.agg #[Value.int .i64 s.st, Value.int .i64 s.ow, Value.int .i64 s.sr, Value.bool s.br, Value.bool s.ma, Value.int .i64 s.us, Value.int .i64 s.ge, Value.int .i64 s.ep, Value.int .i64 s.ve])).run Tryd.prog w = .ok (.bool false) w := by
  rw [ne_sl, h]
  simp
theorem little0 {s : Sl} {a : Int} (h : nxB s 9 a 0 = true) : (⟨(nxS s 9 a 0).st, s.ow, (nxS s 9 a 0).sr, (nxS s 9 a 0).br, (nxS s 9 a 0).ma, (nxS s 9 a 0).us, (nxS s 9 a 0).ge, (nxS s 9 a 0).ep, s.ve⟩ : Sl) = s := by
  have e := nxS_yes h
  rw [e]
  rfl
theorem little1 {s : Sl} {a : Int} (hs : s.Wf) (h : nxB s 10 a 0 = true) : (⟨(nxS s 10 a 0).st, (nxS s 10 a 0).ow, (nxS s 10 a 0).sr, (nxS s 10 a 0).br, false, (nxS s 10 a 0).us, (nxS s 10 a 0).ge, (nxS s 10 a 0).ep, s.ve⟩ : Sl) = s := by
  obtain ⟨_, _, hc⟩ := (nxB_spec hs).1 h
  have e := nxS_yes h
  rw [e]
  simp [chB] at hc
  exact Sl.ext' rfl rfl rfl rfl hc.2.symm rfl rfl rfl rfl
theorem little2 {s : Sl} {a : Int} (hs : s.Wf) (h : nxB s 13 a 0 = true) : (⟨(nxS s 13 a 0).st, (nxS s 13 a 0).ow, (nxS s 13 a 0).sr, false, (nxS s 13 a 0).ma, (nxS s 13 a 0).us, (nxS s 13 a 0).ge, (nxS s 13 a 0).ep, s.ve⟩ : Sl) = s := by
  obtain ⟨_, _, hc⟩ := (nxB_spec hs).1 h
  have e := nxS_yes h
  rw [e]
  simp [chB] at hc
  exact Sl.ext' rfl rfl rfl hc.2.symm rfl rfl rfl rfl rfl
set_option maxRecDepth 100000 in
set_option maxHeartbeats 4000000 in
theorem llit_any (s : Sl) (a : Int) (w : World) (hT : Tb w) (hs : s.Wf) :
    Calls Tryd.prog 9 #[Value.agg #[Value.int .i64 s.st, Value.int .i64 s.ow, Value.int .i64 s.sr, Value.bool s.br, Value.bool s.ma, Value.int .i64 s.us, Value.int .i64 s.ge, Value.int .i64 s.ep, Value.int .i64 s.ve], .int .i64 a] w fun e w' => e = .returned (.bool true) ∧ Below w.heap.size w w' := by
  cases h0 : nxB s 9 a 0 with
  | true =>
    cases h1 : nxB s 10 a 0 with
    | true =>
      cases h2 : nxB s 13 a 0 with
      | true =>
        obtain ⟨t0, et⟩ : ∃ t, nxS s 9 a 0 = t := ⟨_, rfl⟩
        have CN0 := next_is hs et h0
        have E0 := little0 h0
        rw [et] at E0
        have heq0 := fun w => ne_same E0 w
        clear et h0 E0
        obtain ⟨t1, et⟩ : ∃ t, nxS s 10 a 0 = t := ⟨_, rfl⟩
        have CN1 := next_is hs et h1
        have E1 := little1 hs h1
        rw [et] at E1
        have heq1 := fun w => ne_same E1 w
        clear et h1 E1
        obtain ⟨t2, et⟩ : ∃ t, nxS s 13 a 0 = t := ⟨_, rfl⟩
        have CN2 := next_is hs et h2
        have E2 := little2 hs h2
        rw [et] at E2
        have heq2 := fun w => ne_same E2 w
        clear et h2 E2
        have r0 := RowAt.new w 23 #[Value.int .i64 s.st, Value.int .i64 s.ow, Value.int .i64 s.sr, Value.bool s.br, Value.bool s.ma, Value.int .i64 s.us, Value.int .i64 s.ge, Value.int .i64 s.ep, Value.int .i64 s.ve]
        have hB := (Below.refl w.heap.size w).alloc (Nat.le_refl _) (.cells #[Value.int .i64 s.st, Value.int .i64 s.ow, Value.int .i64 s.sr, Value.bool s.br, Value.bool s.ma, Value.int .i64 s.us, Value.int .i64 s.ge, Value.int .i64 s.ep, Value.int .i64 s.ve] 23)
        have HT := Lib.hid (hT.alloc (.cells #[Value.int .i64 s.st, Value.int .i64 s.ow, Value.int .i64 s.sr, Value.bool s.br, Value.bool s.ma, Value.int .i64 s.us, Value.int .i64 s.ge, Value.int .i64 s.ep, Value.int .i64 s.ve] 23))
        clear hT
        go_enter Tryd.func9, Tryd.ntmps9
        go_wp2_with fail
        refine (awake_any _ HT.out).mono ?_
        rintro e w1 ⟨rfl, hb⟩
        replace r0 := r0.below hb r0.lt
        replace hB := hB.trans (hb.mono hB.size)
        replace HT := Lib.hid (HT.out.below hb HT.out.lt)
        clear hb
        obtain ⟨B1, e1⟩ : ∃ B1, B1 = w.heap.size := ⟨_, rfl⟩
        have hle : w.heap.size ≤ B1 := by omega
        rw [← e1] at r0 ⊢
        clear e1
        have l0 := r0.lt
        have c0 : w1.cell? ⟨B1, 0, none⟩ = some (Value.int .i64 s.st) := r0.cell 0 rfl
        have c1 : w1.cell? ⟨B1, 1, none⟩ = some (Value.int .i64 s.ow) := r0.cell 1 rfl
        have c2 : w1.cell? ⟨B1, 2, none⟩ = some (Value.int .i64 s.sr) := r0.cell 2 rfl
        have c3 : w1.cell? ⟨B1, 3, none⟩ = some (Value.bool s.br) := r0.cell 3 rfl
        have c4 : w1.cell? ⟨B1, 4, none⟩ = some (Value.bool s.ma) := r0.cell 4 rfl
        have c5 : w1.cell? ⟨B1, 5, none⟩ = some (Value.int .i64 s.us) := r0.cell 5 rfl
        have c6 : w1.cell? ⟨B1, 6, none⟩ = some (Value.int .i64 s.ge) := r0.cell 6 rfl
        have c7 : w1.cell? ⟨B1, 7, none⟩ = some (Value.int .i64 s.ep) := r0.cell 7 rfl
        have c8 : w1.cell? ⟨B1, 8, none⟩ = some (Value.int .i64 s.ve) := r0.cell 8 rfl
        go_wp2_with fail
        refine (CN0 _ HT.out).mono ?_
        rintro e v0 ⟨rfl, hb⟩
        clear c0 c1 c2 c3 c4 c5 c6 c7 c8 CN0
        replace r0 := r0.below hb r0.lt
        replace HT := Lib.hid (HT.out.below hb HT.out.lt)
        replace hB := hB.trans (hb.mono hB.size)
        clear hb l0
        have l0 := r0.lt
        have c0 : v0.cell? ⟨B1, 0, none⟩ = some (Value.int .i64 s.st) := r0.cell 0 rfl
        have c1 : v0.cell? ⟨B1, 1, none⟩ = some (Value.int .i64 s.ow) := r0.cell 1 rfl
        have c2 : v0.cell? ⟨B1, 2, none⟩ = some (Value.int .i64 s.sr) := r0.cell 2 rfl
        have c3 : v0.cell? ⟨B1, 3, none⟩ = some (Value.bool s.br) := r0.cell 3 rfl
        have c4 : v0.cell? ⟨B1, 4, none⟩ = some (Value.bool s.ma) := r0.cell 4 rfl
        have c5 : v0.cell? ⟨B1, 5, none⟩ = some (Value.int .i64 s.us) := r0.cell 5 rfl
        have c6 : v0.cell? ⟨B1, 6, none⟩ = some (Value.int .i64 s.ge) := r0.cell 6 rfl
        have c7 : v0.cell? ⟨B1, 7, none⟩ = some (Value.int .i64 s.ep) := r0.cell 7 rfl
        have c8 : v0.cell? ⟨B1, 8, none⟩ = some (Value.int .i64 s.ve) := r0.cell 8 rfl
        go_wp2_with fail
        replace r0 := r0.alloc (.cells #[Value.int .i64 t0.st, Value.int .i64 s.ow, Value.int .i64 t0.sr, Value.bool t0.br, Value.bool t0.ma, Value.int .i64 t0.us, Value.int .i64 t0.ge, Value.int .i64 t0.ep, Value.int .i64 s.ve] 23)
        replace HT := Lib.hid (HT.out.alloc (.cells #[Value.int .i64 t0.st, Value.int .i64 s.ow, Value.int .i64 t0.sr, Value.bool t0.br, Value.bool t0.ma, Value.int .i64 t0.us, Value.int .i64 t0.ge, Value.int .i64 t0.ep, Value.int .i64 s.ve] 23))
        replace hB := hB.alloc hB.size (.cells #[Value.int .i64 t0.st, Value.int .i64 s.ow, Value.int .i64 t0.sr, Value.bool t0.br, Value.bool t0.ma, Value.int .i64 t0.us, Value.int .i64 t0.ge, Value.int .i64 t0.ep, Value.int .i64 s.ve] 23)
        clear heq0
        refine (CN1 _ HT.out).mono ?_
        rintro e v1 ⟨rfl, hb⟩
        clear c0 c1 c2 c3 c4 c5 c6 c7 c8 CN1
        replace r0 := r0.below hb r0.lt
        replace HT := Lib.hid (HT.out.below hb HT.out.lt)
        replace hB := hB.trans (hb.mono hB.size)
        clear hb l0
        have l0 := r0.lt
        have c0 : v1.cell? ⟨B1, 0, none⟩ = some (Value.int .i64 s.st) := r0.cell 0 rfl
        have c1 : v1.cell? ⟨B1, 1, none⟩ = some (Value.int .i64 s.ow) := r0.cell 1 rfl
        have c2 : v1.cell? ⟨B1, 2, none⟩ = some (Value.int .i64 s.sr) := r0.cell 2 rfl
        have c3 : v1.cell? ⟨B1, 3, none⟩ = some (Value.bool s.br) := r0.cell 3 rfl
        have c4 : v1.cell? ⟨B1, 4, none⟩ = some (Value.bool s.ma) := r0.cell 4 rfl
        have c5 : v1.cell? ⟨B1, 5, none⟩ = some (Value.int .i64 s.us) := r0.cell 5 rfl
        have c6 : v1.cell? ⟨B1, 6, none⟩ = some (Value.int .i64 s.ge) := r0.cell 6 rfl
        have c7 : v1.cell? ⟨B1, 7, none⟩ = some (Value.int .i64 s.ep) := r0.cell 7 rfl
        have c8 : v1.cell? ⟨B1, 8, none⟩ = some (Value.int .i64 s.ve) := r0.cell 8 rfl
        go_wp2_with fail
        replace r0 := r0.alloc (.cells #[Value.int .i64 t1.st, Value.int .i64 t1.ow, Value.int .i64 t1.sr, Value.bool t1.br, Value.bool false, Value.int .i64 t1.us, Value.int .i64 t1.ge, Value.int .i64 t1.ep, Value.int .i64 s.ve] 23)
        replace HT := Lib.hid (HT.out.alloc (.cells #[Value.int .i64 t1.st, Value.int .i64 t1.ow, Value.int .i64 t1.sr, Value.bool t1.br, Value.bool false, Value.int .i64 t1.us, Value.int .i64 t1.ge, Value.int .i64 t1.ep, Value.int .i64 s.ve] 23))
        replace hB := hB.alloc hB.size (.cells #[Value.int .i64 t1.st, Value.int .i64 t1.ow, Value.int .i64 t1.sr, Value.bool t1.br, Value.bool false, Value.int .i64 t1.us, Value.int .i64 t1.ge, Value.int .i64 t1.ep, Value.int .i64 s.ve] 23)
        clear heq1
        refine (CN2 _ HT.out).mono ?_
        rintro e v2 ⟨rfl, hb⟩
        clear c0 c1 c2 c3 c4 c5 c6 c7 c8 CN2
        replace r0 := r0.below hb r0.lt
        replace HT := Lib.hid (HT.out.below hb HT.out.lt)
        replace hB := hB.trans (hb.mono hB.size)
        clear hb l0
        have l0 := r0.lt
        have c0 : v2.cell? ⟨B1, 0, none⟩ = some (Value.int .i64 s.st) := r0.cell 0 rfl
        have c1 : v2.cell? ⟨B1, 1, none⟩ = some (Value.int .i64 s.ow) := r0.cell 1 rfl
        have c2 : v2.cell? ⟨B1, 2, none⟩ = some (Value.int .i64 s.sr) := r0.cell 2 rfl
        have c3 : v2.cell? ⟨B1, 3, none⟩ = some (Value.bool s.br) := r0.cell 3 rfl
        have c4 : v2.cell? ⟨B1, 4, none⟩ = some (Value.bool s.ma) := r0.cell 4 rfl
        have c5 : v2.cell? ⟨B1, 5, none⟩ = some (Value.int .i64 s.us) := r0.cell 5 rfl
        have c6 : v2.cell? ⟨B1, 6, none⟩ = some (Value.int .i64 s.ge) := r0.cell 6 rfl
        have c7 : v2.cell? ⟨B1, 7, none⟩ = some (Value.int .i64 s.ep) := r0.cell 7 rfl
        have c8 : v2.cell? ⟨B1, 8, none⟩ = some (Value.int .i64 s.ve) := r0.cell 8 rfl
        go_wp2
        replace r0 := r0.alloc (.cells #[Value.int .i64 t2.st, Value.int .i64 t2.ow, Value.int .i64 t2.sr, Value.bool false, Value.bool t2.ma, Value.int .i64 t2.us, Value.int .i64 t2.ge, Value.int .i64 t2.ep, Value.int .i64 s.ve] 23)
        replace HT := Lib.hid (HT.out.alloc (.cells #[Value.int .i64 t2.st, Value.int .i64 t2.ow, Value.int .i64 t2.sr, Value.bool false, Value.bool t2.ma, Value.int .i64 t2.us, Value.int .i64 t2.ge, Value.int .i64 t2.ep, Value.int .i64 s.ve] 23))
        replace hB := hB.alloc hB.size (.cells #[Value.int .i64 t2.st, Value.int .i64 t2.ow, Value.int .i64 t2.sr, Value.bool false, Value.bool t2.ma, Value.int .i64 t2.us, Value.int .i64 t2.ge, Value.int .i64 t2.ep, Value.int .i64 s.ve] 23)
        clear heq2
        go_ret
        exact ⟨rfl, hB⟩
      | false =>
        obtain ⟨t0, et⟩ : ∃ t, nxS s 9 a 0 = t := ⟨_, rfl⟩
        have CN0 := next_is hs et h0
        have E0 := little0 h0
        rw [et] at E0
        have heq0 := fun w => ne_same E0 w
        clear et h0 E0
        obtain ⟨t1, et⟩ : ∃ t, nxS s 10 a 0 = t := ⟨_, rfl⟩
        have CN1 := next_is hs et h1
        have E1 := little1 hs h1
        rw [et] at E1
        have heq1 := fun w => ne_same E1 w
        clear et h1 E1
        obtain ⟨t2, et⟩ : ∃ t, nxS s 13 a 0 = t := ⟨_, rfl⟩
        have CN2 := next_is hs et h2
        clear et h2
        have r0 := RowAt.new w 23 #[Value.int .i64 s.st, Value.int .i64 s.ow, Value.int .i64 s.sr, Value.bool s.br, Value.bool s.ma, Value.int .i64 s.us, Value.int .i64 s.ge, Value.int .i64 s.ep, Value.int .i64 s.ve]
        have hB := (Below.refl w.heap.size w).alloc (Nat.le_refl _) (.cells #[Value.int .i64 s.st, Value.int .i64 s.ow, Value.int .i64 s.sr, Value.bool s.br, Value.bool s.ma, Value.int .i64 s.us, Value.int .i64 s.ge, Value.int .i64 s.ep, Value.int .i64 s.ve] 23)
        have HT := Lib.hid (hT.alloc (.cells #[Value.int .i64 s.st, Value.int .i64 s.ow, Value.int .i64 s.sr, Value.bool s.br, Value.bool s.ma, Value.int .i64 s.us, Value.int .i64 s.ge, Value.int .i64 s.ep, Value.int .i64 s.ve] 23))
        clear hT
        go_enter Tryd.func9, Tryd.ntmps9
        go_wp2_with fail
        refine (awake_any _ HT.out).mono ?_
        rintro e w1 ⟨rfl, hb⟩
        replace r0 := r0.below hb r0.lt
        replace hB := hB.trans (hb.mono hB.size)
        replace HT := Lib.hid (HT.out.below hb HT.out.lt)
        clear hb
        obtain ⟨B1, e1⟩ : ∃ B1, B1 = w.heap.size := ⟨_, rfl⟩
        have hle : w.heap.size ≤ B1 := by omega
        rw [← e1] at r0 ⊢
        clear e1
        have l0 := r0.lt
        have c0 : w1.cell? ⟨B1, 0, none⟩ = some (Value.int .i64 s.st) := r0.cell 0 rfl
        have c1 : w1.cell? ⟨B1, 1, none⟩ = some (Value.int .i64 s.ow) := r0.cell 1 rfl
        have c2 : w1.cell? ⟨B1, 2, none⟩ = some (Value.int .i64 s.sr) := r0.cell 2 rfl
        have c3 : w1.cell? ⟨B1, 3, none⟩ = some (Value.bool s.br) := r0.cell 3 rfl
        have c4 : w1.cell? ⟨B1, 4, none⟩ = some (Value.bool s.ma) := r0.cell 4 rfl
        have c5 : w1.cell? ⟨B1, 5, none⟩ = some (Value.int .i64 s.us) := r0.cell 5 rfl
        have c6 : w1.cell? ⟨B1, 6, none⟩ = some (Value.int .i64 s.ge) := r0.cell 6 rfl
        have c7 : w1.cell? ⟨B1, 7, none⟩ = some (Value.int .i64 s.ep) := r0.cell 7 rfl
        have c8 : w1.cell? ⟨B1, 8, none⟩ = some (Value.int .i64 s.ve) := r0.cell 8 rfl
        go_wp2_with fail
        refine (CN0 _ HT.out).mono ?_
        rintro e v0 ⟨rfl, hb⟩
        clear c0 c1 c2 c3 c4 c5 c6 c7 c8 CN0
        replace r0 := r0.below hb r0.lt
        replace HT := Lib.hid (HT.out.below hb HT.out.lt)
        replace hB := hB.trans (hb.mono hB.size)
        clear hb l0
        have l0 := r0.lt
        have c0 : v0.cell? ⟨B1, 0, none⟩ = some (Value.int .i64 s.st) := r0.cell 0 rfl
        have c1 : v0.cell? ⟨B1, 1, none⟩ = some (Value.int .i64 s.ow) := r0.cell 1 rfl
        have c2 : v0.cell? ⟨B1, 2, none⟩ = some (Value.int .i64 s.sr) := r0.cell 2 rfl
        have c3 : v0.cell? ⟨B1, 3, none⟩ = some (Value.bool s.br) := r0.cell 3 rfl
        have c4 : v0.cell? ⟨B1, 4, none⟩ = some (Value.bool s.ma) := r0.cell 4 rfl
        have c5 : v0.cell? ⟨B1, 5, none⟩ = some (Value.int .i64 s.us) := r0.cell 5 rfl
        have c6 : v0.cell? ⟨B1, 6, none⟩ = some (Value.int .i64 s.ge) := r0.cell 6 rfl
        have c7 : v0.cell? ⟨B1, 7, none⟩ = some (Value.int .i64 s.ep) := r0.cell 7 rfl
        have c8 : v0.cell? ⟨B1, 8, none⟩ = some (Value.int .i64 s.ve) := r0.cell 8 rfl
        go_wp2_with fail
        replace r0 := r0.alloc (.cells #[Value.int .i64 t0.st, Value.int .i64 s.ow, Value.int .i64 t0.sr, Value.bool t0.br, Value.bool t0.ma, Value.int .i64 t0.us, Value.int .i64 t0.ge, Value.int .i64 t0.ep, Value.int .i64 s.ve] 23)
        replace HT := Lib.hid (HT.out.alloc (.cells #[Value.int .i64 t0.st, Value.int .i64 s.ow, Value.int .i64 t0.sr, Value.bool t0.br, Value.bool t0.ma, Value.int .i64 t0.us, Value.int .i64 t0.ge, Value.int .i64 t0.ep, Value.int .i64 s.ve] 23))
        replace hB := hB.alloc hB.size (.cells #[Value.int .i64 t0.st, Value.int .i64 s.ow, Value.int .i64 t0.sr, Value.bool t0.br, Value.bool t0.ma, Value.int .i64 t0.us, Value.int .i64 t0.ge, Value.int .i64 t0.ep, Value.int .i64 s.ve] 23)
        clear heq0
        refine (CN1 _ HT.out).mono ?_
        rintro e v1 ⟨rfl, hb⟩
        clear c0 c1 c2 c3 c4 c5 c6 c7 c8 CN1
        replace r0 := r0.below hb r0.lt
        replace HT := Lib.hid (HT.out.below hb HT.out.lt)
        replace hB := hB.trans (hb.mono hB.size)
        clear hb l0
        have l0 := r0.lt
        have c0 : v1.cell? ⟨B1, 0, none⟩ = some (Value.int .i64 s.st) := r0.cell 0 rfl
        have c1 : v1.cell? ⟨B1, 1, none⟩ = some (Value.int .i64 s.ow) := r0.cell 1 rfl
        have c2 : v1.cell? ⟨B1, 2, none⟩ = some (Value.int .i64 s.sr) := r0.cell 2 rfl
        have c3 : v1.cell? ⟨B1, 3, none⟩ = some (Value.bool s.br) := r0.cell 3 rfl
        have c4 : v1.cell? ⟨B1, 4, none⟩ = some (Value.bool s.ma) := r0.cell 4 rfl
        have c5 : v1.cell? ⟨B1, 5, none⟩ = some (Value.int .i64 s.us) := r0.cell 5 rfl
        have c6 : v1.cell? ⟨B1, 6, none⟩ = some (Value.int .i64 s.ge) := r0.cell 6 rfl
        have c7 : v1.cell? ⟨B1, 7, none⟩ = some (Value.int .i64 s.ep) := r0.cell 7 rfl
        have c8 : v1.cell? ⟨B1, 8, none⟩ = some (Value.int .i64 s.ve) := r0.cell 8 rfl
        go_wp2_with fail
        replace r0 := r0.alloc (.cells #[Value.int .i64 t1.st, Value.int .i64 t1.ow, Value.int .i64 t1.sr, Value.bool t1.br, Value.bool false, Value.int .i64 t1.us, Value.int .i64 t1.ge, Value.int .i64 t1.ep, Value.int .i64 s.ve] 23)
        replace HT := Lib.hid (HT.out.alloc (.cells #[Value.int .i64 t1.st, Value.int .i64 t1.ow, Value.int .i64 t1.sr, Value.bool t1.br, Value.bool false, Value.int .i64 t1.us, Value.int .i64 t1.ge, Value.int .i64 t1.ep, Value.int .i64 s.ve] 23))
        replace hB := hB.alloc hB.size (.cells #[Value.int .i64 t1.st, Value.int .i64 t1.ow, Value.int .i64 t1.sr, Value.bool t1.br, Value.bool false, Value.int .i64 t1.us, Value.int .i64 t1.ge, Value.int .i64 t1.ep, Value.int .i64 s.ve] 23)
        clear heq1
        refine (CN2 _ HT.out).mono ?_
        rintro e v2 ⟨rfl, hb⟩
        clear c0 c1 c2 c3 c4 c5 c6 c7 c8 CN2
        replace r0 := r0.below hb r0.lt
        replace HT := Lib.hid (HT.out.below hb HT.out.lt)
        replace hB := hB.trans (hb.mono hB.size)
        clear hb l0
        have l0 := r0.lt
        have c0 : v2.cell? ⟨B1, 0, none⟩ = some (Value.int .i64 s.st) := r0.cell 0 rfl
        have c1 : v2.cell? ⟨B1, 1, none⟩ = some (Value.int .i64 s.ow) := r0.cell 1 rfl
        have c2 : v2.cell? ⟨B1, 2, none⟩ = some (Value.int .i64 s.sr) := r0.cell 2 rfl
        have c3 : v2.cell? ⟨B1, 3, none⟩ = some (Value.bool s.br) := r0.cell 3 rfl
        have c4 : v2.cell? ⟨B1, 4, none⟩ = some (Value.bool s.ma) := r0.cell 4 rfl
        have c5 : v2.cell? ⟨B1, 5, none⟩ = some (Value.int .i64 s.us) := r0.cell 5 rfl
        have c6 : v2.cell? ⟨B1, 6, none⟩ = some (Value.int .i64 s.ge) := r0.cell 6 rfl
        have c7 : v2.cell? ⟨B1, 7, none⟩ = some (Value.int .i64 s.ep) := r0.cell 7 rfl
        have c8 : v2.cell? ⟨B1, 8, none⟩ = some (Value.int .i64 s.ve) := r0.cell 8 rfl
        go_wp2
        replace r0 := r0.alloc (.cells #[Value.int .i64 t2.st, Value.int .i64 t2.ow, Value.int .i64 t2.sr, Value.bool t2.br, Value.bool t2.ma, Value.int .i64 t2.us, Value.int .i64 t2.ge, Value.int .i64 t2.ep, Value.int .i64 t2.ve] 23)
        replace HT := Lib.hid (HT.out.alloc (.cells #[Value.int .i64 t2.st, Value.int .i64 t2.ow, Value.int .i64 t2.sr, Value.bool t2.br, Value.bool t2.ma, Value.int .i64 t2.us, Value.int .i64 t2.ge, Value.int .i64 t2.ep, Value.int .i64 t2.ve] 23))
        replace hB := hB.alloc hB.size (.cells #[Value.int .i64 t2.st, Value.int .i64 t2.ow, Value.int .i64 t2.sr, Value.bool t2.br, Value.bool t2.ma, Value.int .i64 t2.us, Value.int .i64 t2.ge, Value.int .i64 t2.ep, Value.int .i64 t2.ve] 23)
        go_ret
        exact ⟨rfl, hB⟩
    | false =>
      cases h2 : nxB s 13 a 0 with
      | true =>
        obtain ⟨t0, et⟩ : ∃ t, nxS s 9 a 0 = t := ⟨_, rfl⟩
        have CN0 := next_is hs et h0
        have E0 := little0 h0
        rw [et] at E0
        have heq0 := fun w => ne_same E0 w
        clear et h0 E0
        obtain ⟨t1, et⟩ : ∃ t, nxS s 10 a 0 = t := ⟨_, rfl⟩
        have CN1 := next_is hs et h1
        clear et h1
        obtain ⟨t2, et⟩ : ∃ t, nxS s 13 a 0 = t := ⟨_, rfl⟩
        have CN2 := next_is hs et h2
        have E2 := little2 hs h2
        rw [et] at E2
        have heq2 := fun w => ne_same E2 w
        clear et h2 E2
        have r0 := RowAt.new w 23 #[Value.int .i64 s.st, Value.int .i64 s.ow, Value.int .i64 s.sr, Value.bool s.br, Value.bool s.ma, Value.int .i64 s.us, Value.int .i64 s.ge, Value.int .i64 s.ep, Value.int .i64 s.ve]
        have hB := (Below.refl w.heap.size w).alloc (Nat.le_refl _) (.cells #[Value.int .i64 s.st, Value.int .i64 s.ow, Value.int .i64 s.sr, Value.bool s.br, Value.bool s.ma, Value.int .i64 s.us, Value.int .i64 s.ge, Value.int .i64 s.ep, Value.int .i64 s.ve] 23)
        have HT := Lib.hid (hT.alloc (.cells #[Value.int .i64 s.st, Value.int .i64 s.ow, Value.int .i64 s.sr, Value.bool s.br, Value.bool s.ma, Value.int .i64 s.us, Value.int .i64 s.ge, Value.int .i64 s.ep, Value.int .i64 s.ve] 23))
        clear hT
        go_enter Tryd.func9, Tryd.ntmps9
        go_wp2_with fail
        refine (awake_any _ HT.out).mono ?_
        rintro e w1 ⟨rfl, hb⟩
        replace r0 := r0.below hb r0.lt
        replace hB := hB.trans (hb.mono hB.size)
        replace HT := Lib.hid (HT.out.below hb HT.out.lt)
        clear hb
        obtain ⟨B1, e1⟩ : ∃ B1, B1 = w.heap.size := ⟨_, rfl⟩
        have hle : w.heap.size ≤ B1 := by omega
        rw [← e1] at r0 ⊢
        clear e1
        have l0 := r0.lt
        have c0 : w1.cell? ⟨B1, 0, none⟩ = some (Value.int .i64 s.st) := r0.cell 0 rfl
        have c1 : w1.cell? ⟨B1, 1, none⟩ = some (Value.int .i64 s.ow) := r0.cell 1 rfl
        have c2 : w1.cell? ⟨B1, 2, none⟩ = some (Value.int .i64 s.sr) := r0.cell 2 rfl
        have c3 : w1.cell? ⟨B1, 3, none⟩ = some (Value.bool s.br) := r0.cell 3 rfl
        have c4 : w1.cell? ⟨B1, 4, none⟩ = some (Value.bool s.ma) := r0.cell 4 rfl
        have c5 : w1.cell? ⟨B1, 5, none⟩ = some (Value.int .i64 s.us) := r0.cell 5 rfl
        have c6 : w1.cell? ⟨B1, 6, none⟩ = some (Value.int .i64 s.ge) := r0.cell 6 rfl
        have c7 : w1.cell? ⟨B1, 7, none⟩ = some (Value.int .i64 s.ep) := r0.cell 7 rfl
        have c8 : w1.cell? ⟨B1, 8, none⟩ = some (Value.int .i64 s.ve) := r0.cell 8 rfl
        go_wp2_with fail
        refine (CN0 _ HT.out).mono ?_
        rintro e v0 ⟨rfl, hb⟩
        clear c0 c1 c2 c3 c4 c5 c6 c7 c8 CN0
        replace r0 := r0.below hb r0.lt
        replace HT := Lib.hid (HT.out.below hb HT.out.lt)
        replace hB := hB.trans (hb.mono hB.size)
        clear hb l0
        have l0 := r0.lt
        have c0 : v0.cell? ⟨B1, 0, none⟩ = some (Value.int .i64 s.st) := r0.cell 0 rfl
        have c1 : v0.cell? ⟨B1, 1, none⟩ = some (Value.int .i64 s.ow) := r0.cell 1 rfl
        have c2 : v0.cell? ⟨B1, 2, none⟩ = some (Value.int .i64 s.sr) := r0.cell 2 rfl
        have c3 : v0.cell? ⟨B1, 3, none⟩ = some (Value.bool s.br) := r0.cell 3 rfl
        have c4 : v0.cell? ⟨B1, 4, none⟩ = some (Value.bool s.ma) := r0.cell 4 rfl
        have c5 : v0.cell? ⟨B1, 5, none⟩ = some (Value.int .i64 s.us) := r0.cell 5 rfl
        have c6 : v0.cell? ⟨B1, 6, none⟩ = some (Value.int .i64 s.ge) := r0.cell 6 rfl
        have c7 : v0.cell? ⟨B1, 7, none⟩ = some (Value.int .i64 s.ep) := r0.cell 7 rfl
        have c8 : v0.cell? ⟨B1, 8, none⟩ = some (Value.int .i64 s.ve) := r0.cell 8 rfl
        go_wp2_with fail
        replace r0 := r0.alloc (.cells #[Value.int .i64 t0.st, Value.int .i64 s.ow, Value.int .i64 t0.sr, Value.bool t0.br, Value.bool t0.ma, Value.int .i64 t0.us, Value.int .i64 t0.ge, Value.int .i64 t0.ep, Value.int .i64 s.ve] 23)
        replace HT := Lib.hid (HT.out.alloc (.cells #[Value.int .i64 t0.st, Value.int .i64 s.ow, Value.int .i64 t0.sr, Value.bool t0.br, Value.bool t0.ma, Value.int .i64 t0.us, Value.int .i64 t0.ge, Value.int .i64 t0.ep, Value.int .i64 s.ve] 23))
        replace hB := hB.alloc hB.size (.cells #[Value.int .i64 t0.st, Value.int .i64 s.ow, Value.int .i64 t0.sr, Value.bool t0.br, Value.bool t0.ma, Value.int .i64 t0.us, Value.int .i64 t0.ge, Value.int .i64 t0.ep, Value.int .i64 s.ve] 23)
        clear heq0
        refine (CN1 _ HT.out).mono ?_
        rintro e v1 ⟨rfl, hb⟩
        clear c0 c1 c2 c3 c4 c5 c6 c7 c8 CN1
        replace r0 := r0.below hb r0.lt
        replace HT := Lib.hid (HT.out.below hb HT.out.lt)
        replace hB := hB.trans (hb.mono hB.size)
        clear hb l0
        have l0 := r0.lt
        have c0 : v1.cell? ⟨B1, 0, none⟩ = some (Value.int .i64 s.st) := r0.cell 0 rfl
        have c1 : v1.cell? ⟨B1, 1, none⟩ = some (Value.int .i64 s.ow) := r0.cell 1 rfl
        have c2 : v1.cell? ⟨B1, 2, none⟩ = some (Value.int .i64 s.sr) := r0.cell 2 rfl
        have c3 : v1.cell? ⟨B1, 3, none⟩ = some (Value.bool s.br) := r0.cell 3 rfl
        have c4 : v1.cell? ⟨B1, 4, none⟩ = some (Value.bool s.ma) := r0.cell 4 rfl
        have c5 : v1.cell? ⟨B1, 5, none⟩ = some (Value.int .i64 s.us) := r0.cell 5 rfl
        have c6 : v1.cell? ⟨B1, 6, none⟩ = some (Value.int .i64 s.ge) := r0.cell 6 rfl
        have c7 : v1.cell? ⟨B1, 7, none⟩ = some (Value.int .i64 s.ep) := r0.cell 7 rfl
        have c8 : v1.cell? ⟨B1, 8, none⟩ = some (Value.int .i64 s.ve) := r0.cell 8 rfl
        go_wp2_with fail
        replace r0 := r0.alloc (.cells #[Value.int .i64 t1.st, Value.int .i64 t1.ow, Value.int .i64 t1.sr, Value.bool t1.br, Value.bool t1.ma, Value.int .i64 t1.us, Value.int .i64 t1.ge, Value.int .i64 t1.ep, Value.int .i64 t1.ve] 23)
        replace HT := Lib.hid (HT.out.alloc (.cells #[Value.int .i64 t1.st, Value.int .i64 t1.ow, Value.int .i64 t1.sr, Value.bool t1.br, Value.bool t1.ma, Value.int .i64 t1.us, Value.int .i64 t1.ge, Value.int .i64 t1.ep, Value.int .i64 t1.ve] 23))
        replace hB := hB.alloc hB.size (.cells #[Value.int .i64 t1.st, Value.int .i64 t1.ow, Value.int .i64 t1.sr, Value.bool t1.br, Value.bool t1.ma, Value.int .i64 t1.us, Value.int .i64 t1.ge, Value.int .i64 t1.ep, Value.int .i64 t1.ve] 23)
        refine (CN2 _ HT.out).mono ?_
        rintro e v2 ⟨rfl, hb⟩
        clear c0 c1 c2 c3 c4 c5 c6 c7 c8 CN2
        replace r0 := r0.below hb r0.lt
        replace HT := Lib.hid (HT.out.below hb HT.out.lt)
        replace hB := hB.trans (hb.mono hB.size)
        clear hb l0
        have l0 := r0.lt
        have c0 : v2.cell? ⟨B1, 0, none⟩ = some (Value.int .i64 s.st) := r0.cell 0 rfl
        have c1 : v2.cell? ⟨B1, 1, none⟩ = some (Value.int .i64 s.ow) := r0.cell 1 rfl
        have c2 : v2.cell? ⟨B1, 2, none⟩ = some (Value.int .i64 s.sr) := r0.cell 2 rfl
        have c3 : v2.cell? ⟨B1, 3, none⟩ = some (Value.bool s.br) := r0.cell 3 rfl
        have c4 : v2.cell? ⟨B1, 4, none⟩ = some (Value.bool s.ma) := r0.cell 4 rfl
        have c5 : v2.cell? ⟨B1, 5, none⟩ = some (Value.int .i64 s.us) := r0.cell 5 rfl
        have c6 : v2.cell? ⟨B1, 6, none⟩ = some (Value.int .i64 s.ge) := r0.cell 6 rfl
        have c7 : v2.cell? ⟨B1, 7, none⟩ = some (Value.int .i64 s.ep) := r0.cell 7 rfl
        have c8 : v2.cell? ⟨B1, 8, none⟩ = some (Value.int .i64 s.ve) := r0.cell 8 rfl
        go_wp2
        replace r0 := r0.alloc (.cells #[Value.int .i64 t2.st, Value.int .i64 t2.ow, Value.int .i64 t2.sr, Value.bool false, Value.bool t2.ma, Value.int .i64 t2.us, Value.int .i64 t2.ge, Value.int .i64 t2.ep, Value.int .i64 s.ve] 23)
        replace HT := Lib.hid (HT.out.alloc (.cells #[Value.int .i64 t2.st, Value.int .i64 t2.ow, Value.int .i64 t2.sr, Value.bool false, Value.bool t2.ma, Value.int .i64 t2.us, Value.int .i64 t2.ge, Value.int .i64 t2.ep, Value.int .i64 s.ve] 23))
        replace hB := hB.alloc hB.size (.cells #[Value.int .i64 t2.st, Value.int .i64 t2.ow, Value.int .i64 t2.sr, Value.bool false, Value.bool t2.ma, Value.int .i64 t2.us, Value.int .i64 t2.ge, Value.int .i64 t2.ep, Value.int .i64 s.ve] 23)
        clear heq2
        go_ret
        exact ⟨rfl, hB⟩
      | false =>
        obtain ⟨t0, et⟩ : ∃ t, nxS s 9 a 0 = t := ⟨_, rfl⟩
        have CN0 := next_is hs et h0
        have E0 := little0 h0
        rw [et] at E0
        have heq0 := fun w => ne_same E0 w
        clear et h0 E0
        obtain ⟨t1, et⟩ : ∃ t, nxS s 10 a 0 = t := ⟨_, rfl⟩
        have CN1 := next_is hs et h1
        clear et h1
        obtain ⟨t2, et⟩ : ∃ t, nxS s 13 a 0 = t := ⟨_, rfl⟩
        have CN2 := next_is hs et h2
        clear et h2
        have r0 := RowAt.new w 23 #[Value.int .i64 s.st, Value.int .i64 s.ow, Value.int .i64 s.sr, Value.bool s.br, Value.bool s.ma, Value.int .i64 s.us, Value.int .i64 s.ge, Value.int .i64 s.ep, Value.int .i64 s.ve]
        have hB := (Below.refl w.heap.size w).alloc (Nat.le_refl _) (.cells #[Value.int .i64 s.st, Value.int .i64 s.ow, Value.int .i64 s.sr, Value.bool s.br, Value.bool s.ma, Value.int .i64 s.us, Value.int .i64 s.ge, Value.int .i64 s.ep, Value.int .i64 s.ve] 23)
        have HT := Lib.hid (hT.alloc (.cells #[Value.int .i64 s.st, Value.int .i64 s.ow, Value.int .i64 s.sr, Value.bool s.br, Value.bool s.ma, Value.int .i64 s.us, Value.int .i64 s.ge, Value.int .i64 s.ep, Value.int .i64 s.ve] 23))
        clear hT
        go_enter Tryd.func9, Tryd.ntmps9
        go_wp2_with fail
        refine (awake_any _ HT.out).mono ?_
        rintro e w1 ⟨rfl, hb⟩
        replace r0 := r0.below hb r0.lt
        replace hB := hB.trans (hb.mono hB.size)
        replace HT := Lib.hid (HT.out.below hb HT.out.lt)
        clear hb
        obtain ⟨B1, e1⟩ : ∃ B1, B1 = w.heap.size := ⟨_, rfl⟩
        have hle : w.heap.size ≤ B1 := by omega
        rw [← e1] at r0 ⊢
        clear e1
        have l0 := r0.lt
        have c0 : w1.cell? ⟨B1, 0, none⟩ = some (Value.int .i64 s.st) := r0.cell 0 rfl
        have c1 : w1.cell? ⟨B1, 1, none⟩ = some (Value.int .i64 s.ow) := r0.cell 1 rfl
        have c2 : w1.cell? ⟨B1, 2, none⟩ = some (Value.int .i64 s.sr) := r0.cell 2 rfl
        have c3 : w1.cell? ⟨B1, 3, none⟩ = some (Value.bool s.br) := r0.cell 3 rfl
        have c4 : w1.cell? ⟨B1, 4, none⟩ = some (Value.bool s.ma) := r0.cell 4 rfl
        have c5 : w1.cell? ⟨B1, 5, none⟩ = some (Value.int .i64 s.us) := r0.cell 5 rfl
        have c6 : w1.cell? ⟨B1, 6, none⟩ = some (Value.int .i64 s.ge) := r0.cell 6 rfl
        have c7 : w1.cell? ⟨B1, 7, none⟩ = some (Value.int .i64 s.ep) := r0.cell 7 rfl
        have c8 : w1.cell? ⟨B1, 8, none⟩ = some (Value.int .i64 s.ve) := r0.cell 8 rfl
        go_wp2_with fail
        refine (CN0 _ HT.out).mono ?_
        rintro e v0 ⟨rfl, hb⟩
        clear c0 c1 c2 c3 c4 c5 c6 c7 c8 CN0
        replace r0 := r0.below hb r0.lt
        replace HT := Lib.hid (HT.out.below hb HT.out.lt)
        replace hB := hB.trans (hb.mono hB.size)
        clear hb l0
        have l0 := r0.lt
        have c0 : v0.cell? ⟨B1, 0, none⟩ = some (Value.int .i64 s.st) := r0.cell 0 rfl
        have c1 : v0.cell? ⟨B1, 1, none⟩ = some (Value.int .i64 s.ow) := r0.cell 1 rfl
        have c2 : v0.cell? ⟨B1, 2, none⟩ = some (Value.int .i64 s.sr) := r0.cell 2 rfl
        have c3 : v0.cell? ⟨B1, 3, none⟩ = some (Value.bool s.br) := r0.cell 3 rfl
        have c4 : v0.cell? ⟨B1, 4, none⟩ = some (Value.bool s.ma) := r0.cell 4 rfl
        have c5 : v0.cell? ⟨B1, 5, none⟩ = some (Value.int .i64 s.us) := r0.cell 5 rfl
        have c6 : v0.cell? ⟨B1, 6, none⟩ = some (Value.int .i64 s.ge) := r0.cell 6 rfl
        have c7 : v0.cell? ⟨B1, 7, none⟩ = some (Value.int .i64 s.ep) := r0.cell 7 rfl
        have c8 : v0.cell? ⟨B1, 8, none⟩ = some (Value.int .i64 s.ve) := r0.cell 8 rfl
        go_wp2_with fail
        replace r0 := r0.alloc (.cells #[Value.int .i64 t0.st, Value.int .i64 s.ow, Value.int .i64 t0.sr, Value.bool t0.br, Value.bool t0.ma, Value.int .i64 t0.us, Value.int .i64 t0.ge, Value.int .i64 t0.ep, Value.int .i64 s.ve] 23)
        replace HT := Lib.hid (HT.out.alloc (.cells #[Value.int .i64 t0.st, Value.int .i64 s.ow, Value.int .i64 t0.sr, Value.bool t0.br, Value.bool t0.ma, Value.int .i64 t0.us, Value.int .i64 t0.ge, Value.int .i64 t0.ep, Value.int .i64 s.ve] 23))
        replace hB := hB.alloc hB.size (.cells #[Value.int .i64 t0.st, Value.int .i64 s.ow, Value.int .i64 t0.sr, Value.bool t0.br, Value.bool t0.ma, Value.int .i64 t0.us, Value.int .i64 t0.ge, Value.int .i64 t0.ep, Value.int .i64 s.ve] 23)
        clear heq0
        refine (CN1 _ HT.out).mono ?_
        rintro e v1 ⟨rfl, hb⟩
        clear c0 c1 c2 c3 c4 c5 c6 c7 c8 CN1
        replace r0 := r0.below hb r0.lt
        replace HT := Lib.hid (HT.out.below hb HT.out.lt)
        replace hB := hB.trans (hb.mono hB.size)
        clear hb l0
        have l0 := r0.lt
        have c0 : v1.cell? ⟨B1, 0, none⟩ = some (Value.int .i64 s.st) := r0.cell 0 rfl
        have c1 : v1.cell? ⟨B1, 1, none⟩ = some (Value.int .i64 s.ow) := r0.cell 1 rfl
        have c2 : v1.cell? ⟨B1, 2, none⟩ = some (Value.int .i64 s.sr) := r0.cell 2 rfl
        have c3 : v1.cell? ⟨B1, 3, none⟩ = some (Value.bool s.br) := r0.cell 3 rfl
        have c4 : v1.cell? ⟨B1, 4, none⟩ = some (Value.bool s.ma) := r0.cell 4 rfl
        have c5 : v1.cell? ⟨B1, 5, none⟩ = some (Value.int .i64 s.us) := r0.cell 5 rfl
        have c6 : v1.cell? ⟨B1, 6, none⟩ = some (Value.int .i64 s.ge) := r0.cell 6 rfl
        have c7 : v1.cell? ⟨B1, 7, none⟩ = some (Value.int .i64 s.ep) := r0.cell 7 rfl
        have c8 : v1.cell? ⟨B1, 8, none⟩ = some (Value.int .i64 s.ve) := r0.cell 8 rfl
        go_wp2_with fail
        replace r0 := r0.alloc (.cells #[Value.int .i64 t1.st, Value.int .i64 t1.ow, Value.int .i64 t1.sr, Value.bool t1.br, Value.bool t1.ma, Value.int .i64 t1.us, Value.int .i64 t1.ge, Value.int .i64 t1.ep, Value.int .i64 t1.ve] 23)
        replace HT := Lib.hid (HT.out.alloc (.cells #[Value.int .i64 t1.st, Value.int .i64 t1.ow, Value.int .i64 t1.sr, Value.bool t1.br, Value.bool t1.ma, Value.int .i64 t1.us, Value.int .i64 t1.ge, Value.int .i64 t1.ep, Value.int .i64 t1.ve] 23))
        replace hB := hB.alloc hB.size (.cells #[Value.int .i64 t1.st, Value.int .i64 t1.ow, Value.int .i64 t1.sr, Value.bool t1.br, Value.bool t1.ma, Value.int .i64 t1.us, Value.int .i64 t1.ge, Value.int .i64 t1.ep, Value.int .i64 t1.ve] 23)
        refine (CN2 _ HT.out).mono ?_
        rintro e v2 ⟨rfl, hb⟩
        clear c0 c1 c2 c3 c4 c5 c6 c7 c8 CN2
        replace r0 := r0.below hb r0.lt
        replace HT := Lib.hid (HT.out.below hb HT.out.lt)
        replace hB := hB.trans (hb.mono hB.size)
        clear hb l0
        have l0 := r0.lt
        have c0 : v2.cell? ⟨B1, 0, none⟩ = some (Value.int .i64 s.st) := r0.cell 0 rfl
        have c1 : v2.cell? ⟨B1, 1, none⟩ = some (Value.int .i64 s.ow) := r0.cell 1 rfl
        have c2 : v2.cell? ⟨B1, 2, none⟩ = some (Value.int .i64 s.sr) := r0.cell 2 rfl
        have c3 : v2.cell? ⟨B1, 3, none⟩ = some (Value.bool s.br) := r0.cell 3 rfl
        have c4 : v2.cell? ⟨B1, 4, none⟩ = some (Value.bool s.ma) := r0.cell 4 rfl
        have c5 : v2.cell? ⟨B1, 5, none⟩ = some (Value.int .i64 s.us) := r0.cell 5 rfl
        have c6 : v2.cell? ⟨B1, 6, none⟩ = some (Value.int .i64 s.ge) := r0.cell 6 rfl
        have c7 : v2.cell? ⟨B1, 7, none⟩ = some (Value.int .i64 s.ep) := r0.cell 7 rfl
        have c8 : v2.cell? ⟨B1, 8, none⟩ = some (Value.int .i64 s.ve) := r0.cell 8 rfl
        go_wp2
        replace r0 := r0.alloc (.cells #[Value.int .i64 t2.st, Value.int .i64 t2.ow, Value.int .i64 t2.sr, Value.bool t2.br, Value.bool t2.ma, Value.int .i64 t2.us, Value.int .i64 t2.ge, Value.int .i64 t2.ep, Value.int .i64 t2.ve] 23)
        replace HT := Lib.hid (HT.out.alloc (.cells #[Value.int .i64 t2.st, Value.int .i64 t2.ow, Value.int .i64 t2.sr, Value.bool t2.br, Value.bool t2.ma, Value.int .i64 t2.us, Value.int .i64 t2.ge, Value.int .i64 t2.ep, Value.int .i64 t2.ve] 23))
        replace hB := hB.alloc hB.size (.cells #[Value.int .i64 t2.st, Value.int .i64 t2.ow, Value.int .i64 t2.sr, Value.bool t2.br, Value.bool t2.ma, Value.int .i64 t2.us, Value.int .i64 t2.ge, Value.int .i64 t2.ep, Value.int .i64 t2.ve] 23)
        go_ret
        exact ⟨rfl, hB⟩
  | false =>
    cases h1 : nxB s 10 a 0 with
    | true =>
      cases h2 : nxB s 13 a 0 with
      | true =>
        obtain ⟨t0, et⟩ : ∃ t, nxS s 9 a 0 = t := ⟨_, rfl⟩
        have CN0 := next_is hs et h0
        clear et h0
        obtain ⟨t1, et⟩ : ∃ t, nxS s 10 a 0 = t := ⟨_, rfl⟩
        have CN1 := next_is hs et h1
        have E1 := little1 hs h1
        rw [et] at E1
        have heq1 := fun w => ne_same E1 w
        clear et h1 E1
        obtain ⟨t2, et⟩ : ∃ t, nxS s 13 a 0 = t := ⟨_, rfl⟩
        have CN2 := next_is hs et h2
        have E2 := little2 hs h2
        rw [et] at E2
        have heq2 := fun w => ne_same E2 w
        clear et h2 E2
        have r0 := RowAt.new w 23 #[Value.int .i64 s.st, Value.int .i64 s.ow, Value.int .i64 s.sr, Value.bool s.br, Value.bool s.ma, Value.int .i64 s.us, Value.int .i64 s.ge, Value.int .i64 s.ep, Value.int .i64 s.ve]
        have hB := (Below.refl w.heap.size w).alloc (Nat.le_refl _) (.cells #[Value.int .i64 s.st, Value.int .i64 s.ow, Value.int .i64 s.sr, Value.bool s.br, Value.bool s.ma, Value.int .i64 s.us, Value.int .i64 s.ge, Value.int .i64 s.ep, Value.int .i64 s.ve] 23)
        have HT := Lib.hid (hT.alloc (.cells #[Value.int .i64 s.st, Value.int .i64 s.ow, Value.int .i64 s.sr, Value.bool s.br, Value.bool s.ma, Value.int .i64 s.us, Value.int .i64 s.ge, Value.int .i64 s.ep, Value.int .i64 s.ve] 23))
        clear hT
        go_enter Tryd.func9, Tryd.ntmps9
        go_wp2_with fail
        refine (awake_any _ HT.out).mono ?_
        rintro e w1 ⟨rfl, hb⟩
        replace r0 := r0.below hb r0.lt
        replace hB := hB.trans (hb.mono hB.size)
        replace HT := Lib.hid (HT.out.below hb HT.out.lt)
        clear hb
        obtain ⟨B1, e1⟩ : ∃ B1, B1 = w.heap.size := ⟨_, rfl⟩
        have hle : w.heap.size ≤ B1 := by omega
        rw [← e1] at r0 ⊢
        clear e1
        have l0 := r0.lt
        have c0 : w1.cell? ⟨B1, 0, none⟩ = some (Value.int .i64 s.st) := r0.cell 0 rfl
        have c1 : w1.cell? ⟨B1, 1, none⟩ = some (Value.int .i64 s.ow) := r0.cell 1 rfl
        have c2 : w1.cell? ⟨B1, 2, none⟩ = some (Value.int .i64 s.sr) := r0.cell 2 rfl
        have c3 : w1.cell? ⟨B1, 3, none⟩ = some (Value.bool s.br) := r0.cell 3 rfl
        have c4 : w1.cell? ⟨B1, 4, none⟩ = some (Value.bool s.ma) := r0.cell 4 rfl
        have c5 : w1.cell? ⟨B1, 5, none⟩ = some (Value.int .i64 s.us) := r0.cell 5 rfl
        have c6 : w1.cell? ⟨B1, 6, none⟩ = some (Value.int .i64 s.ge) := r0.cell 6 rfl
        have c7 : w1.cell? ⟨B1, 7, none⟩ = some (Value.int .i64 s.ep) := r0.cell 7 rfl
        have c8 : w1.cell? ⟨B1, 8, none⟩ = some (Value.int .i64 s.ve) := r0.cell 8 rfl
        go_wp2_with fail
        refine (CN0 _ HT.out).mono ?_
        rintro e v0 ⟨rfl, hb⟩
        clear c0 c1 c2 c3 c4 c5 c6 c7 c8 CN0
        replace r0 := r0.below hb r0.lt
        replace HT := Lib.hid (HT.out.below hb HT.out.lt)
        replace hB := hB.trans (hb.mono hB.size)
        clear hb l0
        have l0 := r0.lt
        have c0 : v0.cell? ⟨B1, 0, none⟩ = some (Value.int .i64 s.st) := r0.cell 0 rfl
        have c1 : v0.cell? ⟨B1, 1, none⟩ = some (Value.int .i64 s.ow) := r0.cell 1 rfl
        have c2 : v0.cell? ⟨B1, 2, none⟩ = some (Value.int .i64 s.sr) := r0.cell 2 rfl
        have c3 : v0.cell? ⟨B1, 3, none⟩ = some (Value.bool s.br) := r0.cell 3 rfl
        have c4 : v0.cell? ⟨B1, 4, none⟩ = some (Value.bool s.ma) := r0.cell 4 rfl
        have c5 : v0.cell? ⟨B1, 5, none⟩ = some (Value.int .i64 s.us) := r0.cell 5 rfl
        have c6 : v0.cell? ⟨B1, 6, none⟩ = some (Value.int .i64 s.ge) := r0.cell 6 rfl
        have c7 : v0.cell? ⟨B1, 7, none⟩ = some (Value.int .i64 s.ep) := r0.cell 7 rfl
        have c8 : v0.cell? ⟨B1, 8, none⟩ = some (Value.int .i64 s.ve) := r0.cell 8 rfl
        go_wp2_with fail
        replace r0 := r0.alloc (.cells #[Value.int .i64 t0.st, Value.int .i64 t0.ow, Value.int .i64 t0.sr, Value.bool t0.br, Value.bool t0.ma, Value.int .i64 t0.us, Value.int .i64 t0.ge, Value.int .i64 t0.ep, Value.int .i64 t0.ve] 23)
        replace HT := Lib.hid (HT.out.alloc (.cells #[Value.int .i64 t0.st, Value.int .i64 t0.ow, Value.int .i64 t0.sr, Value.bool t0.br, Value.bool t0.ma, Value.int .i64 t0.us, Value.int .i64 t0.ge, Value.int .i64 t0.ep, Value.int .i64 t0.ve] 23))
        replace hB := hB.alloc hB.size (.cells #[Value.int .i64 t0.st, Value.int .i64 t0.ow, Value.int .i64 t0.sr, Value.bool t0.br, Value.bool t0.ma, Value.int .i64 t0.us, Value.int .i64 t0.ge, Value.int .i64 t0.ep, Value.int .i64 t0.ve] 23)
        refine (CN1 _ HT.out).mono ?_
        rintro e v1 ⟨rfl, hb⟩
        clear c0 c1 c2 c3 c4 c5 c6 c7 c8 CN1
        replace r0 := r0.below hb r0.lt
        replace HT := Lib.hid (HT.out.below hb HT.out.lt)
        replace hB := hB.trans (hb.mono hB.size)
        clear hb l0
        have l0 := r0.lt
        have c0 : v1.cell? ⟨B1, 0, none⟩ = some (Value.int .i64 s.st) := r0.cell 0 rfl
        have c1 : v1.cell? ⟨B1, 1, none⟩ = some (Value.int .i64 s.ow) := r0.cell 1 rfl
        have c2 : v1.cell? ⟨B1, 2, none⟩ = some (Value.int .i64 s.sr) := r0.cell 2 rfl
        have c3 : v1.cell? ⟨B1, 3, none⟩ = some (Value.bool s.br) := r0.cell 3 rfl
        have c4 : v1.cell? ⟨B1, 4, none⟩ = some (Value.bool s.ma) := r0.cell 4 rfl
        have c5 : v1.cell? ⟨B1, 5, none⟩ = some (Value.int .i64 s.us) := r0.cell 5 rfl
        have c6 : v1.cell? ⟨B1, 6, none⟩ = some (Value.int .i64 s.ge) := r0.cell 6 rfl
        have c7 : v1.cell? ⟨B1, 7, none⟩ = some (Value.int .i64 s.ep) := r0.cell 7 rfl
        have c8 : v1.cell? ⟨B1, 8, none⟩ = some (Value.int .i64 s.ve) := r0.cell 8 rfl
        go_wp2_with fail
        replace r0 := r0.alloc (.cells #[Value.int .i64 t1.st, Value.int .i64 t1.ow, Value.int .i64 t1.sr, Value.bool t1.br, Value.bool false, Value.int .i64 t1.us, Value.int .i64 t1.ge, Value.int .i64 t1.ep, Value.int .i64 s.ve] 23)
        replace HT := Lib.hid (HT.out.alloc (.cells #[Value.int .i64 t1.st, Value.int .i64 t1.ow, Value.int .i64 t1.sr, Value.bool t1.br, Value.bool false, Value.int .i64 t1.us, Value.int .i64 t1.ge, Value.int .i64 t1.ep, Value.int .i64 s.ve] 23))
        replace hB := hB.alloc hB.size (.cells #[Value.int .i64 t1.st, Value.int .i64 t1.ow, Value.int .i64 t1.sr, Value.bool t1.br, Value.bool false, Value.int .i64 t1.us, Value.int .i64 t1.ge, Value.int .i64 t1.ep, Value.int .i64 s.ve] 23)
        clear heq1
        refine (CN2 _ HT.out).mono ?_
        rintro e v2 ⟨rfl, hb⟩
        clear c0 c1 c2 c3 c4 c5 c6 c7 c8 CN2
        replace r0 := r0.below hb r0.lt
        replace HT := Lib.hid (HT.out.below hb HT.out.lt)
        replace hB := hB.trans (hb.mono hB.size)
        clear hb l0
        have l0 := r0.lt
        have c0 : v2.cell? ⟨B1, 0, none⟩ = some (Value.int .i64 s.st) := r0.cell 0 rfl
        have c1 : v2.cell? ⟨B1, 1, none⟩ = some (Value.int .i64 s.ow) := r0.cell 1 rfl
        have c2 : v2.cell? ⟨B1, 2, none⟩ = some (Value.int .i64 s.sr) := r0.cell 2 rfl
        have c3 : v2.cell? ⟨B1, 3, none⟩ = some (Value.bool s.br) := r0.cell 3 rfl
        have c4 : v2.cell? ⟨B1, 4, none⟩ = some (Value.bool s.ma) := r0.cell 4 rfl
        have c5 : v2.cell? ⟨B1, 5, none⟩ = some (Value.int .i64 s.us) := r0.cell 5 rfl
        have c6 : v2.cell? ⟨B1, 6, none⟩ = some (Value.int .i64 s.ge) := r0.cell 6 rfl
        have c7 : v2.cell? ⟨B1, 7, none⟩ = some (Value.int .i64 s.ep) := r0.cell 7 rfl
        have c8 : v2.cell? ⟨B1, 8, none⟩ = some (Value.int .i64 s.ve) := r0.cell 8 rfl
        go_wp2
        replace r0 := r0.alloc (.cells #[Value.int .i64 t2.st, Value.int .i64 t2.ow, Value.int .i64 t2.sr, Value.bool false, Value.bool t2.ma, Value.int .i64 t2.us, Value.int .i64 t2.ge, Value.int .i64 t2.ep, Value.int .i64 s.ve] 23)
        replace HT := Lib.hid (HT.out.alloc (.cells #[Value.int .i64 t2.st, Value.int .i64 t2.ow, Value.int .i64 t2.sr, Value.bool false, Value.bool t2.ma, Value.int .i64 t2.us, Value.int .i64 t2.ge, Value.int .i64 t2.ep, Value.int .i64 s.ve] 23))
        replace hB := hB.alloc hB.size (.cells #[Value.int .i64 t2.st, Value.int .i64 t2.ow, Value.int .i64 t2.sr, Value.bool false, Value.bool t2.ma, Value.int .i64 t2.us, Value.int .i64 t2.ge, Value.int .i64 t2.ep, Value.int .i64 s.ve] 23)
        clear heq2
        go_ret
        exact ⟨rfl, hB⟩
      | false =>
        obtain ⟨t0, et⟩ : ∃ t, nxS s 9 a 0 = t := ⟨_, rfl⟩
        have CN0 := next_is hs et h0
        clear et h0
        obtain ⟨t1, et⟩ : ∃ t, nxS s 10 a 0 = t := ⟨_, rfl⟩
        have CN1 := next_is hs et h1
        have E1 := little1 hs h1
        rw [et] at E1
        have heq1 := fun w => ne_same E1 w
        clear et h1 E1
        obtain ⟨t2, et⟩ : ∃ t, nxS s 13 a 0 = t := ⟨_, rfl⟩
        have CN2 := next_is hs et h2
        clear et h2
        have r0 := RowAt.new w 23 #[Value.int .i64 s.st, Value.int .i64 s.ow, Value.int .i64 s.sr, Value.bool s.br, Value.bool s.ma, Value.int .i64 s.us, Value.int .i64 s.ge, Value.int .i64 s.ep, Value.int .i64 s.ve]
        have hB := (Below.refl w.heap.size w).alloc (Nat.le_refl _) (.cells #[Value.int .i64 s.st, Value.int .i64 s.ow, Value.int .i64 s.sr, Value.bool s.br, Value.bool s.ma, Value.int .i64 s.us, Value.int .i64 s.ge, Value.int .i64 s.ep, Value.int .i64 s.ve] 23)
        have HT := Lib.hid (hT.alloc (.cells #[Value.int .i64 s.st, Value.int .i64 s.ow, Value.int .i64 s.sr, Value.bool s.br, Value.bool s.ma, Value.int .i64 s.us, Value.int .i64 s.ge, Value.int .i64 s.ep, Value.int .i64 s.ve] 23))
        clear hT
        go_enter Tryd.func9, Tryd.ntmps9
        go_wp2_with fail
        refine (awake_any _ HT.out).mono ?_
        rintro e w1 ⟨rfl, hb⟩
        replace r0 := r0.below hb r0.lt
        replace hB := hB.trans (hb.mono hB.size)
        replace HT := Lib.hid (HT.out.below hb HT.out.lt)
        clear hb
        obtain ⟨B1, e1⟩ : ∃ B1, B1 = w.heap.size := ⟨_, rfl⟩
        have hle : w.heap.size ≤ B1 := by omega
        rw [← e1] at r0 ⊢
        clear e1
        have l0 := r0.lt
        have c0 : w1.cell? ⟨B1, 0, none⟩ = some (Value.int .i64 s.st) := r0.cell 0 rfl
        have c1 : w1.cell? ⟨B1, 1, none⟩ = some (Value.int .i64 s.ow) := r0.cell 1 rfl
        have c2 : w1.cell? ⟨B1, 2, none⟩ = some (Value.int .i64 s.sr) := r0.cell 2 rfl
        have c3 : w1.cell? ⟨B1, 3, none⟩ = some (Value.bool s.br) := r0.cell 3 rfl
        have c4 : w1.cell? ⟨B1, 4, none⟩ = some (Value.bool s.ma) := r0.cell 4 rfl
        have c5 : w1.cell? ⟨B1, 5, none⟩ = some (Value.int .i64 s.us) := r0.cell 5 rfl
        have c6 : w1.cell? ⟨B1, 6, none⟩ = some (Value.int .i64 s.ge) := r0.cell 6 rfl
        have c7 : w1.cell? ⟨B1, 7, none⟩ = some (Value.int .i64 s.ep) := r0.cell 7 rfl
        have c8 : w1.cell? ⟨B1, 8, none⟩ = some (Value.int .i64 s.ve) := r0.cell 8 rfl
        go_wp2_with fail
        refine (CN0 _ HT.out).mono ?_
        rintro e v0 ⟨rfl, hb⟩
        clear c0 c1 c2 c3 c4 c5 c6 c7 c8 CN0
        replace r0 := r0.below hb r0.lt
        replace HT := Lib.hid (HT.out.below hb HT.out.lt)
        replace hB := hB.trans (hb.mono hB.size)
        clear hb l0
        have l0 := r0.lt
        have c0 : v0.cell? ⟨B1, 0, none⟩ = some (Value.int .i64 s.st) := r0.cell 0 rfl
        have c1 : v0.cell? ⟨B1, 1, none⟩ = some (Value.int .i64 s.ow) := r0.cell 1 rfl
        have c2 : v0.cell? ⟨B1, 2, none⟩ = some (Value.int .i64 s.sr) := r0.cell 2 rfl
        have c3 : v0.cell? ⟨B1, 3, none⟩ = some (Value.bool s.br) := r0.cell 3 rfl
        have c4 : v0.cell? ⟨B1, 4, none⟩ = some (Value.bool s.ma) := r0.cell 4 rfl
        have c5 : v0.cell? ⟨B1, 5, none⟩ = some (Value.int .i64 s.us) := r0.cell 5 rfl
        have c6 : v0.cell? ⟨B1, 6, none⟩ = some (Value.int .i64 s.ge) := r0.cell 6 rfl
        have c7 : v0.cell? ⟨B1, 7, none⟩ = some (Value.int .i64 s.ep) := r0.cell 7 rfl
        have c8 : v0.cell? ⟨B1, 8, none⟩ = some (Value.int .i64 s.ve) := r0.cell 8 rfl
        go_wp2_with fail
        replace r0 := r0.alloc (.cells #[Value.int .i64 t0.st, Value.int .i64 t0.ow, Value.int .i64 t0.sr, Value.bool t0.br, Value.bool t0.ma, Value.int .i64 t0.us, Value.int .i64 t0.ge, Value.int .i64 t0.ep, Value.int .i64 t0.ve] 23)
        replace HT := Lib.hid (HT.out.alloc (.cells #[Value.int .i64 t0.st, Value.int .i64 t0.ow, Value.int .i64 t0.sr, Value.bool t0.br, Value.bool t0.ma, Value.int .i64 t0.us, Value.int .i64 t0.ge, Value.int .i64 t0.ep, Value.int .i64 t0.ve] 23))
        replace hB := hB.alloc hB.size (.cells #[Value.int .i64 t0.st, Value.int .i64 t0.ow, Value.int .i64 t0.sr, Value.bool t0.br, Value.bool t0.ma, Value.int .i64 t0.us, Value.int .i64 t0.ge, Value.int .i64 t0.ep, Value.int .i64 t0.ve] 23)
        refine (CN1 _ HT.out).mono ?_
        rintro e v1 ⟨rfl, hb⟩
        clear c0 c1 c2 c3 c4 c5 c6 c7 c8 CN1
        replace r0 := r0.below hb r0.lt
        replace HT := Lib.hid (HT.out.below hb HT.out.lt)
        replace hB := hB.trans (hb.mono hB.size)
        clear hb l0
        have l0 := r0.lt
        have c0 : v1.cell? ⟨B1, 0, none⟩ = some (Value.int .i64 s.st) := r0.cell 0 rfl
        have c1 : v1.cell? ⟨B1, 1, none⟩ = some (Value.int .i64 s.ow) := r0.cell 1 rfl
        have c2 : v1.cell? ⟨B1, 2, none⟩ = some (Value.int .i64 s.sr) := r0.cell 2 rfl
        have c3 : v1.cell? ⟨B1, 3, none⟩ = some (Value.bool s.br) := r0.cell 3 rfl
        have c4 : v1.cell? ⟨B1, 4, none⟩ = some (Value.bool s.ma) := r0.cell 4 rfl
        have c5 : v1.cell? ⟨B1, 5, none⟩ = some (Value.int .i64 s.us) := r0.cell 5 rfl
        have c6 : v1.cell? ⟨B1, 6, none⟩ = some (Value.int .i64 s.ge) := r0.cell 6 rfl
        have c7 : v1.cell? ⟨B1, 7, none⟩ = some (Value.int .i64 s.ep) := r0.cell 7 rfl
        have c8 : v1.cell? ⟨B1, 8, none⟩ = some (Value.int .i64 s.ve) := r0.cell 8 rfl
        go_wp2_with fail
        replace r0 := r0.alloc (.cells #[Value.int .i64 t1.st, Value.int .i64 t1.ow, Value.int .i64 t1.sr, Value.bool t1.br, Value.bool false, Value.int .i64 t1.us, Value.int .i64 t1.ge, Value.int .i64 t1.ep, Value.int .i64 s.ve] 23)
        replace HT := Lib.hid (HT.out.alloc (.cells #[Value.int .i64 t1.st, Value.int .i64 t1.ow, Value.int .i64 t1.sr, Value.bool t1.br, Value.bool false, Value.int .i64 t1.us, Value.int .i64 t1.ge, Value.int .i64 t1.ep, Value.int .i64 s.ve] 23))
        replace hB := hB.alloc hB.size (.cells #[Value.int .i64 t1.st, Value.int .i64 t1.ow, Value.int .i64 t1.sr, Value.bool t1.br, Value.bool false, Value.int .i64 t1.us, Value.int .i64 t1.ge, Value.int .i64 t1.ep, Value.int .i64 s.ve] 23)
        clear heq1
        refine (CN2 _ HT.out).mono ?_
        rintro e v2 ⟨rfl, hb⟩
        clear c0 c1 c2 c3 c4 c5 c6 c7 c8 CN2
        replace r0 := r0.below hb r0.lt
        replace HT := Lib.hid (HT.out.below hb HT.out.lt)
        replace hB := hB.trans (hb.mono hB.size)
        clear hb l0
        have l0 := r0.lt
        have c0 : v2.cell? ⟨B1, 0, none⟩ = some (Value.int .i64 s.st) := r0.cell 0 rfl
        have c1 : v2.cell? ⟨B1, 1, none⟩ = some (Value.int .i64 s.ow) := r0.cell 1 rfl
        have c2 : v2.cell? ⟨B1, 2, none⟩ = some (Value.int .i64 s.sr) := r0.cell 2 rfl
        have c3 : v2.cell? ⟨B1, 3, none⟩ = some (Value.bool s.br) := r0.cell 3 rfl
        have c4 : v2.cell? ⟨B1, 4, none⟩ = some (Value.bool s.ma) := r0.cell 4 rfl
        have c5 : v2.cell? ⟨B1, 5, none⟩ = some (Value.int .i64 s.us) := r0.cell 5 rfl
        have c6 : v2.cell? ⟨B1, 6, none⟩ = some (Value.int .i64 s.ge) := r0.cell 6 rfl
        have c7 : v2.cell? ⟨B1, 7, none⟩ = some (Value.int .i64 s.ep) := r0.cell 7 rfl
        have c8 : v2.cell? ⟨B1, 8, none⟩ = some (Value.int .i64 s.ve) := r0.cell 8 rfl
        go_wp2
        replace r0 := r0.alloc (.cells #[Value.int .i64 t2.st, Value.int .i64 t2.ow, Value.int .i64 t2.sr, Value.bool t2.br, Value.bool t2.ma, Value.int .i64 t2.us, Value.int .i64 t2.ge, Value.int .i64 t2.ep, Value.int .i64 t2.ve] 23)
        replace HT := Lib.hid (HT.out.alloc (.cells #[Value.int .i64 t2.st, Value.int .i64 t2.ow, Value.int .i64 t2.sr, Value.bool t2.br, Value.bool t2.ma, Value.int .i64 t2.us, Value.int .i64 t2.ge, Value.int .i64 t2.ep, Value.int .i64 t2.ve] 23))
        replace hB := hB.alloc hB.size (.cells #[Value.int .i64 t2.st, Value.int .i64 t2.ow, Value.int .i64 t2.sr, Value.bool t2.br, Value.bool t2.ma, Value.int .i64 t2.us, Value.int .i64 t2.ge, Value.int .i64 t2.ep, Value.int .i64 t2.ve] 23)
        go_ret
        exact ⟨rfl, hB⟩
    | false =>
      cases h2 : nxB s 13 a 0 with
      | true =>
        obtain ⟨t0, et⟩ : ∃ t, nxS s 9 a 0 = t := ⟨_, rfl⟩
        have CN0 := next_is hs et h0
        clear et h0
        obtain ⟨t1, et⟩ : ∃ t, nxS s 10 a 0 = t := ⟨_, rfl⟩
        have CN1 := next_is hs et h1
        clear et h1
        obtain ⟨t2, et⟩ : ∃ t, nxS s 13 a 0 = t := ⟨_, rfl⟩
        have CN2 := next_is hs et h2
        have E2 := little2 hs h2
        rw [et] at E2
        have heq2 := fun w => ne_same E2 w
        clear et h2 E2
        have r0 := RowAt.new w 23 #[Value.int .i64 s.st, Value.int .i64 s.ow, Value.int .i64 s.sr, Value.bool s.br, Value.bool s.ma, Value.int .i64 s.us, Value.int .i64 s.ge, Value.int .i64 s.ep, Value.int .i64 s.ve]
        have hB := (Below.refl w.heap.size w).alloc (Nat.le_refl _) (.cells #[Value.int .i64 s.st, Value.int .i64 s.ow, Value.int .i64 s.sr, Value.bool s.br, Value.bool s.ma, Value.int .i64 s.us, Value.int .i64 s.ge, Value.int .i64 s.ep, Value.int .i64 s.ve] 23)
        have HT := Lib.hid (hT.alloc (.cells #[Value.int .i64 s.st, Value.int .i64 s.ow, Value.int .i64 s.sr, Value.bool s.br, Value.bool s.ma, Value.int .i64 s.us, Value.int .i64 s.ge, Value.int .i64 s.ep, Value.int .i64 s.ve] 23))
        clear hT
        go_enter Tryd.func9, Tryd.ntmps9
        go_wp2_with fail
        refine (awake_any _ HT.out).mono ?_
        rintro e w1 ⟨rfl, hb⟩
        replace r0 := r0.below hb r0.lt
        replace hB := hB.trans (hb.mono hB.size)
        replace HT := Lib.hid (HT.out.below hb HT.out.lt)
        clear hb
        obtain ⟨B1, e1⟩ : ∃ B1, B1 = w.heap.size := ⟨_, rfl⟩
        have hle : w.heap.size ≤ B1 := by omega
        rw [← e1] at r0 ⊢
        clear e1
        have l0 := r0.lt
        have c0 : w1.cell? ⟨B1, 0, none⟩ = some (Value.int .i64 s.st) := r0.cell 0 rfl
        have c1 : w1.cell? ⟨B1, 1, none⟩ = some (Value.int .i64 s.ow) := r0.cell 1 rfl
        have c2 : w1.cell? ⟨B1, 2, none⟩ = some (Value.int .i64 s.sr) := r0.cell 2 rfl
        have c3 : w1.cell? ⟨B1, 3, none⟩ = some (Value.bool s.br) := r0.cell 3 rfl
        have c4 : w1.cell? ⟨B1, 4, none⟩ = some (Value.bool s.ma) := r0.cell 4 rfl
        have c5 : w1.cell? ⟨B1, 5, none⟩ = some (Value.int .i64 s.us) := r0.cell 5 rfl
        have c6 : w1.cell? ⟨B1, 6, none⟩ = some (Value.int .i64 s.ge) := r0.cell 6 rfl
        have c7 : w1.cell? ⟨B1, 7, none⟩ = some (Value.int .i64 s.ep) := r0.cell 7 rfl
        have c8 : w1.cell? ⟨B1, 8, none⟩ = some (Value.int .i64 s.ve) := r0.cell 8 rfl
        go_wp2_with fail
        refine (CN0 _ HT.out).mono ?_
        rintro e v0 ⟨rfl, hb⟩
        clear c0 c1 c2 c3 c4 c5 c6 c7 c8 CN0
        replace r0 := r0.below hb r0.lt
        replace HT := Lib.hid (HT.out.below hb HT.out.lt)
        replace hB := hB.trans (hb.mono hB.size)
        clear hb l0
        have l0 := r0.lt
        have c0 : v0.cell? ⟨B1, 0, none⟩ = some (Value.int .i64 s.st) := r0.cell 0 rfl
        have c1 : v0.cell? ⟨B1, 1, none⟩ = some (Value.int .i64 s.ow) := r0.cell 1 rfl
        have c2 : v0.cell? ⟨B1, 2, none⟩ = some (Value.int .i64 s.sr) := r0.cell 2 rfl
        have c3 : v0.cell? ⟨B1, 3, none⟩ = some (Value.bool s.br) := r0.cell 3 rfl
        have c4 : v0.cell? ⟨B1, 4, none⟩ = some (Value.bool s.ma) := r0.cell 4 rfl
        have c5 : v0.cell? ⟨B1, 5, none⟩ = some (Value.int .i64 s.us) := r0.cell 5 rfl
        have c6 : v0.cell? ⟨B1, 6, none⟩ = some (Value.int .i64 s.ge) := r0.cell 6 rfl
        have c7 : v0.cell? ⟨B1, 7, none⟩ = some (Value.int .i64 s.ep) := r0.cell 7 rfl
        have c8 : v0.cell? ⟨B1, 8, none⟩ = some (Value.int .i64 s.ve) := r0.cell 8 rfl
        go_wp2_with fail
        replace r0 := r0.alloc (.cells #[Value.int .i64 t0.st, Value.int .i64 t0.ow, Value.int .i64 t0.sr, Value.bool t0.br, Value.bool t0.ma, Value.int .i64 t0.us, Value.int .i64 t0.ge, Value.int .i64 t0.ep, Value.int .i64 t0.ve] 23)
        replace HT := Lib.hid (HT.out.alloc (.cells #[Value.int .i64 t0.st, Value.int .i64 t0.ow, Value.int .i64 t0.sr, Value.bool t0.br, Value.bool t0.ma, Value.int .i64 t0.us, Value.int .i64 t0.ge, Value.int .i64 t0.ep, Value.int .i64 t0.ve] 23))
        replace hB := hB.alloc hB.size (.cells #[Value.int .i64 t0.st, Value.int .i64 t0.ow, Value.int .i64 t0.sr, Value.bool t0.br, Value.bool t0.ma, Value.int .i64 t0.us, Value.int .i64 t0.ge, Value.int .i64 t0.ep, Value.int .i64 t0.ve] 23)
        refine (CN1 _ HT.out).mono ?_
        rintro e v1 ⟨rfl, hb⟩
        clear c0 c1 c2 c3 c4 c5 c6 c7 c8 CN1
        replace r0 := r0.below hb r0.lt
        replace HT := Lib.hid (HT.out.below hb HT.out.lt)
        replace hB := hB.trans (hb.mono hB.size)
        clear hb l0
        have l0 := r0.lt
        have c0 : v1.cell? ⟨B1, 0, none⟩ = some (Value.int .i64 s.st) := r0.cell 0 rfl
        have c1 : v1.cell? ⟨B1, 1, none⟩ = some (Value.int .i64 s.ow) := r0.cell 1 rfl
        have c2 : v1.cell? ⟨B1, 2, none⟩ = some (Value.int .i64 s.sr) := r0.cell 2 rfl
        have c3 : v1.cell? ⟨B1, 3, none⟩ = some (Value.bool s.br) := r0.cell 3 rfl
        have c4 : v1.cell? ⟨B1, 4, none⟩ = some (Value.bool s.ma) := r0.cell 4 rfl
        have c5 : v1.cell? ⟨B1, 5, none⟩ = some (Value.int .i64 s.us) := r0.cell 5 rfl
        have c6 : v1.cell? ⟨B1, 6, none⟩ = some (Value.int .i64 s.ge) := r0.cell 6 rfl
        have c7 : v1.cell? ⟨B1, 7, none⟩ = some (Value.int .i64 s.ep) := r0.cell 7 rfl
        have c8 : v1.cell? ⟨B1, 8, none⟩ = some (Value.int .i64 s.ve) := r0.cell 8 rfl
        go_wp2_with fail
        replace r0 := r0.alloc (.cells #[Value.int .i64 t1.st, Value.int .i64 t1.ow, Value.int .i64 t1.sr, Value.bool t1.br, Value.bool t1.ma, Value.int .i64 t1.us, Value.int .i64 t1.ge, Value.int .i64 t1.ep, Value.int .i64 t1.ve] 23)
        replace HT := Lib.hid (HT.out.alloc (.cells #[Value.int .i64 t1.st, Value.int .i64 t1.ow, Value.int .i64 t1.sr, Value.bool t1.br, Value.bool t1.ma, Value.int .i64 t1.us, Value.int .i64 t1.ge, Value.int .i64 t1.ep, Value.int .i64 t1.ve] 23))
        replace hB := hB.alloc hB.size (.cells #[Value.int .i64 t1.st, Value.int .i64 t1.ow, Value.int .i64 t1.sr, Value.bool t1.br, Value.bool t1.ma, Value.int .i64 t1.us, Value.int .i64 t1.ge, Value.int .i64 t1.ep, Value.int .i64 t1.ve] 23)
        refine (CN2 _ HT.out).mono ?_
        rintro e v2 ⟨rfl, hb⟩
        clear c0 c1 c2 c3 c4 c5 c6 c7 c8 CN2
        replace r0 := r0.below hb r0.lt
        replace HT := Lib.hid (HT.out.below hb HT.out.lt)
        replace hB := hB.trans (hb.mono hB.size)
        clear hb l0
        have l0 := r0.lt
        have c0 : v2.cell? ⟨B1, 0, none⟩ = some (Value.int .i64 s.st) := r0.cell 0 rfl
        have c1 : v2.cell? ⟨B1, 1, none⟩ = some (Value.int .i64 s.ow) := r0.cell 1 rfl
        have c2 : v2.cell? ⟨B1, 2, none⟩ = some (Value.int .i64 s.sr) := r0.cell 2 rfl
        have c3 : v2.cell? ⟨B1, 3, none⟩ = some (Value.bool s.br) := r0.cell 3 rfl
        have c4 : v2.cell? ⟨B1, 4, none⟩ = some (Value.bool s.ma) := r0.cell 4 rfl
        have c5 : v2.cell? ⟨B1, 5, none⟩ = some (Value.int .i64 s.us) := r0.cell 5 rfl
        have c6 : v2.cell? ⟨B1, 6, none⟩ = some (Value.int .i64 s.ge) := r0.cell 6 rfl
        have c7 : v2.cell? ⟨B1, 7, none⟩ = some (Value.int .i64 s.ep) := r0.cell 7 rfl
        have c8 : v2.cell? ⟨B1, 8, none⟩ = some (Value.int .i64 s.ve) := r0.cell 8 rfl
        go_wp2
        replace r0 := r0.alloc (.cells #[Value.int .i64 t2.st, Value.int .i64 t2.ow, Value.int .i64 t2.sr, Value.bool false, Value.bool t2.ma, Value.int .i64 t2.us, Value.int .i64 t2.ge, Value.int .i64 t2.ep, Value.int .i64 s.ve] 23)
        replace HT := Lib.hid (HT.out.alloc (.cells #[Value.int .i64 t2.st, Value.int .i64 t2.ow, Value.int .i64 t2.sr, Value.bool false, Value.bool t2.ma, Value.int .i64 t2.us, Value.int .i64 t2.ge, Value.int .i64 t2.ep, Value.int .i64 s.ve] 23))
        replace hB := hB.alloc hB.size (.cells #[Value.int .i64 t2.st, Value.int .i64 t2.ow, Value.int .i64 t2.sr, Value.bool false, Value.bool t2.ma, Value.int .i64 t2.us, Value.int .i64 t2.ge, Value.int .i64 t2.ep, Value.int .i64 s.ve] 23)
        clear heq2
        go_ret
        exact ⟨rfl, hB⟩
      | false =>
        obtain ⟨t0, et⟩ : ∃ t, nxS s 9 a 0 = t := ⟨_, rfl⟩
        have CN0 := next_is hs et h0
        clear et h0
        obtain ⟨t1, et⟩ : ∃ t, nxS s 10 a 0 = t := ⟨_, rfl⟩
        have CN1 := next_is hs et h1
        clear et h1
        obtain ⟨t2, et⟩ : ∃ t, nxS s 13 a 0 = t := ⟨_, rfl⟩
        have CN2 := next_is hs et h2
        clear et h2
        have r0 := RowAt.new w 23 #[Value.int .i64 s.st, Value.int .i64 s.ow, Value.int .i64 s.sr, Value.bool s.br, Value.bool s.ma, Value.int .i64 s.us, Value.int .i64 s.ge, Value.int .i64 s.ep, Value.int .i64 s.ve]
        have hB := (Below.refl w.heap.size w).alloc (Nat.le_refl _) (.cells #[Value.int .i64 s.st, Value.int .i64 s.ow, Value.int .i64 s.sr, Value.bool s.br, Value.bool s.ma, Value.int .i64 s.us, Value.int .i64 s.ge, Value.int .i64 s.ep, Value.int .i64 s.ve] 23)
        have HT := Lib.hid (hT.alloc (.cells #[Value.int .i64 s.st, Value.int .i64 s.ow, Value.int .i64 s.sr, Value.bool s.br, Value.bool s.ma, Value.int .i64 s.us, Value.int .i64 s.ge, Value.int .i64 s.ep, Value.int .i64 s.ve] 23))
        clear hT
        go_enter Tryd.func9, Tryd.ntmps9
        go_wp2_with fail
        refine (awake_any _ HT.out).mono ?_
        rintro e w1 ⟨rfl, hb⟩
        replace r0 := r0.below hb r0.lt
        replace hB := hB.trans (hb.mono hB.size)
        replace HT := Lib.hid (HT.out.below hb HT.out.lt)
        clear hb
        obtain ⟨B1, e1⟩ : ∃ B1, B1 = w.heap.size := ⟨_, rfl⟩
        have hle : w.heap.size ≤ B1 := by omega
        rw [← e1] at r0 ⊢
        clear e1
        have l0 := r0.lt
        have c0 : w1.cell? ⟨B1, 0, none⟩ = some (Value.int .i64 s.st) := r0.cell 0 rfl
        have c1 : w1.cell? ⟨B1, 1, none⟩ = some (Value.int .i64 s.ow) := r0.cell 1 rfl
        have c2 : w1.cell? ⟨B1, 2, none⟩ = some (Value.int .i64 s.sr) := r0.cell 2 rfl
        have c3 : w1.cell? ⟨B1, 3, none⟩ = some (Value.bool s.br) := r0.cell 3 rfl
        have c4 : w1.cell? ⟨B1, 4, none⟩ = some (Value.bool s.ma) := r0.cell 4 rfl
        have c5 : w1.cell? ⟨B1, 5, none⟩ = some (Value.int .i64 s.us) := r0.cell 5 rfl
        have c6 : w1.cell? ⟨B1, 6, none⟩ = some (Value.int .i64 s.ge) := r0.cell 6 rfl
        have c7 : w1.cell? ⟨B1, 7, none⟩ = some (Value.int .i64 s.ep) := r0.cell 7 rfl
        have c8 : w1.cell? ⟨B1, 8, none⟩ = some (Value.int .i64 s.ve) := r0.cell 8 rfl
        go_wp2_with fail
        refine (CN0 _ HT.out).mono ?_
        rintro e v0 ⟨rfl, hb⟩
        clear c0 c1 c2 c3 c4 c5 c6 c7 c8 CN0
        replace r0 := r0.below hb r0.lt
        replace HT := Lib.hid (HT.out.below hb HT.out.lt)
        replace hB := hB.trans (hb.mono hB.size)
        clear hb l0
        have l0 := r0.lt
        have c0 : v0.cell? ⟨B1, 0, none⟩ = some (Value.int .i64 s.st) := r0.cell 0 rfl
        have c1 : v0.cell? ⟨B1, 1, none⟩ = some (Value.int .i64 s.ow) := r0.cell 1 rfl
        have c2 : v0.cell? ⟨B1, 2, none⟩ = some (Value.int .i64 s.sr) := r0.cell 2 rfl
        have c3 : v0.cell? ⟨B1, 3, none⟩ = some (Value.bool s.br) := r0.cell 3 rfl
        have c4 : v0.cell? ⟨B1, 4, none⟩ = some (Value.bool s.ma) := r0.cell 4 rfl
        have c5 : v0.cell? ⟨B1, 5, none⟩ = some (Value.int .i64 s.us) := r0.cell 5 rfl
        have c6 : v0.cell? ⟨B1, 6, none⟩ = some (Value.int .i64 s.ge) := r0.cell 6 rfl
        have c7 : v0.cell? ⟨B1, 7, none⟩ = some (Value.int .i64 s.ep) := r0.cell 7 rfl
        have c8 : v0.cell? ⟨B1, 8, none⟩ = some (Value.int .i64 s.ve) := r0.cell 8 rfl
        go_wp2_with fail
        replace r0 := r0.alloc (.cells #[Value.int .i64 t0.st, Value.int .i64 t0.ow, Value.int .i64 t0.sr, Value.bool t0.br, Value.bool t0.ma, Value.int .i64 t0.us, Value.int .i64 t0.ge, Value.int .i64 t0.ep, Value.int .i64 t0.ve] 23)
        replace HT := Lib.hid (HT.out.alloc (.cells #[Value.int .i64 t0.st, Value.int .i64 t0.ow, Value.int .i64 t0.sr, Value.bool t0.br, Value.bool t0.ma, Value.int .i64 t0.us, Value.int .i64 t0.ge, Value.int .i64 t0.ep, Value.int .i64 t0.ve] 23))
        replace hB := hB.alloc hB.size (.cells #[Value.int .i64 t0.st, Value.int .i64 t0.ow, Value.int .i64 t0.sr, Value.bool t0.br, Value.bool t0.ma, Value.int .i64 t0.us, Value.int .i64 t0.ge, Value.int .i64 t0.ep, Value.int .i64 t0.ve] 23)
        refine (CN1 _ HT.out).mono ?_
        rintro e v1 ⟨rfl, hb⟩
        clear c0 c1 c2 c3 c4 c5 c6 c7 c8 CN1
        replace r0 := r0.below hb r0.lt
        replace HT := Lib.hid (HT.out.below hb HT.out.lt)
        replace hB := hB.trans (hb.mono hB.size)
        clear hb l0
        have l0 := r0.lt
        have c0 : v1.cell? ⟨B1, 0, none⟩ = some (Value.int .i64 s.st) := r0.cell 0 rfl
        have c1 : v1.cell? ⟨B1, 1, none⟩ = some (Value.int .i64 s.ow) := r0.cell 1 rfl
        have c2 : v1.cell? ⟨B1, 2, none⟩ = some (Value.int .i64 s.sr) := r0.cell 2 rfl
        have c3 : v1.cell? ⟨B1, 3, none⟩ = some (Value.bool s.br) := r0.cell 3 rfl
        have c4 : v1.cell? ⟨B1, 4, none⟩ = some (Value.bool s.ma) := r0.cell 4 rfl
        have c5 : v1.cell? ⟨B1, 5, none⟩ = some (Value.int .i64 s.us) := r0.cell 5 rfl
        have c6 : v1.cell? ⟨B1, 6, none⟩ = some (Value.int .i64 s.ge) := r0.cell 6 rfl
        have c7 : v1.cell? ⟨B1, 7, none⟩ = some (Value.int .i64 s.ep) := r0.cell 7 rfl
        have c8 : v1.cell? ⟨B1, 8, none⟩ = some (Value.int .i64 s.ve) := r0.cell 8 rfl
        go_wp2_with fail
        replace r0 := r0.alloc (.cells #[Value.int .i64 t1.st, Value.int .i64 t1.ow, Value.int .i64 t1.sr, Value.bool t1.br, Value.bool t1.ma, Value.int .i64 t1.us, Value.int .i64 t1.ge, Value.int .i64 t1.ep, Value.int .i64 t1.ve] 23)
        replace HT := Lib.hid (HT.out.alloc (.cells #[Value.int .i64 t1.st, Value.int .i64 t1.ow, Value.int .i64 t1.sr, Value.bool t1.br, Value.bool t1.ma, Value.int .i64 t1.us, Value.int .i64 t1.ge, Value.int .i64 t1.ep, Value.int .i64 t1.ve] 23))
        replace hB := hB.alloc hB.size (.cells #[Value.int .i64 t1.st, Value.int .i64 t1.ow, Value.int .i64 t1.sr, Value.bool t1.br, Value.bool t1.ma, Value.int .i64 t1.us, Value.int .i64 t1.ge, Value.int .i64 t1.ep, Value.int .i64 t1.ve] 23)
        refine (CN2 _ HT.out).mono ?_
        rintro e v2 ⟨rfl, hb⟩
        clear c0 c1 c2 c3 c4 c5 c6 c7 c8 CN2
        replace r0 := r0.below hb r0.lt
        replace HT := Lib.hid (HT.out.below hb HT.out.lt)
        replace hB := hB.trans (hb.mono hB.size)
        clear hb l0
        have l0 := r0.lt
        have c0 : v2.cell? ⟨B1, 0, none⟩ = some (Value.int .i64 s.st) := r0.cell 0 rfl
        have c1 : v2.cell? ⟨B1, 1, none⟩ = some (Value.int .i64 s.ow) := r0.cell 1 rfl
        have c2 : v2.cell? ⟨B1, 2, none⟩ = some (Value.int .i64 s.sr) := r0.cell 2 rfl
        have c3 : v2.cell? ⟨B1, 3, none⟩ = some (Value.bool s.br) := r0.cell 3 rfl
        have c4 : v2.cell? ⟨B1, 4, none⟩ = some (Value.bool s.ma) := r0.cell 4 rfl
        have c5 : v2.cell? ⟨B1, 5, none⟩ = some (Value.int .i64 s.us) := r0.cell 5 rfl
        have c6 : v2.cell? ⟨B1, 6, none⟩ = some (Value.int .i64 s.ge) := r0.cell 6 rfl
        have c7 : v2.cell? ⟨B1, 7, none⟩ = some (Value.int .i64 s.ep) := r0.cell 7 rfl
        have c8 : v2.cell? ⟨B1, 8, none⟩ = some (Value.int .i64 s.ve) := r0.cell 8 rfl
        go_wp2
        replace r0 := r0.alloc (.cells #[Value.int .i64 t2.st, Value.int .i64 t2.ow, Value.int .i64 t2.sr, Value.bool t2.br, Value.bool t2.ma, Value.int .i64 t2.us, Value.int .i64 t2.ge, Value.int .i64 t2.ep, Value.int .i64 t2.ve] 23)
        replace HT := Lib.hid (HT.out.alloc (.cells #[Value.int .i64 t2.st, Value.int .i64 t2.ow, Value.int .i64 t2.sr, Value.bool t2.br, Value.bool t2.ma, Value.int .i64 t2.us, Value.int .i64 t2.ge, Value.int .i64 t2.ep, Value.int .i64 t2.ve] 23))
        replace hB := hB.alloc hB.size (.cells #[Value.int .i64 t2.st, Value.int .i64 t2.ow, Value.int .i64 t2.sr, Value.bool t2.br, Value.bool t2.ma, Value.int .i64 t2.us, Value.int .i64 t2.ge, Value.int .i64 t2.ep, Value.int .i64 t2.ve] 23)
        go_ret
        exact ⟨rfl, hB⟩
end Go.Proofs.YtdiipmejkanhfaaDoor
