/- Cases of LifeBack. -/
import Derived.Test.YtdiipmejkanhfaaDoorBackM
namespace Go.Proofs.YtdiipmejkanhfaaDoor
open Go.RowKit
attribute [local go_sem ↓] Go.wp_at_zero Go.wp_at_succ
set_option maxRecDepth 100000 in
set_option maxHeartbeats 4000000 in
theorem b7 (s : Sl) (a b ep : Int) (w : World) (hT : Tb w) (hs : s.Wf) (hk : nxB s 5 a 0 = true) (hh : nxB s 7 a 0 = false) (hr : nxB s 11 0 4095 = true) (hb : ¬ (0 ≤ b ∧ b ≤ 15)) (hb0 : b < 0) (he : ¬ (0 ≤ ep ∧ ep ≤ 4095)) :
    Calls Tryd.prog 8 #[Value.agg #[Value.int .i64 s.st, Value.int .i64 s.ow, Value.int .i64 s.sr, Value.bool s.br, Value.bool s.ma, Value.int .i64 s.us, Value.int .i64 s.ge, Value.int .i64 s.ep, Value.int .i64 s.ve], .int .i64 a, .int .i64 b, .int .i64 ep] w fun e w' => e = .returned (.bool true) ∧ Below w.heap.size w w' := by
  obtain ⟨kt, K1, K2⟩ := keep_no hs hk b hb
  have H0 := next_is hs (nxS_no hh) hh
  obtain ⟨rt0, x, R1, R2, R3⟩ := retire_new hs hr ep he
  clear hk hh hr hb he
  have r0 := RowAt.new w 23 #[Value.int .i64 s.st, Value.int .i64 s.ow, Value.int .i64 s.sr, Value.bool s.br, Value.bool s.ma, Value.int .i64 s.us, Value.int .i64 s.ge, Value.int .i64 s.ep, Value.int .i64 s.ve]
  have hB := (Below.refl w.heap.size w).alloc (Nat.le_refl _) (.cells #[Value.int .i64 s.st, Value.int .i64 s.ow, Value.int .i64 s.sr, Value.bool s.br, Value.bool s.ma, Value.int .i64 s.us, Value.int .i64 s.ge, Value.int .i64 s.ep, Value.int .i64 s.ve] 23)
  have HT := Lib.hid (hT.alloc (.cells #[Value.int .i64 s.st, Value.int .i64 s.ow, Value.int .i64 s.sr, Value.bool s.br, Value.bool s.ma, Value.int .i64 s.us, Value.int .i64 s.ge, Value.int .i64 s.ep, Value.int .i64 s.ve] 23))
  clear hT
  go_enter Tryd.func8, Tryd.ntmps8
  go_wp2_with fail
  refine (awake_any _ HT.out).mono ?_
  rintro e w1 ⟨rfl, hb⟩
  replace r0 := r0.below hb r0.lt
  replace hB := hB.trans (hb.mono hB.size)
  replace HT := Lib.hid (HT.out.below hb HT.out.lt)
  clear hb
  obtain ⟨B1, e1⟩ : ∃ B1, B1 = w.heap.size := ⟨_, rfl⟩
  have hle : w.heap.size ≤ B1 := by omega
  rw [← e1] at r0 ⊢
  clear e1
  have l0 := r0.lt
  have c0 : w1.cell? ⟨B1, 0, none⟩ = some (Value.int .i64 s.st) := r0.cell 0 rfl
  have c1 : w1.cell? ⟨B1, 1, none⟩ = some (Value.int .i64 s.ow) := r0.cell 1 rfl
  have c2 : w1.cell? ⟨B1, 2, none⟩ = some (Value.int .i64 s.sr) := r0.cell 2 rfl
  have c3 : w1.cell? ⟨B1, 3, none⟩ = some (Value.bool s.br) := r0.cell 3 rfl
  have c4 : w1.cell? ⟨B1, 4, none⟩ = some (Value.bool s.ma) := r0.cell 4 rfl
  have c5 : w1.cell? ⟨B1, 5, none⟩ = some (Value.int .i64 s.us) := r0.cell 5 rfl
  have c6 : w1.cell? ⟨B1, 6, none⟩ = some (Value.int .i64 s.ge) := r0.cell 6 rfl
  have c7 : w1.cell? ⟨B1, 7, none⟩ = some (Value.int .i64 s.ep) := r0.cell 7 rfl
  have c8 : w1.cell? ⟨B1, 8, none⟩ = some (Value.int .i64 s.ve) := r0.cell 8 rfl
  have l0 := r0.lt
  go_wp2_with fail
  clear c0 c1 c2 c3 c4 c5 c6 c7 c8
  clear l0
  refine (K1 _ HT.out).mono ?_
  rintro e v1 ⟨rfl, hb⟩
  replace r0 := r0.below hb r0.lt
  replace HT := Lib.hid (HT.out.below hb HT.out.lt)
  replace hB := hB.trans (hb.mono hB.size)
  clear hb
  replace r0 := r0.alloc (.cells #[Value.int .i64 kt.st, Value.int .i64 kt.ow, Value.int .i64 kt.sr, Value.bool kt.br, Value.bool kt.ma, Value.int .i64 kt.us, Value.int .i64 kt.ge, Value.int .i64 kt.ep, Value.int .i64 kt.ve] 23)
  replace HT := Lib.hid (HT.out.alloc (.cells #[Value.int .i64 kt.st, Value.int .i64 kt.ow, Value.int .i64 kt.sr, Value.bool kt.br, Value.bool kt.ma, Value.int .i64 kt.us, Value.int .i64 kt.ge, Value.int .i64 kt.ep, Value.int .i64 kt.ve] 23))
  replace hB := hB.alloc hB.size (.cells #[Value.int .i64 kt.st, Value.int .i64 kt.ow, Value.int .i64 kt.sr, Value.bool kt.br, Value.bool kt.ma, Value.int .i64 kt.us, Value.int .i64 kt.ge, Value.int .i64 kt.ep, Value.int .i64 kt.ve] 23)
  go_wp2_with fail
  refine (K2 _ HT.out).mono ?_
  rintro e v2 ⟨rfl, hb⟩
  replace r0 := r0.below hb r0.lt
  replace HT := Lib.hid (HT.out.below hb HT.out.lt)
  replace hB := hB.trans (hb.mono hB.size)
  clear hb
  have c0 : v2.cell? ⟨B1, 0, none⟩ = some (Value.int .i64 s.st) := r0.cell 0 rfl
  have c1 : v2.cell? ⟨B1, 1, none⟩ = some (Value.int .i64 s.ow) := r0.cell 1 rfl
  have c2 : v2.cell? ⟨B1, 2, none⟩ = some (Value.int .i64 s.sr) := r0.cell 2 rfl
  have c3 : v2.cell? ⟨B1, 3, none⟩ = some (Value.bool s.br) := r0.cell 3 rfl
  have c4 : v2.cell? ⟨B1, 4, none⟩ = some (Value.bool s.ma) := r0.cell 4 rfl
  have c5 : v2.cell? ⟨B1, 5, none⟩ = some (Value.int .i64 s.us) := r0.cell 5 rfl
  have c6 : v2.cell? ⟨B1, 6, none⟩ = some (Value.int .i64 s.ge) := r0.cell 6 rfl
  have c7 : v2.cell? ⟨B1, 7, none⟩ = some (Value.int .i64 s.ep) := r0.cell 7 rfl
  have c8 : v2.cell? ⟨B1, 8, none⟩ = some (Value.int .i64 s.ve) := r0.cell 8 rfl
  have l0 := r0.lt
  go_wp2_with fail
  replace r0 := r0.alloc (.cells #[Value.int .i64 Sl.zero.st, Value.int .i64 s.ow, Value.int .i64 Sl.zero.sr, Value.bool Sl.zero.br, Value.bool s.ma, Value.int .i64 Sl.zero.us, Value.int .i64 Sl.zero.ge, Value.int .i64 Sl.zero.ep, Value.int .i64 s.ve] 23)
  replace HT := Lib.hid (HT.out.alloc (.cells #[Value.int .i64 Sl.zero.st, Value.int .i64 s.ow, Value.int .i64 Sl.zero.sr, Value.bool Sl.zero.br, Value.bool s.ma, Value.int .i64 Sl.zero.us, Value.int .i64 Sl.zero.ge, Value.int .i64 Sl.zero.ep, Value.int .i64 s.ve] 23))
  replace hB := hB.alloc hB.size (.cells #[Value.int .i64 Sl.zero.st, Value.int .i64 s.ow, Value.int .i64 Sl.zero.sr, Value.bool Sl.zero.br, Value.bool s.ma, Value.int .i64 Sl.zero.us, Value.int .i64 Sl.zero.ge, Value.int .i64 Sl.zero.ep, Value.int .i64 s.ve] 23)
  clear c0 c1 c2 c3 c4 c5 c6 c7 c8
  clear l0
  refine (H0 _ HT.out).mono ?_
  rintro e v3 ⟨rfl, hb⟩
  replace r0 := r0.below hb r0.lt
  replace HT := Lib.hid (HT.out.below hb HT.out.lt)
  replace hB := hB.trans (hb.mono hB.size)
  clear hb
  have c0 : v3.cell? ⟨B1, 0, none⟩ = some (Value.int .i64 s.st) := r0.cell 0 rfl
  have c1 : v3.cell? ⟨B1, 1, none⟩ = some (Value.int .i64 s.ow) := r0.cell 1 rfl
  have c2 : v3.cell? ⟨B1, 2, none⟩ = some (Value.int .i64 s.sr) := r0.cell 2 rfl
  have c3 : v3.cell? ⟨B1, 3, none⟩ = some (Value.bool s.br) := r0.cell 3 rfl
  have c4 : v3.cell? ⟨B1, 4, none⟩ = some (Value.bool s.ma) := r0.cell 4 rfl
  have c5 : v3.cell? ⟨B1, 5, none⟩ = some (Value.int .i64 s.us) := r0.cell 5 rfl
  have c6 : v3.cell? ⟨B1, 6, none⟩ = some (Value.int .i64 s.ge) := r0.cell 6 rfl
  have c7 : v3.cell? ⟨B1, 7, none⟩ = some (Value.int .i64 s.ep) := r0.cell 7 rfl
  have c8 : v3.cell? ⟨B1, 8, none⟩ = some (Value.int .i64 s.ve) := r0.cell 8 rfl
  have l0 := r0.lt
  go_wp2_with fail
  replace r0 := r0.alloc (.cells #[Value.int .i64 Sl.zero.st, Value.int .i64 Sl.zero.ow, Value.int .i64 Sl.zero.sr, Value.bool Sl.zero.br, Value.bool Sl.zero.ma, Value.int .i64 Sl.zero.us, Value.int .i64 Sl.zero.ge, Value.int .i64 Sl.zero.ep, Value.int .i64 Sl.zero.ve] 23)
  replace HT := Lib.hid (HT.out.alloc (.cells #[Value.int .i64 Sl.zero.st, Value.int .i64 Sl.zero.ow, Value.int .i64 Sl.zero.sr, Value.bool Sl.zero.br, Value.bool Sl.zero.ma, Value.int .i64 Sl.zero.us, Value.int .i64 Sl.zero.ge, Value.int .i64 Sl.zero.ep, Value.int .i64 Sl.zero.ve] 23))
  replace hB := hB.alloc hB.size (.cells #[Value.int .i64 Sl.zero.st, Value.int .i64 Sl.zero.ow, Value.int .i64 Sl.zero.sr, Value.bool Sl.zero.br, Value.bool Sl.zero.ma, Value.int .i64 Sl.zero.us, Value.int .i64 Sl.zero.ge, Value.int .i64 Sl.zero.ep, Value.int .i64 Sl.zero.ve] 23)
  clear c0 c1 c2 c3 c4 c5 c6 c7 c8
  clear l0
  refine (R1 _ HT.out).mono ?_
  rintro e v4 ⟨rfl, hb⟩
  replace r0 := r0.below hb r0.lt
  replace HT := Lib.hid (HT.out.below hb HT.out.lt)
  replace hB := hB.trans (hb.mono hB.size)
  clear hb
  have rt := RowAt.new v4 23 #[Value.int .i64 rt0.st, Value.int .i64 rt0.ow, Value.int .i64 rt0.sr, Value.bool rt0.br, Value.bool rt0.ma, Value.int .i64 rt0.us, Value.int .i64 rt0.ge, Value.int .i64 rt0.ep, Value.int .i64 rt0.ve]
  have hne : B1 ≠ v4.heap.size := Nat.ne_of_lt r0.lt
  have hle2 := hB.size
  have hlt2 := HT.out.lt
  replace r0 := r0.alloc (.cells #[Value.int .i64 rt0.st, Value.int .i64 rt0.ow, Value.int .i64 rt0.sr, Value.bool rt0.br, Value.bool rt0.ma, Value.int .i64 rt0.us, Value.int .i64 rt0.ge, Value.int .i64 rt0.ep, Value.int .i64 rt0.ve] 23)
  replace HT := Lib.hid (HT.out.alloc (.cells #[Value.int .i64 rt0.st, Value.int .i64 rt0.ow, Value.int .i64 rt0.sr, Value.bool rt0.br, Value.bool rt0.ma, Value.int .i64 rt0.us, Value.int .i64 rt0.ge, Value.int .i64 rt0.ep, Value.int .i64 rt0.ve] 23))
  replace hB := hB.alloc hB.size (.cells #[Value.int .i64 rt0.st, Value.int .i64 rt0.ow, Value.int .i64 rt0.sr, Value.bool rt0.br, Value.bool rt0.ma, Value.int .i64 rt0.us, Value.int .i64 rt0.ge, Value.int .i64 rt0.ep, Value.int .i64 rt0.ve] 23)
  go_wp2_with fail
  obtain ⟨B2, e2⟩ : ∃ B2, B2 = v4.heap.size := ⟨_, rfl⟩
  rw [← e2] at rt hne hle2 hlt2 ⊢
  clear e2
  refine (R2 _ HT.out).mono ?_
  rintro e v5 ⟨rfl, hb⟩
  replace r0 := r0.below hb r0.lt
  replace rt := rt.below hb rt.lt
  replace HT := Lib.hid (HT.out.below hb HT.out.lt)
  replace hB := hB.trans (hb.mono hB.size)
  clear hb
  have z0 : v5.cell? ⟨B2, 0, none⟩ = some (Value.int .i64 rt0.st) := rt.cell 0 rfl
  have z1 : v5.cell? ⟨B2, 1, none⟩ = some (Value.int .i64 rt0.ow) := rt.cell 1 rfl
  have z2 : v5.cell? ⟨B2, 2, none⟩ = some (Value.int .i64 rt0.sr) := rt.cell 2 rfl
  have z3 : v5.cell? ⟨B2, 3, none⟩ = some (Value.bool rt0.br) := rt.cell 3 rfl
  have z4 : v5.cell? ⟨B2, 4, none⟩ = some (Value.bool rt0.ma) := rt.cell 4 rfl
  have z5 : v5.cell? ⟨B2, 5, none⟩ = some (Value.int .i64 rt0.us) := rt.cell 5 rfl
  have z6 : v5.cell? ⟨B2, 6, none⟩ = some (Value.int .i64 rt0.ge) := rt.cell 6 rfl
  have z7 : v5.cell? ⟨B2, 7, none⟩ = some (Value.int .i64 rt0.ep) := rt.cell 7 rfl
  have z8 : v5.cell? ⟨B2, 8, none⟩ = some (Value.int .i64 rt0.ve) := rt.cell 8 rfl
  have l1 := rt.lt
  go_wp2_with fail
  clear z0 z1 z2 z3 z4 z5 z6 z7 z8
  clear rt l1
  replace r0 := r0.alloc (.cells #[Value.int .i64 Sl.zero.st, Value.int .i64 Sl.zero.ow, Value.int .i64 Sl.zero.sr, Value.bool Sl.zero.br, Value.bool Sl.zero.ma, Value.int .i64 Sl.zero.us, Value.int .i64 Sl.zero.ge, Value.int .i64 Sl.zero.ep, Value.int .i64 Sl.zero.ve] 23)
  replace HT := Lib.hid (HT.out.alloc (.cells #[Value.int .i64 Sl.zero.st, Value.int .i64 Sl.zero.ow, Value.int .i64 Sl.zero.sr, Value.bool Sl.zero.br, Value.bool Sl.zero.ma, Value.int .i64 Sl.zero.us, Value.int .i64 Sl.zero.ge, Value.int .i64 Sl.zero.ep, Value.int .i64 Sl.zero.ve] 23))
  replace hB := hB.alloc hB.size (.cells #[Value.int .i64 Sl.zero.st, Value.int .i64 Sl.zero.ow, Value.int .i64 Sl.zero.sr, Value.bool Sl.zero.br, Value.bool Sl.zero.ma, Value.int .i64 Sl.zero.us, Value.int .i64 Sl.zero.ge, Value.int .i64 Sl.zero.ep, Value.int .i64 Sl.zero.ve] 23)
  refine (R3 _ HT.out).mono ?_
  rintro e v6 ⟨rfl, hb⟩
  replace r0 := r0.below hb r0.lt
  replace HT := Lib.hid (HT.out.below hb HT.out.lt)
  replace hB := hB.trans (hb.mono hB.size)
  clear hb
  have c0 : v6.cell? ⟨B1, 0, none⟩ = some (Value.int .i64 s.st) := r0.cell 0 rfl
  have c1 : v6.cell? ⟨B1, 1, none⟩ = some (Value.int .i64 s.ow) := r0.cell 1 rfl
  have c2 : v6.cell? ⟨B1, 2, none⟩ = some (Value.int .i64 s.sr) := r0.cell 2 rfl
  have c3 : v6.cell? ⟨B1, 3, none⟩ = some (Value.bool s.br) := r0.cell 3 rfl
  have c4 : v6.cell? ⟨B1, 4, none⟩ = some (Value.bool s.ma) := r0.cell 4 rfl
  have c5 : v6.cell? ⟨B1, 5, none⟩ = some (Value.int .i64 s.us) := r0.cell 5 rfl
  have c6 : v6.cell? ⟨B1, 6, none⟩ = some (Value.int .i64 s.ge) := r0.cell 6 rfl
  have c7 : v6.cell? ⟨B1, 7, none⟩ = some (Value.int .i64 s.ep) := r0.cell 7 rfl
  have c8 : v6.cell? ⟨B1, 8, none⟩ = some (Value.int .i64 s.ve) := r0.cell 8 rfl
  have l0 := r0.lt
  go_wp2
  replace hB := hB.alloc hB.size (.cells #[Value.int .i64 0, Value.int .i64 0, Value.int .i64 0, Value.bool false, Value.bool false, Value.int .i64 0, Value.int .i64 s.ge, Value.int .i64 0, Value.int .i64 x] 23)
  go_ret
  exact ⟨rfl, hB⟩
set_option maxRecDepth 100000 in
set_option maxHeartbeats 4000000 in
theorem b8 (s : Sl) (a b ep : Int) (w : World) (hT : Tb w) (hs : s.Wf) (hk : nxB s 5 a 0 = true) (hh : nxB s 7 a 0 = false) (hr : nxB s 11 0 4095 = true) (hb : ¬ (0 ≤ b ∧ b ≤ 15)) (hb0 : 0 ≤ b) (hb1 : 15 < b) (he : 0 ≤ ep ∧ ep ≤ 4095) :
    Calls Tryd.prog 8 #[Value.agg #[Value.int .i64 s.st, Value.int .i64 s.ow, Value.int .i64 s.sr, Value.bool s.br, Value.bool s.ma, Value.int .i64 s.us, Value.int .i64 s.ge, Value.int .i64 s.ep, Value.int .i64 s.ve], .int .i64 a, .int .i64 b, .int .i64 ep] w fun e w' => e = .returned (.bool true) ∧ Below w.heap.size w w' := by
  obtain ⟨kt, K1, K2⟩ := keep_no hs hk b hb
  have H0 := next_is hs (nxS_no hh) hh
  obtain ⟨rt0, rv, x, R1, R2, R3⟩ := retire_old hs hr ep he
  clear hk hh hr hb he
  have r0 := RowAt.new w 23 #[Value.int .i64 s.st, Value.int .i64 s.ow, Value.int .i64 s.sr, Value.bool s.br, Value.bool s.ma, Value.int .i64 s.us, Value.int .i64 s.ge, Value.int .i64 s.ep, Value.int .i64 s.ve]
  have hB := (Below.refl w.heap.size w).alloc (Nat.le_refl _) (.cells #[Value.int .i64 s.st, Value.int .i64 s.ow, Value.int .i64 s.sr, Value.bool s.br, Value.bool s.ma, Value.int .i64 s.us, Value.int .i64 s.ge, Value.int .i64 s.ep, Value.int .i64 s.ve] 23)
  have HT := Lib.hid (hT.alloc (.cells #[Value.int .i64 s.st, Value.int .i64 s.ow, Value.int .i64 s.sr, Value.bool s.br, Value.bool s.ma, Value.int .i64 s.us, Value.int .i64 s.ge, Value.int .i64 s.ep, Value.int .i64 s.ve] 23))
  clear hT
  go_enter Tryd.func8, Tryd.ntmps8
  go_wp2_with fail
  refine (awake_any _ HT.out).mono ?_
  rintro e w1 ⟨rfl, hb⟩
  replace r0 := r0.below hb r0.lt
  replace hB := hB.trans (hb.mono hB.size)
  replace HT := Lib.hid (HT.out.below hb HT.out.lt)
  clear hb
  obtain ⟨B1, e1⟩ : ∃ B1, B1 = w.heap.size := ⟨_, rfl⟩
  have hle : w.heap.size ≤ B1 := by omega
  rw [← e1] at r0 ⊢
  clear e1
  have l0 := r0.lt
  have c0 : w1.cell? ⟨B1, 0, none⟩ = some (Value.int .i64 s.st) := r0.cell 0 rfl
  have c1 : w1.cell? ⟨B1, 1, none⟩ = some (Value.int .i64 s.ow) := r0.cell 1 rfl
  have c2 : w1.cell? ⟨B1, 2, none⟩ = some (Value.int .i64 s.sr) := r0.cell 2 rfl
  have c3 : w1.cell? ⟨B1, 3, none⟩ = some (Value.bool s.br) := r0.cell 3 rfl
  have c4 : w1.cell? ⟨B1, 4, none⟩ = some (Value.bool s.ma) := r0.cell 4 rfl
  have c5 : w1.cell? ⟨B1, 5, none⟩ = some (Value.int .i64 s.us) := r0.cell 5 rfl
  have c6 : w1.cell? ⟨B1, 6, none⟩ = some (Value.int .i64 s.ge) := r0.cell 6 rfl
  have c7 : w1.cell? ⟨B1, 7, none⟩ = some (Value.int .i64 s.ep) := r0.cell 7 rfl
  have c8 : w1.cell? ⟨B1, 8, none⟩ = some (Value.int .i64 s.ve) := r0.cell 8 rfl
  have l0 := r0.lt
  go_wp2_with fail
  clear c0 c1 c2 c3 c4 c5 c6 c7 c8
  clear l0
  refine (K1 _ HT.out).mono ?_
  rintro e v1 ⟨rfl, hb⟩
  replace r0 := r0.below hb r0.lt
  replace HT := Lib.hid (HT.out.below hb HT.out.lt)
  replace hB := hB.trans (hb.mono hB.size)
  clear hb
  replace r0 := r0.alloc (.cells #[Value.int .i64 kt.st, Value.int .i64 kt.ow, Value.int .i64 kt.sr, Value.bool kt.br, Value.bool kt.ma, Value.int .i64 kt.us, Value.int .i64 kt.ge, Value.int .i64 kt.ep, Value.int .i64 kt.ve] 23)
  replace HT := Lib.hid (HT.out.alloc (.cells #[Value.int .i64 kt.st, Value.int .i64 kt.ow, Value.int .i64 kt.sr, Value.bool kt.br, Value.bool kt.ma, Value.int .i64 kt.us, Value.int .i64 kt.ge, Value.int .i64 kt.ep, Value.int .i64 kt.ve] 23))
  replace hB := hB.alloc hB.size (.cells #[Value.int .i64 kt.st, Value.int .i64 kt.ow, Value.int .i64 kt.sr, Value.bool kt.br, Value.bool kt.ma, Value.int .i64 kt.us, Value.int .i64 kt.ge, Value.int .i64 kt.ep, Value.int .i64 kt.ve] 23)
  go_wp2_with fail
  refine (K2 _ HT.out).mono ?_
  rintro e v2 ⟨rfl, hb⟩
  replace r0 := r0.below hb r0.lt
  replace HT := Lib.hid (HT.out.below hb HT.out.lt)
  replace hB := hB.trans (hb.mono hB.size)
  clear hb
  have c0 : v2.cell? ⟨B1, 0, none⟩ = some (Value.int .i64 s.st) := r0.cell 0 rfl
  have c1 : v2.cell? ⟨B1, 1, none⟩ = some (Value.int .i64 s.ow) := r0.cell 1 rfl
  have c2 : v2.cell? ⟨B1, 2, none⟩ = some (Value.int .i64 s.sr) := r0.cell 2 rfl
  have c3 : v2.cell? ⟨B1, 3, none⟩ = some (Value.bool s.br) := r0.cell 3 rfl
  have c4 : v2.cell? ⟨B1, 4, none⟩ = some (Value.bool s.ma) := r0.cell 4 rfl
  have c5 : v2.cell? ⟨B1, 5, none⟩ = some (Value.int .i64 s.us) := r0.cell 5 rfl
  have c6 : v2.cell? ⟨B1, 6, none⟩ = some (Value.int .i64 s.ge) := r0.cell 6 rfl
  have c7 : v2.cell? ⟨B1, 7, none⟩ = some (Value.int .i64 s.ep) := r0.cell 7 rfl
  have c8 : v2.cell? ⟨B1, 8, none⟩ = some (Value.int .i64 s.ve) := r0.cell 8 rfl
  have l0 := r0.lt
  go_wp2_with fail
  replace r0 := r0.alloc (.cells #[Value.int .i64 Sl.zero.st, Value.int .i64 s.ow, Value.int .i64 Sl.zero.sr, Value.bool Sl.zero.br, Value.bool s.ma, Value.int .i64 Sl.zero.us, Value.int .i64 Sl.zero.ge, Value.int .i64 Sl.zero.ep, Value.int .i64 s.ve] 23)
  replace HT := Lib.hid (HT.out.alloc (.cells #[Value.int .i64 Sl.zero.st, Value.int .i64 s.ow, Value.int .i64 Sl.zero.sr, Value.bool Sl.zero.br, Value.bool s.ma, Value.int .i64 Sl.zero.us, Value.int .i64 Sl.zero.ge, Value.int .i64 Sl.zero.ep, Value.int .i64 s.ve] 23))
  replace hB := hB.alloc hB.size (.cells #[Value.int .i64 Sl.zero.st, Value.int .i64 s.ow, Value.int .i64 Sl.zero.sr, Value.bool Sl.zero.br, Value.bool s.ma, Value.int .i64 Sl.zero.us, Value.int .i64 Sl.zero.ge, Value.int .i64 Sl.zero.ep, Value.int .i64 s.ve] 23)
  clear c0 c1 c2 c3 c4 c5 c6 c7 c8
  clear l0
  refine (H0 _ HT.out).mono ?_
  rintro e v3 ⟨rfl, hb⟩
  replace r0 := r0.below hb r0.lt
  replace HT := Lib.hid (HT.out.below hb HT.out.lt)
  replace hB := hB.trans (hb.mono hB.size)
  clear hb
  have c0 : v3.cell? ⟨B1, 0, none⟩ = some (Value.int .i64 s.st) := r0.cell 0 rfl
  have c1 : v3.cell? ⟨B1, 1, none⟩ = some (Value.int .i64 s.ow) := r0.cell 1 rfl
  have c2 : v3.cell? ⟨B1, 2, none⟩ = some (Value.int .i64 s.sr) := r0.cell 2 rfl
  have c3 : v3.cell? ⟨B1, 3, none⟩ = some (Value.bool s.br) := r0.cell 3 rfl
  have c4 : v3.cell? ⟨B1, 4, none⟩ = some (Value.bool s.ma) := r0.cell 4 rfl
  have c5 : v3.cell? ⟨B1, 5, none⟩ = some (Value.int .i64 s.us) := r0.cell 5 rfl
  have c6 : v3.cell? ⟨B1, 6, none⟩ = some (Value.int .i64 s.ge) := r0.cell 6 rfl
  have c7 : v3.cell? ⟨B1, 7, none⟩ = some (Value.int .i64 s.ep) := r0.cell 7 rfl
  have c8 : v3.cell? ⟨B1, 8, none⟩ = some (Value.int .i64 s.ve) := r0.cell 8 rfl
  have l0 := r0.lt
  go_wp2_with fail
  replace r0 := r0.alloc (.cells #[Value.int .i64 Sl.zero.st, Value.int .i64 Sl.zero.ow, Value.int .i64 Sl.zero.sr, Value.bool Sl.zero.br, Value.bool Sl.zero.ma, Value.int .i64 Sl.zero.us, Value.int .i64 Sl.zero.ge, Value.int .i64 Sl.zero.ep, Value.int .i64 Sl.zero.ve] 23)
  replace HT := Lib.hid (HT.out.alloc (.cells #[Value.int .i64 Sl.zero.st, Value.int .i64 Sl.zero.ow, Value.int .i64 Sl.zero.sr, Value.bool Sl.zero.br, Value.bool Sl.zero.ma, Value.int .i64 Sl.zero.us, Value.int .i64 Sl.zero.ge, Value.int .i64 Sl.zero.ep, Value.int .i64 Sl.zero.ve] 23))
  replace hB := hB.alloc hB.size (.cells #[Value.int .i64 Sl.zero.st, Value.int .i64 Sl.zero.ow, Value.int .i64 Sl.zero.sr, Value.bool Sl.zero.br, Value.bool Sl.zero.ma, Value.int .i64 Sl.zero.us, Value.int .i64 Sl.zero.ge, Value.int .i64 Sl.zero.ep, Value.int .i64 Sl.zero.ve] 23)
  clear c0 c1 c2 c3 c4 c5 c6 c7 c8
  clear l0
  refine (R1 _ HT.out).mono ?_
  rintro e v4 ⟨rfl, hb⟩
  replace r0 := r0.below hb r0.lt
  replace HT := Lib.hid (HT.out.below hb HT.out.lt)
  replace hB := hB.trans (hb.mono hB.size)
  clear hb
  have rt := RowAt.new v4 23 #[Value.int .i64 rt0.st, Value.int .i64 rt0.ow, Value.int .i64 rt0.sr, Value.bool rt0.br, Value.bool rt0.ma, Value.int .i64 rt0.us, Value.int .i64 rt0.ge, Value.int .i64 rt0.ep, Value.int .i64 rt0.ve]
  have hne : B1 ≠ v4.heap.size := Nat.ne_of_lt r0.lt
  have hle2 := hB.size
  have hlt2 := HT.out.lt
  replace r0 := r0.alloc (.cells #[Value.int .i64 rt0.st, Value.int .i64 rt0.ow, Value.int .i64 rt0.sr, Value.bool rt0.br, Value.bool rt0.ma, Value.int .i64 rt0.us, Value.int .i64 rt0.ge, Value.int .i64 rt0.ep, Value.int .i64 rt0.ve] 23)
  replace HT := Lib.hid (HT.out.alloc (.cells #[Value.int .i64 rt0.st, Value.int .i64 rt0.ow, Value.int .i64 rt0.sr, Value.bool rt0.br, Value.bool rt0.ma, Value.int .i64 rt0.us, Value.int .i64 rt0.ge, Value.int .i64 rt0.ep, Value.int .i64 rt0.ve] 23))
  replace hB := hB.alloc hB.size (.cells #[Value.int .i64 rt0.st, Value.int .i64 rt0.ow, Value.int .i64 rt0.sr, Value.bool rt0.br, Value.bool rt0.ma, Value.int .i64 rt0.us, Value.int .i64 rt0.ge, Value.int .i64 rt0.ep, Value.int .i64 rt0.ve] 23)
  go_wp2_with fail
  obtain ⟨B2, e2⟩ : ∃ B2, B2 = v4.heap.size := ⟨_, rfl⟩
  rw [← e2] at rt hne hle2 hlt2 ⊢
  clear e2
  refine (R2 _ HT.out).mono ?_
  rintro e v5 ⟨rfl, hb⟩
  replace r0 := r0.below hb r0.lt
  replace rt := rt.below hb rt.lt
  replace HT := Lib.hid (HT.out.below hb HT.out.lt)
  replace hB := hB.trans (hb.mono hB.size)
  clear hb
  have c0 : v5.cell? ⟨B1, 0, none⟩ = some (Value.int .i64 s.st) := r0.cell 0 rfl
  have c1 : v5.cell? ⟨B1, 1, none⟩ = some (Value.int .i64 s.ow) := r0.cell 1 rfl
  have c2 : v5.cell? ⟨B1, 2, none⟩ = some (Value.int .i64 s.sr) := r0.cell 2 rfl
  have c3 : v5.cell? ⟨B1, 3, none⟩ = some (Value.bool s.br) := r0.cell 3 rfl
  have c4 : v5.cell? ⟨B1, 4, none⟩ = some (Value.bool s.ma) := r0.cell 4 rfl
  have c5 : v5.cell? ⟨B1, 5, none⟩ = some (Value.int .i64 s.us) := r0.cell 5 rfl
  have c6 : v5.cell? ⟨B1, 6, none⟩ = some (Value.int .i64 s.ge) := r0.cell 6 rfl
  have c7 : v5.cell? ⟨B1, 7, none⟩ = some (Value.int .i64 s.ep) := r0.cell 7 rfl
  have c8 : v5.cell? ⟨B1, 8, none⟩ = some (Value.int .i64 s.ve) := r0.cell 8 rfl
  have l0 := r0.lt
  have l1 := rt.lt
  replace r0 := r0.alloc (.cells #[Value.int .i64 rv.st, Value.int .i64 rv.ow, Value.int .i64 rv.sr, Value.bool rv.br, Value.bool rv.ma, Value.int .i64 rv.us, Value.int .i64 rv.ge, Value.int .i64 rv.ep, Value.int .i64 rv.ve] 23)
  replace rt := rt.alloc (.cells #[Value.int .i64 rv.st, Value.int .i64 rv.ow, Value.int .i64 rv.sr, Value.bool rv.br, Value.bool rv.ma, Value.int .i64 rv.us, Value.int .i64 rv.ge, Value.int .i64 rv.ep, Value.int .i64 rv.ve] 23)
  replace HT := Lib.hid (HT.out.alloc (.cells #[Value.int .i64 rv.st, Value.int .i64 rv.ow, Value.int .i64 rv.sr, Value.bool rv.br, Value.bool rv.ma, Value.int .i64 rv.us, Value.int .i64 rv.ge, Value.int .i64 rv.ep, Value.int .i64 rv.ve] 23))
  replace hB := hB.alloc hB.size (.cells #[Value.int .i64 rv.st, Value.int .i64 rv.ow, Value.int .i64 rv.sr, Value.bool rv.br, Value.bool rv.ma, Value.int .i64 rv.us, Value.int .i64 rv.ge, Value.int .i64 rv.ep, Value.int .i64 rv.ve] 23)
  replace r0 := r0.other hne #[Value.int .i64 rv.st, Value.int .i64 rv.ow, Value.int .i64 rv.sr, Value.bool rv.br, Value.bool rv.ma, Value.int .i64 rv.us, Value.int .i64 rv.ge, Value.int .i64 rv.ep, Value.int .i64 rv.ve]
  replace hB := below_setRow hB hle2 #[Value.int .i64 rv.st, Value.int .i64 rv.ow, Value.int .i64 rv.sr, Value.bool rv.br, Value.bool rv.ma, Value.int .i64 rv.us, Value.int .i64 rv.ge, Value.int .i64 rv.ep, Value.int .i64 rv.ve]
  replace HT := Lib.hid (HT.out.below (below_setRow (Below.refl B2 _) (Nat.le_refl _) #[Value.int .i64 rv.st, Value.int .i64 rv.ow, Value.int .i64 rv.sr, Value.bool rv.br, Value.bool rv.ma, Value.int .i64 rv.us, Value.int .i64 rv.ge, Value.int .i64 rv.ep, Value.int .i64 rv.ve]) hlt2)
  have rs := rt.set #[Value.int .i64 rv.st, Value.int .i64 rv.ow, Value.int .i64 rv.sr, Value.bool rv.br, Value.bool rv.ma, Value.int .i64 rv.us, Value.int .i64 rv.ge, Value.int .i64 rv.ep, Value.int .i64 rv.ve]
  have z0 : ((v5.alloc (.cells #[Value.int .i64 rv.st, Value.int .i64 rv.ow, Value.int .i64 rv.sr, Value.bool rv.br, Value.bool rv.ma, Value.int .i64 rv.us, Value.int .i64 rv.ge, Value.int .i64 rv.ep, Value.int .i64 rv.ve] 23)).setRow B2 #[Value.int .i64 rv.st, Value.int .i64 rv.ow, Value.int .i64 rv.sr, Value.bool rv.br, Value.bool rv.ma, Value.int .i64 rv.us, Value.int .i64 rv.ge, Value.int .i64 rv.ep, Value.int .i64 rv.ve]).cell? ⟨B2, 0, none⟩ = some (Value.int .i64 rv.st) := rs.cell 0 rfl
  have z1 : ((v5.alloc (.cells #[Value.int .i64 rv.st, Value.int .i64 rv.ow, Value.int .i64 rv.sr, Value.bool rv.br, Value.bool rv.ma, Value.int .i64 rv.us, Value.int .i64 rv.ge, Value.int .i64 rv.ep, Value.int .i64 rv.ve] 23)).setRow B2 #[Value.int .i64 rv.st, Value.int .i64 rv.ow, Value.int .i64 rv.sr, Value.bool rv.br, Value.bool rv.ma, Value.int .i64 rv.us, Value.int .i64 rv.ge, Value.int .i64 rv.ep, Value.int .i64 rv.ve]).cell? ⟨B2, 1, none⟩ = some (Value.int .i64 rv.ow) := rs.cell 1 rfl
  have z2 : ((v5.alloc (.cells #[Value.int .i64 rv.st, Value.int .i64 rv.ow, Value.int .i64 rv.sr, Value.bool rv.br, Value.bool rv.ma, Value.int .i64 rv.us, Value.int .i64 rv.ge, Value.int .i64 rv.ep, Value.int .i64 rv.ve] 23)).setRow B2 #[Value.int .i64 rv.st, Value.int .i64 rv.ow, Value.int .i64 rv.sr, Value.bool rv.br, Value.bool rv.ma, Value.int .i64 rv.us, Value.int .i64 rv.ge, Value.int .i64 rv.ep, Value.int .i64 rv.ve]).cell? ⟨B2, 2, none⟩ = some (Value.int .i64 rv.sr) := rs.cell 2 rfl
  have z3 : ((v5.alloc (.cells #[Value.int .i64 rv.st, Value.int .i64 rv.ow, Value.int .i64 rv.sr, Value.bool rv.br, Value.bool rv.ma, Value.int .i64 rv.us, Value.int .i64 rv.ge, Value.int .i64 rv.ep, Value.int .i64 rv.ve] 23)).setRow B2 #[Value.int .i64 rv.st, Value.int .i64 rv.ow, Value.int .i64 rv.sr, Value.bool rv.br, Value.bool rv.ma, Value.int .i64 rv.us, Value.int .i64 rv.ge, Value.int .i64 rv.ep, Value.int .i64 rv.ve]).cell? ⟨B2, 3, none⟩ = some (Value.bool rv.br) := rs.cell 3 rfl
  have z4 : ((v5.alloc (.cells #[Value.int .i64 rv.st, Value.int .i64 rv.ow, Value.int .i64 rv.sr, Value.bool rv.br, Value.bool rv.ma, Value.int .i64 rv.us, Value.int .i64 rv.ge, Value.int .i64 rv.ep, Value.int .i64 rv.ve] 23)).setRow B2 #[Value.int .i64 rv.st, Value.int .i64 rv.ow, Value.int .i64 rv.sr, Value.bool rv.br, Value.bool rv.ma, Value.int .i64 rv.us, Value.int .i64 rv.ge, Value.int .i64 rv.ep, Value.int .i64 rv.ve]).cell? ⟨B2, 4, none⟩ = some (Value.bool rv.ma) := rs.cell 4 rfl
  have z5 : ((v5.alloc (.cells #[Value.int .i64 rv.st, Value.int .i64 rv.ow, Value.int .i64 rv.sr, Value.bool rv.br, Value.bool rv.ma, Value.int .i64 rv.us, Value.int .i64 rv.ge, Value.int .i64 rv.ep, Value.int .i64 rv.ve] 23)).setRow B2 #[Value.int .i64 rv.st, Value.int .i64 rv.ow, Value.int .i64 rv.sr, Value.bool rv.br, Value.bool rv.ma, Value.int .i64 rv.us, Value.int .i64 rv.ge, Value.int .i64 rv.ep, Value.int .i64 rv.ve]).cell? ⟨B2, 5, none⟩ = some (Value.int .i64 rv.us) := rs.cell 5 rfl
  have z6 : ((v5.alloc (.cells #[Value.int .i64 rv.st, Value.int .i64 rv.ow, Value.int .i64 rv.sr, Value.bool rv.br, Value.bool rv.ma, Value.int .i64 rv.us, Value.int .i64 rv.ge, Value.int .i64 rv.ep, Value.int .i64 rv.ve] 23)).setRow B2 #[Value.int .i64 rv.st, Value.int .i64 rv.ow, Value.int .i64 rv.sr, Value.bool rv.br, Value.bool rv.ma, Value.int .i64 rv.us, Value.int .i64 rv.ge, Value.int .i64 rv.ep, Value.int .i64 rv.ve]).cell? ⟨B2, 6, none⟩ = some (Value.int .i64 rv.ge) := rs.cell 6 rfl
  have z7 : ((v5.alloc (.cells #[Value.int .i64 rv.st, Value.int .i64 rv.ow, Value.int .i64 rv.sr, Value.bool rv.br, Value.bool rv.ma, Value.int .i64 rv.us, Value.int .i64 rv.ge, Value.int .i64 rv.ep, Value.int .i64 rv.ve] 23)).setRow B2 #[Value.int .i64 rv.st, Value.int .i64 rv.ow, Value.int .i64 rv.sr, Value.bool rv.br, Value.bool rv.ma, Value.int .i64 rv.us, Value.int .i64 rv.ge, Value.int .i64 rv.ep, Value.int .i64 rv.ve]).cell? ⟨B2, 7, none⟩ = some (Value.int .i64 rv.ep) := rs.cell 7 rfl
  have z8 : ((v5.alloc (.cells #[Value.int .i64 rv.st, Value.int .i64 rv.ow, Value.int .i64 rv.sr, Value.bool rv.br, Value.bool rv.ma, Value.int .i64 rv.us, Value.int .i64 rv.ge, Value.int .i64 rv.ep, Value.int .i64 rv.ve] 23)).setRow B2 #[Value.int .i64 rv.st, Value.int .i64 rv.ow, Value.int .i64 rv.sr, Value.bool rv.br, Value.bool rv.ma, Value.int .i64 rv.us, Value.int .i64 rv.ge, Value.int .i64 rv.ep, Value.int .i64 rv.ve]).cell? ⟨B2, 8, none⟩ = some (Value.int .i64 rv.ve) := rs.cell 8 rfl
  go_wp2_with (refine wpList_store_row rfl 23 _ _ rfl _ #[Value.int .i64 rv.st, Value.int .i64 rv.ow, Value.int .i64 rv.sr, Value.bool rv.br, Value.bool rv.ma, Value.int .i64 rv.us, Value.int .i64 rv.ge, Value.int .i64 rv.ep, Value.int .i64 rv.ve] rfl rfl 23 _ rt (by kernel_rfl) rfl (by simp [Value.oneCell']) ?_)
  clear rt l1 rs
  clear c0 c1 c2 c3 c4 c5 c6 c7 c8
  clear z0 z1 z2 z3 z4 z5 z6 z7 z8
  clear l0
  refine (R3 _ HT.out).mono ?_
  rintro e v6 ⟨rfl, hb⟩
  replace r0 := r0.below hb r0.lt
  replace HT := Lib.hid (HT.out.below hb HT.out.lt)
  replace hB := hB.trans (hb.mono hB.size)
  clear hb
  have c0 : v6.cell? ⟨B1, 0, none⟩ = some (Value.int .i64 s.st) := r0.cell 0 rfl
  have c1 : v6.cell? ⟨B1, 1, none⟩ = some (Value.int .i64 s.ow) := r0.cell 1 rfl
  have c2 : v6.cell? ⟨B1, 2, none⟩ = some (Value.int .i64 s.sr) := r0.cell 2 rfl
  have c3 : v6.cell? ⟨B1, 3, none⟩ = some (Value.bool s.br) := r0.cell 3 rfl
  have c4 : v6.cell? ⟨B1, 4, none⟩ = some (Value.bool s.ma) := r0.cell 4 rfl
  have c5 : v6.cell? ⟨B1, 5, none⟩ = some (Value.int .i64 s.us) := r0.cell 5 rfl
  have c6 : v6.cell? ⟨B1, 6, none⟩ = some (Value.int .i64 s.ge) := r0.cell 6 rfl
  have c7 : v6.cell? ⟨B1, 7, none⟩ = some (Value.int .i64 s.ep) := r0.cell 7 rfl
  have c8 : v6.cell? ⟨B1, 8, none⟩ = some (Value.int .i64 s.ve) := r0.cell 8 rfl
  have l0 := r0.lt
  go_wp2
  replace hB := hB.alloc hB.size (.cells #[Value.int .i64 0, Value.int .i64 0, Value.int .i64 0, Value.bool false, Value.bool false, Value.int .i64 0, Value.int .i64 s.ge, Value.int .i64 0, Value.int .i64 x] 23)
  go_ret
  exact ⟨rfl, hB⟩
set_option maxRecDepth 100000 in
set_option maxHeartbeats 4000000 in
theorem b9 (s : Sl) (a b ep : Int) (w : World) (hT : Tb w) (hs : s.Wf) (hk : nxB s 5 a 0 = true) (hh : nxB s 7 a 0 = false) (hr : nxB s 11 0 4095 = true) (hb : ¬ (0 ≤ b ∧ b ≤ 15)) (hb0 : 0 ≤ b) (hb1 : 15 < b) (he : ¬ (0 ≤ ep ∧ ep ≤ 4095)) :
    Calls Tryd.prog 8 #[Value.agg #[Value.int .i64 s.st, Value.int .i64 s.ow, Value.int .i64 s.sr, Value.bool s.br, Value.bool s.ma, Value.int .i64 s.us, Value.int .i64 s.ge, Value.int .i64 s.ep, Value.int .i64 s.ve], .int .i64 a, .int .i64 b, .int .i64 ep] w fun e w' => e = .returned (.bool true) ∧ Below w.heap.size w w' := by
  obtain ⟨kt, K1, K2⟩ := keep_no hs hk b hb
  have H0 := next_is hs (nxS_no hh) hh
  obtain ⟨rt0, x, R1, R2, R3⟩ := retire_new hs hr ep he
  clear hk hh hr hb he
  have r0 := RowAt.new w 23 #[Value.int .i64 s.st, Value.int .i64 s.ow, Value.int .i64 s.sr, Value.bool s.br, Value.bool s.ma, Value.int .i64 s.us, Value.int .i64 s.ge, Value.int .i64 s.ep, Value.int .i64 s.ve]
  have hB := (Below.refl w.heap.size w).alloc (Nat.le_refl _) (.cells #[Value.int .i64 s.st, Value.int .i64 s.ow, Value.int .i64 s.sr, Value.bool s.br, Value.bool s.ma, Value.int .i64 s.us, Value.int .i64 s.ge, Value.int .i64 s.ep, Value.int .i64 s.ve] 23)
  have HT := Lib.hid (hT.alloc (.cells #[Value.int .i64 s.st, Value.int .i64 s.ow, Value.int .i64 s.sr, Value.bool s.br, Value.bool s.ma, Value.int .i64 s.us, Value.int .i64 s.ge, Value.int .i64 s.ep, Value.int .i64 s.ve] 23))
  clear hT
  go_enter Tryd.func8, Tryd.ntmps8
  go_wp2_with fail
  refine (awake_any _ HT.out).mono ?_
  rintro e w1 ⟨rfl, hb⟩
  replace r0 := r0.below hb r0.lt
  replace hB := hB.trans (hb.mono hB.size)
  replace HT := Lib.hid (HT.out.below hb HT.out.lt)
  clear hb
  obtain ⟨B1, e1⟩ : ∃ B1, B1 = w.heap.size := ⟨_, rfl⟩
  have hle : w.heap.size ≤ B1 := by omega
  rw [← e1] at r0 ⊢
  clear e1
  have l0 := r0.lt
  have c0 : w1.cell? ⟨B1, 0, none⟩ = some (Value.int .i64 s.st) := r0.cell 0 rfl
  have c1 : w1.cell? ⟨B1, 1, none⟩ = some (Value.int .i64 s.ow) := r0.cell 1 rfl
  have c2 : w1.cell? ⟨B1, 2, none⟩ = some (Value.int .i64 s.sr) := r0.cell 2 rfl
  have c3 : w1.cell? ⟨B1, 3, none⟩ = some (Value.bool s.br) := r0.cell 3 rfl
  have c4 : w1.cell? ⟨B1, 4, none⟩ = some (Value.bool s.ma) := r0.cell 4 rfl
  have c5 : w1.cell? ⟨B1, 5, none⟩ = some (Value.int .i64 s.us) := r0.cell 5 rfl
  have c6 : w1.cell? ⟨B1, 6, none⟩ = some (Value.int .i64 s.ge) := r0.cell 6 rfl
  have c7 : w1.cell? ⟨B1, 7, none⟩ = some (Value.int .i64 s.ep) := r0.cell 7 rfl
  have c8 : w1.cell? ⟨B1, 8, none⟩ = some (Value.int .i64 s.ve) := r0.cell 8 rfl
  have l0 := r0.lt
  go_wp2_with fail
  clear c0 c1 c2 c3 c4 c5 c6 c7 c8
  clear l0
  refine (K1 _ HT.out).mono ?_
  rintro e v1 ⟨rfl, hb⟩
  replace r0 := r0.below hb r0.lt
  replace HT := Lib.hid (HT.out.below hb HT.out.lt)
  replace hB := hB.trans (hb.mono hB.size)
  clear hb
  replace r0 := r0.alloc (.cells #[Value.int .i64 kt.st, Value.int .i64 kt.ow, Value.int .i64 kt.sr, Value.bool kt.br, Value.bool kt.ma, Value.int .i64 kt.us, Value.int .i64 kt.ge, Value.int .i64 kt.ep, Value.int .i64 kt.ve] 23)
  replace HT := Lib.hid (HT.out.alloc (.cells #[Value.int .i64 kt.st, Value.int .i64 kt.ow, Value.int .i64 kt.sr, Value.bool kt.br, Value.bool kt.ma, Value.int .i64 kt.us, Value.int .i64 kt.ge, Value.int .i64 kt.ep, Value.int .i64 kt.ve] 23))
  replace hB := hB.alloc hB.size (.cells #[Value.int .i64 kt.st, Value.int .i64 kt.ow, Value.int .i64 kt.sr, Value.bool kt.br, Value.bool kt.ma, Value.int .i64 kt.us, Value.int .i64 kt.ge, Value.int .i64 kt.ep, Value.int .i64 kt.ve] 23)
  go_wp2_with fail
  refine (K2 _ HT.out).mono ?_
  rintro e v2 ⟨rfl, hb⟩
  replace r0 := r0.below hb r0.lt
  replace HT := Lib.hid (HT.out.below hb HT.out.lt)
  replace hB := hB.trans (hb.mono hB.size)
  clear hb
  have c0 : v2.cell? ⟨B1, 0, none⟩ = some (Value.int .i64 s.st) := r0.cell 0 rfl
  have c1 : v2.cell? ⟨B1, 1, none⟩ = some (Value.int .i64 s.ow) := r0.cell 1 rfl
  have c2 : v2.cell? ⟨B1, 2, none⟩ = some (Value.int .i64 s.sr) := r0.cell 2 rfl
  have c3 : v2.cell? ⟨B1, 3, none⟩ = some (Value.bool s.br) := r0.cell 3 rfl
  have c4 : v2.cell? ⟨B1, 4, none⟩ = some (Value.bool s.ma) := r0.cell 4 rfl
  have c5 : v2.cell? ⟨B1, 5, none⟩ = some (Value.int .i64 s.us) := r0.cell 5 rfl
  have c6 : v2.cell? ⟨B1, 6, none⟩ = some (Value.int .i64 s.ge) := r0.cell 6 rfl
  have c7 : v2.cell? ⟨B1, 7, none⟩ = some (Value.int .i64 s.ep) := r0.cell 7 rfl
  have c8 : v2.cell? ⟨B1, 8, none⟩ = some (Value.int .i64 s.ve) := r0.cell 8 rfl
  have l0 := r0.lt
  go_wp2_with fail
  replace r0 := r0.alloc (.cells #[Value.int .i64 Sl.zero.st, Value.int .i64 s.ow, Value.int .i64 Sl.zero.sr, Value.bool Sl.zero.br, Value.bool s.ma, Value.int .i64 Sl.zero.us, Value.int .i64 Sl.zero.ge, Value.int .i64 Sl.zero.ep, Value.int .i64 s.ve] 23)
  replace HT := Lib.hid (HT.out.alloc (.cells #[Value.int .i64 Sl.zero.st, Value.int .i64 s.ow, Value.int .i64 Sl.zero.sr, Value.bool Sl.zero.br, Value.bool s.ma, Value.int .i64 Sl.zero.us, Value.int .i64 Sl.zero.ge, Value.int .i64 Sl.zero.ep, Value.int .i64 s.ve] 23))
  replace hB := hB.alloc hB.size (.cells #[Value.int .i64 Sl.zero.st, Value.int .i64 s.ow, Value.int .i64 Sl.zero.sr, Value.bool Sl.zero.br, Value.bool s.ma, Value.int .i64 Sl.zero.us, Value.int .i64 Sl.zero.ge, Value.int .i64 Sl.zero.ep, Value.int .i64 s.ve] 23)
  clear c0 c1 c2 c3 c4 c5 c6 c7 c8
  clear l0
  refine (H0 _ HT.out).mono ?_
  rintro e v3 ⟨rfl, hb⟩
  replace r0 := r0.below hb r0.lt
  replace HT := Lib.hid (HT.out.below hb HT.out.lt)
  replace hB := hB.trans (hb.mono hB.size)
  clear hb
  have c0 : v3.cell? ⟨B1, 0, none⟩ = some (Value.int .i64 s.st) := r0.cell 0 rfl
  have c1 : v3.cell? ⟨B1, 1, none⟩ = some (Value.int .i64 s.ow) := r0.cell 1 rfl
  have c2 : v3.cell? ⟨B1, 2, none⟩ = some (Value.int .i64 s.sr) := r0.cell 2 rfl
  have c3 : v3.cell? ⟨B1, 3, none⟩ = some (Value.bool s.br) := r0.cell 3 rfl
  have c4 : v3.cell? ⟨B1, 4, none⟩ = some (Value.bool s.ma) := r0.cell 4 rfl
  have c5 : v3.cell? ⟨B1, 5, none⟩ = some (Value.int .i64 s.us) := r0.cell 5 rfl
  have c6 : v3.cell? ⟨B1, 6, none⟩ = some (Value.int .i64 s.ge) := r0.cell 6 rfl
  have c7 : v3.cell? ⟨B1, 7, none⟩ = some (Value.int .i64 s.ep) := r0.cell 7 rfl
  have c8 : v3.cell? ⟨B1, 8, none⟩ = some (Value.int .i64 s.ve) := r0.cell 8 rfl
  have l0 := r0.lt
  go_wp2_with fail
  replace r0 := r0.alloc (.cells #[Value.int .i64 Sl.zero.st, Value.int .i64 Sl.zero.ow, Value.int .i64 Sl.zero.sr, Value.bool Sl.zero.br, Value.bool Sl.zero.ma, Value.int .i64 Sl.zero.us, Value.int .i64 Sl.zero.ge, Value.int .i64 Sl.zero.ep, Value.int .i64 Sl.zero.ve] 23)
  replace HT := Lib.hid (HT.out.alloc (.cells #[Value.int .i64 Sl.zero.st, Value.int .i64 Sl.zero.ow, Value.int .i64 Sl.zero.sr, Value.bool Sl.zero.br, Value.bool Sl.zero.ma, Value.int .i64 Sl.zero.us, Value.int .i64 Sl.zero.ge, Value.int .i64 Sl.zero.ep, Value.int .i64 Sl.zero.ve] 23))
  replace hB := hB.alloc hB.size (.cells #[Value.int .i64 Sl.zero.st, Value.int .i64 Sl.zero.ow, Value.int .i64 Sl.zero.sr, Value.bool Sl.zero.br, Value.bool Sl.zero.ma, Value.int .i64 Sl.zero.us, Value.int .i64 Sl.zero.ge, Value.int .i64 Sl.zero.ep, Value.int .i64 Sl.zero.ve] 23)
  clear c0 c1 c2 c3 c4 c5 c6 c7 c8
  clear l0
  refine (R1 _ HT.out).mono ?_
  rintro e v4 ⟨rfl, hb⟩
  replace r0 := r0.below hb r0.lt
  replace HT := Lib.hid (HT.out.below hb HT.out.lt)
  replace hB := hB.trans (hb.mono hB.size)
  clear hb
  have rt := RowAt.new v4 23 #[Value.int .i64 rt0.st, Value.int .i64 rt0.ow, Value.int .i64 rt0.sr, Value.bool rt0.br, Value.bool rt0.ma, Value.int .i64 rt0.us, Value.int .i64 rt0.ge, Value.int .i64 rt0.ep, Value.int .i64 rt0.ve]
  have hne : B1 ≠ v4.heap.size := Nat.ne_of_lt r0.lt
  have hle2 := hB.size
  have hlt2 := HT.out.lt
  replace r0 := r0.alloc (.cells #[Value.int .i64 rt0.st, Value.int .i64 rt0.ow, Value.int .i64 rt0.sr, Value.bool rt0.br, Value.bool rt0.ma, Value.int .i64 rt0.us, Value.int .i64 rt0.ge, Value.int .i64 rt0.ep, Value.int .i64 rt0.ve] 23)
  replace HT := Lib.hid (HT.out.alloc (.cells #[Value.int .i64 rt0.st, Value.int .i64 rt0.ow, Value.int .i64 rt0.sr, Value.bool rt0.br, Value.bool rt0.ma, Value.int .i64 rt0.us, Value.int .i64 rt0.ge, Value.int .i64 rt0.ep, Value.int .i64 rt0.ve] 23))
  replace hB := hB.alloc hB.size (.cells #[Value.int .i64 rt0.st, Value.int .i64 rt0.ow, Value.int .i64 rt0.sr, Value.bool rt0.br, Value.bool rt0.ma, Value.int .i64 rt0.us, Value.int .i64 rt0.ge, Value.int .i64 rt0.ep, Value.int .i64 rt0.ve] 23)
  go_wp2_with fail
  obtain ⟨B2, e2⟩ : ∃ B2, B2 = v4.heap.size := ⟨_, rfl⟩
  rw [← e2] at rt hne hle2 hlt2 ⊢
  clear e2
  refine (R2 _ HT.out).mono ?_
  rintro e v5 ⟨rfl, hb⟩
  replace r0 := r0.below hb r0.lt
  replace rt := rt.below hb rt.lt
  replace HT := Lib.hid (HT.out.below hb HT.out.lt)
  replace hB := hB.trans (hb.mono hB.size)
  clear hb
  have z0 : v5.cell? ⟨B2, 0, none⟩ = some (Value.int .i64 rt0.st) := rt.cell 0 rfl
  have z1 : v5.cell? ⟨B2, 1, none⟩ = some (Value.int .i64 rt0.ow) := rt.cell 1 rfl
  have z2 : v5.cell? ⟨B2, 2, none⟩ = some (Value.int .i64 rt0.sr) := rt.cell 2 rfl
  have z3 : v5.cell? ⟨B2, 3, none⟩ = some (Value.bool rt0.br) := rt.cell 3 rfl
  have z4 : v5.cell? ⟨B2, 4, none⟩ = some (Value.bool rt0.ma) := rt.cell 4 rfl
  have z5 : v5.cell? ⟨B2, 5, none⟩ = some (Value.int .i64 rt0.us) := rt.cell 5 rfl
  have z6 : v5.cell? ⟨B2, 6, none⟩ = some (Value.int .i64 rt0.ge) := rt.cell 6 rfl
  have z7 : v5.cell? ⟨B2, 7, none⟩ = some (Value.int .i64 rt0.ep) := rt.cell 7 rfl
  have z8 : v5.cell? ⟨B2, 8, none⟩ = some (Value.int .i64 rt0.ve) := rt.cell 8 rfl
  have l1 := rt.lt
  go_wp2_with fail
  clear z0 z1 z2 z3 z4 z5 z6 z7 z8
  clear rt l1
  replace r0 := r0.alloc (.cells #[Value.int .i64 Sl.zero.st, Value.int .i64 Sl.zero.ow, Value.int .i64 Sl.zero.sr, Value.bool Sl.zero.br, Value.bool Sl.zero.ma, Value.int .i64 Sl.zero.us, Value.int .i64 Sl.zero.ge, Value.int .i64 Sl.zero.ep, Value.int .i64 Sl.zero.ve] 23)
  replace HT := Lib.hid (HT.out.alloc (.cells #[Value.int .i64 Sl.zero.st, Value.int .i64 Sl.zero.ow, Value.int .i64 Sl.zero.sr, Value.bool Sl.zero.br, Value.bool Sl.zero.ma, Value.int .i64 Sl.zero.us, Value.int .i64 Sl.zero.ge, Value.int .i64 Sl.zero.ep, Value.int .i64 Sl.zero.ve] 23))
  replace hB := hB.alloc hB.size (.cells #[Value.int .i64 Sl.zero.st, Value.int .i64 Sl.zero.ow, Value.int .i64 Sl.zero.sr, Value.bool Sl.zero.br, Value.bool Sl.zero.ma, Value.int .i64 Sl.zero.us, Value.int .i64 Sl.zero.ge, Value.int .i64 Sl.zero.ep, Value.int .i64 Sl.zero.ve] 23)
  refine (R3 _ HT.out).mono ?_
  rintro e v6 ⟨rfl, hb⟩
  replace r0 := r0.below hb r0.lt
  replace HT := Lib.hid (HT.out.below hb HT.out.lt)
  replace hB := hB.trans (hb.mono hB.size)
  clear hb
  have c0 : v6.cell? ⟨B1, 0, none⟩ = some (Value.int .i64 s.st) := r0.cell 0 rfl
  have c1 : v6.cell? ⟨B1, 1, none⟩ = some (Value.int .i64 s.ow) := r0.cell 1 rfl
  have c2 : v6.cell? ⟨B1, 2, none⟩ = some (Value.int .i64 s.sr) := r0.cell 2 rfl
  have c3 : v6.cell? ⟨B1, 3, none⟩ = some (Value.bool s.br) := r0.cell 3 rfl
  have c4 : v6.cell? ⟨B1, 4, none⟩ = some (Value.bool s.ma) := r0.cell 4 rfl
  have c5 : v6.cell? ⟨B1, 5, none⟩ = some (Value.int .i64 s.us) := r0.cell 5 rfl
  have c6 : v6.cell? ⟨B1, 6, none⟩ = some (Value.int .i64 s.ge) := r0.cell 6 rfl
  have c7 : v6.cell? ⟨B1, 7, none⟩ = some (Value.int .i64 s.ep) := r0.cell 7 rfl
  have c8 : v6.cell? ⟨B1, 8, none⟩ = some (Value.int .i64 s.ve) := r0.cell 8 rfl
  have l0 := r0.lt
  go_wp2
  replace hB := hB.alloc hB.size (.cells #[Value.int .i64 0, Value.int .i64 0, Value.int .i64 0, Value.bool false, Value.bool false, Value.int .i64 0, Value.int .i64 s.ge, Value.int .i64 0, Value.int .i64 x] 23)
  go_ret
  exact ⟨rfl, hB⟩
end Go.Proofs.YtdiipmejkanhfaaDoor
