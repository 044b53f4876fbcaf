/- LifeStreams: a stream that is opened can be shut, and then all is as it was, but for the Version; shut it can't be shut again. -/
import Derived.Test.YtdiipmejkanhfaaDoorStrM
namespace Go.Proofs.YtdiipmejkanhfaaDoor
open Go.RowKit
attribute [local go_sem ↓] Go.wp_at_zero Go.wp_at_succ
set_option maxRecDepth 100000 in
set_option maxHeartbeats 4000000 in
theorem lstr_any (s : Sl) (a mo : Int) (w : World) (hT : Tb w) (hs : s.Wf) (hm : Big mo) :
    Calls Tryd.prog 7 #[Value.agg #[Value.int .i64 s.st, Value.int .i64 s.ow, Value.int .i64 s.sr, Value.bool s.br, Value.bool s.ma, Value.int .i64 s.us, Value.int .i64 s.ge, Value.int .i64 s.ep, Value.int .i64 s.ve], .int .i64 a, .int .i64 mo] w fun e w' => e = .returned (.bool true) ∧ Below w.heap.size w w' := by
  cases hn : nxB s 14 a mo with
  | false =>
    obtain ⟨t, et⟩ : ∃ t, nxS s 14 a mo = t := ⟨_, rfl⟩
    have CN := next_is hs et hn
    clear hn et
    have r0 := RowAt.new w 23 #[Value.int .i64 s.st, Value.int .i64 s.ow, Value.int .i64 s.sr, Value.bool s.br, Value.bool s.ma, Value.int .i64 s.us, Value.int .i64 s.ge, Value.int .i64 s.ep, Value.int .i64 s.ve]
    have hB := (Below.refl w.heap.size w).alloc (Nat.le_refl _) (.cells #[Value.int .i64 s.st, Value.int .i64 s.ow, Value.int .i64 s.sr, Value.bool s.br, Value.bool s.ma, Value.int .i64 s.us, Value.int .i64 s.ge, Value.int .i64 s.ep, Value.int .i64 s.ve] 23)
    have HT := Lib.hid (hT.alloc (.cells #[Value.int .i64 s.st, Value.int .i64 s.ow, Value.int .i64 s.sr, Value.bool s.br, Value.bool s.ma, Value.int .i64 s.us, Value.int .i64 s.ge, Value.int .i64 s.ep, Value.int .i64 s.ve] 23))
    clear hT
    go_enter Tryd.func7, Tryd.ntmps7
    go_wp2_with fail
    refine (awake_any _ HT.out).mono ?_
    rintro e w1 ⟨rfl, hb⟩
    replace r0 := r0.below hb r0.lt
    replace hB := hB.trans (hb.mono hB.size)
    replace HT := Lib.hid (HT.out.below hb HT.out.lt)
    clear hb
    obtain ⟨B1, e1⟩ : ∃ B1, B1 = w.heap.size := ⟨_, rfl⟩
    have hle : w.heap.size ≤ B1 := by omega
    rw [← e1] at r0 ⊢
    clear e1
    have l0 := r0.lt
    have c0 : w1.cell? ⟨B1, 0, none⟩ = some (Value.int .i64 s.st) := r0.cell 0 rfl
    have c1 : w1.cell? ⟨B1, 1, none⟩ = some (Value.int .i64 s.ow) := r0.cell 1 rfl
    have c2 : w1.cell? ⟨B1, 2, none⟩ = some (Value.int .i64 s.sr) := r0.cell 2 rfl
    have c3 : w1.cell? ⟨B1, 3, none⟩ = some (Value.bool s.br) := r0.cell 3 rfl
    have c4 : w1.cell? ⟨B1, 4, none⟩ = some (Value.bool s.ma) := r0.cell 4 rfl
    have c5 : w1.cell? ⟨B1, 5, none⟩ = some (Value.int .i64 s.us) := r0.cell 5 rfl
    have c6 : w1.cell? ⟨B1, 6, none⟩ = some (Value.int .i64 s.ge) := r0.cell 6 rfl
    have c7 : w1.cell? ⟨B1, 7, none⟩ = some (Value.int .i64 s.ep) := r0.cell 7 rfl
    have c8 : w1.cell? ⟨B1, 8, none⟩ = some (Value.int .i64 s.ve) := r0.cell 8 rfl
    go_wp2_with fail
    refine (CN _ HT.out).mono ?_
    rintro e w2 ⟨rfl, hb⟩
    clear c0 c1 c2 c3 c4 c5 c6 c7 c8
    replace hB := (hB.trans (hb.mono hB.size)).alloc (hB.trans (hb.mono hB.size)).size (.cells #[Value.int .i64 t.st, Value.int .i64 t.ow, Value.int .i64 t.sr, Value.bool t.br, Value.bool t.ma, Value.int .i64 t.us, Value.int .i64 t.ge, Value.int .i64 t.ep, Value.int .i64 t.ve] 23)
    clear hb CN
    go_wp2
    go_ret
    exact ⟨rfl, hB⟩
  | true =>
    obtain ⟨u, L, M0⟩ := stream_is hs hm hn
    obtain ⟨t, et⟩ : ∃ t, nxS s 14 a mo = t := ⟨_, rfl⟩
    have CN := next_is hs et hn
    rw [et] at M0
    have M := Lib.hid M0
    clear M0 hn et
    have r0 := RowAt.new w 23 #[Value.int .i64 s.st, Value.int .i64 s.ow, Value.int .i64 s.sr, Value.bool s.br, Value.bool s.ma, Value.int .i64 s.us, Value.int .i64 s.ge, Value.int .i64 s.ep, Value.int .i64 s.ve]
    have hB := (Below.refl w.heap.size w).alloc (Nat.le_refl _) (.cells #[Value.int .i64 s.st, Value.int .i64 s.ow, Value.int .i64 s.sr, Value.bool s.br, Value.bool s.ma, Value.int .i64 s.us, Value.int .i64 s.ge, Value.int .i64 s.ep, Value.int .i64 s.ve] 23)
    have HT := Lib.hid (hT.alloc (.cells #[Value.int .i64 s.st, Value.int .i64 s.ow, Value.int .i64 s.sr, Value.bool s.br, Value.bool s.ma, Value.int .i64 s.us, Value.int .i64 s.ge, Value.int .i64 s.ep, Value.int .i64 s.ve] 23))
    clear hT
    go_enter Tryd.func7, Tryd.ntmps7
    go_wp2_with fail
    refine (awake_any _ HT.out).mono ?_
    rintro e w1 ⟨rfl, hb⟩
    replace r0 := r0.below hb r0.lt
    replace hB := hB.trans (hb.mono hB.size)
    replace HT := Lib.hid (HT.out.below hb HT.out.lt)
    clear hb
    obtain ⟨B1, e1⟩ : ∃ B1, B1 = w.heap.size := ⟨_, rfl⟩
    have hle : w.heap.size ≤ B1 := by omega
    rw [← e1] at r0 ⊢
    clear e1
    have l0 := r0.lt
    have c0 : w1.cell? ⟨B1, 0, none⟩ = some (Value.int .i64 s.st) := r0.cell 0 rfl
    have c1 : w1.cell? ⟨B1, 1, none⟩ = some (Value.int .i64 s.ow) := r0.cell 1 rfl
    have c2 : w1.cell? ⟨B1, 2, none⟩ = some (Value.int .i64 s.sr) := r0.cell 2 rfl
    have c3 : w1.cell? ⟨B1, 3, none⟩ = some (Value.bool s.br) := r0.cell 3 rfl
    have c4 : w1.cell? ⟨B1, 4, none⟩ = some (Value.bool s.ma) := r0.cell 4 rfl
    have c5 : w1.cell? ⟨B1, 5, none⟩ = some (Value.int .i64 s.us) := r0.cell 5 rfl
    have c6 : w1.cell? ⟨B1, 6, none⟩ = some (Value.int .i64 s.ge) := r0.cell 6 rfl
    have c7 : w1.cell? ⟨B1, 7, none⟩ = some (Value.int .i64 s.ep) := r0.cell 7 rfl
    have c8 : w1.cell? ⟨B1, 8, none⟩ = some (Value.int .i64 s.ve) := r0.cell 8 rfl
    go_wp2_with fail
    refine (CN _ HT.out).mono ?_
    rintro e w2 ⟨rfl, hb⟩
    clear c0 c1 c2 c3 c4 c5 c6 c7 c8
    have r1 := RowAt.new w2 23 #[Value.int .i64 t.st, Value.int .i64 t.ow, Value.int .i64 t.sr, Value.bool t.br, Value.bool t.ma, Value.int .i64 t.us, Value.int .i64 t.ge, Value.int .i64 t.ep, Value.int .i64 t.ve]
    replace r0 := (r0.below hb r0.lt).alloc (.cells #[Value.int .i64 t.st, Value.int .i64 t.ow, Value.int .i64 t.sr, Value.bool t.br, Value.bool t.ma, Value.int .i64 t.us, Value.int .i64 t.ge, Value.int .i64 t.ep, Value.int .i64 t.ve] 23)
    replace HT := Lib.hid ((HT.out.below hb HT.out.lt).alloc (.cells #[Value.int .i64 t.st, Value.int .i64 t.ow, Value.int .i64 t.sr, Value.bool t.br, Value.bool t.ma, Value.int .i64 t.us, Value.int .i64 t.ge, Value.int .i64 t.ep, Value.int .i64 t.ve] 23))
    replace hB := (hB.trans (hb.mono hB.size)).alloc (hB.trans (hb.mono hB.size)).size (.cells #[Value.int .i64 t.st, Value.int .i64 t.ow, Value.int .i64 t.sr, Value.bool t.br, Value.bool t.ma, Value.int .i64 t.us, Value.int .i64 t.ge, Value.int .i64 t.ep, Value.int .i64 t.ve] 23)
    clear hb CN l0
    go_wp2_with fail
    obtain ⟨W, hW⟩ : ∃ W, W = w2.alloc (.cells #[Value.int .i64 t.st, Value.int .i64 t.ow, Value.int .i64 t.sr, Value.bool t.br, Value.bool t.ma, Value.int .i64 t.us, Value.int .i64 t.ge, Value.int .i64 t.ep, Value.int .i64 t.ve] 23) := ⟨_, rfl⟩
    rw [← hW] at r0 r1 HT hB ⊢
    clear hW
    obtain ⟨B2, e2⟩ : ∃ B2, B2 = w2.heap.size := ⟨_, rfl⟩
    rw [← e2] at r1 ⊢
    clear e2
    have s0 := r0.cell 2 rfl
    have s1 := r1.cell 2 rfl
    go_loop [10] (fun n => ∃ k : Nat, k ≤ L ∧ n = .int .i64 k) (fun n => L - (intOf n).toNat)
    case atStart => exact ⟨0, by omega, rfl⟩
    case round =>
      obtain ⟨k, hk, rfl⟩ := hrel
      have h8 := M.out.l8
      have hk8 : (k : Int) < 8 := by omega
      by_cases hlt : k < L
      · have hx := M.out.turn k hk
        rw [decide_eq_true hlt] at hx
        go_wp2
        go_round
        case rel => exact ⟨k + 1, by omega, by go_num⟩
        case measure => simp [intOf]; omega
      · obtain rfl : k = L := by omega
        have hx := M.out.turn k hk
        rw [decide_eq_false hlt] at hx
        clear hlt s0 s1
        have l0 := r0.lt
        have l1 := r1.lt
        have c0 : W.cell? ⟨B1, 0, none⟩ = some (Value.int .i64 s.st) := r0.cell 0 rfl
        have c1 : W.cell? ⟨B1, 1, none⟩ = some (Value.int .i64 s.ow) := r0.cell 1 rfl
        have c2 : W.cell? ⟨B1, 2, none⟩ = some (Value.int .i64 s.sr) := r0.cell 2 rfl
        have c3 : W.cell? ⟨B1, 3, none⟩ = some (Value.bool s.br) := r0.cell 3 rfl
        have c4 : W.cell? ⟨B1, 4, none⟩ = some (Value.bool s.ma) := r0.cell 4 rfl
        have c5 : W.cell? ⟨B1, 5, none⟩ = some (Value.int .i64 s.us) := r0.cell 5 rfl
        have c6 : W.cell? ⟨B1, 6, none⟩ = some (Value.int .i64 s.ge) := r0.cell 6 rfl
        have c7 : W.cell? ⟨B1, 7, none⟩ = some (Value.int .i64 s.ep) := r0.cell 7 rfl
        have c8 : W.cell? ⟨B1, 8, none⟩ = some (Value.int .i64 s.ve) := r0.cell 8 rfl
        have z0 : W.cell? ⟨B2, 0, none⟩ = some (Value.int .i64 t.st) := r1.cell 0 rfl
        have z1 : W.cell? ⟨B2, 1, none⟩ = some (Value.int .i64 t.ow) := r1.cell 1 rfl
        have z2 : W.cell? ⟨B2, 2, none⟩ = some (Value.int .i64 t.sr) := r1.cell 2 rfl
        have z3 : W.cell? ⟨B2, 3, none⟩ = some (Value.bool t.br) := r1.cell 3 rfl
        have z4 : W.cell? ⟨B2, 4, none⟩ = some (Value.bool t.ma) := r1.cell 4 rfl
        have z5 : W.cell? ⟨B2, 5, none⟩ = some (Value.int .i64 t.us) := r1.cell 5 rfl
        have z6 : W.cell? ⟨B2, 6, none⟩ = some (Value.int .i64 t.ge) := r1.cell 6 rfl
        have z7 : W.cell? ⟨B2, 7, none⟩ = some (Value.int .i64 t.ep) := r1.cell 7 rfl
        have z8 : W.cell? ⟨B2, 8, none⟩ = some (Value.int .i64 t.ve) := r1.cell 8 rfl
        go_wp2_with fail
        clear c0 c1 c2 c3 c4 c5 c6 c7 c8
        clear z0 z1 z2 z3 z4 z5 z6 z7 z8
        clear hx
        refine (M.out.shut _ HT.out).mono ?_
        rintro e w3 ⟨rfl, hb⟩
        have r2 := RowAt.new w3 23 #[Value.int .i64 u.st, Value.int .i64 u.ow, Value.int .i64 u.sr, Value.bool u.br, Value.bool u.ma, Value.int .i64 u.us, Value.int .i64 u.ge, Value.int .i64 u.ep, Value.int .i64 u.ve]
        replace r0 := (r0.below hb r0.lt).alloc (.cells #[Value.int .i64 u.st, Value.int .i64 u.ow, Value.int .i64 u.sr, Value.bool u.br, Value.bool u.ma, Value.int .i64 u.us, Value.int .i64 u.ge, Value.int .i64 u.ep, Value.int .i64 u.ve] 23)
        replace r1 := (r1.below hb r1.lt).alloc (.cells #[Value.int .i64 u.st, Value.int .i64 u.ow, Value.int .i64 u.sr, Value.bool u.br, Value.bool u.ma, Value.int .i64 u.us, Value.int .i64 u.ge, Value.int .i64 u.ep, Value.int .i64 u.ve] 23)
        replace HT := Lib.hid ((HT.out.below hb HT.out.lt).alloc (.cells #[Value.int .i64 u.st, Value.int .i64 u.ow, Value.int .i64 u.sr, Value.bool u.br, Value.bool u.ma, Value.int .i64 u.us, Value.int .i64 u.ge, Value.int .i64 u.ep, Value.int .i64 u.ve] 23))
        replace hB := (hB.trans (hb.mono hB.size)).alloc (hB.trans (hb.mono hB.size)).size (.cells #[Value.int .i64 u.st, Value.int .i64 u.ow, Value.int .i64 u.sr, Value.bool u.br, Value.bool u.ma, Value.int .i64 u.us, Value.int .i64 u.ge, Value.int .i64 u.ep, Value.int .i64 u.ve] 23)
        clear hb
        go_wp2_with fail
        refine (M.out.again _ HT.out).mono ?_
        rintro e w4 ⟨rfl, hb⟩
        replace r0 := r0.below hb r0.lt
        replace r1 := r1.below hb r1.lt
        replace r2 := r2.below hb r2.lt
        replace hB := (hB.trans (hb.mono hB.size)).alloc (hB.trans (hb.mono hB.size)).size (.cells #[Value.int .i64 Sl.zero.st, Value.int .i64 Sl.zero.ow, Value.int .i64 Sl.zero.sr, Value.bool Sl.zero.br, Value.bool Sl.zero.ma, Value.int .i64 Sl.zero.us, Value.int .i64 Sl.zero.ge, Value.int .i64 Sl.zero.ep, Value.int .i64 Sl.zero.ve] 23)
        clear hb HT
        obtain ⟨B3, e3⟩ : ∃ B3, B3 = w3.heap.size := ⟨_, rfl⟩
        rw [← e3] at r2 ⊢
        clear e3
        have c0 : w4.cell? ⟨B1, 0, none⟩ = some (Value.int .i64 s.st) := r0.cell 0 rfl
        have c1 : w4.cell? ⟨B1, 1, none⟩ = some (Value.int .i64 s.ow) := r0.cell 1 rfl
        have c2 : w4.cell? ⟨B1, 2, none⟩ = some (Value.int .i64 s.sr) := r0.cell 2 rfl
        have c3 : w4.cell? ⟨B1, 3, none⟩ = some (Value.bool s.br) := r0.cell 3 rfl
        have c4 : w4.cell? ⟨B1, 4, none⟩ = some (Value.bool s.ma) := r0.cell 4 rfl
        have c5 : w4.cell? ⟨B1, 5, none⟩ = some (Value.int .i64 s.us) := r0.cell 5 rfl
        have c6 : w4.cell? ⟨B1, 6, none⟩ = some (Value.int .i64 s.ge) := r0.cell 6 rfl
        have c7 : w4.cell? ⟨B1, 7, none⟩ = some (Value.int .i64 s.ep) := r0.cell 7 rfl
        have c8 : w4.cell? ⟨B1, 8, none⟩ = some (Value.int .i64 s.ve) := r0.cell 8 rfl
        have z0 : w4.cell? ⟨B2, 0, none⟩ = some (Value.int .i64 t.st) := r1.cell 0 rfl
        have z1 : w4.cell? ⟨B2, 1, none⟩ = some (Value.int .i64 t.ow) := r1.cell 1 rfl
        have z2 : w4.cell? ⟨B2, 2, none⟩ = some (Value.int .i64 t.sr) := r1.cell 2 rfl
        have z3 : w4.cell? ⟨B2, 3, none⟩ = some (Value.bool t.br) := r1.cell 3 rfl
        have z4 : w4.cell? ⟨B2, 4, none⟩ = some (Value.bool t.ma) := r1.cell 4 rfl
        have z5 : w4.cell? ⟨B2, 5, none⟩ = some (Value.int .i64 t.us) := r1.cell 5 rfl
        have z6 : w4.cell? ⟨B2, 6, none⟩ = some (Value.int .i64 t.ge) := r1.cell 6 rfl
        have z7 : w4.cell? ⟨B2, 7, none⟩ = some (Value.int .i64 t.ep) := r1.cell 7 rfl
        have z8 : w4.cell? ⟨B2, 8, none⟩ = some (Value.int .i64 t.ve) := r1.cell 8 rfl
        have y0 : w4.cell? ⟨B3, 0, none⟩ = some (Value.int .i64 u.st) := r2.cell 0 rfl
        have y1 : w4.cell? ⟨B3, 1, none⟩ = some (Value.int .i64 u.ow) := r2.cell 1 rfl
        have y2 : w4.cell? ⟨B3, 2, none⟩ = some (Value.int .i64 u.sr) := r2.cell 2 rfl
        have y3 : w4.cell? ⟨B3, 3, none⟩ = some (Value.bool u.br) := r2.cell 3 rfl
        have y4 : w4.cell? ⟨B3, 4, none⟩ = some (Value.bool u.ma) := r2.cell 4 rfl
        have y5 : w4.cell? ⟨B3, 5, none⟩ = some (Value.int .i64 u.us) := r2.cell 5 rfl
        have y6 : w4.cell? ⟨B3, 6, none⟩ = some (Value.int .i64 u.ge) := r2.cell 6 rfl
        have y7 : w4.cell? ⟨B3, 7, none⟩ = some (Value.int .i64 u.ep) := r2.cell 7 rfl
        have y8 : w4.cell? ⟨B3, 8, none⟩ = some (Value.int .i64 u.ve) := r2.cell 8 rfl
        have l0 := r0.lt
        have l1 := r1.lt
        have l2 := r2.lt
        have l3 : B1 < w4.heap.size + 1 := by omega
        have l4 : B2 < w4.heap.size + 1 := by omega
        have l5 : B3 < w4.heap.size + 1 := by omega
        go_wp2_with fail
        replace r0 := (r0.alloc (.cells #[Value.int .i64 Sl.zero.st, Value.int .i64 Sl.zero.ow, Value.int .i64 Sl.zero.sr, Value.bool Sl.zero.br, Value.bool Sl.zero.ma, Value.int .i64 Sl.zero.us, Value.int .i64 Sl.zero.ge, Value.int .i64 Sl.zero.ep, Value.int .i64 Sl.zero.ve] 23)).alloc (.cells #[Value.int .i64 u.st, Value.int .i64 u.ow, Value.int .i64 u.sr, Value.bool u.br, Value.bool u.ma, Value.int .i64 u.us, Value.int .i64 u.ge, Value.int .i64 u.ep, Value.int .i64 s.ve] 23)
        replace r1 := (r1.alloc (.cells #[Value.int .i64 Sl.zero.st, Value.int .i64 Sl.zero.ow, Value.int .i64 Sl.zero.sr, Value.bool Sl.zero.br, Value.bool Sl.zero.ma, Value.int .i64 Sl.zero.us, Value.int .i64 Sl.zero.ge, Value.int .i64 Sl.zero.ep, Value.int .i64 Sl.zero.ve] 23)).alloc (.cells #[Value.int .i64 u.st, Value.int .i64 u.ow, Value.int .i64 u.sr, Value.bool u.br, Value.bool u.ma, Value.int .i64 u.us, Value.int .i64 u.ge, Value.int .i64 u.ep, Value.int .i64 s.ve] 23)
        have r3 := new2 w4 (.cells #[Value.int .i64 Sl.zero.st, Value.int .i64 Sl.zero.ow, Value.int .i64 Sl.zero.sr, Value.bool Sl.zero.br, Value.bool Sl.zero.ma, Value.int .i64 Sl.zero.us, Value.int .i64 Sl.zero.ge, Value.int .i64 Sl.zero.ep, Value.int .i64 Sl.zero.ve] 23) 23 #[Value.int .i64 u.st, Value.int .i64 u.ow, Value.int .i64 u.sr, Value.bool u.br, Value.bool u.ma, Value.int .i64 u.us, Value.int .i64 u.ge, Value.int .i64 u.ep, Value.int .i64 s.ve]
        replace hB := hB.alloc hB.size (.cells #[Value.int .i64 u.st, Value.int .i64 u.ow, Value.int .i64 u.sr, Value.bool u.br, Value.bool u.ma, Value.int .i64 u.us, Value.int .i64 u.ge, Value.int .i64 u.ep, Value.int .i64 s.ve] 23)
        clear r2 y0 y1 y2 y3 y4 y5 y6 y7 y8 l0 l1 l2 l3 l4 l5
        clear c0 c1 c2 c3 c4 c5 c6 c7 c8
        clear z0 z1 z2 z3 z4 z5 z6 z7 z8
        obtain ⟨V, hV⟩ : ∃ V, V = (w4.alloc (.cells #[Value.int .i64 Sl.zero.st, Value.int .i64 Sl.zero.ow, Value.int .i64 Sl.zero.sr, Value.bool Sl.zero.br, Value.bool Sl.zero.ma, Value.int .i64 Sl.zero.us, Value.int .i64 Sl.zero.ge, Value.int .i64 Sl.zero.ep, Value.int .i64 Sl.zero.ve] 23)).alloc (.cells #[Value.int .i64 u.st, Value.int .i64 u.ow, Value.int .i64 u.sr, Value.bool u.br, Value.bool u.ma, Value.int .i64 u.us, Value.int .i64 u.ge, Value.int .i64 u.ep, Value.int .i64 s.ve] 23) := ⟨_, rfl⟩
        rw [← hV] at r0 r1 r3 hB ⊢
        clear hV
        obtain ⟨B4, e4⟩ : ∃ B4, B4 = w4.heap.size + 1 := ⟨_, rfl⟩
        rw [← e4] at r3 ⊢
        clear e4
        have c0 : V.cell? ⟨B1, 0, none⟩ = some (Value.int .i64 s.st) := r0.cell 0 rfl
        have c1 : V.cell? ⟨B1, 1, none⟩ = some (Value.int .i64 s.ow) := r0.cell 1 rfl
        have c2 : V.cell? ⟨B1, 2, none⟩ = some (Value.int .i64 s.sr) := r0.cell 2 rfl
        have c3 : V.cell? ⟨B1, 3, none⟩ = some (Value.bool s.br) := r0.cell 3 rfl
        have c4 : V.cell? ⟨B1, 4, none⟩ = some (Value.bool s.ma) := r0.cell 4 rfl
        have c5 : V.cell? ⟨B1, 5, none⟩ = some (Value.int .i64 s.us) := r0.cell 5 rfl
        have c6 : V.cell? ⟨B1, 6, none⟩ = some (Value.int .i64 s.ge) := r0.cell 6 rfl
        have c7 : V.cell? ⟨B1, 7, none⟩ = some (Value.int .i64 s.ep) := r0.cell 7 rfl
        have c8 : V.cell? ⟨B1, 8, none⟩ = some (Value.int .i64 s.ve) := r0.cell 8 rfl
        have z2 : V.cell? ⟨B2, 2, none⟩ = some (Value.int .i64 t.sr) := r1.cell 2 rfl
        have y0 : V.cell? ⟨B4, 0, none⟩ = some (Value.int .i64 u.st) := r3.cell 0 rfl
        have y1 : V.cell? ⟨B4, 1, none⟩ = some (Value.int .i64 u.ow) := r3.cell 1 rfl
        have y2 : V.cell? ⟨B4, 2, none⟩ = some (Value.int .i64 u.sr) := r3.cell 2 rfl
        have y3 : V.cell? ⟨B4, 3, none⟩ = some (Value.bool u.br) := r3.cell 3 rfl
        have y4 : V.cell? ⟨B4, 4, none⟩ = some (Value.bool u.ma) := r3.cell 4 rfl
        have y5 : V.cell? ⟨B4, 5, none⟩ = some (Value.int .i64 u.us) := r3.cell 5 rfl
        have y6 : V.cell? ⟨B4, 6, none⟩ = some (Value.int .i64 u.ge) := r3.cell 6 rfl
        have y7 : V.cell? ⟨B4, 7, none⟩ = some (Value.int .i64 u.ep) := r3.cell 7 rfl
        have y8 : V.cell? ⟨B4, 8, none⟩ = some (Value.int .i64 s.ve) := r3.cell 8 rfl
        have heq : ∀ w : World, (binOp .eql 23 (Value.agg #[Value.int .i64 u.st, Value.int .i64 u.ow, Value.int .i64 u.sr, Value.bool u.br, Value.bool u.ma, Value.int .i64 u.us, Value.int .i64 u.ge, Value.int .i64 u.ep, Value.int .i64 s.ve]) (Value.agg #[Value.int .i64 s.st, Value.int .i64 s.ow, Value.int .i64 s.sr, Value.bool s.br, Value.bool s.ma, Value.int .i64 s.us, Value.int .i64 s.ge, Value.int .i64 s.ep, Value.int .i64 s.ve])).run Tryd.prog w = .ok (.bool true) w := fun w => (eq_sl ⟨u.st, u.ow, u.sr, u.br, u.ma, u.us, u.ge, u.ep, s.ve⟩ s w).trans (by simp [M.out.back])
        have hlm := M.out.lm
        go_quiet (fail)
        have hsum : (t.sr == wrap64 (s.sr + wrap64 (2 ^ k))) = true := by
          have p := M.out.tsr
          have p1 := M.out.lo
          have p2 := M.out.hi
          have p3 : (2 : Int) ^ k ≤ 128 := two_le h8
          have p4 : 0 < (2 : Int) ^ k := Int.pow_pos (by omega)
          simp only [beq_iff_eq]
          rw [p]
          unfold wrap64
          omega
        rw [hsum]
        go_wp2
        go_ret
        exact ⟨rfl, below_drewN hB _⟩
end Go.Proofs.YtdiipmejkanhfaaDoor
