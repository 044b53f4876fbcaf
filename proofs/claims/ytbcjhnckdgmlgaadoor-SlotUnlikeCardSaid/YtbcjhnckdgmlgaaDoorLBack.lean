/- The law SlotBack, walked: true for any slot and any word of Go's ints. -/
import Derived.Test.YtbcjhnckdgmlgaaDoorLEnc
namespace Go.Proofs.YtbcjhnckdgmlgaaDoor
open Go.RowKit
attribute [local go_sem ↓] Go.wp_at_zero Go.wp_at_succ

theorem dec_enc {s : Sl} (h : rtB s = true) : decB (encN s) = true ∧ decS (encN s) = s ∧ 0 ≤ encN s ∧ encN s < 4611686018427387904 := by
  have e : rdS (wk s 9) = s := by simpa [rtB] using h
  have hd : decB (encN s) = true := by
    rw [encN_yes h]
    unfold decB
    rw [e, h]
    simp
  refine ⟨hd, ?_, ?_⟩
  · rw [decS_yes hd, encN_yes h, e]
  · rw [encN_yes h]
    exact wk_bd s
theorem enc_dec {x : Int} (h : decB x = true) : rtB (decS x) = true ∧ encN (decS x) = x := by
  rw [decS_yes h]
  unfold decB at h
  simp at h
  exact ⟨h.1, by rw [encN_yes h.1]; exact h.2⟩
theorem encN_lo (s : Sl) : 0 ≤ encN s := by
  unfold encN
  split
  · exact (wk_bd s).1
  · omega
theorem encN_hi (s : Sl) : encN s < 4611686018427387904 := by
  unfold encN
  split
  · exact (wk_bd s).2
  · omega

def zs : Sl := ⟨0, 0, 0, false, false, 0, 0, 0, 0⟩
theorem eq_zs (w : World) : (binOp .eql 23 (.agg #[Value.int .i64 0, Value.int .i64 0, Value.int .i64 0, Value.bool false, Value.bool false, Value.int .i64 0, Value.int .i64 0, Value.int .i64 0, Value.int .i64 0]) (.agg #[Value.int .i64 0, Value.int .i64 0, Value.int .i64 0, Value.bool false, Value.bool false, Value.int .i64 0, Value.int .i64 0, Value.int .i64 0, Value.int .i64 0])).run Tryd.prog w = .ok (.bool true) w := by
  exact (eq_sl zs zs w).trans (by simp)
set_option maxRecDepth 100000 in
set_option maxHeartbeats 2000000 in
theorem lback_any (s : Sl) (x : Int) (w : World) (hT : Tab w) (hx1 : -9223372036854775808 ≤ x) (hx2 : x ≤ 9223372036854775807) :
    Calls Tryd.prog 5 #[Value.agg #[Value.int .i64 s.st, Value.int .i64 s.ow, Value.int .i64 s.sr, Value.bool s.br, Value.bool s.ma, Value.int .i64 s.us, Value.int .i64 s.ge, Value.int .i64 s.ep, Value.int .i64 s.ve], .int .i64 x] w fun e w' => e = .returned (.bool true) ∧ Below w.heap.size w w' := by
  have r0 := RowAt.new w 23 #[Value.int .i64 s.st, Value.int .i64 s.ow, Value.int .i64 s.sr, Value.bool s.br, Value.bool s.ma, Value.int .i64 s.us, Value.int .i64 s.ge, Value.int .i64 s.ep, Value.int .i64 s.ve]
  have hB : Below w.heap.size w (w.alloc (.cells #[Value.int .i64 s.st, Value.int .i64 s.ow, Value.int .i64 s.sr, Value.bool s.br, Value.bool s.ma, Value.int .i64 s.us, Value.int .i64 s.ge, Value.int .i64 s.ep, Value.int .i64 s.ve] 23)) := (Below.refl _ _).alloc (Nat.le_refl _) _
  have HT := Lib.hid (hT.below hB hT.lt)
  clear hT
  go_enter Tryd.func5, Tryd.ntmps5
  go_wp2_with fail
  refine (awake_any _ HT.out).mono ?_
  rintro e w1 ⟨rfl, hb⟩
  replace r0 := r0.below hb r0.lt
  replace hB := hB.trans (hb.mono hB.size)
  replace HT := Lib.hid (HT.out.below hb HT.out.lt)
  clear hb
  go_wp2_with (refine wpList_load_row rfl 23 _ rfl _ rfl 23 _ (0, 0) _ r0 Tryd.underlying23 rfl (by kernel_rfl) ?_)
  refine (encode_any s _ HT.out).mono ?_
  rintro e w2 ⟨rfl, hb⟩
  replace r0 := r0.below hb r0.lt
  replace hB := hB.trans (hb.mono hB.size)
  replace HT := Lib.hid (HT.out.below hb HT.out.lt)
  clear hb
  cases hr : rtB s with
  | false =>
    have HR := Lib.hid hr
    clear hr
    go_wp2_with fail
    cases hd : decB x with
    | true =>
      obtain ⟨he1, he2⟩ := enc_dec hd
      obtain ⟨q, eq⟩ : ∃ q, q = decS x := ⟨_, rfl⟩
      rw [← eq] at he1 he2
      have HE := Lib.hid (And.intro he1 he2)
      have HX := Lib.hid (And.intro hd eq.symm)
      clear hd he1 he2 eq
      refine (decode_any x _ HT.out hx1 hx2).mono ?_
      rw [HX.out.1, HX.out.2]
      rintro e w4 ⟨rfl, hb⟩
      replace r0 := r0.below hb r0.lt
      replace hB := (hB.trans (hb.mono hB.size))
      replace HT := Lib.hid (HT.out.below hb HT.out.lt)
      clear hb
      have r2 := RowAt.new w4 23 #[Value.int .i64 q.st, Value.int .i64 q.ow, Value.int .i64 q.sr, Value.bool q.br, Value.bool q.ma, Value.int .i64 q.us, Value.int .i64 q.ge, Value.int .i64 q.ep, Value.int .i64 q.ve]
      replace r0 := r0.alloc (.cells #[Value.int .i64 q.st, Value.int .i64 q.ow, Value.int .i64 q.sr, Value.bool q.br, Value.bool q.ma, Value.int .i64 q.us, Value.int .i64 q.ge, Value.int .i64 q.ep, Value.int .i64 q.ve] 23)
      replace HT := Lib.hid (HT.out.below ((Below.refl _ _).alloc (Nat.le_refl _) (.cells #[Value.int .i64 q.st, Value.int .i64 q.ow, Value.int .i64 q.sr, Value.bool q.br, Value.bool q.ma, Value.int .i64 q.us, Value.int .i64 q.ge, Value.int .i64 q.ep, Value.int .i64 q.ve] 23)) HT.out.lt)
      replace hB := hB.alloc hB.size (.cells #[Value.int .i64 q.st, Value.int .i64 q.ow, Value.int .i64 q.sr, Value.bool q.br, Value.bool q.ma, Value.int .i64 q.us, Value.int .i64 q.ge, Value.int .i64 q.ep, Value.int .i64 q.ve] 23)
      go_wp2_with fail
      refine (encode_any q _ HT.out).mono ?_
      rw [HE.out.1, HE.out.2]
      rintro e w5 ⟨rfl, hb⟩
      replace r0 := r0.below hb r0.lt
      replace r2 := r2.below hb r2.lt
      replace hB := hB.trans (hb.mono hB.size)
      replace HT := Lib.hid (HT.out.below hb HT.out.lt)
      clear hb
      have hlt := r0.lt
      have k0 : (w5).cell? ⟨w.heap.size, 0, none⟩ = some (Value.int .i64 s.st) := r0.cell 0 rfl
      have k1 : (w5).cell? ⟨w.heap.size, 1, none⟩ = some (Value.int .i64 s.ow) := r0.cell 1 rfl
      have k2 : (w5).cell? ⟨w.heap.size, 2, none⟩ = some (Value.int .i64 s.sr) := r0.cell 2 rfl
      have k3 : (w5).cell? ⟨w.heap.size, 3, none⟩ = some (Value.bool s.br) := r0.cell 3 rfl
      have k4 : (w5).cell? ⟨w.heap.size, 4, none⟩ = some (Value.bool s.ma) := r0.cell 4 rfl
      have k5 : (w5).cell? ⟨w.heap.size, 5, none⟩ = some (Value.int .i64 s.us) := r0.cell 5 rfl
      have k6 : (w5).cell? ⟨w.heap.size, 6, none⟩ = some (Value.int .i64 s.ge) := r0.cell 6 rfl
      have k7 : (w5).cell? ⟨w.heap.size, 7, none⟩ = some (Value.int .i64 s.ep) := r0.cell 7 rfl
      have k8 : (w5).cell? ⟨w.heap.size, 8, none⟩ = some (Value.int .i64 s.ve) := r0.cell 8 rfl
      go_wp2_with (go_at_call 11; refine (right_any s _ HT.out).mono ?_; rw [HR.out]; rintro e w6 ⟨rfl, hb6⟩)
      go_ret
      exact ⟨rfl, hB.trans (hb6.mono hB.size)⟩
    | false =>
      have HX := Lib.hid (And.intro hd (decS_no hd))
      clear hd
      refine (decode_any x _ HT.out hx1 hx2).mono ?_
      rw [HX.out.1, HX.out.2]
      rintro e w4 ⟨rfl, hb⟩
      replace r0 := r0.below hb r0.lt
      replace hB := (hB.trans (hb.mono hB.size))
      replace HT := Lib.hid (HT.out.below hb HT.out.lt)
      clear hb
      have r2 := RowAt.new w4 23 #[Value.int .i64 0, Value.int .i64 0, Value.int .i64 0, Value.bool false, Value.bool false, Value.int .i64 0, Value.int .i64 0, Value.int .i64 0, Value.int .i64 0]
      replace r0 := r0.alloc (.cells #[Value.int .i64 0, Value.int .i64 0, Value.int .i64 0, Value.bool false, Value.bool false, Value.int .i64 0, Value.int .i64 0, Value.int .i64 0, Value.int .i64 0] 23)
      replace HT := Lib.hid (HT.out.below ((Below.refl _ _).alloc (Nat.le_refl _) (.cells #[Value.int .i64 0, Value.int .i64 0, Value.int .i64 0, Value.bool false, Value.bool false, Value.int .i64 0, Value.int .i64 0, Value.int .i64 0, Value.int .i64 0] 23)) HT.out.lt)
      replace hB := hB.alloc hB.size (.cells #[Value.int .i64 0, Value.int .i64 0, Value.int .i64 0, Value.bool false, Value.bool false, Value.int .i64 0, Value.int .i64 0, Value.int .i64 0, Value.int .i64 0] 23)
      go_wp2_with fail
      refine (encode_any zs _ HT.out).mono ?_
      rintro e w5 ⟨rfl, hb⟩
      replace r0 := r0.below hb r0.lt
      replace r2 := r2.below hb r2.lt
      replace hB := hB.trans (hb.mono hB.size)
      replace HT := Lib.hid (HT.out.below hb HT.out.lt)
      clear hb
      have hlt := r0.lt
      have heq := eq_zs
      have k0 : (w5).cell? ⟨w.heap.size, 0, none⟩ = some (Value.int .i64 s.st) := r0.cell 0 rfl
      have k1 : (w5).cell? ⟨w.heap.size, 1, none⟩ = some (Value.int .i64 s.ow) := r0.cell 1 rfl
      have k2 : (w5).cell? ⟨w.heap.size, 2, none⟩ = some (Value.int .i64 s.sr) := r0.cell 2 rfl
      have k3 : (w5).cell? ⟨w.heap.size, 3, none⟩ = some (Value.bool s.br) := r0.cell 3 rfl
      have k4 : (w5).cell? ⟨w.heap.size, 4, none⟩ = some (Value.bool s.ma) := r0.cell 4 rfl
      have k5 : (w5).cell? ⟨w.heap.size, 5, none⟩ = some (Value.int .i64 s.us) := r0.cell 5 rfl
      have k6 : (w5).cell? ⟨w.heap.size, 6, none⟩ = some (Value.int .i64 s.ge) := r0.cell 6 rfl
      have k7 : (w5).cell? ⟨w.heap.size, 7, none⟩ = some (Value.int .i64 s.ep) := r0.cell 7 rfl
      have k8 : (w5).cell? ⟨w.heap.size, 8, none⟩ = some (Value.int .i64 s.ve) := r0.cell 8 rfl
      go_wp2_with
        (go_at_call 11
         refine (right_any s _ HT.out).mono ?_
         rw [HR.out]
         rintro e w6 ⟨rfl, hb6⟩
         have r3 := r2.below hb6 r2.lt
         have j0 : (w6).cell? ⟨w4.heap.size, 0, none⟩ = some (Value.int .i64 0) := r3.cell 0 rfl
         have j1 : (w6).cell? ⟨w4.heap.size, 1, none⟩ = some (Value.int .i64 0) := r3.cell 1 rfl
         have j2 : (w6).cell? ⟨w4.heap.size, 2, none⟩ = some (Value.int .i64 0) := r3.cell 2 rfl
         have j3 : (w6).cell? ⟨w4.heap.size, 3, none⟩ = some (Value.bool false) := r3.cell 3 rfl
         have j4 : (w6).cell? ⟨w4.heap.size, 4, none⟩ = some (Value.bool false) := r3.cell 4 rfl
         have j5 : (w6).cell? ⟨w4.heap.size, 5, none⟩ = some (Value.int .i64 0) := r3.cell 5 rfl
         have j6 : (w6).cell? ⟨w4.heap.size, 6, none⟩ = some (Value.int .i64 0) := r3.cell 6 rfl
         have j7 : (w6).cell? ⟨w4.heap.size, 7, none⟩ = some (Value.int .i64 0) := r3.cell 7 rfl
         have j8 : (w6).cell? ⟨w4.heap.size, 8, none⟩ = some (Value.int .i64 0) := r3.cell 8 rfl)
      all_goals go_ret
      all_goals exact ⟨rfl, hB.trans (hb6.mono hB.size)⟩
  | true =>
    obtain ⟨hd1, hd2, hd3, hd4⟩ := dec_enc hr
    have HR := Lib.hid hr
    have HD := Lib.hid (And.intro hd1 hd2)
    clear hr hd1 hd2
    go_wp2_with fail
    refine (decode_any (encN s) _ HT.out (by omega) (by omega)).mono ?_
    rw [HD.out.1, HD.out.2]
    rintro e w3 ⟨rfl, hb⟩
    replace r0 := (r0.below hb r0.lt)
    replace hB := hB.trans (hb.mono hB.size)
    replace HT := Lib.hid (HT.out.below hb HT.out.lt)
    clear hb
    have hlt0 := r0.lt
    have r1 := RowAt.new w3 23 #[Value.int .i64 s.st, Value.int .i64 s.ow, Value.int .i64 s.sr, Value.bool s.br, Value.bool s.ma, Value.int .i64 s.us, Value.int .i64 s.ge, Value.int .i64 s.ep, Value.int .i64 s.ve]
    have hne : (binOp .neq 23 (Value.agg #[Value.int .i64 s.st, Value.int .i64 s.ow, Value.int .i64 s.sr, Value.bool s.br, Value.bool s.ma, Value.int .i64 s.us, Value.int .i64 s.ge, Value.int .i64 s.ep, Value.int .i64 s.ve]) (Value.agg #[Value.int .i64 s.st, Value.int .i64 s.ow, Value.int .i64 s.sr, Value.bool s.br, Value.bool s.ma, Value.int .i64 s.us, Value.int .i64 s.ge, Value.int .i64 s.ep, Value.int .i64 s.ve])).run Tryd.prog = fun w => .ok (.bool false) w := by funext W; rw [ne_sl]; simp
    have k0 : (w3).cell? ⟨w.heap.size, 0, none⟩ = some (Value.int .i64 s.st) := r0.cell 0 rfl
    have k1 : (w3).cell? ⟨w.heap.size, 1, none⟩ = some (Value.int .i64 s.ow) := r0.cell 1 rfl
    have k2 : (w3).cell? ⟨w.heap.size, 2, none⟩ = some (Value.int .i64 s.sr) := r0.cell 2 rfl
    have k3 : (w3).cell? ⟨w.heap.size, 3, none⟩ = some (Value.bool s.br) := r0.cell 3 rfl
    have k4 : (w3).cell? ⟨w.heap.size, 4, none⟩ = some (Value.bool s.ma) := r0.cell 4 rfl
    have k5 : (w3).cell? ⟨w.heap.size, 5, none⟩ = some (Value.int .i64 s.us) := r0.cell 5 rfl
    have k6 : (w3).cell? ⟨w.heap.size, 6, none⟩ = some (Value.int .i64 s.ge) := r0.cell 6 rfl
    have k7 : (w3).cell? ⟨w.heap.size, 7, none⟩ = some (Value.int .i64 s.ep) := r0.cell 7 rfl
    have k8 : (w3).cell? ⟨w.heap.size, 8, none⟩ = some (Value.int .i64 s.ve) := r0.cell 8 rfl
    go_wp2_with fail
    replace r0 := r0.alloc (.cells #[Value.int .i64 s.st, Value.int .i64 s.ow, Value.int .i64 s.sr, Value.bool s.br, Value.bool s.ma, Value.int .i64 s.us, Value.int .i64 s.ge, Value.int .i64 s.ep, Value.int .i64 s.ve] 23)
    replace HT := Lib.hid (HT.out.below ((Below.refl _ _).alloc (Nat.le_refl _) (.cells #[Value.int .i64 s.st, Value.int .i64 s.ow, Value.int .i64 s.sr, Value.bool s.br, Value.bool s.ma, Value.int .i64 s.us, Value.int .i64 s.ge, Value.int .i64 s.ep, Value.int .i64 s.ve] 23)) HT.out.lt)
    replace hB := hB.alloc hB.size (.cells #[Value.int .i64 s.st, Value.int .i64 s.ow, Value.int .i64 s.sr, Value.bool s.br, Value.bool s.ma, Value.int .i64 s.us, Value.int .i64 s.ge, Value.int .i64 s.ep, Value.int .i64 s.ve] 23)
    clear hne hlt0 r1 k0 k1 k2 k3 k4 k5 k6 k7 k8
    cases hd : decB x with
    | true =>
      obtain ⟨he1, he2⟩ := enc_dec hd
      obtain ⟨q, eq⟩ : ∃ q, q = decS x := ⟨_, rfl⟩
      rw [← eq] at he1 he2
      have HE := Lib.hid (And.intro he1 he2)
      have HX := Lib.hid (And.intro hd eq.symm)
      clear hd he1 he2 eq
      refine (decode_any x _ HT.out hx1 hx2).mono ?_
      rw [HX.out.1, HX.out.2]
      rintro e w4 ⟨rfl, hb⟩
      replace r0 := r0.below hb r0.lt
      replace hB := (hB.trans (hb.mono hB.size))
      replace HT := Lib.hid (HT.out.below hb HT.out.lt)
      clear hb
      have r2 := RowAt.new w4 23 #[Value.int .i64 q.st, Value.int .i64 q.ow, Value.int .i64 q.sr, Value.bool q.br, Value.bool q.ma, Value.int .i64 q.us, Value.int .i64 q.ge, Value.int .i64 q.ep, Value.int .i64 q.ve]
      replace r0 := r0.alloc (.cells #[Value.int .i64 q.st, Value.int .i64 q.ow, Value.int .i64 q.sr, Value.bool q.br, Value.bool q.ma, Value.int .i64 q.us, Value.int .i64 q.ge, Value.int .i64 q.ep, Value.int .i64 q.ve] 23)
      replace HT := Lib.hid (HT.out.below ((Below.refl _ _).alloc (Nat.le_refl _) (.cells #[Value.int .i64 q.st, Value.int .i64 q.ow, Value.int .i64 q.sr, Value.bool q.br, Value.bool q.ma, Value.int .i64 q.us, Value.int .i64 q.ge, Value.int .i64 q.ep, Value.int .i64 q.ve] 23)) HT.out.lt)
      replace hB := hB.alloc hB.size (.cells #[Value.int .i64 q.st, Value.int .i64 q.ow, Value.int .i64 q.sr, Value.bool q.br, Value.bool q.ma, Value.int .i64 q.us, Value.int .i64 q.ge, Value.int .i64 q.ep, Value.int .i64 q.ve] 23)
      go_wp2_with fail
      refine (encode_any q _ HT.out).mono ?_
      rw [HE.out.1, HE.out.2]
      rintro e w5 ⟨rfl, hb⟩
      replace r0 := r0.below hb r0.lt
      replace r2 := r2.below hb r2.lt
      replace hB := hB.trans (hb.mono hB.size)
      replace HT := Lib.hid (HT.out.below hb HT.out.lt)
      clear hb
      have hlt := r0.lt
      have k0 : (w5).cell? ⟨w.heap.size, 0, none⟩ = some (Value.int .i64 s.st) := r0.cell 0 rfl
      have k1 : (w5).cell? ⟨w.heap.size, 1, none⟩ = some (Value.int .i64 s.ow) := r0.cell 1 rfl
      have k2 : (w5).cell? ⟨w.heap.size, 2, none⟩ = some (Value.int .i64 s.sr) := r0.cell 2 rfl
      have k3 : (w5).cell? ⟨w.heap.size, 3, none⟩ = some (Value.bool s.br) := r0.cell 3 rfl
      have k4 : (w5).cell? ⟨w.heap.size, 4, none⟩ = some (Value.bool s.ma) := r0.cell 4 rfl
      have k5 : (w5).cell? ⟨w.heap.size, 5, none⟩ = some (Value.int .i64 s.us) := r0.cell 5 rfl
      have k6 : (w5).cell? ⟨w.heap.size, 6, none⟩ = some (Value.int .i64 s.ge) := r0.cell 6 rfl
      have k7 : (w5).cell? ⟨w.heap.size, 7, none⟩ = some (Value.int .i64 s.ep) := r0.cell 7 rfl
      have k8 : (w5).cell? ⟨w.heap.size, 8, none⟩ = some (Value.int .i64 s.ve) := r0.cell 8 rfl
      go_wp2_with (go_at_call 11; refine (right_any s _ HT.out).mono ?_; rw [HR.out]; rintro e w6 ⟨rfl, hb6⟩)
      go_ret
      exact ⟨rfl, hB.trans (hb6.mono hB.size)⟩
    | false =>
      have HX := Lib.hid (And.intro hd (decS_no hd))
      clear hd
      refine (decode_any x _ HT.out hx1 hx2).mono ?_
      rw [HX.out.1, HX.out.2]
      rintro e w4 ⟨rfl, hb⟩
      replace r0 := r0.below hb r0.lt
      replace hB := (hB.trans (hb.mono hB.size))
      replace HT := Lib.hid (HT.out.below hb HT.out.lt)
      clear hb
      have r2 := RowAt.new w4 23 #[Value.int .i64 0, Value.int .i64 0, Value.int .i64 0, Value.bool false, Value.bool false, Value.int .i64 0, Value.int .i64 0, Value.int .i64 0, Value.int .i64 0]
      replace r0 := r0.alloc (.cells #[Value.int .i64 0, Value.int .i64 0, Value.int .i64 0, Value.bool false, Value.bool false, Value.int .i64 0, Value.int .i64 0, Value.int .i64 0, Value.int .i64 0] 23)
      replace HT := Lib.hid (HT.out.below ((Below.refl _ _).alloc (Nat.le_refl _) (.cells #[Value.int .i64 0, Value.int .i64 0, Value.int .i64 0, Value.bool false, Value.bool false, Value.int .i64 0, Value.int .i64 0, Value.int .i64 0, Value.int .i64 0] 23)) HT.out.lt)
      replace hB := hB.alloc hB.size (.cells #[Value.int .i64 0, Value.int .i64 0, Value.int .i64 0, Value.bool false, Value.bool false, Value.int .i64 0, Value.int .i64 0, Value.int .i64 0, Value.int .i64 0] 23)
      go_wp2_with fail
      refine (encode_any zs _ HT.out).mono ?_
      rintro e w5 ⟨rfl, hb⟩
      replace r0 := r0.below hb r0.lt
      replace r2 := r2.below hb r2.lt
      replace hB := hB.trans (hb.mono hB.size)
      replace HT := Lib.hid (HT.out.below hb HT.out.lt)
      clear hb
      have hlt := r0.lt
      have heq := eq_zs
      have k0 : (w5).cell? ⟨w.heap.size, 0, none⟩ = some (Value.int .i64 s.st) := r0.cell 0 rfl
      have k1 : (w5).cell? ⟨w.heap.size, 1, none⟩ = some (Value.int .i64 s.ow) := r0.cell 1 rfl
      have k2 : (w5).cell? ⟨w.heap.size, 2, none⟩ = some (Value.int .i64 s.sr) := r0.cell 2 rfl
      have k3 : (w5).cell? ⟨w.heap.size, 3, none⟩ = some (Value.bool s.br) := r0.cell 3 rfl
      have k4 : (w5).cell? ⟨w.heap.size, 4, none⟩ = some (Value.bool s.ma) := r0.cell 4 rfl
      have k5 : (w5).cell? ⟨w.heap.size, 5, none⟩ = some (Value.int .i64 s.us) := r0.cell 5 rfl
      have k6 : (w5).cell? ⟨w.heap.size, 6, none⟩ = some (Value.int .i64 s.ge) := r0.cell 6 rfl
      have k7 : (w5).cell? ⟨w.heap.size, 7, none⟩ = some (Value.int .i64 s.ep) := r0.cell 7 rfl
      have k8 : (w5).cell? ⟨w.heap.size, 8, none⟩ = some (Value.int .i64 s.ve) := r0.cell 8 rfl
      go_wp2_with
        (go_at_call 11
         refine (right_any s _ HT.out).mono ?_
         rw [HR.out]
         rintro e w6 ⟨rfl, hb6⟩
         have r3 := r2.below hb6 r2.lt
         have j0 : (w6).cell? ⟨w4.heap.size, 0, none⟩ = some (Value.int .i64 0) := r3.cell 0 rfl
         have j1 : (w6).cell? ⟨w4.heap.size, 1, none⟩ = some (Value.int .i64 0) := r3.cell 1 rfl
         have j2 : (w6).cell? ⟨w4.heap.size, 2, none⟩ = some (Value.int .i64 0) := r3.cell 2 rfl
         have j3 : (w6).cell? ⟨w4.heap.size, 3, none⟩ = some (Value.bool false) := r3.cell 3 rfl
         have j4 : (w6).cell? ⟨w4.heap.size, 4, none⟩ = some (Value.bool false) := r3.cell 4 rfl
         have j5 : (w6).cell? ⟨w4.heap.size, 5, none⟩ = some (Value.int .i64 0) := r3.cell 5 rfl
         have j6 : (w6).cell? ⟨w4.heap.size, 6, none⟩ = some (Value.int .i64 0) := r3.cell 6 rfl
         have j7 : (w6).cell? ⟨w4.heap.size, 7, none⟩ = some (Value.int .i64 0) := r3.cell 7 rfl
         have j8 : (w6).cell? ⟨w4.heap.size, 8, none⟩ = some (Value.int .i64 0) := r3.cell 8 rfl)
      all_goals go_ret
      all_goals exact ⟨rfl, hB.trans (hb6.mono hB.size)⟩
end Go.Proofs.YtbcjhnckdgmlgaaDoor
