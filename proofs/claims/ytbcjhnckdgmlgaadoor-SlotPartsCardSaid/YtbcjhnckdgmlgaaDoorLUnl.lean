/- The law SlotUnlike, walked: true for any two slots of Go's ints, and any number of 16 bits. -/
import Derived.Test.YtbcjhnckdgmlgaaDoorLBack
namespace Go.Proofs.YtbcjhnckdgmlgaaDoor
open Go.RowKit
attribute [local go_sem ↓] Go.wp_at_zero Go.wp_at_succ

def mkU (s : Sl) (x : Int) : Sl := ⟨s.st, s.ow, s.sr, s.br, s.ma, s.us, s.ge, s.ep, x⟩
def mkV (s : Sl) (x : Int) : Sl := ⟨s.st, s.ow, s.sr, s.br, s.ma, s.us, x, s.ep, s.ve⟩
theorem rt_ver {s : Sl} {x : Int} (h : rtB s = true) (hs : s.Wf) (hx : 0 ≤ x ∧ x ≤ 32767) : rtB (mkU s x) = true := by
  rw [rt_eq hs, rrB_iff] at h
  obtain ⟨q0, q1, q2, q3, q4, q5, q6, q7, q8, q9, q10, q11, q12⟩ := h
  rw [rt_eq (s := mkU s x) ⟨hs.st, hs.ow, hs.sr, hs.us, hs.ge, hs.ep, by simp only [mkU]; omega⟩, rrB_iff]
  exact ⟨q0, q1, q2, q3, q4, q5, hx, q7, q8, q9, q10, q11, q12⟩
theorem rt_gen {s : Sl} {x : Int} (h : rtB s = true) (hs : s.Wf) (hx : 0 ≤ x ∧ x ≤ 4095) : rtB (mkV s x) = true := by
  rw [rt_eq hs, rrB_iff] at h
  obtain ⟨q0, q1, q2, q3, q4, q5, q6, q7, q8, q9, q10, q11, q12⟩ := h
  rw [rt_eq (s := mkV s x) ⟨hs.st, hs.ow, hs.sr, hs.us, by simp only [mkV]; omega, hs.ep, hs.ve⟩, rrB_iff]
  exact ⟨q0, q1, q2, q3, hx, q5, q6, q7, q8, q9, q10, q11, q12⟩
theorem enc_inj {s t : Sl} (h : rtB s = true) (h2 : rtB t = true) : encN s = encN t ↔ s = t := by
  constructor
  · intro e
    have e1 := (dec_enc h).2.1
    rw [e, (dec_enc h2).2.1] at e1
    exact e1.symm
  · intro e; rw [e]
theorem enc_same {s t : Sl} (h : rtB s = true) (h2 : rtB t = true) : ((encN s == encN t) == decide (s = t)) = true := by
  by_cases e : s = t
  · subst e; simp
  · have := mt (enc_inj h h2).1 e
    simp [e, this]
theorem enc_ver {s : Sl} {x : Int} (h : rtB s = true) (h2 : rtB (mkU s x) = true) : ((encN s == encN (mkU s x)) == (s.ve == x)) = true := by
  have e : s = mkU s x ↔ s.ve = x := ⟨fun e => congrArg Sl.ve e, fun e => by subst e; rfl⟩
  by_cases e2 : s.ve = x
  · rw [← e.2 e2]; simp [e2]
  · have := mt (enc_inj h h2).1 (mt e.1 e2)
    rw [beq_eq_false_iff_ne.2 this, beq_eq_false_iff_ne.2 e2]; rfl
theorem enc_gen {s : Sl} {x : Int} (h : rtB s = true) (h2 : rtB (mkV s x) = true) : ((encN s == encN (mkV s x)) == (s.ge == x)) = true := by
  have e : s = mkV s x ↔ s.ge = x := ⟨fun e => congrArg Sl.ge e, fun e => by subst e; rfl⟩
  by_cases e2 : s.ge = x
  · rw [← e.2 e2]; simp [e2]
  · have := mt (enc_inj h h2).1 (mt e.1 e2)
    rw [beq_eq_false_iff_ne.2 this, beq_eq_false_iff_ne.2 e2]; rfl
set_option maxRecDepth 100000 in
set_option maxHeartbeats 2000000 in
theorem lunl_any (s t : Sl) (n : Int) (w : World) (hT : Tab w) (hs : s.Wf) (hn0 : 0 ≤ n) (hn1 : n ≤ 65535) :
    Calls Tryd.prog 6 #[Value.agg #[Value.int .i64 s.st, Value.int .i64 s.ow, Value.int .i64 s.sr, Value.bool s.br, Value.bool s.ma, Value.int .i64 s.us, Value.int .i64 s.ge, Value.int .i64 s.ep, Value.int .i64 s.ve], Value.agg #[Value.int .i64 t.st, Value.int .i64 t.ow, Value.int .i64 t.sr, Value.bool t.br, Value.bool t.ma, Value.int .i64 t.us, Value.int .i64 t.ge, Value.int .i64 t.ep, Value.int .i64 t.ve], .int .u16 n] w fun e w' => e = .returned (.bool true) ∧ Below w.heap.size w w' := by
  have r0 := (RowAt.new w 23 #[Value.int .i64 s.st, Value.int .i64 s.ow, Value.int .i64 s.sr, Value.bool s.br, Value.bool s.ma, Value.int .i64 s.us, Value.int .i64 s.ge, Value.int .i64 s.ep, Value.int .i64 s.ve]).alloc (.cells #[Value.int .i64 t.st, Value.int .i64 t.ow, Value.int .i64 t.sr, Value.bool t.br, Value.bool t.ma, Value.int .i64 t.us, Value.int .i64 t.ge, Value.int .i64 t.ep, Value.int .i64 t.ve] 23)
  have r1 := RowAt.new (w.alloc (.cells #[Value.int .i64 s.st, Value.int .i64 s.ow, Value.int .i64 s.sr, Value.bool s.br, Value.bool s.ma, Value.int .i64 s.us, Value.int .i64 s.ge, Value.int .i64 s.ep, Value.int .i64 s.ve] 23)) 23 #[Value.int .i64 t.st, Value.int .i64 t.ow, Value.int .i64 t.sr, Value.bool t.br, Value.bool t.ma, Value.int .i64 t.us, Value.int .i64 t.ge, Value.int .i64 t.ep, Value.int .i64 t.ve]
  have hB : Below w.heap.size w ((w.alloc (.cells #[Value.int .i64 s.st, Value.int .i64 s.ow, Value.int .i64 s.sr, Value.bool s.br, Value.bool s.ma, Value.int .i64 s.us, Value.int .i64 s.ge, Value.int .i64 s.ep, Value.int .i64 s.ve] 23)).alloc (.cells #[Value.int .i64 t.st, Value.int .i64 t.ow, Value.int .i64 t.sr, Value.bool t.br, Value.bool t.ma, Value.int .i64 t.us, Value.int .i64 t.ge, Value.int .i64 t.ep, Value.int .i64 t.ve] 23)) := ((Below.refl _ _).alloc (Nat.le_refl _) _).alloc (by simp) _
  have HT := Lib.hid (hT.below hB hT.lt)
  simp only [World.size_alloc] at r1
  clear hT
  go_enter Tryd.func6, Tryd.ntmps6
  go_wp2_with fail
  refine (awake_any _ HT.out).mono ?_
  rintro e w1 ⟨rfl, hb⟩
  replace r0 := r0.below hb r0.lt
  replace r1 := r1.below hb r1.lt
  replace hB := hB.trans (hb.mono hB.size)
  replace HT := Lib.hid (HT.out.below hb HT.out.lt)
  clear hb
  go_wp2_with (refine wpList_load_row rfl 23 _ rfl _ rfl 23 _ (0, 0) _ r0 Tryd.underlying23 rfl (by kernel_rfl) ?_)
  refine (encode_any s _ HT.out).mono ?_
  rintro e w2 ⟨rfl, hb⟩
  replace r0 := r0.below hb r0.lt
  replace r1 := r1.below hb r1.lt
  replace hB := hB.trans (hb.mono hB.size)
  replace HT := Lib.hid (HT.out.below hb HT.out.lt)
  clear hb
  go_wp2_with (refine wpList_load_row rfl 23 _ rfl _ rfl 23 _ (0, 0) _ r1 Tryd.underlying23 rfl (by kernel_rfl) ?_)
  refine (encode_any t _ HT.out).mono ?_
  rintro e w3 ⟨rfl, hb⟩
  replace r0 := r0.below hb r0.lt
  replace r1 := r1.below hb r1.lt
  replace hB := hB.trans (hb.mono hB.size)
  replace HT := Lib.hid (HT.out.below hb HT.out.lt)
  clear hb
  cases hr : rtB s with
  | false =>
    clear hr
    go_wp2_with fail
    go_ret
    exact ⟨rfl, hB⟩
  | true =>
    cases ht : rtB t with
    | false =>
      clear hr ht
      go_wp2_with fail
      go_ret
      exact ⟨rfl, hB⟩
    | true =>
      have HR := Lib.hid hr
      have HS := Lib.hid ht
      clear hr ht
      have hlt0 := r0.lt
      have k0 : (w3).cell? ⟨w.heap.size, 0, none⟩ = some (Value.int .i64 s.st) := r0.cell 0 rfl
      have k1 : (w3).cell? ⟨w.heap.size, 1, none⟩ = some (Value.int .i64 s.ow) := r0.cell 1 rfl
      have k2 : (w3).cell? ⟨w.heap.size, 2, none⟩ = some (Value.int .i64 s.sr) := r0.cell 2 rfl
      have k3 : (w3).cell? ⟨w.heap.size, 3, none⟩ = some (Value.bool s.br) := r0.cell 3 rfl
      have k4 : (w3).cell? ⟨w.heap.size, 4, none⟩ = some (Value.bool s.ma) := r0.cell 4 rfl
      have k5 : (w3).cell? ⟨w.heap.size, 5, none⟩ = some (Value.int .i64 s.us) := r0.cell 5 rfl
      have k6 : (w3).cell? ⟨w.heap.size, 6, none⟩ = some (Value.int .i64 s.ge) := r0.cell 6 rfl
      have k7 : (w3).cell? ⟨w.heap.size, 7, none⟩ = some (Value.int .i64 s.ep) := r0.cell 7 rfl
      have k8 : (w3).cell? ⟨w.heap.size, 8, none⟩ = some (Value.int .i64 s.ve) := r0.cell 8 rfl
      have hU := Lib.hid (rt_ver HR.out hs (x := n % 32768) (by omega))
      have hV := Lib.hid (rt_gen HR.out hs (x := n % 4096) (by omega))
      have HE1 := Lib.hid (enc_same HR.out HS.out)
      have HE2 := Lib.hid (enc_ver HR.out hU.out)
      have HE3 := Lib.hid (enc_gen HR.out hV.out)
      have hBA : Below w3.heap.size w3 ((w3.alloc (.cells #[Value.int .i64 s.st, Value.int .i64 s.ow, Value.int .i64 s.sr, Value.bool s.br, Value.bool s.ma, Value.int .i64 s.us, Value.int .i64 s.ge, Value.int .i64 s.ep, Value.int .i64 (n % 32768)] 23)).alloc (.cells #[Value.int .i64 s.st, Value.int .i64 s.ow, Value.int .i64 s.sr, Value.bool s.br, Value.bool s.ma, Value.int .i64 s.us, Value.int .i64 (n % 4096), Value.int .i64 s.ep, Value.int .i64 s.ve] 23)) := ((Below.refl _ _).alloc (Nat.le_refl _) _).alloc (by simp) _
      have r2 := (RowAt.new w3 23 #[Value.int .i64 s.st, Value.int .i64 s.ow, Value.int .i64 s.sr, Value.bool s.br, Value.bool s.ma, Value.int .i64 s.us, Value.int .i64 s.ge, Value.int .i64 s.ep, Value.int .i64 (n % 32768)]).alloc (.cells #[Value.int .i64 s.st, Value.int .i64 s.ow, Value.int .i64 s.sr, Value.bool s.br, Value.bool s.ma, Value.int .i64 s.us, Value.int .i64 (n % 4096), Value.int .i64 s.ep, Value.int .i64 s.ve] 23)
      have r3 := RowAt.new (w3.alloc (.cells #[Value.int .i64 s.st, Value.int .i64 s.ow, Value.int .i64 s.sr, Value.bool s.br, Value.bool s.ma, Value.int .i64 s.us, Value.int .i64 s.ge, Value.int .i64 s.ep, Value.int .i64 (n % 32768)] 23)) 23 #[Value.int .i64 s.st, Value.int .i64 s.ow, Value.int .i64 s.sr, Value.bool s.br, Value.bool s.ma, Value.int .i64 s.us, Value.int .i64 (n % 4096), Value.int .i64 s.ep, Value.int .i64 s.ve]
      simp only [World.size_alloc] at r3
      go_wp2_with fail
      clear k0 k1 k2 k3 k4 k5 k6 k7 k8 hlt0
      replace r0 := r0.below hBA r0.lt
      replace r1 := r1.below hBA r1.lt
      replace HT := Lib.hid (HT.out.below hBA HT.out.lt)
      replace hB := hB.trans (hBA.mono hB.size)
      clear hBA
      refine (encode_any (mkU s (n % 32768)) _ HT.out).mono ?_
      rw [hU.out]
      rintro e w4 ⟨rfl, hb⟩
      replace r0 := r0.below hb r0.lt
      replace r1 := r1.below hb r1.lt
      replace r2 := r2.below hb r2.lt
      replace r3 := r3.below hb r3.lt
      replace hB := hB.trans (hb.mono hB.size)
      replace HT := Lib.hid (HT.out.below hb HT.out.lt)
      clear hb
      go_wp2_with (refine wpList_load_row rfl 23 _ rfl _ rfl 23 _ (0, 0) _ r3 Tryd.underlying23 rfl (by kernel_rfl) ?_)
      refine (encode_any (mkV s (n % 4096)) _ HT.out).mono ?_
      rw [hV.out]
      rintro e w5 ⟨rfl, hb⟩
      replace r0 := r0.below hb r0.lt
      replace r1 := r1.below hb r1.lt
      replace r2 := r2.below hb r2.lt
      replace r3 := r3.below hb r3.lt
      replace hB := hB.trans (hb.mono hB.size)
      clear hb HT
      obtain ⟨c, ec⟩ : ∃ c, c = encN (mkU s (n % 32768)) := ⟨_, rfl⟩
      obtain ⟨d, ed⟩ : ∃ d, d = encN (mkV s (n % 4096)) := ⟨_, rfl⟩
      rw [← ec] at HE2 ⊢
      rw [← ed] at HE3 ⊢
      clear ec ed
      obtain ⟨a, ea⟩ : ∃ a, a = encN s := ⟨_, rfl⟩
      obtain ⟨b, eb⟩ : ∃ b, b = encN t := ⟨_, rfl⟩
      rw [← ea] at HE1 HE2 HE3 ⊢
      rw [← eb] at HE1 ⊢
      clear ea eb
      have heq := eq_sl s t
      have t1 : ((a == b) == decide (s = t)) = true := HE1.out
      have t2 : ((a == c) == (s.ve == n % 32768)) = true := HE2.out
      have t3 : ((a == d) == (s.ge == n % 4096)) = true := HE3.out
      have j0 : (w5).cell? ⟨w.heap.size, 0, none⟩ = some (Value.int .i64 s.st) := r0.cell 0 rfl
      have j1 : (w5).cell? ⟨w.heap.size, 1, none⟩ = some (Value.int .i64 s.ow) := r0.cell 1 rfl
      have j2 : (w5).cell? ⟨w.heap.size, 2, none⟩ = some (Value.int .i64 s.sr) := r0.cell 2 rfl
      have j3 : (w5).cell? ⟨w.heap.size, 3, none⟩ = some (Value.bool s.br) := r0.cell 3 rfl
      have j4 : (w5).cell? ⟨w.heap.size, 4, none⟩ = some (Value.bool s.ma) := r0.cell 4 rfl
      have j5 : (w5).cell? ⟨w.heap.size, 5, none⟩ = some (Value.int .i64 s.us) := r0.cell 5 rfl
      have j6 : (w5).cell? ⟨w.heap.size, 6, none⟩ = some (Value.int .i64 s.ge) := r0.cell 6 rfl
      have j7 : (w5).cell? ⟨w.heap.size, 7, none⟩ = some (Value.int .i64 s.ep) := r0.cell 7 rfl
      have j8 : (w5).cell? ⟨w.heap.size, 8, none⟩ = some (Value.int .i64 s.ve) := r0.cell 8 rfl
      have i0 : (w5).cell? ⟨w.heap.size + 1, 0, none⟩ = some (Value.int .i64 t.st) := r1.cell 0 rfl
      have i1 : (w5).cell? ⟨w.heap.size + 1, 1, none⟩ = some (Value.int .i64 t.ow) := r1.cell 1 rfl
      have i2 : (w5).cell? ⟨w.heap.size + 1, 2, none⟩ = some (Value.int .i64 t.sr) := r1.cell 2 rfl
      have i3 : (w5).cell? ⟨w.heap.size + 1, 3, none⟩ = some (Value.bool t.br) := r1.cell 3 rfl
      have i4 : (w5).cell? ⟨w.heap.size + 1, 4, none⟩ = some (Value.bool t.ma) := r1.cell 4 rfl
      have i5 : (w5).cell? ⟨w.heap.size + 1, 5, none⟩ = some (Value.int .i64 t.us) := r1.cell 5 rfl
      have i6 : (w5).cell? ⟨w.heap.size + 1, 6, none⟩ = some (Value.int .i64 t.ge) := r1.cell 6 rfl
      have i7 : (w5).cell? ⟨w.heap.size + 1, 7, none⟩ = some (Value.int .i64 t.ep) := r1.cell 7 rfl
      have i8 : (w5).cell? ⟨w.heap.size + 1, 8, none⟩ = some (Value.int .i64 t.ve) := r1.cell 8 rfl
      have k2_8 : w5.cell? ⟨w3.heap.size, 8, none⟩ = some (.int .i64 (n % 32768)) := r2.cell 8 rfl
      have k3_6 : w5.cell? ⟨w3.heap.size + 1, 6, none⟩ = some (.int .i64 (n % 4096)) := r3.cell 6 rfl
      go_wp2
      go_ret
      exact ⟨rfl, hB⟩
end Go.Proofs.YtbcjhnckdgmlgaaDoor
