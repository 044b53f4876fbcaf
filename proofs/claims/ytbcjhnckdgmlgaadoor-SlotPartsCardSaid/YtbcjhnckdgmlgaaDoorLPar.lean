/- The law SlotParts, walked: true for any slot of Go's ints. -/
import Derived.Test.YtbcjhnckdgmlgaaDoorLUnl
namespace Go.Proofs.YtbcjhnckdgmlgaaDoor
open Go.RowKit
attribute [local go_sem ↓] Go.wp_at_zero Go.wp_at_succ

theorem parts_of {s : Sl} (h : rtB s = true) (hs : s.Wf) (h2 : rtB (mkU s 0) = true) :
    (0 ≤ s.ve ∧ s.ve ≤ 32767) ∧ (bits .and .i64 (encN s) 7 == s.st) = true ∧ (bits .and .i64 (encN s / 8) 15 == s.ow) = true ∧ (encN s / 140737488355328 == s.ve) = true ∧
      (encN s - encN (mkU s 0) == s.ve * 140737488355328) = true := by
  have r := rrB_iff.1 (by rw [← rt_eq hs]; exact h)
  have hs2 : (mkU s 0).Wf := ⟨hs.st, hs.ow, hs.sr, hs.us, hs.ge, hs.ep, by simp only [mkU]; omega⟩
  have r2 := rrB_iff.1 (by rw [← rt_eq hs2]; exact h2)
  have e : rdS (wk s 9) = s := by simpa [rtB] using h
  have ea : encN s = wk s 9 := encN_yes h
  have b := wk_bd s
  have e0 : rd (wk s 9) 0 = s.st := congrArg Sl.st e
  have e1 : rd (wk s 9) 1 = s.ow := congrArg Sl.ow e
  have e8 : rd (wk s 9) 8 = s.ve := congrArg Sl.ve e
  have g0 := get_walk (w := wk s 9) 0 3 (by omega) (by omega)
  have g1 := get_walk (w := wk s 9) 3 4 (by omega) (by omega)
  rw [show maxI 3 = 7 by decide +kernel] at g0
  rw [show maxI 4 = 15 by decide +kernel] at g1
  have f8 := rd_8 (x := wk s 9) (by omega) (by omega)
  refine ⟨r.ve, ?_, ?_, ?_, ?_⟩
  · rw [beq_iff_eq, ea, ← e0, show rd (wk s 9) 0 = getI (wk s 9) 0 3 from rfl, ← g0]
    simp
  · rw [beq_iff_eq, ea, ← e1, show rd (wk s 9) 1 = getI (wk s 9) 3 4 from rfl, ← g1]
    simp
  · rw [beq_iff_eq, ea]
    omega
  · rw [beq_iff_eq, encN_yes h, encN_yes h2, wk_enc r, wk_enc r2]
    unfold encI mkU
    simp only
    omega
set_option maxRecDepth 100000 in
set_option maxHeartbeats 2000000 in
theorem lpar_any (s : Sl) (w : World) (hT : Tab w) (hs : s.Wf) :
    Calls Tryd.prog 7 #[Value.agg #[Value.int .i64 s.st, Value.int .i64 s.ow, Value.int .i64 s.sr, Value.bool s.br, Value.bool s.ma, Value.int .i64 s.us, Value.int .i64 s.ge, Value.int .i64 s.ep, Value.int .i64 s.ve]] w fun e w' => e = .returned (.bool true) ∧ Below w.heap.size w w' := by
  have r0 := RowAt.new w 23 #[Value.int .i64 s.st, Value.int .i64 s.ow, Value.int .i64 s.sr, Value.bool s.br, Value.bool s.ma, Value.int .i64 s.us, Value.int .i64 s.ge, Value.int .i64 s.ep, Value.int .i64 s.ve]
  have hB : Below w.heap.size w (w.alloc (.cells #[Value.int .i64 s.st, Value.int .i64 s.ow, Value.int .i64 s.sr, Value.bool s.br, Value.bool s.ma, Value.int .i64 s.us, Value.int .i64 s.ge, Value.int .i64 s.ep, Value.int .i64 s.ve] 23)) := (Below.refl _ _).alloc (Nat.le_refl _) _
  have HT := Lib.hid (hT.below hB hT.lt)
  clear hT
  go_enter Tryd.func7, Tryd.ntmps7
  go_wp2_with fail
  refine (awake_any _ HT.out).mono ?_
  rintro e w1 ⟨rfl, hb⟩
  replace r0 := r0.below hb r0.lt
  replace hB := hB.trans (hb.mono hB.size)
  replace HT := Lib.hid (HT.out.below hb HT.out.lt)
  clear hb
  go_wp2_with (refine wpList_load_row rfl 23 _ rfl _ rfl 23 _ (0, 0) _ r0 Tryd.underlying23 rfl (by kernel_rfl) ?_)
  refine (encode_any s _ HT.out).mono ?_
  rintro e w2 ⟨rfl, hb⟩
  replace r0 := r0.below hb r0.lt
  replace hB := hB.trans (hb.mono hB.size)
  replace HT := Lib.hid (HT.out.below hb HT.out.lt)
  clear hb
  cases hr : rtB s with
  | false =>
    have he := encN_no hr
    clear hr
    go_wp2_with fail
    go_ret
    exact ⟨rfl, hB⟩
  | true =>
    have HR := Lib.hid hr
    clear hr
    have hlt0 := r0.lt
    have k0 : (w2).cell? ⟨w.heap.size, 0, none⟩ = some (Value.int .i64 s.st) := r0.cell 0 rfl
    have k1 : (w2).cell? ⟨w.heap.size, 1, none⟩ = some (Value.int .i64 s.ow) := r0.cell 1 rfl
    have k2 : (w2).cell? ⟨w.heap.size, 2, none⟩ = some (Value.int .i64 s.sr) := r0.cell 2 rfl
    have k3 : (w2).cell? ⟨w.heap.size, 3, none⟩ = some (Value.bool s.br) := r0.cell 3 rfl
    have k4 : (w2).cell? ⟨w.heap.size, 4, none⟩ = some (Value.bool s.ma) := r0.cell 4 rfl
    have k5 : (w2).cell? ⟨w.heap.size, 5, none⟩ = some (Value.int .i64 s.us) := r0.cell 5 rfl
    have k6 : (w2).cell? ⟨w.heap.size, 6, none⟩ = some (Value.int .i64 s.ge) := r0.cell 6 rfl
    have k7 : (w2).cell? ⟨w.heap.size, 7, none⟩ = some (Value.int .i64 s.ep) := r0.cell 7 rfl
    have k8 : (w2).cell? ⟨w.heap.size, 8, none⟩ = some (Value.int .i64 s.ve) := r0.cell 8 rfl
    have hU := Lib.hid (rt_ver HR.out hs (x := 0) (by omega))
    have hBA : Below w2.heap.size w2 (w2.alloc (.cells #[Value.int .i64 s.st, Value.int .i64 s.ow, Value.int .i64 s.sr, Value.bool s.br, Value.bool s.ma, Value.int .i64 s.us, Value.int .i64 s.ge, Value.int .i64 s.ep, Value.int .i64 0] 23)) := (Below.refl _ _).alloc (Nat.le_refl _) _
    go_wp2_with fail
    clear k0 k1 k2 k3 k4 k5 k6 k7 k8 hlt0
    replace r0 := r0.below hBA r0.lt
    replace HT := Lib.hid (HT.out.below hBA HT.out.lt)
    replace hB := hB.trans (hBA.mono hB.size)
    clear hBA
    refine (encode_any (mkU s 0) _ HT.out).mono ?_
    rw [hU.out]
    rintro e w4 ⟨rfl, hb⟩
    replace r0 := r0.below hb r0.lt
    replace hB := hB.trans (hb.mono hB.size)
    clear hb HT
    obtain ⟨c, ec⟩ : ∃ c, c = encN (mkU s 0) := ⟨_, rfl⟩
    obtain ⟨a, ea⟩ : ∃ a, a = encN s := ⟨_, rfl⟩
    have a0 : 0 ≤ a := by rw [ea]; exact encN_lo s
    have a1 : a < 4611686018427387904 := by rw [ea]; exact encN_hi s
    have c0 : 0 ≤ c := by rw [ec]; exact encN_lo _
    have c1 : c < 4611686018427387904 := by rw [ec]; exact encN_hi _
    rw [← ec, ← ea]
    have j0 : w4.cell? ⟨w.heap.size, 0, none⟩ = some (.int .i64 s.st) := r0.cell 0 rfl
    have j1 : w4.cell? ⟨w.heap.size, 1, none⟩ = some (.int .i64 s.ow) := r0.cell 1 rfl
    have j8 : w4.cell? ⟨w.heap.size, 8, none⟩ = some (.int .i64 s.ve) := r0.cell 8 rfl
    obtain ⟨p0, p1, p2, p3, p4⟩ := parts_of HR.out hs hU.out
    rw [← ea] at p1 p2 p3 p4
    rw [← ec] at p4
    clear ea ec
    go_wp2_with fail
    go_ret
    exact ⟨rfl, hB⟩
end Go.Proofs.YtbcjhnckdgmlgaaDoor
