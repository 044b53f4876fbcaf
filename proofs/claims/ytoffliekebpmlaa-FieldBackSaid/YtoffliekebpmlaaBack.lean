/- The law FieldBack, walked: for any field and numbers of Go's int it answers true, and nothing that was there changes. -/
import Derived.Test.YtoffliekebpmlaaAwake
import Derived.Test.YtoffliekebpmlaaBits
namespace Go.Proofs.Ytoffliekebpmlaa
open Go.RowKit
attribute [local go_sem ↓] Go.wp_at_zero Go.wp_at_succ

set_option maxRecDepth 100000 in
set_option maxHeartbeats 4000000 in
theorem back_yes (a b x v : Int) (w : World) (h0 : 0 ≤ a) (h1 : 1 ≤ b) (h2 : a + b ≤ 62) (h3 : -9223372036854775808 ≤ x) (h4 : x ≤ 9223372036854775807) :
    Calls Try.prog 5 #[.agg #[.int .i64 a, .int .i64 b], .int .i64 x, .int .i64 v] w fun e w' => e = .returned (.bool true) ∧ Below w.heap.size w w' := by
  have hr : rightB a b = true := rightB_true.2 ⟨h0, h1, h2⟩
  have Hr := Lib.hid hr
  have t1 : decide (1 ≤ maxI b) = true := by simpa using maxI_ge h1 (by omega)
  have t2 : (getI (putI x a b v) a b == bits .and .i64 v (maxI b)) = true := by rw [beq_iff_eq]; exact get_put h0 h1 h2
  have t3 : (putI (putI x a b v) a b v == putI x a b v) = true := by rw [beq_iff_eq]; exact put_put h0 h1 h2
  have t4 : (putI (putI x a b v) a b (getI x a b) == x) = true := by rw [beq_iff_eq]; exact put_back h0 h1 h2 h3 h4
  have t5 : decide (0 ≤ getI x a b) = true := by simpa using (get_bd (x := x) h0 h1 h2).1
  have t6 : decide (getI x a b ≤ maxI b) = true := by simpa using (get_bd (x := x) h0 h1 h2).2
  have q1 := putI_lo x a b v
  have q2 := putI_hi x a b v
  clear hr
  have hB0 : Below w.heap.size w (w.alloc (.cells #[.int .i64 a, .int .i64 b] 23)) := (Below.refl _ _).alloc (Nat.le_refl _) _
  have hf := FBox.new w a b
  go_enter Try.func5, Try.ntmps5
  go_wp2_with fail
  refine (awake_any _).mono ?_
  rintro e w1 ⟨rfl, hb⟩
  replace hf := hf.keep (KC.of_below (Nat.le_refl _) hb)
  replace hB0 := hB0.trans (hb.mono hB0.size)
  clear hb
  have k0 := hf.cell0
  have k1 := hf.cell1
  have k2 := hf.lt
  go_wp2_with fail
  refine (right_any a b _).mono ?_
  rintro e w2 ⟨rfl, hb⟩
  rw [Hr.out]
  replace hf := hf.keep (KC.of_below (Nat.le_refl _) hb)
  replace hB0 := hB0.trans (hb.mono hB0.size)
  clear hb k0 k1 k2
  have k0 := hf.cell0
  have k1 := hf.cell1
  have k2 := hf.lt
  go_wp2_with fail
  refine (put_any x a b v _ h0 h1 h2).mono ?_
  rintro e w3 ⟨rfl, hb⟩
  replace hf := hf.keep (KC.of_below (Nat.le_refl _) hb)
  replace hB0 := hB0.trans (hb.mono hB0.size)
  clear hb k0 k1 k2
  have k0 := hf.cell0
  have k1 := hf.cell1
  have k2 := hf.lt
  go_wp2_with fail
  refine (max_any a b _ h1 (by omega)).mono ?_
  rintro e w4 ⟨rfl, hb⟩
  replace hf := hf.keep (KC.of_below (Nat.le_refl _) hb)
  replace hB0 := hB0.trans (hb.mono hB0.size)
  clear hb k0 k1 k2
  have k0 := hf.cell0
  have k1 := hf.cell1
  have k2 := hf.lt
  go_wp2_with fail
  have hB1 : Below w.heap.size w w4.drew := hB0.drew
  go_region_held3 (fun w' => w'.cell? ⟨w.heap.size, 0, none⟩ = some (.int .i64 a) ∧ w'.cell? ⟨w.heap.size, 1, none⟩ = some (.int .i64 b)) (go_keep)
    (first
      | (go_at_call 16; refine (get_any _ a b _ (by omega) (by omega) (by omega) (by omega) (by omega)).mono ?_; rintro e w5 ⟨rfl, hb⟩; obtain ⟨hbc, hbf, hz, hB⟩ := bstep (w0 := w) (by assumption) hb; clear hb hbf; (try simp at hbc); (try simp at hz); have hz1 : w.heap.size < w5.heap.size := by omega)
      | (go_at_call 18; refine (put_any _ a b _ _ (by omega) (by omega) (by omega)).mono ?_; rintro e w5 ⟨rfl, hb⟩; obtain ⟨hbc, hbf, hz, hB⟩ := bstep (w0 := w) (by assumption) hb; clear hb hbf; (try simp at hbc); (try simp at hz); have hz1 : w.heap.size < w5.heap.size := by omega))
  go_wp2
  go_ret
  exact ⟨rfl, by assumption⟩

set_option maxHeartbeats 400000 in
theorem back_no (a b x v : Int) (w : World) (h : rightB a b = false) :
    Calls Try.prog 5 #[.agg #[.int .i64 a, .int .i64 b], .int .i64 x, .int .i64 v] w fun e w' => e = .returned (.bool true) ∧ Below w.heap.size w w' := by
  have Hr := Lib.hid h
  clear h
  have hB0 : Below w.heap.size w (w.alloc (.cells #[.int .i64 a, .int .i64 b] 23)) := (Below.refl _ _).alloc (Nat.le_refl _) _
  have hf := FBox.new w a b
  go_enter Try.func5, Try.ntmps5
  go_wp2_with fail
  refine (awake_any _).mono ?_
  rintro e w1 ⟨rfl, hb⟩
  replace hf := hf.keep (KC.of_below (Nat.le_refl _) hb)
  replace hB0 := hB0.trans (hb.mono hB0.size)
  clear hb
  have k0 := hf.cell0
  have k1 := hf.cell1
  have k2 := hf.lt
  go_wp2_with fail
  refine (right_any a b _).mono ?_
  rintro e w2 ⟨rfl, hb⟩
  rw [Hr.out]
  replace hB0 := hB0.trans (hb.mono hB0.size)
  go_wp2_with fail
  go_ret
  exact ⟨rfl, hB0⟩
theorem back_any (a b x v : Int) (w : World) (h3 : -9223372036854775808 ≤ x) (h4 : x ≤ 9223372036854775807) :
    Calls Try.prog 5 #[.agg #[.int .i64 a, .int .i64 b], .int .i64 x, .int .i64 v] w fun e w' => e = .returned (.bool true) ∧ Below w.heap.size w w' := by
  cases h : rightB a b with
  | false => exact back_no a b x v w h
  | true =>
    rw [rightB_true] at h
    exact back_yes a b x v w h.1 h.2.1 h.2.2 h3 h4
end Go.Proofs.Ytoffliekebpmlaa
