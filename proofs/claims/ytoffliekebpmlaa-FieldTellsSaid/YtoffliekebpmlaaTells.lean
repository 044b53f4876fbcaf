/- The law FieldTells, walked: for any field and numbers of Go's int it answers true, and nothing that was there changes. -/
import Derived.Test.YtoffliekebpmlaaAwake
import Derived.Test.YtoffliekebpmlaaBits
import Derived.Test.YtoffliekebpmlaaRef
namespace Go.Proofs.Ytoffliekebpmlaa
open Go.RowKit
attribute [local go_sem ↓] Go.wp_at_zero Go.wp_at_succ

set_option maxRecDepth 100000 in
set_option maxHeartbeats 4000000 in
theorem tells_yes (a b x v : Int) (w : World) (h0 : 0 ≤ a) (h1 : 1 ≤ b) (h2 : a + b ≤ 62) (h3 : -9223372036854775808 ≤ x) (h4 : x ≤ 9223372036854775807) :
    Calls Try.prog 3 #[.agg #[.int .i64 a, .int .i64 b], .int .i64 x, .int .i64 v] w fun e w' => e = .returned (.bool true) ∧ Below w.heap.size w w' := by
  have Hr := Lib.hid (rightB_true.2 ⟨h0, h1, h2⟩)
  have hB0 : Below w.heap.size w (w.alloc (.cells #[.int .i64 a, .int .i64 b] 23)) := (Below.refl _ _).alloc (Nat.le_refl _) _
  have hf := FBox.new w a b
  go_enter Try.func3, Try.ntmps3
  go_wp2_with fail
  refine (awake_any _).mono ?_
  rintro e w1 ⟨rfl, hb⟩
  try clear k0 k1 k2
  replace hf := hf.keep (KC.of_below (Nat.le_refl _) hb)
  replace hB0 := hB0.trans (hb.mono hB0.size)
  clear hb
  have k0 := hf.cell0
  have k1 := hf.cell1
  have k2 := hf.lt
  go_wp2_with fail
  refine (refRight_any a b _).mono ?_
  rintro e w2 ⟨rfl, hb⟩
  rw [Hr.out]
  try clear k0 k1 k2
  replace hf := hf.keep (KC.of_below (Nat.le_refl _) hb)
  replace hB0 := hB0.trans (hb.mono hB0.size)
  clear hb
  have k0 := hf.cell0
  have k1 := hf.cell1
  have k2 := hf.lt
  go_wp2_with fail
  refine (right_any a b _).mono ?_
  rintro e w3 ⟨rfl, hb⟩
  rw [Hr.out]
  try clear k0 k1 k2
  replace hf := hf.keep (KC.of_below (Nat.le_refl _) hb)
  replace hB0 := hB0.trans (hb.mono hB0.size)
  clear hb
  have k0 := hf.cell0
  have k1 := hf.cell1
  have k2 := hf.lt
  go_wp2_with fail
  have hB1 : Below w.heap.size w w3.drew := hB0.drew
  go_region_held3 (fun w' => w'.cell? ⟨w.heap.size, 0, none⟩ = some (.int .i64 a) ∧ w'.cell? ⟨w.heap.size, 1, none⟩ = some (.int .i64 b)) (go_keep)
    (first
      | (go_at_call 16; refine (get_any _ a b _ (by omega) (by omega) (by omega) (by omega) (by omega)).mono ?_; rintro e w5 ⟨rfl, hb⟩; obtain ⟨hbc, hbf, hz, hB⟩ := bstep (w0 := w) (by assumption) hb; clear hb hbf; (try simp at hbc); (try simp at hz); have hz1 : w.heap.size < w5.heap.size := by omega)
      | (go_at_call 18; refine (put_any _ a b _ _ (by omega) (by omega) (by omega)).mono ?_; rintro e w5 ⟨rfl, hb⟩; obtain ⟨hbc, hbf, hz, hB⟩ := bstep (w0 := w) (by assumption) hb; clear hb hbf; (try simp at hbc); (try simp at hz); have hz1 : w.heap.size < w5.heap.size := by omega)
      | (go_at_call 14; refine (max_any a b _ (by omega) (by omega)).mono ?_; rintro e w5 ⟨rfl, hb⟩; obtain ⟨hbc, hbf, hz, hB⟩ := bstep (w0 := w) (by assumption) hb; clear hb hbf; (try simp at hbc); (try simp at hz); have hz1 : w.heap.size < w5.heap.size := by omega)
      | (go_at_call 15; refine (refMax_any a b _ (by omega) (by omega) (by omega)).mono ?_; rintro e w5 ⟨rfl, hb⟩; obtain ⟨hbc, hbf, hz, hB⟩ := bstep (w0 := w) (by assumption) hb; clear hb hbf; (try simp at hbc); (try simp at hz); have hz1 : w.heap.size < w5.heap.size := by omega)
      | (go_at_call 17; refine (refGet_any _ a b _ (by omega) (by omega) (by omega)).mono ?_; rintro e w5 ⟨rfl, hb⟩; obtain ⟨hbc, hbf, hz, hB⟩ := bstep (w0 := w) (by assumption) hb; clear hb hbf; (try simp at hbc); (try simp at hz); have hz1 : w.heap.size < w5.heap.size := by omega)
      | (go_at_call 19; refine (refPut_any _ a b _ _ (by omega) (by omega) (by omega) (by omega) (by omega)).mono ?_; rintro e w5 ⟨rfl, hb⟩; obtain ⟨hbc, hbf, hz, hB⟩ := bstep (w0 := w) (by assumption) hb; clear hb hbf; (try simp at hbc); (try simp at hz); have hz1 : w.heap.size < w5.heap.size := by omega))
  go_wp2
  go_ret
  exact ⟨rfl, by assumption⟩
set_option maxHeartbeats 400000 in
theorem tells_no (a b x v : Int) (w : World) (h : rightB a b = false) :
    Calls Try.prog 3 #[.agg #[.int .i64 a, .int .i64 b], .int .i64 x, .int .i64 v] w fun e w' => e = .returned (.bool true) ∧ Below w.heap.size w w' := by
  have Hr := Lib.hid h
  clear h
  have hB0 : Below w.heap.size w (w.alloc (.cells #[.int .i64 a, .int .i64 b] 23)) := (Below.refl _ _).alloc (Nat.le_refl _) _
  have hf := FBox.new w a b
  go_enter Try.func3, Try.ntmps3
  go_wp2_with fail
  refine (awake_any _).mono ?_
  rintro e w1 ⟨rfl, hb⟩
  try clear k0 k1 k2
  replace hf := hf.keep (KC.of_below (Nat.le_refl _) hb)
  replace hB0 := hB0.trans (hb.mono hB0.size)
  clear hb
  have k0 := hf.cell0
  have k1 := hf.cell1
  have k2 := hf.lt
  go_wp2_with fail
  refine (refRight_any a b _).mono ?_
  rintro e w2 ⟨rfl, hb⟩
  rw [Hr.out]
  try clear k0 k1 k2
  replace hf := hf.keep (KC.of_below (Nat.le_refl _) hb)
  replace hB0 := hB0.trans (hb.mono hB0.size)
  clear hb
  have k0 := hf.cell0
  have k1 := hf.cell1
  have k2 := hf.lt
  go_wp2_with fail
  refine (right_any a b _).mono ?_
  rintro e w3 ⟨rfl, hb⟩
  rw [Hr.out]
  try clear k0 k1 k2
  replace hf := hf.keep (KC.of_below (Nat.le_refl _) hb)
  replace hB0 := hB0.trans (hb.mono hB0.size)
  clear hb
  have k0 := hf.cell0
  have k1 := hf.cell1
  have k2 := hf.lt
  go_wp2_with fail
  go_ret
  exact ⟨rfl, hB0⟩
theorem tells_any (a b x v : Int) (w : World) (h3 : -9223372036854775808 ≤ x) (h4 : x ≤ 9223372036854775807) :
    Calls Try.prog 3 #[.agg #[.int .i64 a, .int .i64 b], .int .i64 x, .int .i64 v] w fun e w' => e = .returned (.bool true) ∧ Below w.heap.size w w' := by
  cases h : rightB a b with
  | false => exact tells_no a b x v w h
  | true =>
    rw [rightB_true] at h
    exact tells_yes a b x v w h.1 h.2.1 h.2.2 h3 h4
end Go.Proofs.Ytoffliekebpmlaa
