/- What the program's small functions on one field answer, for right fields; nothing that was there changes. -/
import Derived.Test.YtbkcniknbpgphaaDoorRows
import Derived.Test.YtbkcniknbpgphaaDoorMath
import Derived.WalkKit
import Derived.WalkSpells
import Derived.WalkLawsBesides
import Derived.Deep.RegionHeld3
import Derived.Deep.DrawnRows
import Derived.Lib.Hide
namespace Go.Proofs.YtbkcniknbpgphaaDoor
open Go.RowKit
attribute [local go_sem ↓] Go.wp_at_zero Go.wp_at_succ

/-- what lay ahead of a call reads on behind it -/
theorem reads_on {X Y : World} (h : Below X.heap.size X Y) : (∀ n o, n < X.heap.size → Y.cell? ⟨n, o, none⟩ = X.cell? ⟨n, o, none⟩) ∧ (∀ n o, n < X.heap.size → Y.frozen? ⟨n, o, none⟩ = X.frozen? ⟨n, o, none⟩) := by
  constructor
  · intro n o hn
    exact Below.cell h (p := ⟨n, o, none⟩) hn
  · intro n o hn
    exact Below.frozen h (p := ⟨n, o, none⟩) hn
/-- from a callee's word to the caller's: what was there ahead of the call reads on; the count of blocks; the whole way from w0 on -/
theorem bstep {w0 W w1 : World} (hB : Below w0.heap.size w0 W) (hb : Below W.heap.size W w1) : (∀ b o, b < W.heap.size → w1.cell? ⟨b, o, none⟩ = W.cell? ⟨b, o, none⟩) ∧ (∀ b o, b < W.heap.size → w1.frozen? ⟨b, o, none⟩ = W.frozen? ⟨b, o, none⟩) ∧ W.heap.size ≤ w1.heap.size ∧ Below w0.heap.size w0 w1 :=
  ⟨(reads_on hb).1, (reads_on hb).2, hb.size, hB.trans (hb.mono hB.size)⟩
theorem ret_int {k : IntKind} {a b : Int} (h : a = b) : Ending.returned (.int k a) = .returned (.int k b) := by rw [h]
theorem ret_bool {a b : Bool} (h : a = b) : Ending.returned (.bool a) = .returned (.bool b) := by rw [h]

set_option maxHeartbeats 400000 in
theorem max_gen (a b : Int) (w : World) :
    Calls Tryd.prog 77 #[.agg #[.int .i64 a, .int .i64 b]] w fun e w' => e = .returned (.int .i64 (maxG b)) ∧ Below w.heap.size w w' := by
  have h0 : 0 ≤ IntKind.u64.wrap b := by rw [IntKind.wrap_u64]; omega
  go_enter Tryd.func77, Tryd.ntmps77
  go_wp2
  go_ret
  exact ⟨rfl, (Below.refl _ _).alloc (Nat.le_refl _) _⟩
theorem max_any (a b : Int) (w : World) (h : 1 ≤ b) (h2 : b ≤ 62) :
    Calls Tryd.prog 77 #[.agg #[.int .i64 a, .int .i64 b]] w fun e w' => e = .returned (.int .i64 (maxI b)) ∧ Below w.heap.size w w' := by
  rw [← maxG_eq h h2]
  exact max_gen a b w

set_option maxHeartbeats 800000 in
theorem mask_gen (a b : Int) (w : World) :
    Calls Tryd.prog 81 #[.agg #[.int .i64 a, .int .i64 b]] w fun e w' => e = .returned (.int .i64 (mskG a b)) ∧ Below w.heap.size w w' := by
  have h0 : 0 ≤ IntKind.u64.wrap a := by rw [IntKind.wrap_u64]; omega
  go_enter Tryd.func81, Tryd.ntmps81
  go_wp2_with fail
  go_region_held3 (fun w' => w'.cell? ⟨w.heap.size, 0, none⟩ = some (.int .i64 a) ∧ w'.cell? ⟨w.heap.size, 1, none⟩ = some (.int .i64 b)) (go_keep)
    (first | (go_at_call 77; refine (max_gen a b _).mono ?_; rintro e w' ⟨rfl, hb⟩; obtain ⟨hbc, hbf⟩ := reads_on hb; simp at hbc hbf))
  go_wp2
  go_ret
  exact ⟨rfl, (((Below.refl _ _).alloc (Nat.le_refl _) _).drew).trans (hb.mono (by simp))⟩
theorem mask_any (a b : Int) (w : World) (h0 : 0 ≤ a) (h1 : 1 ≤ b) (h2 : a + b ≤ 62) :
    Calls Tryd.prog 81 #[.agg #[.int .i64 a, .int .i64 b]] w fun e w' => e = .returned (.int .i64 (mskI a b)) ∧ Below w.heap.size w w' := by
  rw [← mskG_eq h0 h1 h2]
  exact mask_gen a b w

set_option maxHeartbeats 800000 in
theorem get_any (x a b : Int) (w : World) (h0 : 0 ≤ a) (h1 : 1 ≤ b) (h2 : a + b ≤ 62) (h3 : -9223372036854775808 ≤ x) (h4 : x ≤ 9223372036854775807) :
    Calls Tryd.prog 73 #[.int .i64 x, .agg #[.int .i64 a, .int .i64 b]] w fun e w' => e = .returned (.int .i64 (getI x a b)) ∧ Below w.heap.size w w' := by
  go_enter Tryd.func73, Tryd.ntmps73
  go_wp2_with fail
  go_region_held3 (fun w' => w'.cell? ⟨w.heap.size, 0, none⟩ = some (.int .i64 a) ∧ w'.cell? ⟨w.heap.size, 1, none⟩ = some (.int .i64 b)) (go_keep)
    (first | (go_at_call 77; refine (max_any a b _ (by omega) (by omega)).mono ?_; rintro e w' ⟨rfl, hb⟩; obtain ⟨hbc, hbf⟩ := reads_on hb; simp at hbc hbf))
  go_wp2
  go_ret
  exact ⟨ret_int (get_reg b h0 (by omega) h3 h4), (((Below.refl _ _).alloc (Nat.le_refl _) _).drew).trans (hb.mono (by simp))⟩

set_option maxHeartbeats 800000 in
theorem put_any (x a b v : Int) (w : World) (h0 : 0 ≤ a) (h1 : 1 ≤ b) (h2 : a + b ≤ 62) :
    Calls Tryd.prog 79 #[.int .i64 x, .agg #[.int .i64 a, .int .i64 b], .int .i64 v] w fun e w' => e = .returned (.int .i64 (putI x a b v)) ∧ Below w.heap.size w w' := by
  go_enter Tryd.func79, Tryd.ntmps79
  go_wp2_with fail
  have hB0 : Below w.heap.size w (w.alloc (.cells #[.int .i64 a, .int .i64 b] 107)).drew := ((Below.refl _ _).alloc (Nat.le_refl _) _).drew
  go_region_held3 (fun w' => w'.cell? ⟨w.heap.size, 0, none⟩ = some (.int .i64 a) ∧ w'.cell? ⟨w.heap.size, 1, none⟩ = some (.int .i64 b)) (go_keep)
    (first | (go_at_call 81; refine (mask_any a b _ (by omega) (by omega) (by omega)).mono ?_; rintro e w1 ⟨rfl, hb⟩; obtain ⟨hbc, hbf, hz, hB⟩ := bstep (w0 := w) (by assumption) hb; clear hb; (try simp at hbc); (try simp at hbf); (try simp at hz); have hz1 : w.heap.size < w1.heap.size := by omega))
  go_wp2
  go_ret
  exact ⟨ret_int (put_reg x b v h0 (by omega)), by assumption⟩

end Go.Proofs.YtbkcniknbpgphaaDoor
