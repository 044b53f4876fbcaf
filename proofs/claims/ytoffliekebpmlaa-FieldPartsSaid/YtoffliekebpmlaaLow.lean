/- What the program's small functions on one field answer, and that nothing that was there changes; for right fields where it says so. -/
import Derived.Test.YtoffliekebpmlaaRows
import Derived.Test.YtoffliekebpmlaaMath
import Derived.WalkKit
import Derived.WalkSpells
import Derived.WalkLawsBesides
import Derived.Deep.RegionHeld3
import Derived.Deep.DrawnRows
import Derived.Lib.Hide
namespace Go.Proofs.Ytoffliekebpmlaa
open Go.RowKit
attribute [local go_sem ↓] Go.wp_at_zero Go.wp_at_succ

/-- what lay ahead of a call reads on behind it -/
theorem reads_on {X Y : World} (h : Below X.heap.size X Y) : (∀ n o, n < X.heap.size → Y.cell? ⟨n, o, none⟩ = X.cell? ⟨n, o, none⟩) ∧ (∀ n o, n < X.heap.size → Y.frozen? ⟨n, o, none⟩ = X.frozen? ⟨n, o, none⟩) := by
  constructor
  · intro n o hn
    exact Below.cell h (p := ⟨n, o, none⟩) hn
  · intro n o hn
    exact Below.frozen h (p := ⟨n, o, none⟩) hn
/-- from a callee's word to the caller's: what was there ahead of the call reads on; the count of blocks; the whole way from w0 on -/
theorem bstep {w0 W w1 : World} (hB : Below w0.heap.size w0 W) (hb : Below W.heap.size W w1) : (∀ b o, b < W.heap.size → w1.cell? ⟨b, o, none⟩ = W.cell? ⟨b, o, none⟩) ∧ (∀ b o, b < W.heap.size → w1.frozen? ⟨b, o, none⟩ = W.frozen? ⟨b, o, none⟩) ∧ W.heap.size ≤ w1.heap.size ∧ Below w0.heap.size w0 w1 :=
  ⟨(reads_on hb).1, (reads_on hb).2, hb.size, hB.trans (hb.mono hB.size)⟩
theorem ret_int {k : IntKind} {a b : Int} (h : a = b) : Ending.returned (.int k a) = .returned (.int k b) := by rw [h]
theorem ret_bool {a b : Bool} (h : a = b) : Ending.returned (.bool a) = .returned (.bool b) := by rw [h]

set_option maxHeartbeats 400000 in
theorem max_gen (a b : Int) (w : World) :
    Calls Try.prog 14 #[.agg #[.int .i64 a, .int .i64 b]] w fun e w' => e = .returned (.int .i64 (maxG b)) ∧ Below w.heap.size w w' := by
  have h0 : 0 ≤ IntKind.u64.wrap b := by rw [IntKind.wrap_u64]; omega
  go_enter Try.func14, Try.ntmps14
  go_wp2
  go_ret
  exact ⟨rfl, (Below.refl _ _).alloc (Nat.le_refl _) _⟩
theorem max_any (a b : Int) (w : World) (h : 1 ≤ b) (h2 : b ≤ 62) :
    Calls Try.prog 14 #[.agg #[.int .i64 a, .int .i64 b]] w fun e w' => e = .returned (.int .i64 (maxI b)) ∧ Below w.heap.size w w' := by
  rw [← maxG_eq h h2]
  exact max_gen a b w

set_option maxHeartbeats 400000 in
theorem right_any (a b : Int) (w : World)  :
    Calls Try.prog 13 #[.agg #[.int .i64 a, .int .i64 b]] w fun e w' => e = .returned (.bool (rightB a b)) ∧ Below w.heap.size w w' := by
  go_enter Try.func13, Try.ntmps13
  go_wp2
  all_goals go_ret
  all_goals exact ⟨ret_bool (by simp [rightB, *]; try omega), (Below.refl _ _).alloc (Nat.le_refl _) _⟩

set_option maxHeartbeats 800000 in
theorem mask_gen (a b : Int) (w : World) :
    Calls Try.prog 28 #[.agg #[.int .i64 a, .int .i64 b]] w fun e w' => e = .returned (.int .i64 (mskG a b)) ∧ Below w.heap.size w w' := by
  have h0 : 0 ≤ IntKind.u64.wrap a := by rw [IntKind.wrap_u64]; omega
  go_enter Try.func28, Try.ntmps28
  go_wp2_with fail
  go_region_held3 (fun w' => w'.cell? ⟨w.heap.size, 0, none⟩ = some (.int .i64 a) ∧ w'.cell? ⟨w.heap.size, 1, none⟩ = some (.int .i64 b)) (go_keep)
    (first | (go_at_call 14; refine (max_gen a b _).mono ?_; rintro e w' ⟨rfl, hb⟩; obtain ⟨hbc, hbf⟩ := reads_on hb; simp at hbc hbf))
  go_wp2
  go_ret
  exact ⟨rfl, (((Below.refl _ _).alloc (Nat.le_refl _) _).drew).trans (hb.mono (by simp))⟩
theorem mask_any (a b : Int) (w : World) (h0 : 0 ≤ a) (h1 : 1 ≤ b) (h2 : a + b ≤ 62) :
    Calls Try.prog 28 #[.agg #[.int .i64 a, .int .i64 b]] w fun e w' => e = .returned (.int .i64 (mskI a b)) ∧ Below w.heap.size w w' := by
  rw [← mskG_eq h0 h1 h2]
  exact mask_gen a b w

set_option maxHeartbeats 800000 in
theorem get_any (x a b : Int) (w : World) (h0 : 0 ≤ a) (h1 : 1 ≤ b) (h2 : a + b ≤ 62) (h3 : -9223372036854775808 ≤ x) (h4 : x ≤ 9223372036854775807) :
    Calls Try.prog 16 #[.int .i64 x, .agg #[.int .i64 a, .int .i64 b]] w fun e w' => e = .returned (.int .i64 (getI x a b)) ∧ Below w.heap.size w w' := by
  go_enter Try.func16, Try.ntmps16
  go_wp2_with fail
  go_region_held3 (fun w' => w'.cell? ⟨w.heap.size, 0, none⟩ = some (.int .i64 a) ∧ w'.cell? ⟨w.heap.size, 1, none⟩ = some (.int .i64 b)) (go_keep)
    (first | (go_at_call 14; refine (max_any a b _ (by omega) (by omega)).mono ?_; rintro e w' ⟨rfl, hb⟩; obtain ⟨hbc, hbf⟩ := reads_on hb; simp at hbc hbf))
  go_wp2
  go_ret
  exact ⟨ret_int (get_reg b h0 (by omega) h3 h4), (((Below.refl _ _).alloc (Nat.le_refl _) _).drew).trans (hb.mono (by simp))⟩

set_option maxHeartbeats 800000 in
theorem put_any (x a b v : Int) (w : World) (h0 : 0 ≤ a) (h1 : 1 ≤ b) (h2 : a + b ≤ 62) :
    Calls Try.prog 18 #[.int .i64 x, .agg #[.int .i64 a, .int .i64 b], .int .i64 v] w fun e w' => e = .returned (.int .i64 (putI x a b v)) ∧ Below w.heap.size w w' := by
  go_enter Try.func18, Try.ntmps18
  go_wp2_with fail
  have hB0 : Below w.heap.size w (w.alloc (.cells #[.int .i64 a, .int .i64 b] 23)).drew := ((Below.refl _ _).alloc (Nat.le_refl _) _).drew
  go_region_held3 (fun w' => w'.cell? ⟨w.heap.size, 0, none⟩ = some (.int .i64 a) ∧ w'.cell? ⟨w.heap.size, 1, none⟩ = some (.int .i64 b)) (go_keep)
    (first | (go_at_call 28; refine (mask_any a b _ (by omega) (by omega) (by omega)).mono ?_; rintro e w1 ⟨rfl, hb⟩; obtain ⟨hbc, hbf, hz, hB⟩ := bstep (w0 := w) (by assumption) hb; clear hb; (try simp at hbc); (try simp at hbf); (try simp at hz); have hz1 : w.heap.size < w1.heap.size := by omega))
  go_wp2
  go_ret
  exact ⟨ret_int (put_reg x b v h0 (by omega)), by assumption⟩

/-- the slice value '.slice A n c' holds the fields fs, in blocks below n0 -/
def FC (W : World) (b off : Nat) (fs : List (Int × Int)) : Prop :=
  ∀ k x y, fs[k]? = some (x, y) → W.cell? ⟨b, off + k * 2, none⟩ = some (.int .i64 x) ∧ W.cell? ⟨b, off + k * 2 + 1, none⟩ = some (.int .i64 y)
def Fds (W : World) (n0 : Nat) (A : Option Addr) (fs : List (Int × Int)) : Prop :=
  fs = [] ∨ ∃ b off, A = some ⟨b, off, none⟩ ∧ b < n0 ∧ FC W b off fs
theorem FC.below {W W1 : World} {n0 b off : Nat} {fs : List (Int × Int)} (h : FC W b off fs) (h2 : b < n0) (hb : Below n0 W W1) : FC W1 b off fs :=
  fun k x y hk => ⟨(hb.cell (p := ⟨b, _, none⟩) h2).trans (h k x y hk).1, (hb.cell (p := ⟨b, _, none⟩) h2).trans (h k x y hk).2⟩
theorem Fds.below {W W1 : World} {n0 : Nat} {A : Option Addr} {fs : List (Int × Int)} (h : Fds W n0 A fs) (hb : Below n0 W W1) : Fds W1 n0 A fs := by
  rcases h with h | ⟨b, off, h1, h2, h3⟩
  · exact .inl h
  · exact .inr ⟨b, off, h1, h2, h3.below h2 hb⟩
theorem Fds.more {W : World} {n0 n1 : Nat} {A : Option Addr} {fs : List (Int × Int)} (h : Fds W n0 A fs) (hb : n0 ≤ n1) : Fds W n1 A fs := by
  rcases h with h | ⟨b, off, h1, h2, h3⟩
  · exact .inl h
  · exact .inr ⟨b, off, h1, by omega, h3⟩
theorem at_some {fs : List (Int × Int)} {k : Nat} (h : k < fs.length) : ∃ x y, fs[k]? = some (x, y) := ⟨fs[k].1, fs[k].2, by simp [h]⟩

def rightsB (fs : List (Int × Int)) : Bool := fs.all fun f => rightB f.1 f.2
theorem rightsB_take {fs : List (Int × Int)} {k : Nat} {x y : Int} (h : fs[k]? = some (x, y)) : rightsB (fs.take (k + 1)) = (rightsB (fs.take k) && rightB x y) := by
  rw [List.take_add_one, h]
  simp [rightsB]
theorem rightsB_not {fs : List (Int × Int)} {k : Nat} {x y : Int} (h : fs[k]? = some (x, y)) (h2 : rightB x y = false) : rightsB fs = false := by
  rw [rightsB, List.all_eq_false]
  exact ⟨(x, y), List.mem_of_getElem? h, by simp [h2]⟩

set_option maxHeartbeats 400000 in
theorem allRight_some (b off c : Nat) (fs : List (Int × Int)) (w : World) (hl : fs.length ≤ 1000) (hb : b < w.heap.size) (hc : FC w b off fs) :
    Calls Try.prog 29 #[.slice (some ⟨b, off, none⟩) fs.length c] w fun e w' => e = .returned (.bool (rightsB fs)) ∧ Below w.heap.size w w' := by
  go_enter Try.func29, Try.ntmps29
  go_wp2
  go_loopw [7] (fun i wr => ∃ k : Nat, k ≤ fs.length ∧ i = .int .i64 k ∧ rightsB (fs.take k) = true ∧ Below w.heap.size w wr)
    (fun i _ => fs.length - (intOf i).toNat)
  case atStart => exact ⟨0, Nat.zero_le _, rfl, by simp [rightsB], Below.refl _ _⟩
  case round =>
    obtain ⟨k, hk, rfl, hr, hB⟩ := hrel
    have Hr := Lib.hid hr
    clear hr
    by_cases hlt : k < fs.length
    · obtain ⟨x, y, hxy⟩ := at_some hlt
      obtain ⟨hc1, hc2⟩ := hc.below hb hB k x y hxy
      have Hxy := Lib.hid hxy
      clear hxy
      go_wp2_with (go_at_call 13; refine (right_any _ _ _).mono ?_; rintro e w' ⟨rfl, hb1⟩)
      all_goals (have hB2 := hB.trans (((Below.refl _ wr).alloc hB.size _).trans (hb1.mono (by have := hB.size; simp; omega))))
      · go_ret
        have hf : rightB x y = false := by simpa using (by assumption : (!rightB x y) = true)
        exact ⟨ret_bool (rightsB_not Hxy.out hf).symm, hB2⟩
      · have hf : rightB x y = true := by simpa using (by assumption : (!rightB x y) = false)
        go_roundw
        case rel => exact ⟨k + 1, by omega, by go_num, by rw [rightsB_take Hxy.out, Hr.out, hf]; rfl, hB2⟩
        case measure => simp [intOf]; omega
    · obtain rfl : k = fs.length := by omega
      go_wp2
      go_ret
      exact ⟨ret_bool (by rw [← Hr.out]; simp), hB⟩

set_option maxHeartbeats 400000 in
theorem allRight_nil (A : Option Addr) (c : Nat) (w : World) :
    Calls Try.prog 29 #[.slice A 0 c] w fun e w' => e = .returned (.bool (rightsB [])) ∧ Below w.heap.size w w' := by
  go_enter Try.func29, Try.ntmps29
  go_wp2
  go_loopw [7] (fun i wr => i = .int .i64 0 ∧ Below w.heap.size w wr) (fun _ _ => 0)
  case atStart => exact ⟨rfl, Below.refl _ _⟩
  case round =>
    obtain ⟨rfl, hB⟩ := hrel
    go_wp2
    go_ret
    exact ⟨rfl, hB⟩
theorem allRight_any (A : Option Addr) (n c : Nat) (fs : List (Int × Int)) (w : World) (hn : fs.length = n) (hl : n ≤ 1000) (hS : Fds w w.heap.size A fs) :
    Calls Try.prog 29 #[.slice A n c] w fun e w' => e = .returned (.bool (rightsB fs)) ∧ Below w.heap.size w w' := by
  subst hn
  rcases hS with rfl | ⟨b, off, rfl, h2, h3⟩
  · exact allRight_nil A c w
  · exact allRight_some b off c fs w hl h2 h3
end Go.Proofs.Ytoffliekebpmlaa
