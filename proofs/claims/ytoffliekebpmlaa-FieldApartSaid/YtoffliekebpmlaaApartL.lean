/- The law FieldApart, walked: for any two fields and numbers of Go's int it answers true, and nothing that was there changes. -/
import Derived.Test.YtoffliekebpmlaaAwake
import Derived.Test.YtoffliekebpmlaaBits
namespace Go.Proofs.Ytoffliekebpmlaa
open Go.RowKit
attribute [local go_sem ↓] Go.wp_at_zero Go.wp_at_succ

theorem apartB_two {a b c d : Int} (h : apartB [(a, b), (c, d)] = true) : (0 ≤ a ∧ 1 ≤ b ∧ a + b ≤ 62) ∧ (0 ≤ c ∧ 1 ≤ d ∧ c + d ≤ 62) ∧ ¬ Over a b c d := by
  simp only [apartB, rightsB, List.all_cons, List.all_nil, Bool.and_true, Bool.and_eq_true, rightB_true, decide_eq_true_eq, List.pairwise_cons, List.mem_singleton, forall_eq] at h
  obtain ⟨⟨h1, h2⟩, h3, _⟩ := h
  refine ⟨h1, h2, ?_⟩
  simp only [clashB, Bool.not_eq_false', beq_iff_eq] at h3
  rw [mskG_eq h1.1 h1.2.1 h1.2.2, mskG_eq h2.1 h2.2.1 h2.2.2] at h3
  exact (clash_iff h1.1 h1.2.2 h2.1 h2.2.2).1 h3
theorem apartB_of_two {a b c d : Int} (h1 : 0 ≤ a ∧ 1 ≤ b ∧ a + b ≤ 62) (h2 : 0 ≤ c ∧ 1 ≤ d ∧ c + d ≤ 62) (h3 : ¬ Over a b c d) : apartB [(a, b), (c, d)] = true := by
  have h4 := (clash_iff h1.1 h1.2.2 h2.1 h2.2.2).2 h3
  rw [← mskG_eq h1.1 h1.2.1 h1.2.2, ← mskG_eq h2.1 h2.2.1 h2.2.2] at h4
  simp only [apartB, rightsB, List.all_cons, List.all_nil, Bool.and_true, Bool.and_eq_true, rightB_true, decide_eq_true_eq, List.pairwise_cons, List.mem_singleton, forall_eq]
  exact ⟨⟨h1, h2⟩, by simp [clashB, h4], by simp, List.Pairwise.nil⟩
theorem Fds.two {W : World} {g : Nat} {p q r s : Int} (h : W.heap[g]? = some (.cells #[.int .i64 p, .int .i64 q, .int .i64 r, .int .i64 s] 23 (0, 0))) : Fds W W.heap.size (some ⟨g, 0, none⟩) [(p, q), (r, s)] := by
  refine .inr ⟨g, 0, rfl, (Array.getElem?_eq_some_iff.1 h).1, fun k x y hk => ?_⟩
  match k, hk with
  | 0, hk => simp at hk; obtain ⟨rfl, rfl⟩ := hk; simp [World.cell?, h]
  | 1, hk => simp at hk; obtain ⟨rfl, rfl⟩ := hk; simp [World.cell?, h]
theorem apart_two (g : Nat) (p q r s : Int) (W : World) (h : W.heap[g]? = some (.cells #[.int .i64 p, .int .i64 q, .int .i64 r, .int .i64 s] 23 (0, 0))) :
    Calls Try.prog 22 #[.slice (some ⟨g, 0, none⟩) 2 2] W fun e w' => e = .returned (.bool (apartB [(p, q), (r, s)])) ∧ Below W.heap.size W w' :=
  apart_any _ 2 2 [(p, q), (r, s)] W rfl (by omega) (by omega) (Fds.two h)
theorem new_block (W : World) (o : Obj) (g : Nat) (hg : g = W.heap.size) : (W.alloc o).heap[g]? = some o := by subst hg; exact World.alloc_heap_new W o

set_option maxRecDepth 100000 in
set_option maxHeartbeats 4000000 in
theorem apartL_yes (a b c d x v u : Int) (w : World) (h1 : 0 ≤ a ∧ 1 ≤ b ∧ a + b ≤ 62) (h2 : 0 ≤ c ∧ 1 ≤ d ∧ c + d ≤ 62) (ho : ¬ Over a b c d) (h3 : -9223372036854775808 ≤ x) (h4 : x ≤ 9223372036854775807) :
    Calls Try.prog 6 #[.agg #[.int .i64 a, .int .i64 b], .agg #[.int .i64 c, .int .i64 d], .int .i64 x, .int .i64 v, .int .i64 u] w fun e w' => e = .returned (.bool true) ∧ Below w.heap.size w w' := by
  have Ha := Lib.hid (apartB_of_two h1 h2 ho)
  have Ha2 := Lib.hid (apartB_of_two h2 h1 (fun h => ho (over_symm h)))
  have Hr := Lib.hid (rightB_true.2 h1)
  have Hr2 := Lib.hid (rightB_true.2 h2)
  have t1 : (getI (putI x a b v) c d == getI x c d) = true := by rw [beq_iff_eq]; exact get_other h1.1 h1.2.1 h1.2.2 h2.1 h2.2.1 h2.2.2 ho
  have t2 : (putI (putI x a b v) c d u == putI (putI x c d u) a b v) = true := by rw [beq_iff_eq]; exact put_comm h1.1 h1.2.1 h1.2.2 h2.1 h2.2.1 h2.2.2 ho
  have q1 := putI_lo x a b v
  have q2 := putI_hi x a b v
  obtain ⟨a1, a2, a3⟩ := h1
  obtain ⟨c1, c2, c3⟩ := h2
  clear ho
  have hB0 : Below w.heap.size w ((w.alloc (.cells #[.int .i64 a, .int .i64 b] 23)).alloc (.cells #[.int .i64 c, .int .i64 d] 23)) := ((Below.refl _ _).alloc (Nat.le_refl _) _).alloc (by simp) _
  have hf := (FBox.new w a b).alloc (.cells #[.int .i64 c, .int .i64 d] 23)
  have hg := FBox.new (w.alloc (.cells #[.int .i64 a, .int .i64 b] 23)) c d
  rw [World.size_alloc] at hg
  go_enter Try.func6, Try.ntmps6
  go_wp2_with fail
  refine (awake_any _).mono ?_
  rintro e w1 ⟨rfl, hb⟩
  try clear k0 k1 k2 j0 j1 j2
  replace hf := hf.keep (KC.of_below (Nat.le_refl _) hb)
  replace hg := hg.keep (KC.of_below (Nat.le_refl _) hb)
  replace hB0 := hB0.trans (hb.mono hB0.size)
  clear hb
  have k0 := hf.cell0
  have k1 := hf.cell1
  have k2 := hf.lt
  have j0 := hg.cell0
  have j1 := hg.cell1
  have j2 := hg.lt
  go_wp2_with fail
  refine (apart_two _ a b c d _ (new_block w1 _ _ rfl)).mono ?_
  rintro e w2 ⟨rfl, hb⟩
  rw [Ha.out]
  replace hf := hf.alloc (.cells #[.int .i64 a, .int .i64 b, .int .i64 c, .int .i64 d] 23)
  replace hg := hg.alloc (.cells #[.int .i64 a, .int .i64 b, .int .i64 c, .int .i64 d] 23)
  replace hB0 := hB0.alloc hB0.size (.cells #[.int .i64 a, .int .i64 b, .int .i64 c, .int .i64 d] 23)
  try clear k0 k1 k2 j0 j1 j2
  replace hf := hf.keep (KC.of_below (Nat.le_refl _) hb)
  replace hg := hg.keep (KC.of_below (Nat.le_refl _) hb)
  replace hB0 := hB0.trans (hb.mono hB0.size)
  clear hb
  have k0 := hf.cell0
  have k1 := hf.cell1
  have k2 := hf.lt
  have j0 := hg.cell0
  have j1 := hg.cell1
  have j2 := hg.lt
  go_wp2_with fail
  refine (put_any x a b v _ a1 a2 a3).mono ?_
  rintro e w3 ⟨rfl, hb⟩
  try clear k0 k1 k2 j0 j1 j2
  replace hf := hf.keep (KC.of_below (Nat.le_refl _) hb)
  replace hg := hg.keep (KC.of_below (Nat.le_refl _) hb)
  replace hB0 := hB0.trans (hb.mono hB0.size)
  clear hb
  have k0 := hf.cell0
  have k1 := hf.cell1
  have k2 := hf.lt
  have j0 := hg.cell0
  have j1 := hg.cell1
  have j2 := hg.lt
  go_wp2_with fail
  have hB1 : Below w.heap.size w w3.drew := hB0.drew
  go_region_held3 (fun w' => w'.cell? ⟨w.heap.size, 0, none⟩ = some (.int .i64 a) ∧ w'.cell? ⟨w.heap.size, 1, none⟩ = some (.int .i64 b) ∧ w'.cell? ⟨w.heap.size + 1, 0, none⟩ = some (.int .i64 c) ∧ w'.cell? ⟨w.heap.size + 1, 1, none⟩ = some (.int .i64 d)) (go_keep)
    (first
      | (go_at_call 16; refine (get_any _ _ _ _ (by omega) (by omega) (by omega) (by omega) (by omega)).mono ?_; rintro e w5 ⟨rfl, hb⟩; obtain ⟨hbc, hbf, hz, hB⟩ := bstep (w0 := w) (by first | assumption | exact Below.alloc (by assumption) (by omega) _) hb; clear hb hbf; (try simp at hbc); (try simp at hz); have hz1 : w.heap.size < w5.heap.size := (by omega); have hz2 : w.heap.size + 1 < w5.heap.size := (by omega))
      | (go_at_call 18; refine (put_any _ _ _ _ _ (by omega) (by omega) (by omega)).mono ?_; rintro e w5 ⟨rfl, hb⟩; obtain ⟨hbc, hbf, hz, hB⟩ := bstep (w0 := w) (by first | assumption | exact Below.alloc (by assumption) (by omega) _) hb; clear hb hbf; (try simp at hbc); (try simp at hz); have hz1 : w.heap.size < w5.heap.size := (by omega); have hz2 : w.heap.size + 1 < w5.heap.size := (by omega))
      | (go_at_call 13; refine (right_any _ _ _).mono ?_; rintro e w5 ⟨rfl, hb⟩; (first | rw [Hr.out] | rw [Hr2.out]); obtain ⟨hbc, hbf, hz, hB⟩ := bstep (w0 := w) (by first | assumption | exact Below.alloc (by assumption) (by omega) _) hb; clear hb hbf; (try simp at hbc); (try simp at hz); have hz1 : w.heap.size < w5.heap.size := (by omega); have hz2 : w.heap.size + 1 < w5.heap.size := (by omega))
      | (go_at_call 22; refine (apart_two _ c d a b _ (new_block _ _ _ rfl)).mono ?_; rintro e w5 ⟨rfl, hb⟩; rw [Ha2.out]; obtain ⟨hbc, hbf, hz, hB⟩ := bstep (w0 := w) (by first | assumption | exact Below.alloc (by assumption) (by omega) _) hb; clear hb hbf; (try simp at hbc); (try simp at hz); have hq0 := hbc w.heap.size 0 (by omega); have hq1 := hbc w.heap.size 1 (by omega); have hz1 : w.heap.size < w5.heap.size := (by omega); have hz2 : w.heap.size + 1 < w5.heap.size := (by omega)))
  go_wp2
  go_ret
  exact ⟨rfl, by assumption⟩
set_option maxRecDepth 100000 in
set_option maxHeartbeats 1000000 in
theorem apartL_no (a b c d x v u : Int) (w : World) (h : apartB [(a, b), (c, d)] = false) :
    Calls Try.prog 6 #[.agg #[.int .i64 a, .int .i64 b], .agg #[.int .i64 c, .int .i64 d], .int .i64 x, .int .i64 v, .int .i64 u] w fun e w' => e = .returned (.bool true) ∧ Below w.heap.size w w' := by
  have Ha := Lib.hid h
  clear h
  have hB0 : Below w.heap.size w ((w.alloc (.cells #[.int .i64 a, .int .i64 b] 23)).alloc (.cells #[.int .i64 c, .int .i64 d] 23)) := ((Below.refl _ _).alloc (Nat.le_refl _) _).alloc (by simp) _
  have hf := (FBox.new w a b).alloc (.cells #[.int .i64 c, .int .i64 d] 23)
  have hg := FBox.new (w.alloc (.cells #[.int .i64 a, .int .i64 b] 23)) c d
  rw [World.size_alloc] at hg
  go_enter Try.func6, Try.ntmps6
  go_wp2_with fail
  refine (awake_any _).mono ?_
  rintro e w1 ⟨rfl, hb⟩
  try clear k0 k1 k2 j0 j1 j2
  replace hf := hf.keep (KC.of_below (Nat.le_refl _) hb)
  replace hg := hg.keep (KC.of_below (Nat.le_refl _) hb)
  replace hB0 := hB0.trans (hb.mono hB0.size)
  clear hb
  have k0 := hf.cell0
  have k1 := hf.cell1
  have k2 := hf.lt
  have j0 := hg.cell0
  have j1 := hg.cell1
  have j2 := hg.lt
  go_wp2_with fail
  refine (apart_two _ a b c d _ (new_block w1 _ _ rfl)).mono ?_
  rintro e w2 ⟨rfl, hb⟩
  rw [Ha.out]
  replace hf := hf.alloc (.cells #[.int .i64 a, .int .i64 b, .int .i64 c, .int .i64 d] 23)
  replace hg := hg.alloc (.cells #[.int .i64 a, .int .i64 b, .int .i64 c, .int .i64 d] 23)
  replace hB0 := hB0.alloc hB0.size (.cells #[.int .i64 a, .int .i64 b, .int .i64 c, .int .i64 d] 23)
  try clear k0 k1 k2 j0 j1 j2
  replace hf := hf.keep (KC.of_below (Nat.le_refl _) hb)
  replace hg := hg.keep (KC.of_below (Nat.le_refl _) hb)
  replace hB0 := hB0.trans (hb.mono hB0.size)
  clear hb
  have k0 := hf.cell0
  have k1 := hf.cell1
  have k2 := hf.lt
  have j0 := hg.cell0
  have j1 := hg.cell1
  have j2 := hg.lt
  go_wp2_with fail
  go_ret
  exact ⟨rfl, hB0⟩
theorem apartL_any (a b c d x v u : Int) (w : World) (h3 : -9223372036854775808 ≤ x) (h4 : x ≤ 9223372036854775807) :
    Calls Try.prog 6 #[.agg #[.int .i64 a, .int .i64 b], .agg #[.int .i64 c, .int .i64 d], .int .i64 x, .int .i64 v, .int .i64 u] w fun e w' => e = .returned (.bool true) ∧ Below w.heap.size w w' := by
  cases h : apartB [(a, b), (c, d)] with
  | false => exact apartL_no a b c d x v u w h
  | true =>
    obtain ⟨h1, h2, ho⟩ := apartB_two h
    exact apartL_yes a b c d x v u w h1 h2 ho h3 h4
end Go.Proofs.Ytoffliekebpmlaa
