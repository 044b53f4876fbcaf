/- The slot that a word tells, right or not; nothing that was there changes. -/
import Derived.Test.YtbkcniknbpgphaaDoorWord
namespace Go.Proofs.YtbkcniknbpgphaaDoor
open Go.RowKit
attribute [local go_sem ↓] Go.wp_at_zero Go.wp_at_succ

def rd (x : Int) (k : Nat) : Int := getI x (pa k) (pb k)
def rk (x : Int) (k j : Nat) : Int := if j < k then rd x j else 0

theorem rk_at (x : Int) (k : Nat) (h : k < 9) : #[Value.int .i64 (rk x k 0), Value.int .i64 (rk x k 1), Value.int .i64 (rk x k 2), Value.int .i64 (rk x k 3), Value.int .i64 (rk x k 4), Value.int .i64 (rk x k 5), Value.int .i64 (rk x k 6), Value.int .i64 (rk x k 7), Value.int .i64 (rk x k 8)][k]? = some (Value.int .i64 (rk x k k)) := by
  rcases nine h with rfl | rfl | rfl | rfl | rfl | rfl | rfl | rfl | rfl <;> rfl
theorem rk_put (x : Int) {k : Nat} (h : k < 9) : #[Value.int .i64 (rk x k 0), Value.int .i64 (rk x k 1), Value.int .i64 (rk x k 2), Value.int .i64 (rk x k 3), Value.int .i64 (rk x k 4), Value.int .i64 (rk x k 5), Value.int .i64 (rk x k 6), Value.int .i64 (rk x k 7), Value.int .i64 (rk x k 8)].setIfInBounds k (Value.int .i64 (rd x k)) = #[Value.int .i64 (rk x (k + 1) 0), Value.int .i64 (rk x (k + 1) 1), Value.int .i64 (rk x (k + 1) 2), Value.int .i64 (rk x (k + 1) 3), Value.int .i64 (rk x (k + 1) 4), Value.int .i64 (rk x (k + 1) 5), Value.int .i64 (rk x (k + 1) 6), Value.int .i64 (rk x (k + 1) 7), Value.int .i64 (rk x (k + 1) 8)] := by
  rcases nine h with rfl | rfl | rfl | rfl | rfl | rfl | rfl | rfl | rfl <;> rfl
def rdS (x : Int) : Sl := ⟨rd x 0, rd x 1, rd x 2, rd x 3 == 1, rd x 4 == 1, rd x 5, rd x 6, rd x 7, rd x 8⟩

set_option maxRecDepth 100000 in
set_option maxHeartbeats 800000 in
theorem read_any (x : Int) (w : World) (hT : Tab w) (hx1 : -9223372036854775808 ≤ x) (hx2 : x ≤ 9223372036854775807) :
    Calls Tryd.prog 57 #[.int .i64 x] w fun e w' => e = .returned (Value.agg #[Value.int .i64 (rdS x).st, Value.int .i64 (rdS x).ow, Value.int .i64 (rdS x).sr, Value.bool (rdS x).br, Value.bool (rdS x).ma, Value.int .i64 (rdS x).us, Value.int .i64 (rdS x).ge, Value.int .i64 (rdS x).ep, Value.int .i64 (rdS x).ve]) ∧ Below w.heap.size w w' := by
  go_enter Tryd.func57, Tryd.ntmps57
  have r1 := (RowAt.new w 23 #[Value.int .i64 0, Value.int .i64 0, Value.int .i64 0, Value.bool false, Value.bool false, Value.int .i64 0, Value.int .i64 0, Value.int .i64 0, Value.int .i64 0]).alloc (.cells #[Value.int .i64 0, Value.int .i64 0, Value.int .i64 0, Value.int .i64 0, Value.int .i64 0, Value.int .i64 0, Value.int .i64 0, Value.int .i64 0, Value.int .i64 0] 105)
  have r2 := RowAt.new (w.alloc (.cells #[Value.int .i64 0, Value.int .i64 0, Value.int .i64 0, Value.bool false, Value.bool false, Value.int .i64 0, Value.int .i64 0, Value.int .i64 0, Value.int .i64 0] 23)) 105 #[Value.int .i64 0, Value.int .i64 0, Value.int .i64 0, Value.int .i64 0, Value.int .i64 0, Value.int .i64 0, Value.int .i64 0, Value.int .i64 0, Value.int .i64 0]
  have hB2 : Below w.heap.size w ((w.alloc (.cells #[Value.int .i64 0, Value.int .i64 0, Value.int .i64 0, Value.bool false, Value.bool false, Value.int .i64 0, Value.int .i64 0, Value.int .i64 0, Value.int .i64 0] 23)).alloc (.cells #[Value.int .i64 0, Value.int .i64 0, Value.int .i64 0, Value.int .i64 0, Value.int .i64 0, Value.int .i64 0, Value.int .i64 0, Value.int .i64 0, Value.int .i64 0] 105)) := ((Below.refl _ _).alloc (Nat.le_refl _) _).alloc (by simp) _
  obtain ⟨tt, fr, hg⟩ := hT.below hB2 hT.lt
  have hG := Lib.hid hg
  clear hg
  simp only [World.size_alloc] at r2
  go_wp2_with (refine wpList_load_row rfl 110 _ rfl 0 rfl tt _ fr _ hG.out Tryd.underlying110 rfl (by kernel_rfl) ?_)
  clear hG hT
  obtain ⟨B1, e1⟩ : ∃ B1, B1 = w.heap.size := ⟨_, rfl⟩
  obtain ⟨W2, e3⟩ : ∃ W2, W2 = (w.alloc (.cells #[Value.int .i64 0, Value.int .i64 0, Value.int .i64 0, Value.bool false, Value.bool false, Value.int .i64 0, Value.int .i64 0, Value.int .i64 0, Value.int .i64 0] 23)).alloc (.cells #[Value.int .i64 0, Value.int .i64 0, Value.int .i64 0, Value.int .i64 0, Value.int .i64 0, Value.int .i64 0, Value.int .i64 0, Value.int .i64 0, Value.int .i64 0] 105) := ⟨_, rfl⟩
  rw [← e3] at r1 r2 hB2 ⊢
  rw [← e1] at r1 r2 ⊢
  clear e3
  have E1 := Lib.hid e1
  clear e1
  go_loopw [7] (fun i wr => ∃ k : Nat, k ≤ 9 ∧ i = .int .i64 k ∧ RowAt wr B1 23 #[Value.int .i64 0, Value.int .i64 0, Value.int .i64 0, Value.bool false, Value.bool false, Value.int .i64 0, Value.int .i64 0, Value.int .i64 0, Value.int .i64 0] ∧ RowAt wr (B1 + 1) 105 #[Value.int .i64 (rk x k 0), Value.int .i64 (rk x k 1), Value.int .i64 (rk x k 2), Value.int .i64 (rk x k 3), Value.int .i64 (rk x k 4), Value.int .i64 (rk x k 5), Value.int .i64 (rk x k 6), Value.int .i64 (rk x k 7), Value.int .i64 (rk x k 8)] ∧ Below w.heap.size w wr)
    (fun i _ => 9 - (intOf i).toNat)
  case atStart => exact ⟨0, by omega, rfl, r1, r2, hB2⟩
  case round =>
    obtain ⟨k, hk, rfl, q1, q2, hB⟩ := hrel
    by_cases hlt : k < 9
    · have i0 := place_at hlt
      obtain ⟨h0, h1, h2, h3, h4⟩ := place_ok hlt
      have l1 := q1.lt
      have l2 := q2.lt
      have q3 := RowAt.new wr 109 #[.int .i64 (pa k), .int .i64 (pb k), .int .i64 (pc k)]
      have q4 := q1.alloc (.cells #[.int .i64 (pa k), .int .i64 (pb k), .int .i64 (pc k)] 109)
      have q5 := q2.alloc (.cells #[.int .i64 (pa k), .int .i64 (pb k), .int .i64 (pc k)] 109)
      have hB3 := hB.alloc hB.size (.cells #[.int .i64 (pa k), .int .i64 (pb k), .int .i64 (pc k)] 109)
      go_wp2_with fail
      refine (get_any x _ _ _ h0 h1 h2 hx1 hx2).mono ?_
      rintro e w5 ⟨rfl, hb⟩
      have q6 := q4.below hb q4.lt
      have q7 := q5.below hb q5.lt
      have hB4 := hB3.trans (hb.mono hB3.size)
      clear hB3 q3 q4 q5 hb
      have c1 := q7.cell k (rk_at x k hlt)
      have c2 := q7.frozen k
      have c3 := q7.lt
      have Hq := Lib.hid (q7.put k (.int .i64 (rd x k)))
      have Hr := Lib.hid (q6.putOther ⟨B1 + 1, k, none⟩ (by simp) (.int .i64 (rd x k)))
      go_wp2
      go_roundw
      case rel => exact ⟨k + 1, by omega, by go_num, Hr.out, by have := Hq.out; rwa [rk_put x hlt] at this, hB4.setCell (by rw [E1.out]; simp) _⟩
      case measure => simp [intOf]; omega
    · obtain rfl : k = 9 := by omega
      have c0 := q2.cell 0 rfl
      have c1 := q2.cell 1 rfl
      have c2 := q2.cell 2 rfl
      have c3 := q2.cell 3 rfl
      have c4 := q2.cell 4 rfl
      have c5 := q2.cell 5 rfl
      have c6 := q2.cell 6 rfl
      have c7 := q2.cell 7 rfl
      have c8 := q2.cell 8 rfl
      have l2 := q2.lt
      simp only [List.getElem_toArray, List.getElem_cons_zero, List.getElem_cons_succ] at c0 c1 c2 c3 c4 c5 c6 c7 c8
      have hB5 : Below w.heap.size w (wr.setRow B1 #[Value.int .i64 (rk x 9 0), Value.int .i64 (rk x 9 1), Value.int .i64 (rk x 9 2), Value.bool (rk x 9 3 == 1), Value.bool (rk x 9 4 == 1), Value.int .i64 (rk x 9 5), Value.int .i64 (rk x 9 6), Value.int .i64 (rk x 9 7), Value.int .i64 (rk x 9 8)]) := below_setRow hB (by rw [E1.out]; omega) _
      have q8 := q1.set #[Value.int .i64 (rk x 9 0), Value.int .i64 (rk x 9 1), Value.int .i64 (rk x 9 2), Value.bool (rk x 9 3 == 1), Value.bool (rk x 9 4 == 1), Value.int .i64 (rk x 9 5), Value.int .i64 (rk x 9 6), Value.int .i64 (rk x 9 7), Value.int .i64 (rk x 9 8)]
      go_wp2_with (refine wpList_store_row rfl 23 _ _ rfl B1 #[Value.int .i64 (rk x 9 0), Value.int .i64 (rk x 9 1), Value.int .i64 (rk x 9 2), Value.bool (rk x 9 3 == 1), Value.bool (rk x 9 4 == 1), Value.int .i64 (rk x 9 5), Value.int .i64 (rk x 9 6), Value.int .i64 (rk x 9 7), Value.int .i64 (rk x 9 8)] rfl rfl 23 _ q1 (by kernel_rfl) rfl (by simp [Value.oneCell']) ?_)
      refine bodyPost_ret (results_cell_row (p := 2) (ty := 23) rfl _ _ B1 23 _ (0, 0) _ rfl q8 Tryd.underlying23 rfl (by kernel_rfl)) rfl ⟨rfl, hB5⟩
end Go.Proofs.YtbkcniknbpgphaaDoor
