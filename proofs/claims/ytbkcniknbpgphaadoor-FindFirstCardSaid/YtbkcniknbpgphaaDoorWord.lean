/- The word of a slot, right or not; nothing that was there changes. -/
import Derived.Test.YtbkcniknbpgphaaDoorNums
namespace Go.Proofs.YtbkcniknbpgphaaDoor
open Go.RowKit
attribute [local go_sem ↓] Go.wp_at_zero Go.wp_at_succ

/-- the table of the places lies in the first variable -/
def Tab (W : World) : Prop := ∃ t fr, W.heap[0]? = some (.cells #[Value.int .i64 0, Value.int .i64 3, Value.int .i64 127, Value.int .i64 3, Value.int .i64 4, Value.int .i64 62, Value.int .i64 7, Value.int .i64 8, Value.int .i64 8, Value.int .i64 15, Value.int .i64 1, Value.int .i64 28, Value.int .i64 16, Value.int .i64 1, Value.int .i64 4, Value.int .i64 17, Value.int .i64 6, Value.int .i64 28, Value.int .i64 23, Value.int .i64 12, Value.int .i64 127, Value.int .i64 35, Value.int .i64 12, Value.int .i64 64, Value.int .i64 47, Value.int .i64 15, Value.int .i64 127] t fr)
theorem Tab.lt {W : World} (h : Tab W) : 0 < W.heap.size := by
  obtain ⟨t, fr, h⟩ := h
  exact (Array.getElem?_eq_some_iff.1 h).1
theorem Tab.drew {W : World} (h : Tab W) : Tab W.drew := h
theorem Tab.below {W W1 : World} {n : Nat} (h : Tab W) (hB : Below n W W1) (hn : 0 < n) : Tab W1 := by
  obtain ⟨t, fr, h⟩ := h
  exact ⟨t, fr, (hB.block 0 hn).trans h⟩

/-- the k-th place: from which bit on, how many, in which states; the slot's k-th number -/
def pa (k : Nat) : Int := ([0, 3, 7, 15, 16, 17, 23, 35, 47] : List Int).getD k 0
def pb (k : Nat) : Int := ([3, 4, 8, 1, 1, 6, 12, 12, 15] : List Int).getD k 0
def pc (k : Nat) : Int := ([127, 62, 8, 28, 4, 28, 127, 64, 127] : List Int).getD k 0
def nm (s : Sl) (k : Nat) : Int := [s.st, s.ow, s.sr, b2i s.br, b2i s.ma, s.us, s.ge, s.ep, s.ve].getD k 0
def hasB (c st : Int) : Bool := bits .and .i64 (c / 2 ^ min (IntKind.u64.wrap st).toNat 64) 1 == 1
def wk (s : Sl) : Nat → Int
  | 0 => 0
  | k + 1 => if hasB (pc k) s.st = true then putI (wk s k) (pa k) (pb k) (nm s k) else wk s k
theorem wk_has {s : Sl} {k : Nat} (h : hasB (pc k) s.st = true) : wk s (k + 1) = putI (wk s k) (pa k) (pb k) (nm s k) := by simp [wk, h]
theorem wk_not {s : Sl} {k : Nat} (h : hasB (pc k) s.st = false) : wk s (k + 1) = wk s k := by simp [wk, h]
theorem nine {k : Nat} (h : k < 9) : k = 0 ∨ k = 1 ∨ k = 2 ∨ k = 3 ∨ k = 4 ∨ k = 5 ∨ k = 6 ∨ k = 7 ∨ k = 8 := by omega
theorem place_ok {k : Nat} (h : k < 9) : 0 ≤ pa k ∧ 1 ≤ pb k ∧ pa k + pb k ≤ 62 ∧ 0 ≤ pc k ∧ pc k ≤ 127 := by
  rcases nine h with rfl | rfl | rfl | rfl | rfl | rfl | rfl | rfl | rfl <;> decide
theorem place_at {k : Nat} (h : k < 9) (w : World) : (Instr.index 110 (.agg #[Value.int .i64 0, Value.int .i64 3, Value.int .i64 127, Value.int .i64 3, Value.int .i64 4, Value.int .i64 62, Value.int .i64 7, Value.int .i64 8, Value.int .i64 8, Value.int .i64 15, Value.int .i64 1, Value.int .i64 28, Value.int .i64 16, Value.int .i64 1, Value.int .i64 4, Value.int .i64 17, Value.int .i64 6, Value.int .i64 28, Value.int .i64 23, Value.int .i64 12, Value.int .i64 127, Value.int .i64 35, Value.int .i64 12, Value.int .i64 64, Value.int .i64 47, Value.int .i64 15, Value.int .i64 127]) (.int .i64 k)).run Tryd.prog w = .ok (.agg #[.int .i64 (pa k), .int .i64 (pb k), .int .i64 (pc k)]) w := by
  rcases nine h with rfl | rfl | rfl | rfl | rfl | rfl | rfl | rfl | rfl <;> kernel_rfl
theorem nm_at (s : Sl) {k : Nat} (h : k < 9) : #[Value.int .i64 s.st, Value.int .i64 s.ow, Value.int .i64 s.sr, Value.int .i64 (b2i s.br), Value.int .i64 (b2i s.ma), Value.int .i64 s.us, Value.int .i64 s.ge, Value.int .i64 s.ep, Value.int .i64 s.ve][k]? = some (Value.int .i64 (nm s k)) := by
  rcases nine h with rfl | rfl | rfl | rfl | rfl | rfl | rfl | rfl | rfl <;> rfl

set_option maxRecDepth 100000 in
set_option maxHeartbeats 800000 in
theorem word_any (s : Sl) (w : World) (hT : Tab w) :
    Calls Tryd.prog 75 #[Value.agg #[Value.int .i64 s.st, Value.int .i64 s.ow, Value.int .i64 s.sr, Value.bool s.br, Value.bool s.ma, Value.int .i64 s.us, Value.int .i64 s.ge, Value.int .i64 s.ep, Value.int .i64 s.ve]] w fun e w' => e = .returned (.int .i64 (wk s 9)) ∧ Below w.heap.size w w' := by
  go_enter Tryd.func75, Tryd.ntmps75
  go_wp2_with fail
  have hT1 := hT.below ((Below.refl _ _).alloc (Nat.le_refl _) (.cells #[Value.int .i64 s.st, Value.int .i64 s.ow, Value.int .i64 s.sr, Value.bool s.br, Value.bool s.ma, Value.int .i64 s.us, Value.int .i64 s.ge, Value.int .i64 s.ep, Value.int .i64 s.ve] 23)) hT.lt
  have hB1 : Below w.heap.size w (w.alloc (.cells #[Value.int .i64 s.st, Value.int .i64 s.ow, Value.int .i64 s.sr, Value.bool s.br, Value.bool s.ma, Value.int .i64 s.us, Value.int .i64 s.ge, Value.int .i64 s.ep, Value.int .i64 s.ve] 23)) := (Below.refl _ _).alloc (Nat.le_refl _) _
  have r1 := RowAt.new w 23 #[Value.int .i64 s.st, Value.int .i64 s.ow, Value.int .i64 s.sr, Value.bool s.br, Value.bool s.ma, Value.int .i64 s.us, Value.int .i64 s.ge, Value.int .i64 s.ep, Value.int .i64 s.ve]
  refine (numbers_any s _).mono ?_
  rintro e W ⟨rfl, hb⟩
  replace r1 := r1.below hb r1.lt
  replace hT1 := hT1.below hb hT1.lt
  replace hB1 := hB1.trans (hb.mono (by simp))
  clear hb
  have hW := r1.lt
  have r2 := RowAt.new W 105 #[Value.int .i64 s.st, Value.int .i64 s.ow, Value.int .i64 s.sr, Value.int .i64 (b2i s.br), Value.int .i64 (b2i s.ma), Value.int .i64 s.us, Value.int .i64 s.ge, Value.int .i64 s.ep, Value.int .i64 s.ve]
  replace r1 := r1.alloc (.cells #[Value.int .i64 s.st, Value.int .i64 s.ow, Value.int .i64 s.sr, Value.int .i64 (b2i s.br), Value.int .i64 (b2i s.ma), Value.int .i64 s.us, Value.int .i64 s.ge, Value.int .i64 s.ep, Value.int .i64 s.ve] 105)
  have hB2 : Below w.heap.size w (W.alloc (.cells #[Value.int .i64 s.st, Value.int .i64 s.ow, Value.int .i64 s.sr, Value.int .i64 (b2i s.br), Value.int .i64 (b2i s.ma), Value.int .i64 s.us, Value.int .i64 s.ge, Value.int .i64 s.ep, Value.int .i64 s.ve] 105)) := hB1.alloc hB1.size _
  obtain ⟨tt, fr, hg⟩ := hT1.below ((Below.refl _ _).alloc (Nat.le_refl _) (.cells #[Value.int .i64 s.st, Value.int .i64 s.ow, Value.int .i64 s.sr, Value.int .i64 (b2i s.br), Value.int .i64 (b2i s.ma), Value.int .i64 s.us, Value.int .i64 s.ge, Value.int .i64 s.ep, Value.int .i64 s.ve] 105)) hT1.lt
  have hG := Lib.hid hg
  clear hg hB1
  go_wp2_with (refine wpList_load_row rfl 110 _ rfl 0 rfl tt _ fr _ hG.out Tryd.underlying110 rfl (by kernel_rfl) ?_)
  clear hG hT1 hT
  obtain ⟨B1, e1⟩ : ∃ B1, B1 = w.heap.size := ⟨_, rfl⟩
  obtain ⟨B2, e2⟩ : ∃ B2, B2 = W.heap.size := ⟨_, rfl⟩
  rw [← e1] at r1 hW ⊢
  rw [← e2] at r2 hW ⊢
  obtain ⟨W2, e3⟩ : ∃ W2, W2 = W.alloc (.cells #[Value.int .i64 s.st, Value.int .i64 s.ow, Value.int .i64 s.sr, Value.int .i64 (b2i s.br), Value.int .i64 (b2i s.ma), Value.int .i64 s.us, Value.int .i64 s.ge, Value.int .i64 s.ep, Value.int .i64 s.ve] 105) := ⟨_, rfl⟩
  rw [← e3] at r1 r2 hB2 ⊢
  clear e3 e2 
  have E1 := Lib.hid e1
  clear e1
  go_loopw [3, 10] (fun v i wr => ∃ k : Nat, k ≤ 9 ∧ i = .int .i64 k ∧ v = .int .i64 (wk s k) ∧ RowAt wr B1 23 #[Value.int .i64 s.st, Value.int .i64 s.ow, Value.int .i64 s.sr, Value.bool s.br, Value.bool s.ma, Value.int .i64 s.us, Value.int .i64 s.ge, Value.int .i64 s.ep, Value.int .i64 s.ve] ∧ RowAt wr B2 105 #[Value.int .i64 s.st, Value.int .i64 s.ow, Value.int .i64 s.sr, Value.int .i64 (b2i s.br), Value.int .i64 (b2i s.ma), Value.int .i64 s.us, Value.int .i64 s.ge, Value.int .i64 s.ep, Value.int .i64 s.ve] ∧ Below w.heap.size w wr)
    (fun _ i _ => 9 - (intOf i).toNat)
  case atStart => exact ⟨0, by omega, rfl, rfl, r1, r2, hB2⟩
  case round =>
    obtain ⟨k, hk, rfl, rfl, q1, q2, hB⟩ := hrel
    by_cases hlt : k < 9
    · have i0 := place_at hlt
      have c1 := q1.cell 0 rfl
      have c2 := q2.cell k (nm_at s hlt)
      obtain ⟨h0, h1, h2, h3, h4⟩ := place_ok hlt
      have l1 := q1.lt
      have l2 := q2.lt
      cases hh : hasB (pc k) s.st with
      | false =>
        have Hw := Lib.hid (wk_not hh)
        unfold hasB at hh
        go_wp2
        go_roundw
        case rel => exact ⟨k + 1, by omega, by go_num, by rw [Hw.out], q1.alloc _, q2.alloc _, hB.alloc hB.size _⟩
        case measure => simp [intOf]; omega
      | true =>
        have Hw := Lib.hid (wk_has hh)
        unfold hasB at hh
        have q3 := RowAt.new wr 109 #[.int .i64 (pa k), .int .i64 (pb k), .int .i64 (pc k)]
        have q4 := q1.alloc (.cells #[.int .i64 (pa k), .int .i64 (pb k), .int .i64 (pc k)] 109)
        have q5 := q2.alloc (.cells #[.int .i64 (pa k), .int .i64 (pb k), .int .i64 (pc k)] 109)
        have hB3 := hB.alloc hB.size (.cells #[.int .i64 (pa k), .int .i64 (pb k), .int .i64 (pc k)] 109)
        go_wp2_with fail
        obtain ⟨B3, e4⟩ : ∃ B3, B3 = wr.heap.size := ⟨_, rfl⟩
        obtain ⟨W3, e5⟩ : ∃ W3, W3 = wr.alloc (.cells #[.int .i64 (pa k), .int .i64 (pb k), .int .i64 (pc k)] 109) := ⟨_, rfl⟩
        rw [← e4] at q3 ⊢
        rw [← e5] at q3 q4 q5 hB3 ⊢
        clear e4 e5
        have p0 := q3.cell 0 rfl
        have p1 := q3.cell 1 rfl
        have p2 := q5.cell k (nm_at s hlt)
        have p3 := q3.lt
        have p4 := q5.lt
        simp only [List.getElem_toArray, List.getElem_cons_zero, List.getElem_cons_succ] at p0 p1
        go_region_held3 (fun w' => w'.cell? ⟨B3, 0, none⟩ = some (.int .i64 (pa k)) ∧ w'.cell? ⟨B3, 1, none⟩ = some (.int .i64 (pb k)) ∧ w'.cell? ⟨B2, k, none⟩ = some (.int .i64 (nm s k))) (go_keep)
          (first | (go_at_call 79; refine (put_any _ _ _ _ _ h0 h1 h2).mono ?_; rintro e w5 ⟨rfl, hb⟩; obtain ⟨hbc, hbf⟩ := reads_on hb; simp at hbc hbf))
        have q6 := q4.drew.below hb (by simpa using q4.lt)
        have q7 := q5.drew.below hb (by simpa using q5.lt)
        have hB4 := hB3.drew.trans (hb.mono (by simpa using hB3.size))
        go_wp2
        go_roundw
        case rel => exact ⟨k + 1, by omega, by go_num, by rw [Hw.out], q6, q7, hB4⟩
        case measure => simp [intOf]; omega
    · obtain rfl : k = 9 := by omega
      go_wp2
      go_ret
      exact ⟨rfl, E1.out ▸ hB⟩
end Go.Proofs.YtbkcniknbpgphaaDoor
