/- An entry's bytes; nothing that was there changes. -/
import Derived.Test.YtbkaiffecnomjaaPut
namespace Go.Proofs.Ytbkaiffecnomjaa
open Go.RowKit
attribute [local go_sem ↓] Go.wp_at_zero Go.wp_at_succ

theorem bI_le (b : Bool) {m : Int} (h : 0 ≤ m) : 0 ≤ bI b m ∧ bI b m ≤ m := by
  unfold bI
  split <;> omega
theorem sumE_bI (x : En) : sumE x = 0 + bI x.wa 1 + bI x.fo 2 + bI x.gd 4 := by rw [Int.zero_add]; rfl
set_option maxRecDepth 100000 in
set_option maxHeartbeats 2000000 in
theorem write_any (x : En) (w : World) :
    Calls Try.prog 17 #[Value.agg #[Value.int .i64 x.k, Value.int .i64 x.w, Value.int .i64 x.op, Value.int .i64 x.dl, Value.bool x.wa, Value.bool x.fo, Value.int .i64 x.sl, Value.int .i64 x.ge, Value.int .i64 x.st, Value.int .i64 x.n, Value.bool x.gd]] w fun e w' => e = .returned (Value.agg #[Value.int .u8 ((wrE x)).b0, Value.int .u8 ((wrE x)).b1, Value.int .u8 ((wrE x)).b2, Value.int .u8 ((wrE x)).b3, Value.int .u8 ((wrE x)).b4, Value.int .u8 ((wrE x)).b5, Value.int .u8 ((wrE x)).b6, Value.int .u8 ((wrE x)).b7, Value.int .u8 ((wrE x)).b8, Value.int .u8 ((wrE x)).b9, Value.int .u8 ((wrE x)).b10, Value.int .u8 ((wrE x)).b11]) ∧ Below w.heap.size w w' := by
  have s0 := sumE_bI x
  have s1 := bI_le x.wa (m := 1) (by omega)
  have s2 := bI_le x.fo (m := 2) (by omega)
  have s3 := bI_le x.gd (m := 4) (by omega)
  have Hs := Lib.hid (And.intro s0 (And.intro s1 (And.intro s2 s3)))
  clear s0 s1 s2 s3
  go_enter Try.func17, Try.ntmps17
  go_wp2_with fail
  have hB : Below w.heap.size w (((w.alloc (.cells #[Value.int .i64 x.k, Value.int .i64 x.w, Value.int .i64 x.op, Value.int .i64 x.dl, Value.bool x.wa, Value.bool x.fo, Value.int .i64 x.sl, Value.int .i64 x.ge, Value.int .i64 x.st, Value.int .i64 x.n, Value.bool x.gd] 32)).alloc (.cells #[vB 0, vB 0, vB 0, vB 0, vB 0, vB 0, vB 0, vB 0, vB 0, vB 0, vB 0, vB 0] 43)).alloc (.cells #[vB (x.k % 256), vB (x.w % 256), vB (x.op % 256), vB 0, vB (x.sl % 256), vB (x.st % 256), vB 0, vB 0, vB 0, vB 0, vB 0, vB 0] 43)) := bstep (bstep (bnew _ _) (bnew _ _)) (bnew _ _)
  have r1 := ((RowAt.new w 32 #[Value.int .i64 x.k, Value.int .i64 x.w, Value.int .i64 x.op, Value.int .i64 x.dl, Value.bool x.wa, Value.bool x.fo, Value.int .i64 x.sl, Value.int .i64 x.ge, Value.int .i64 x.st, Value.int .i64 x.n, Value.bool x.gd]).alloc (.cells #[vB 0, vB 0, vB 0, vB 0, vB 0, vB 0, vB 0, vB 0, vB 0, vB 0, vB 0, vB 0] 43)).alloc (.cells #[vB (x.k % 256), vB (x.w % 256), vB (x.op % 256), vB 0, vB (x.sl % 256), vB (x.st % 256), vB 0, vB 0, vB 0, vB 0, vB 0, vB 0] 43)
  have r2 := (RowAt.new (w.alloc (.cells #[Value.int .i64 x.k, Value.int .i64 x.w, Value.int .i64 x.op, Value.int .i64 x.dl, Value.bool x.wa, Value.bool x.fo, Value.int .i64 x.sl, Value.int .i64 x.ge, Value.int .i64 x.st, Value.int .i64 x.n, Value.bool x.gd] 32)) 43 #[vB 0, vB 0, vB 0, vB 0, vB 0, vB 0, vB 0, vB 0, vB 0, vB 0, vB 0, vB 0]).alloc (.cells #[vB (x.k % 256), vB (x.w % 256), vB (x.op % 256), vB 0, vB (x.sl % 256), vB (x.st % 256), vB 0, vB 0, vB 0, vB 0, vB 0, vB 0] 43)
  have r3 := RowAt.new ((w.alloc (.cells #[Value.int .i64 x.k, Value.int .i64 x.w, Value.int .i64 x.op, Value.int .i64 x.dl, Value.bool x.wa, Value.bool x.fo, Value.int .i64 x.sl, Value.int .i64 x.ge, Value.int .i64 x.st, Value.int .i64 x.n, Value.bool x.gd] 32)).alloc (.cells #[vB 0, vB 0, vB 0, vB 0, vB 0, vB 0, vB 0, vB 0, vB 0, vB 0, vB 0, vB 0] 43)) 43 #[vB (x.k % 256), vB (x.w % 256), vB (x.op % 256), vB 0, vB (x.sl % 256), vB (x.st % 256), vB 0, vB 0, vB 0, vB 0, vB 0, vB 0]
  simp only [World.size_alloc] at r2 r3
  obtain ⟨W, hW⟩ : ∃ W, W = ((w.alloc (.cells #[Value.int .i64 x.k, Value.int .i64 x.w, Value.int .i64 x.op, Value.int .i64 x.dl, Value.bool x.wa, Value.bool x.fo, Value.int .i64 x.sl, Value.int .i64 x.ge, Value.int .i64 x.st, Value.int .i64 x.n, Value.bool x.gd] 32)).alloc (.cells #[vB 0, vB 0, vB 0, vB 0, vB 0, vB 0, vB 0, vB 0, vB 0, vB 0, vB 0, vB 0] 43)).alloc (.cells #[vB (x.k % 256), vB (x.w % 256), vB (x.op % 256), vB 0, vB (x.sl % 256), vB (x.st % 256), vB 0, vB 0, vB 0, vB 0, vB 0, vB 0] 43) := ⟨_, rfl⟩
  obtain ⟨B1, e1⟩ : ∃ B1, B1 = w.heap.size := ⟨_, rfl⟩
  obtain ⟨B3, e3⟩ : ∃ B3, B3 = B1 + 1 + 1 := ⟨_, rfl⟩
  obtain ⟨B2, e2⟩ : ∃ B2, B2 = B1 + 1 := ⟨_, rfl⟩
  rw [← hW] at r1 r2 r3 hB ⊢
  rw [← e1] at r1 r2 r3 ⊢
  rw [← e3] at r3 ⊢
  rw [← e2] at r2 ⊢
  obtain ⟨p0, hp0, r3⟩ : ∃ p0 : Pc, p0 = ⟨x.k % 256, x.w % 256, x.op % 256, 0, x.sl % 256, x.st % 256, 0, 0, 0, 0, 0, 0⟩ ∧ RowAt W B3 43 #[Value.int .u8 p0.b0, Value.int .u8 p0.b1, Value.int .u8 p0.b2, Value.int .u8 p0.b3, Value.int .u8 p0.b4, Value.int .u8 p0.b5, Value.int .u8 p0.b6, Value.int .u8 p0.b7, Value.int .u8 p0.b8, Value.int .u8 p0.b9, Value.int .u8 p0.b10, Value.int .u8 p0.b11] := ⟨_, rfl, r3⟩
  have l12 : B1 < B3 := by omega
  have l23 : B2 < B3 := by omega
  have l03 : w.heap.size ≤ B3 := by omega
  have l02 : w.heap.size ≤ B2 := by omega
  clear hW e1 e2 e3
  have P0 := Lib.hid hp0
  have z0 : Hid (0 ≤ p0.b3 ∧ p0.b3 ≤ 0) := Lib.hid (by rw [hp0]; exact ⟨Int.le_refl _, Int.le_refl _⟩)
  clear hp0
  refine (sum_any 1 x.wa _ p0 _ r3 (by have := z0.out; omega) (by omega) (by have := z0.out; omega)).mono ?_
  rintro e w1 ⟨rfl, hr, hb⟩
  obtain ⟨p1, hp, r4⟩ : ∃ p : Pc, p = { p0 with b3 := p0.b3 + bI x.wa 1 } ∧ RowAt w1 B3 43 #[Value.int .u8 p.b0, Value.int .u8 p.b1, Value.int .u8 p.b2, Value.int .u8 p.b3, Value.int .u8 p.b4, Value.int .u8 p.b5, Value.int .u8 p.b6, Value.int .u8 p.b7, Value.int .u8 p.b8, Value.int .u8 p.b9, Value.int .u8 p.b10, Value.int .u8 p.b11] := ⟨_, rfl, hr⟩
  have P1 := Lib.hid hp
  have z1 : Hid (0 ≤ p1.b3 ∧ p1.b3 ≤ 1) := Lib.hid (by rw [hp]; have := z0.out; have := Hs.out; exact ⟨by dsimp only; omega, by dsimp only; omega⟩)
  clear hp hr
  replace r3 := r4
  clear r4
  replace r1 := r1.below hb l12
  replace r2 := r2.below hb l23
  replace hB := hB.trans (hb.mono l03)
  clear hb
  have k : w1.cell? ⟨B1, 5, none⟩ = some (.bool x.fo) := r1.cell 5 rfl
  go_wp2_with fail
  clear k
  refine (sum_any 2 x.fo _ p1 _ r3 (by have := z1.out; omega) (by omega) (by have := z1.out; omega)).mono ?_
  rintro e w2 ⟨rfl, hr, hb⟩
  obtain ⟨p2, hp, r4⟩ : ∃ p : Pc, p = { p1 with b3 := p1.b3 + bI x.fo 2 } ∧ RowAt w2 B3 43 #[Value.int .u8 p.b0, Value.int .u8 p.b1, Value.int .u8 p.b2, Value.int .u8 p.b3, Value.int .u8 p.b4, Value.int .u8 p.b5, Value.int .u8 p.b6, Value.int .u8 p.b7, Value.int .u8 p.b8, Value.int .u8 p.b9, Value.int .u8 p.b10, Value.int .u8 p.b11] := ⟨_, rfl, hr⟩
  have P2 := Lib.hid hp
  have z2 : Hid (0 ≤ p2.b3 ∧ p2.b3 ≤ 3) := Lib.hid (by rw [hp]; have := z1.out; have := Hs.out; exact ⟨by dsimp only; omega, by dsimp only; omega⟩)
  clear hp hr
  replace r3 := r4
  clear r4
  replace r1 := r1.below hb l12
  replace r2 := r2.below hb l23
  replace hB := hB.trans (hb.mono l03)
  clear hb
  have k : w2.cell? ⟨B1, 10, none⟩ = some (.bool x.gd) := r1.cell 10 rfl
  go_wp2_with fail
  clear k
  refine (sum_any 4 x.gd _ p2 _ r3 (by have := z2.out; omega) (by omega) (by have := z2.out; omega)).mono ?_
  rintro e w3 ⟨rfl, hr, hb⟩
  obtain ⟨p3, hp, r4⟩ : ∃ p : Pc, p = { p2 with b3 := p2.b3 + bI x.gd 4 } ∧ RowAt w3 B3 43 #[Value.int .u8 p.b0, Value.int .u8 p.b1, Value.int .u8 p.b2, Value.int .u8 p.b3, Value.int .u8 p.b4, Value.int .u8 p.b5, Value.int .u8 p.b6, Value.int .u8 p.b7, Value.int .u8 p.b8, Value.int .u8 p.b9, Value.int .u8 p.b10, Value.int .u8 p.b11] := ⟨_, rfl, hr⟩
  have P3 := Lib.hid hp
  clear hp hr
  replace r3 := r4
  clear r4
  replace r1 := r1.below hb l12
  replace r2 := r2.below hb l23
  replace hB := hB.trans (hb.mono l03)
  clear hb
  have k : w3.cell? ⟨B1, 7, none⟩ = some (vI x.ge) := r1.cell 7 rfl
  go_wp2_with fail
  clear k
  refine (put_6 x.ge _ p3 _ r3).mono ?_
  rintro e w4 ⟨rfl, hr, hb⟩
  obtain ⟨p4, hp, r4⟩ : ∃ p : Pc, p = { p3 with b6 := x.ge % 256, b7 := x.ge / 256 % 256 } ∧ RowAt w4 B3 43 #[Value.int .u8 p.b0, Value.int .u8 p.b1, Value.int .u8 p.b2, Value.int .u8 p.b3, Value.int .u8 p.b4, Value.int .u8 p.b5, Value.int .u8 p.b6, Value.int .u8 p.b7, Value.int .u8 p.b8, Value.int .u8 p.b9, Value.int .u8 p.b10, Value.int .u8 p.b11] := ⟨_, rfl, hr⟩
  have P4 := Lib.hid hp
  clear hp hr
  replace r3 := r4
  clear r4
  replace r1 := r1.below hb l12
  replace r2 := r2.below hb l23
  replace hB := hB.trans (hb.mono l03)
  clear hb
  have k : w4.cell? ⟨B1, 3, none⟩ = some (vI x.dl) := r1.cell 3 rfl
  go_wp2_with fail
  clear k
  refine (put_8 x.dl _ p4 _ r3).mono ?_
  rintro e w5 ⟨rfl, hr, hb⟩
  obtain ⟨p5, hp, r4⟩ : ∃ p : Pc, p = { p4 with b8 := x.dl % 256, b9 := x.dl / 256 % 256 } ∧ RowAt w5 B3 43 #[Value.int .u8 p.b0, Value.int .u8 p.b1, Value.int .u8 p.b2, Value.int .u8 p.b3, Value.int .u8 p.b4, Value.int .u8 p.b5, Value.int .u8 p.b6, Value.int .u8 p.b7, Value.int .u8 p.b8, Value.int .u8 p.b9, Value.int .u8 p.b10, Value.int .u8 p.b11] := ⟨_, rfl, hr⟩
  have P5 := Lib.hid hp
  clear hp hr
  replace r3 := r4
  clear r4
  replace r1 := r1.below hb l12
  replace r2 := r2.below hb l23
  replace hB := hB.trans (hb.mono l03)
  clear hb
  have k : w5.cell? ⟨B1, 9, none⟩ = some (vI x.n) := r1.cell 9 rfl
  go_wp2_with fail
  clear k
  refine (put_10 x.n _ p5 _ r3).mono ?_
  rintro e w6 ⟨rfl, hr, hb⟩
  obtain ⟨p6, hp, r4⟩ : ∃ p : Pc, p = { p5 with b10 := x.n % 256, b11 := x.n / 256 % 256 } ∧ RowAt w6 B3 43 #[Value.int .u8 p.b0, Value.int .u8 p.b1, Value.int .u8 p.b2, Value.int .u8 p.b3, Value.int .u8 p.b4, Value.int .u8 p.b5, Value.int .u8 p.b6, Value.int .u8 p.b7, Value.int .u8 p.b8, Value.int .u8 p.b9, Value.int .u8 p.b10, Value.int .u8 p.b11] := ⟨_, rfl, hr⟩
  have P6 := Lib.hid hp
  clear hp hr
  replace r3 := r4
  clear r4
  replace r1 := r1.below hb l12
  replace r2 := r2.below hb l23
  replace hB := hB.trans (hb.mono l03)
  clear hb
  have hq : p6 = wrE x := by
    have h6 := P6.out
    rw [P5.out, P4.out, P3.out, P2.out, P1.out, P0.out] at h6
    rw [h6]
    refine Pc.ext' ?_ ?_ ?_ ?_ ?_ ?_ ?_ ?_ ?_ ?_ ?_ ?_
    all_goals simp only [wrE]
    exact Hs.out.1.symm
  have Hq := Lib.hid hq
  clear hq
  go_wp2_with (first | (refine wpList_load_row rfl 43 _ rfl _ rfl 43 _ (0, 0) _ r3 Try.underlying43 rfl (by kernel_rfl) ?_) | (refine wpList_store_row rfl 43 _ _ rfl _ _ rfl rfl 43 _ r2 (by kernel_rfl) rfl (by simp [Value.oneCell']) ?_))
  rw [← Hq.out]
  refine bodyPost_ret (results_cell_row (p := 2) (ty := 43) rfl _ _ B2 43 _ (0, 0) _ rfl (r2.set #[Value.int .u8 p6.b0, Value.int .u8 p6.b1, Value.int .u8 p6.b2, Value.int .u8 p6.b3, Value.int .u8 p6.b4, Value.int .u8 p6.b5, Value.int .u8 p6.b6, Value.int .u8 p6.b7, Value.int .u8 p6.b8, Value.int .u8 p6.b9, Value.int .u8 p6.b10, Value.int .u8 p6.b11]) Try.underlying43 rfl (by kernel_rfl)) rfl ⟨rfl, below_setRow hB l02 _⟩
end Go.Proofs.Ytbkaiffecnomjaa
