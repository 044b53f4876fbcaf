/- The law FindKinds, walked. -/
import Derived.Test.YtbkcniknbpgphaaDoorAwk
namespace Go.Proofs.YtbkcniknbpgphaaDoor
open Go.RowKit
attribute [local go_sem ↓] Go.wp_at_zero Go.wp_at_succ

theorem kinds_cls (s : Sl) (o : Int) :
    (fitsB s 0 o = true ∧ fitsB s 1 o = true ∧ fitsB s 2 o = false ∧ fitsB s 3 o = true ∧ fitsB s 5 o = false ∧ fitsB s 6 o = true ∧ fitsB s 4 0 = false ∧ fitsB s 4 1 = true ∧ fitsB s 4 2 = true ∧ (s.st == 3) = false ∧ (s.ow == o) = true) ∨
    (fitsB s 0 o = false ∧ fitsB s 1 o = true ∧ fitsB s 2 o = false ∧ fitsB s 3 o = true ∧ fitsB s 5 o = false ∧ fitsB s 6 o = true ∧ fitsB s 4 0 = false ∧ fitsB s 4 1 = true ∧ fitsB s 4 2 = true ∧ (s.st == 3) = false ∧ (s.ow == o) = false) ∨
    (fitsB s 0 o = false ∧ fitsB s 1 o = false ∧ fitsB s 2 o = false ∧ fitsB s 3 o = false ∧ fitsB s 5 o = false ∧ fitsB s 6 o = true ∧ fitsB s 4 0 = true ∧ fitsB s 4 1 = true ∧ fitsB s 4 2 = true ∧ (s.st == 3) = false) ∨
    (fitsB s 0 o = false ∧ fitsB s 1 o = false ∧ fitsB s 2 o = true ∧ fitsB s 3 o = true ∧ fitsB s 5 o = false ∧ fitsB s 6 o = false ∧ fitsB s 4 0 = false ∧ fitsB s 4 1 = false ∧ fitsB s 4 2 = false ∧ (s.st == 3) = false) ∨
    (fitsB s 0 o = false ∧ fitsB s 1 o = false ∧ fitsB s 2 o = false ∧ fitsB s 3 o = false ∧ fitsB s 6 o = false ∧ fitsB s 4 0 = false ∧ fitsB s 4 1 = false ∧ fitsB s 4 2 = true ∧ (s.st == 3) = true) ∨
    (fitsB s 0 o = false ∧ fitsB s 1 o = false ∧ fitsB s 2 o = false ∧ fitsB s 3 o = false ∧ fitsB s 6 o = false ∧ fitsB s 4 0 = false ∧ fitsB s 4 1 = false ∧ fitsB s 4 2 = false ∧ (s.st == 3) = false) := by
  obtain ⟨st, ow, sr, br, ma, us, ge, ep, ve⟩ := s
  simp only [fits_0, fits_1, fits_2, fits_3, fits_4, fits_5, fits_6]
  by_cases h2 : st = 2
  · subst h2
    cases br <;> cases h : (ow == o) <;> simp
  · have e2 : (st == 2) = false := by simpa using h2
    by_cases h0 : st = 0
    · subst h0
      simp
    · have e0 : (st == 0) = false := by simpa using h0
      by_cases h3 : st = 3
      · subst h3
        simp
      · have e3 : (st == 3) = false := by simpa using h3
        simp [e2, e0, e3, h2]
set_option maxRecDepth 100000 in
set_option maxHeartbeats 2000000 in
theorem lkinds_a (s : Sl) (o : Int) (w : World) (hT : Tab w) (h0 : fitsB s 0 o = true) (h1 : fitsB s 1 o = true) (h2 : fitsB s 2 o = false) (h3 : fitsB s 3 o = true) (h4 : fitsB s 5 o = false) (h5 : fitsB s 6 o = true) (h6 : fitsB s 4 0 = false) (h7 : fitsB s 4 1 = true) (h8 : fitsB s 4 2 = true) (_h9 : (s.st == 3) = false) (_h10 : (s.ow == o) = true) : Calls Tryd.prog 7 #[Value.agg #[Value.int .i64 s.st, Value.int .i64 s.ow, Value.int .i64 s.sr, Value.bool s.br, Value.bool s.ma, Value.int .i64 s.us, Value.int .i64 s.ge, Value.int .i64 s.ep, Value.int .i64 s.ve], .int .i64 o] w fun e w' => e = .returned (.bool true) ∧ Below w.heap.size w w' := by
  have hB := bnew w (.cells #[Value.int .i64 s.st, Value.int .i64 s.ow, Value.int .i64 s.sr, Value.bool s.br, Value.bool s.ma, Value.int .i64 s.us, Value.int .i64 s.ge, Value.int .i64 s.ep, Value.int .i64 s.ve] 23)
  have r0 := RowAt.new w 23 #[Value.int .i64 s.st, Value.int .i64 s.ow, Value.int .i64 s.sr, Value.bool s.br, Value.bool s.ma, Value.int .i64 s.us, Value.int .i64 s.ge, Value.int .i64 s.ep, Value.int .i64 s.ve]
  have HT := Lib.hid (hT.below hB hT.lt)
  have H0 := Lib.hid h0
  have H1 := Lib.hid h1
  have H2 := Lib.hid h2
  have H3 := Lib.hid h3
  have H4 := Lib.hid h4
  have H5 := Lib.hid h5
  have H6 := Lib.hid h6
  have H7 := Lib.hid h7
  have H8 := Lib.hid h8
  clear hT h0 h1 h2 h3 h4 h5 h6 h7 h8
  go_enter Tryd.func7, Tryd.ntmps7
  go_wp2_with fail
  refine (awake_any _ HT.out).mono ?_
  rintro e w1 ⟨rfl, hb⟩
  replace r0 := r0.below hb r0.lt
  replace hB := hB.trans (hb.mono hB.size)
  clear hb HT
  go_wp2_with (refine wpList_load_row rfl 23 _ rfl _ rfl 23 _ (0, 0) _ r0 Tryd.underlying23 rfl (by kernel_rfl) ?_)
  refine (fits_any s 1 o _).mono ?_
  rw [H1.out]
  rintro e w2 ⟨rfl, hb⟩
  replace r0 := r0.below hb r0.lt
  replace hB := hB.trans (hb.mono hB.size)
  clear hb
  go_wp2_with (refine wpList_load_row rfl 23 _ rfl _ rfl 23 _ (0, 0) _ r0 Tryd.underlying23 rfl (by kernel_rfl) ?_)
  refine (fits_any s 2 o _).mono ?_
  rw [H2.out]
  rintro e w3 ⟨rfl, hb⟩
  replace r0 := r0.below hb r0.lt
  replace hB := hB.trans (hb.mono hB.size)
  clear hb
  go_wp2_with (refine wpList_load_row rfl 23 _ rfl _ rfl 23 _ (0, 0) _ r0 Tryd.underlying23 rfl (by kernel_rfl) ?_)
  refine (fits_any s 6 o _).mono ?_
  rw [H5.out]
  rintro e w4 ⟨rfl, hb⟩
  replace r0 := r0.below hb r0.lt
  replace hB := hB.trans (hb.mono hB.size)
  clear hb
  go_wp2_with (refine wpList_load_row rfl 23 _ rfl _ rfl 23 _ (0, 0) _ r0 Tryd.underlying23 rfl (by kernel_rfl) ?_)
  refine (fits_any s 0 o _).mono ?_
  rw [H0.out]
  rintro e w5 ⟨rfl, hb⟩
  replace r0 := r0.below hb r0.lt
  replace hB := hB.trans (hb.mono hB.size)
  clear hb
  have c0 := r0.cell 0 rfl
  have c1 := r0.cell 1 rfl
  have c2 := r0.cell 2 rfl
  have c3 := r0.cell 3 rfl
  have c4 := r0.cell 4 rfl
  have c5 := r0.cell 5 rfl
  have c6 := r0.cell 6 rfl
  have c7 := r0.cell 7 rfl
  have c8 := r0.cell 8 rfl
  go_wp2_with fail
  refine (fits_any s 3 o _).mono ?_
  rw [H3.out]
  rintro e w6 ⟨rfl, hb⟩
  replace r0 := r0.below hb r0.lt
  replace hB := hB.trans (hb.mono hB.size)
  clear hb
  clear c0 c1 c2 c3 c4 c5 c6 c7 c8
  go_wp2_with (refine wpList_load_row rfl 23 _ rfl _ rfl 23 _ (0, 0) _ r0 Tryd.underlying23 rfl (by kernel_rfl) ?_)
  refine (fits_any s 4 0 _).mono ?_
  rw [H6.out]
  rintro e w8 ⟨rfl, hb⟩
  replace r0 := r0.below hb r0.lt
  replace hB := hB.trans (hb.mono hB.size)
  clear hb
  go_wp2_with (refine wpList_load_row rfl 23 _ rfl _ rfl 23 _ (0, 0) _ r0 Tryd.underlying23 rfl (by kernel_rfl) ?_)
  refine (fits_any s 4 1 _).mono ?_
  rw [H7.out]
  rintro e w9 ⟨rfl, hb⟩
  replace r0 := r0.below hb r0.lt
  replace hB := hB.trans (hb.mono hB.size)
  clear hb
  go_wp2_with (refine wpList_load_row rfl 23 _ rfl _ rfl 23 _ (0, 0) _ r0 Tryd.underlying23 rfl (by kernel_rfl) ?_)
  refine (fits_any s 4 2 _).mono ?_
  rw [H8.out]
  rintro e w10 ⟨rfl, hb⟩
  replace r0 := r0.below hb r0.lt
  replace hB := hB.trans (hb.mono hB.size)
  clear hb
  have c0 := r0.cell 0 rfl
  have c1 := r0.cell 1 rfl
  go_wp2_with fail
  go_ret
  exact ⟨rfl, hB⟩
set_option maxRecDepth 100000 in
set_option maxHeartbeats 2000000 in
theorem lkinds_b (s : Sl) (o : Int) (w : World) (hT : Tab w) (h0 : fitsB s 0 o = false) (h1 : fitsB s 1 o = true) (h2 : fitsB s 2 o = false) (h3 : fitsB s 3 o = true) (h4 : fitsB s 5 o = false) (h5 : fitsB s 6 o = true) (h6 : fitsB s 4 0 = false) (h7 : fitsB s 4 1 = true) (h8 : fitsB s 4 2 = true) (_h9 : (s.st == 3) = false) (_h10 : (s.ow == o) = false) : Calls Tryd.prog 7 #[Value.agg #[Value.int .i64 s.st, Value.int .i64 s.ow, Value.int .i64 s.sr, Value.bool s.br, Value.bool s.ma, Value.int .i64 s.us, Value.int .i64 s.ge, Value.int .i64 s.ep, Value.int .i64 s.ve], .int .i64 o] w fun e w' => e = .returned (.bool true) ∧ Below w.heap.size w w' := by
  have hB := bnew w (.cells #[Value.int .i64 s.st, Value.int .i64 s.ow, Value.int .i64 s.sr, Value.bool s.br, Value.bool s.ma, Value.int .i64 s.us, Value.int .i64 s.ge, Value.int .i64 s.ep, Value.int .i64 s.ve] 23)
  have r0 := RowAt.new w 23 #[Value.int .i64 s.st, Value.int .i64 s.ow, Value.int .i64 s.sr, Value.bool s.br, Value.bool s.ma, Value.int .i64 s.us, Value.int .i64 s.ge, Value.int .i64 s.ep, Value.int .i64 s.ve]
  have HT := Lib.hid (hT.below hB hT.lt)
  have H0 := Lib.hid h0
  have H1 := Lib.hid h1
  have H2 := Lib.hid h2
  have H3 := Lib.hid h3
  have H4 := Lib.hid h4
  have H5 := Lib.hid h5
  have H6 := Lib.hid h6
  have H7 := Lib.hid h7
  have H8 := Lib.hid h8
  clear hT h0 h1 h2 h3 h4 h5 h6 h7 h8
  go_enter Tryd.func7, Tryd.ntmps7
  go_wp2_with fail
  refine (awake_any _ HT.out).mono ?_
  rintro e w1 ⟨rfl, hb⟩
  replace r0 := r0.below hb r0.lt
  replace hB := hB.trans (hb.mono hB.size)
  clear hb HT
  go_wp2_with (refine wpList_load_row rfl 23 _ rfl _ rfl 23 _ (0, 0) _ r0 Tryd.underlying23 rfl (by kernel_rfl) ?_)
  refine (fits_any s 1 o _).mono ?_
  rw [H1.out]
  rintro e w2 ⟨rfl, hb⟩
  replace r0 := r0.below hb r0.lt
  replace hB := hB.trans (hb.mono hB.size)
  clear hb
  go_wp2_with (refine wpList_load_row rfl 23 _ rfl _ rfl 23 _ (0, 0) _ r0 Tryd.underlying23 rfl (by kernel_rfl) ?_)
  refine (fits_any s 2 o _).mono ?_
  rw [H2.out]
  rintro e w3 ⟨rfl, hb⟩
  replace r0 := r0.below hb r0.lt
  replace hB := hB.trans (hb.mono hB.size)
  clear hb
  go_wp2_with (refine wpList_load_row rfl 23 _ rfl _ rfl 23 _ (0, 0) _ r0 Tryd.underlying23 rfl (by kernel_rfl) ?_)
  refine (fits_any s 6 o _).mono ?_
  rw [H5.out]
  rintro e w4 ⟨rfl, hb⟩
  replace r0 := r0.below hb r0.lt
  replace hB := hB.trans (hb.mono hB.size)
  clear hb
  go_wp2_with (refine wpList_load_row rfl 23 _ rfl _ rfl 23 _ (0, 0) _ r0 Tryd.underlying23 rfl (by kernel_rfl) ?_)
  refine (fits_any s 0 o _).mono ?_
  rw [H0.out]
  rintro e w5 ⟨rfl, hb⟩
  replace r0 := r0.below hb r0.lt
  replace hB := hB.trans (hb.mono hB.size)
  clear hb
  have c0 := r0.cell 0 rfl
  have c1 := r0.cell 1 rfl
  have c2 := r0.cell 2 rfl
  have c3 := r0.cell 3 rfl
  have c4 := r0.cell 4 rfl
  have c5 := r0.cell 5 rfl
  have c6 := r0.cell 6 rfl
  have c7 := r0.cell 7 rfl
  have c8 := r0.cell 8 rfl
  go_wp2_with fail
  refine (fits_any s 3 o _).mono ?_
  rw [H3.out]
  rintro e w6 ⟨rfl, hb⟩
  replace r0 := r0.below hb r0.lt
  replace hB := hB.trans (hb.mono hB.size)
  clear hb
  clear c0 c1 c2 c3 c4 c5 c6 c7 c8
  go_wp2_with (refine wpList_load_row rfl 23 _ rfl _ rfl 23 _ (0, 0) _ r0 Tryd.underlying23 rfl (by kernel_rfl) ?_)
  refine (fits_any s 4 0 _).mono ?_
  rw [H6.out]
  rintro e w8 ⟨rfl, hb⟩
  replace r0 := r0.below hb r0.lt
  replace hB := hB.trans (hb.mono hB.size)
  clear hb
  go_wp2_with (refine wpList_load_row rfl 23 _ rfl _ rfl 23 _ (0, 0) _ r0 Tryd.underlying23 rfl (by kernel_rfl) ?_)
  refine (fits_any s 4 1 _).mono ?_
  rw [H7.out]
  rintro e w9 ⟨rfl, hb⟩
  replace r0 := r0.below hb r0.lt
  replace hB := hB.trans (hb.mono hB.size)
  clear hb
  go_wp2_with (refine wpList_load_row rfl 23 _ rfl _ rfl 23 _ (0, 0) _ r0 Tryd.underlying23 rfl (by kernel_rfl) ?_)
  refine (fits_any s 4 2 _).mono ?_
  rw [H8.out]
  rintro e w10 ⟨rfl, hb⟩
  replace r0 := r0.below hb r0.lt
  replace hB := hB.trans (hb.mono hB.size)
  clear hb
  have c0 := r0.cell 0 rfl
  have c1 := r0.cell 1 rfl
  go_wp2_with fail
  go_ret
  exact ⟨rfl, hB⟩
set_option maxRecDepth 100000 in
set_option maxHeartbeats 2000000 in
theorem lkinds_c (s : Sl) (o : Int) (w : World) (hT : Tab w) (h0 : fitsB s 0 o = false) (h1 : fitsB s 1 o = false) (h2 : fitsB s 2 o = false) (h3 : fitsB s 3 o = false) (h4 : fitsB s 5 o = false) (h5 : fitsB s 6 o = true) (h6 : fitsB s 4 0 = true) (h7 : fitsB s 4 1 = true) (h8 : fitsB s 4 2 = true) (_h9 : (s.st == 3) = false) : Calls Tryd.prog 7 #[Value.agg #[Value.int .i64 s.st, Value.int .i64 s.ow, Value.int .i64 s.sr, Value.bool s.br, Value.bool s.ma, Value.int .i64 s.us, Value.int .i64 s.ge, Value.int .i64 s.ep, Value.int .i64 s.ve], .int .i64 o] w fun e w' => e = .returned (.bool true) ∧ Below w.heap.size w w' := by
  have hB := bnew w (.cells #[Value.int .i64 s.st, Value.int .i64 s.ow, Value.int .i64 s.sr, Value.bool s.br, Value.bool s.ma, Value.int .i64 s.us, Value.int .i64 s.ge, Value.int .i64 s.ep, Value.int .i64 s.ve] 23)
  have r0 := RowAt.new w 23 #[Value.int .i64 s.st, Value.int .i64 s.ow, Value.int .i64 s.sr, Value.bool s.br, Value.bool s.ma, Value.int .i64 s.us, Value.int .i64 s.ge, Value.int .i64 s.ep, Value.int .i64 s.ve]
  have HT := Lib.hid (hT.below hB hT.lt)
  have H0 := Lib.hid h0
  have H1 := Lib.hid h1
  have H2 := Lib.hid h2
  have H3 := Lib.hid h3
  have H4 := Lib.hid h4
  have H5 := Lib.hid h5
  have H6 := Lib.hid h6
  have H7 := Lib.hid h7
  have H8 := Lib.hid h8
  clear hT h0 h1 h2 h3 h4 h5 h6 h7 h8
  go_enter Tryd.func7, Tryd.ntmps7
  go_wp2_with fail
  refine (awake_any _ HT.out).mono ?_
  rintro e w1 ⟨rfl, hb⟩
  replace r0 := r0.below hb r0.lt
  replace hB := hB.trans (hb.mono hB.size)
  clear hb HT
  go_wp2_with (refine wpList_load_row rfl 23 _ rfl _ rfl 23 _ (0, 0) _ r0 Tryd.underlying23 rfl (by kernel_rfl) ?_)
  refine (fits_any s 1 o _).mono ?_
  rw [H1.out]
  rintro e w2 ⟨rfl, hb⟩
  replace r0 := r0.below hb r0.lt
  replace hB := hB.trans (hb.mono hB.size)
  clear hb
  go_wp2_with (refine wpList_load_row rfl 23 _ rfl _ rfl 23 _ (0, 0) _ r0 Tryd.underlying23 rfl (by kernel_rfl) ?_)
  refine (fits_any s 2 o _).mono ?_
  rw [H2.out]
  rintro e w3 ⟨rfl, hb⟩
  replace r0 := r0.below hb r0.lt
  replace hB := hB.trans (hb.mono hB.size)
  clear hb
  go_wp2_with (refine wpList_load_row rfl 23 _ rfl _ rfl 23 _ (0, 0) _ r0 Tryd.underlying23 rfl (by kernel_rfl) ?_)
  refine (fits_any s 6 o _).mono ?_
  rw [H5.out]
  rintro e w4 ⟨rfl, hb⟩
  replace r0 := r0.below hb r0.lt
  replace hB := hB.trans (hb.mono hB.size)
  clear hb
  go_wp2_with (refine wpList_load_row rfl 23 _ rfl _ rfl 23 _ (0, 0) _ r0 Tryd.underlying23 rfl (by kernel_rfl) ?_)
  refine (fits_any s 0 o _).mono ?_
  rw [H0.out]
  rintro e w5 ⟨rfl, hb⟩
  replace r0 := r0.below hb r0.lt
  replace hB := hB.trans (hb.mono hB.size)
  clear hb
  have c0 := r0.cell 0 rfl
  have c1 := r0.cell 1 rfl
  have c2 := r0.cell 2 rfl
  have c3 := r0.cell 3 rfl
  have c4 := r0.cell 4 rfl
  have c5 := r0.cell 5 rfl
  have c6 := r0.cell 6 rfl
  have c7 := r0.cell 7 rfl
  have c8 := r0.cell 8 rfl
  go_wp2_with fail
  refine (fits_any s 3 o _).mono ?_
  rw [H3.out]
  rintro e w6 ⟨rfl, hb⟩
  replace r0 := r0.below hb r0.lt
  replace hB := hB.trans (hb.mono hB.size)
  clear hb
  clear c0 c1 c2 c3 c4 c5 c6 c7 c8
  go_wp2_with (refine wpList_load_row rfl 23 _ rfl _ rfl 23 _ (0, 0) _ r0 Tryd.underlying23 rfl (by kernel_rfl) ?_)
  refine (fits_any s 4 0 _).mono ?_
  rw [H6.out]
  rintro e w8 ⟨rfl, hb⟩
  replace r0 := r0.below hb r0.lt
  replace hB := hB.trans (hb.mono hB.size)
  clear hb
  go_wp2_with (refine wpList_load_row rfl 23 _ rfl _ rfl 23 _ (0, 0) _ r0 Tryd.underlying23 rfl (by kernel_rfl) ?_)
  refine (fits_any s 4 1 _).mono ?_
  rw [H7.out]
  rintro e w9 ⟨rfl, hb⟩
  replace r0 := r0.below hb r0.lt
  replace hB := hB.trans (hb.mono hB.size)
  clear hb
  go_wp2_with (refine wpList_load_row rfl 23 _ rfl _ rfl 23 _ (0, 0) _ r0 Tryd.underlying23 rfl (by kernel_rfl) ?_)
  refine (fits_any s 4 2 _).mono ?_
  rw [H8.out]
  rintro e w10 ⟨rfl, hb⟩
  replace r0 := r0.below hb r0.lt
  replace hB := hB.trans (hb.mono hB.size)
  clear hb
  have c0 := r0.cell 0 rfl
  have c1 := r0.cell 1 rfl
  go_wp2_with fail
  go_ret
  exact ⟨rfl, hB⟩
set_option maxRecDepth 100000 in
set_option maxHeartbeats 2000000 in
theorem lkinds_d (s : Sl) (o : Int) (w : World) (hT : Tab w) (h0 : fitsB s 0 o = false) (h1 : fitsB s 1 o = false) (h2 : fitsB s 2 o = true) (h3 : fitsB s 3 o = true) (h4 : fitsB s 5 o = false) (h5 : fitsB s 6 o = false) (h6 : fitsB s 4 0 = false) (h7 : fitsB s 4 1 = false) (h8 : fitsB s 4 2 = false) (_h9 : (s.st == 3) = false) : Calls Tryd.prog 7 #[Value.agg #[Value.int .i64 s.st, Value.int .i64 s.ow, Value.int .i64 s.sr, Value.bool s.br, Value.bool s.ma, Value.int .i64 s.us, Value.int .i64 s.ge, Value.int .i64 s.ep, Value.int .i64 s.ve], .int .i64 o] w fun e w' => e = .returned (.bool true) ∧ Below w.heap.size w w' := by
  have hB := bnew w (.cells #[Value.int .i64 s.st, Value.int .i64 s.ow, Value.int .i64 s.sr, Value.bool s.br, Value.bool s.ma, Value.int .i64 s.us, Value.int .i64 s.ge, Value.int .i64 s.ep, Value.int .i64 s.ve] 23)
  have r0 := RowAt.new w 23 #[Value.int .i64 s.st, Value.int .i64 s.ow, Value.int .i64 s.sr, Value.bool s.br, Value.bool s.ma, Value.int .i64 s.us, Value.int .i64 s.ge, Value.int .i64 s.ep, Value.int .i64 s.ve]
  have HT := Lib.hid (hT.below hB hT.lt)
  have H0 := Lib.hid h0
  have H1 := Lib.hid h1
  have H2 := Lib.hid h2
  have H3 := Lib.hid h3
  have H4 := Lib.hid h4
  have H5 := Lib.hid h5
  have H6 := Lib.hid h6
  have H7 := Lib.hid h7
  have H8 := Lib.hid h8
  clear hT h0 h1 h2 h3 h4 h5 h6 h7 h8
  go_enter Tryd.func7, Tryd.ntmps7
  go_wp2_with fail
  refine (awake_any _ HT.out).mono ?_
  rintro e w1 ⟨rfl, hb⟩
  replace r0 := r0.below hb r0.lt
  replace hB := hB.trans (hb.mono hB.size)
  clear hb HT
  go_wp2_with (refine wpList_load_row rfl 23 _ rfl _ rfl 23 _ (0, 0) _ r0 Tryd.underlying23 rfl (by kernel_rfl) ?_)
  refine (fits_any s 1 o _).mono ?_
  rw [H1.out]
  rintro e w2 ⟨rfl, hb⟩
  replace r0 := r0.below hb r0.lt
  replace hB := hB.trans (hb.mono hB.size)
  clear hb
  go_wp2_with (refine wpList_load_row rfl 23 _ rfl _ rfl 23 _ (0, 0) _ r0 Tryd.underlying23 rfl (by kernel_rfl) ?_)
  refine (fits_any s 2 o _).mono ?_
  rw [H2.out]
  rintro e w3 ⟨rfl, hb⟩
  replace r0 := r0.below hb r0.lt
  replace hB := hB.trans (hb.mono hB.size)
  clear hb
  go_wp2_with (refine wpList_load_row rfl 23 _ rfl _ rfl 23 _ (0, 0) _ r0 Tryd.underlying23 rfl (by kernel_rfl) ?_)
  refine (fits_any s 6 o _).mono ?_
  rw [H5.out]
  rintro e w4 ⟨rfl, hb⟩
  replace r0 := r0.below hb r0.lt
  replace hB := hB.trans (hb.mono hB.size)
  clear hb
  go_wp2_with (refine wpList_load_row rfl 23 _ rfl _ rfl 23 _ (0, 0) _ r0 Tryd.underlying23 rfl (by kernel_rfl) ?_)
  refine (fits_any s 0 o _).mono ?_
  rw [H0.out]
  rintro e w5 ⟨rfl, hb⟩
  replace r0 := r0.below hb r0.lt
  replace hB := hB.trans (hb.mono hB.size)
  clear hb
  have c0 := r0.cell 0 rfl
  have c1 := r0.cell 1 rfl
  have c2 := r0.cell 2 rfl
  have c3 := r0.cell 3 rfl
  have c4 := r0.cell 4 rfl
  have c5 := r0.cell 5 rfl
  have c6 := r0.cell 6 rfl
  have c7 := r0.cell 7 rfl
  have c8 := r0.cell 8 rfl
  go_wp2_with fail
  refine (fits_any s 3 o _).mono ?_
  rw [H3.out]
  rintro e w6 ⟨rfl, hb⟩
  replace r0 := r0.below hb r0.lt
  replace hB := hB.trans (hb.mono hB.size)
  clear hb
  clear c0 c1 c2 c3 c4 c5 c6 c7 c8
  have c0 := r0.cell 0 rfl
  have c1 := r0.cell 1 rfl
  have c2 := r0.cell 2 rfl
  have c3 := r0.cell 3 rfl
  have c4 := r0.cell 4 rfl
  have c5 := r0.cell 5 rfl
  have c6 := r0.cell 6 rfl
  have c7 := r0.cell 7 rfl
  have c8 := r0.cell 8 rfl
  go_wp2_with fail
  refine (fits_any s 5 o _).mono ?_
  rw [H4.out]
  rintro e w7 ⟨rfl, hb⟩
  replace r0 := r0.below hb r0.lt
  replace hB := hB.trans (hb.mono hB.size)
  clear hb
  clear c0 c1 c2 c3 c4 c5 c6 c7 c8
  go_wp2_with (refine wpList_load_row rfl 23 _ rfl _ rfl 23 _ (0, 0) _ r0 Tryd.underlying23 rfl (by kernel_rfl) ?_)
  refine (fits_any s 4 0 _).mono ?_
  rw [H6.out]
  rintro e w8 ⟨rfl, hb⟩
  replace r0 := r0.below hb r0.lt
  replace hB := hB.trans (hb.mono hB.size)
  clear hb
  go_wp2_with (refine wpList_load_row rfl 23 _ rfl _ rfl 23 _ (0, 0) _ r0 Tryd.underlying23 rfl (by kernel_rfl) ?_)
  refine (fits_any s 4 1 _).mono ?_
  rw [H7.out]
  rintro e w9 ⟨rfl, hb⟩
  replace r0 := r0.below hb r0.lt
  replace hB := hB.trans (hb.mono hB.size)
  clear hb
  go_wp2_with (refine wpList_load_row rfl 23 _ rfl _ rfl 23 _ (0, 0) _ r0 Tryd.underlying23 rfl (by kernel_rfl) ?_)
  refine (fits_any s 4 2 _).mono ?_
  rw [H8.out]
  rintro e w10 ⟨rfl, hb⟩
  replace r0 := r0.below hb r0.lt
  replace hB := hB.trans (hb.mono hB.size)
  clear hb
  have c0 := r0.cell 0 rfl
  have c1 := r0.cell 1 rfl
  go_wp2_with fail
  go_ret
  exact ⟨rfl, hB⟩
set_option maxRecDepth 100000 in
set_option maxHeartbeats 2000000 in
theorem lkinds_e (s : Sl) (o : Int) (w : World) (hT : Tab w) (h0 : fitsB s 0 o = false) (h1 : fitsB s 1 o = false) (h2 : fitsB s 2 o = false) (h3 : fitsB s 3 o = false) (h5 : fitsB s 6 o = false) (h6 : fitsB s 4 0 = false) (h7 : fitsB s 4 1 = false) (h8 : fitsB s 4 2 = true) (_h9 : (s.st == 3) = true) : Calls Tryd.prog 7 #[Value.agg #[Value.int .i64 s.st, Value.int .i64 s.ow, Value.int .i64 s.sr, Value.bool s.br, Value.bool s.ma, Value.int .i64 s.us, Value.int .i64 s.ge, Value.int .i64 s.ep, Value.int .i64 s.ve], .int .i64 o] w fun e w' => e = .returned (.bool true) ∧ Below w.heap.size w w' := by
  have hB := bnew w (.cells #[Value.int .i64 s.st, Value.int .i64 s.ow, Value.int .i64 s.sr, Value.bool s.br, Value.bool s.ma, Value.int .i64 s.us, Value.int .i64 s.ge, Value.int .i64 s.ep, Value.int .i64 s.ve] 23)
  have r0 := RowAt.new w 23 #[Value.int .i64 s.st, Value.int .i64 s.ow, Value.int .i64 s.sr, Value.bool s.br, Value.bool s.ma, Value.int .i64 s.us, Value.int .i64 s.ge, Value.int .i64 s.ep, Value.int .i64 s.ve]
  have HT := Lib.hid (hT.below hB hT.lt)
  have H0 := Lib.hid h0
  have H1 := Lib.hid h1
  have H2 := Lib.hid h2
  have H3 := Lib.hid h3
  have H5 := Lib.hid h5
  have H6 := Lib.hid h6
  have H7 := Lib.hid h7
  have H8 := Lib.hid h8
  clear hT h0 h1 h2 h3 h5 h6 h7 h8
  go_enter Tryd.func7, Tryd.ntmps7
  go_wp2_with fail
  refine (awake_any _ HT.out).mono ?_
  rintro e w1 ⟨rfl, hb⟩
  replace r0 := r0.below hb r0.lt
  replace hB := hB.trans (hb.mono hB.size)
  clear hb HT
  go_wp2_with (refine wpList_load_row rfl 23 _ rfl _ rfl 23 _ (0, 0) _ r0 Tryd.underlying23 rfl (by kernel_rfl) ?_)
  refine (fits_any s 1 o _).mono ?_
  rw [H1.out]
  rintro e w2 ⟨rfl, hb⟩
  replace r0 := r0.below hb r0.lt
  replace hB := hB.trans (hb.mono hB.size)
  clear hb
  go_wp2_with (refine wpList_load_row rfl 23 _ rfl _ rfl 23 _ (0, 0) _ r0 Tryd.underlying23 rfl (by kernel_rfl) ?_)
  refine (fits_any s 2 o _).mono ?_
  rw [H2.out]
  rintro e w3 ⟨rfl, hb⟩
  replace r0 := r0.below hb r0.lt
  replace hB := hB.trans (hb.mono hB.size)
  clear hb
  go_wp2_with (refine wpList_load_row rfl 23 _ rfl _ rfl 23 _ (0, 0) _ r0 Tryd.underlying23 rfl (by kernel_rfl) ?_)
  refine (fits_any s 6 o _).mono ?_
  rw [H5.out]
  rintro e w4 ⟨rfl, hb⟩
  replace r0 := r0.below hb r0.lt
  replace hB := hB.trans (hb.mono hB.size)
  clear hb
  go_wp2_with (refine wpList_load_row rfl 23 _ rfl _ rfl 23 _ (0, 0) _ r0 Tryd.underlying23 rfl (by kernel_rfl) ?_)
  refine (fits_any s 0 o _).mono ?_
  rw [H0.out]
  rintro e w5 ⟨rfl, hb⟩
  replace r0 := r0.below hb r0.lt
  replace hB := hB.trans (hb.mono hB.size)
  clear hb
  have c0 := r0.cell 0 rfl
  have c1 := r0.cell 1 rfl
  have c2 := r0.cell 2 rfl
  have c3 := r0.cell 3 rfl
  have c4 := r0.cell 4 rfl
  have c5 := r0.cell 5 rfl
  have c6 := r0.cell 6 rfl
  have c7 := r0.cell 7 rfl
  have c8 := r0.cell 8 rfl
  go_wp2_with fail
  refine (fits_any s 3 o _).mono ?_
  rw [H3.out]
  rintro e w6 ⟨rfl, hb⟩
  replace r0 := r0.below hb r0.lt
  replace hB := hB.trans (hb.mono hB.size)
  clear hb
  clear c0 c1 c2 c3 c4 c5 c6 c7 c8
  go_wp2_with (refine wpList_load_row rfl 23 _ rfl _ rfl 23 _ (0, 0) _ r0 Tryd.underlying23 rfl (by kernel_rfl) ?_)
  refine (fits_any s 4 0 _).mono ?_
  rw [H6.out]
  rintro e w8 ⟨rfl, hb⟩
  replace r0 := r0.below hb r0.lt
  replace hB := hB.trans (hb.mono hB.size)
  clear hb
  go_wp2_with (refine wpList_load_row rfl 23 _ rfl _ rfl 23 _ (0, 0) _ r0 Tryd.underlying23 rfl (by kernel_rfl) ?_)
  refine (fits_any s 4 1 _).mono ?_
  rw [H7.out]
  rintro e w9 ⟨rfl, hb⟩
  replace r0 := r0.below hb r0.lt
  replace hB := hB.trans (hb.mono hB.size)
  clear hb
  go_wp2_with (refine wpList_load_row rfl 23 _ rfl _ rfl 23 _ (0, 0) _ r0 Tryd.underlying23 rfl (by kernel_rfl) ?_)
  refine (fits_any s 4 2 _).mono ?_
  rw [H8.out]
  rintro e w10 ⟨rfl, hb⟩
  replace r0 := r0.below hb r0.lt
  replace hB := hB.trans (hb.mono hB.size)
  clear hb
  have c0 := r0.cell 0 rfl
  have c1 := r0.cell 1 rfl
  go_wp2_with fail
  go_ret
  exact ⟨rfl, hB⟩
set_option maxRecDepth 100000 in
set_option maxHeartbeats 2000000 in
theorem lkinds_f (s : Sl) (o : Int) (w : World) (hT : Tab w) (h0 : fitsB s 0 o = false) (h1 : fitsB s 1 o = false) (h2 : fitsB s 2 o = false) (h3 : fitsB s 3 o = false) (h5 : fitsB s 6 o = false) (h6 : fitsB s 4 0 = false) (h7 : fitsB s 4 1 = false) (h8 : fitsB s 4 2 = false) (_h9 : (s.st == 3) = false) : Calls Tryd.prog 7 #[Value.agg #[Value.int .i64 s.st, Value.int .i64 s.ow, Value.int .i64 s.sr, Value.bool s.br, Value.bool s.ma, Value.int .i64 s.us, Value.int .i64 s.ge, Value.int .i64 s.ep, Value.int .i64 s.ve], .int .i64 o] w fun e w' => e = .returned (.bool true) ∧ Below w.heap.size w w' := by
  have hB := bnew w (.cells #[Value.int .i64 s.st, Value.int .i64 s.ow, Value.int .i64 s.sr, Value.bool s.br, Value.bool s.ma, Value.int .i64 s.us, Value.int .i64 s.ge, Value.int .i64 s.ep, Value.int .i64 s.ve] 23)
  have r0 := RowAt.new w 23 #[Value.int .i64 s.st, Value.int .i64 s.ow, Value.int .i64 s.sr, Value.bool s.br, Value.bool s.ma, Value.int .i64 s.us, Value.int .i64 s.ge, Value.int .i64 s.ep, Value.int .i64 s.ve]
  have HT := Lib.hid (hT.below hB hT.lt)
  have H0 := Lib.hid h0
  have H1 := Lib.hid h1
  have H2 := Lib.hid h2
  have H3 := Lib.hid h3
  have H5 := Lib.hid h5
  have H6 := Lib.hid h6
  have H7 := Lib.hid h7
  have H8 := Lib.hid h8
  clear hT h0 h1 h2 h3 h5 h6 h7 h8
  go_enter Tryd.func7, Tryd.ntmps7
  go_wp2_with fail
  refine (awake_any _ HT.out).mono ?_
  rintro e w1 ⟨rfl, hb⟩
  replace r0 := r0.below hb r0.lt
  replace hB := hB.trans (hb.mono hB.size)
  clear hb HT
  go_wp2_with (refine wpList_load_row rfl 23 _ rfl _ rfl 23 _ (0, 0) _ r0 Tryd.underlying23 rfl (by kernel_rfl) ?_)
  refine (fits_any s 1 o _).mono ?_
  rw [H1.out]
  rintro e w2 ⟨rfl, hb⟩
  replace r0 := r0.below hb r0.lt
  replace hB := hB.trans (hb.mono hB.size)
  clear hb
  go_wp2_with (refine wpList_load_row rfl 23 _ rfl _ rfl 23 _ (0, 0) _ r0 Tryd.underlying23 rfl (by kernel_rfl) ?_)
  refine (fits_any s 2 o _).mono ?_
  rw [H2.out]
  rintro e w3 ⟨rfl, hb⟩
  replace r0 := r0.below hb r0.lt
  replace hB := hB.trans (hb.mono hB.size)
  clear hb
  go_wp2_with (refine wpList_load_row rfl 23 _ rfl _ rfl 23 _ (0, 0) _ r0 Tryd.underlying23 rfl (by kernel_rfl) ?_)
  refine (fits_any s 6 o _).mono ?_
  rw [H5.out]
  rintro e w4 ⟨rfl, hb⟩
  replace r0 := r0.below hb r0.lt
  replace hB := hB.trans (hb.mono hB.size)
  clear hb
  go_wp2_with (refine wpList_load_row rfl 23 _ rfl _ rfl 23 _ (0, 0) _ r0 Tryd.underlying23 rfl (by kernel_rfl) ?_)
  refine (fits_any s 0 o _).mono ?_
  rw [H0.out]
  rintro e w5 ⟨rfl, hb⟩
  replace r0 := r0.below hb r0.lt
  replace hB := hB.trans (hb.mono hB.size)
  clear hb
  have c0 := r0.cell 0 rfl
  have c1 := r0.cell 1 rfl
  have c2 := r0.cell 2 rfl
  have c3 := r0.cell 3 rfl
  have c4 := r0.cell 4 rfl
  have c5 := r0.cell 5 rfl
  have c6 := r0.cell 6 rfl
  have c7 := r0.cell 7 rfl
  have c8 := r0.cell 8 rfl
  go_wp2_with fail
  refine (fits_any s 3 o _).mono ?_
  rw [H3.out]
  rintro e w6 ⟨rfl, hb⟩
  replace r0 := r0.below hb r0.lt
  replace hB := hB.trans (hb.mono hB.size)
  clear hb
  clear c0 c1 c2 c3 c4 c5 c6 c7 c8
  go_wp2_with (refine wpList_load_row rfl 23 _ rfl _ rfl 23 _ (0, 0) _ r0 Tryd.underlying23 rfl (by kernel_rfl) ?_)
  refine (fits_any s 4 0 _).mono ?_
  rw [H6.out]
  rintro e w8 ⟨rfl, hb⟩
  replace r0 := r0.below hb r0.lt
  replace hB := hB.trans (hb.mono hB.size)
  clear hb
  go_wp2_with (refine wpList_load_row rfl 23 _ rfl _ rfl 23 _ (0, 0) _ r0 Tryd.underlying23 rfl (by kernel_rfl) ?_)
  refine (fits_any s 4 1 _).mono ?_
  rw [H7.out]
  rintro e w9 ⟨rfl, hb⟩
  replace r0 := r0.below hb r0.lt
  replace hB := hB.trans (hb.mono hB.size)
  clear hb
  go_wp2_with (refine wpList_load_row rfl 23 _ rfl _ rfl 23 _ (0, 0) _ r0 Tryd.underlying23 rfl (by kernel_rfl) ?_)
  refine (fits_any s 4 2 _).mono ?_
  rw [H8.out]
  rintro e w10 ⟨rfl, hb⟩
  replace r0 := r0.below hb r0.lt
  replace hB := hB.trans (hb.mono hB.size)
  clear hb
  have c0 := r0.cell 0 rfl
  have c1 := r0.cell 1 rfl
  go_wp2_with fail
  go_ret
  exact ⟨rfl, hB⟩
theorem lkinds_any (s : Sl) (o : Int) (w : World) (hT : Tab w) : Calls Tryd.prog 7 #[Value.agg #[Value.int .i64 s.st, Value.int .i64 s.ow, Value.int .i64 s.sr, Value.bool s.br, Value.bool s.ma, Value.int .i64 s.us, Value.int .i64 s.ge, Value.int .i64 s.ep, Value.int .i64 s.ve], .int .i64 o] w fun e w' => e = .returned (.bool true) ∧ Below w.heap.size w w' := by
  rcases kinds_cls s o with ⟨h0, h1, h2, h3, h4, h5, h6, h7, h8, h9, h10⟩ | ⟨h0, h1, h2, h3, h4, h5, h6, h7, h8, h9, h10⟩ | ⟨h0, h1, h2, h3, h4, h5, h6, h7, h8, h9⟩ | ⟨h0, h1, h2, h3, h4, h5, h6, h7, h8, h9⟩ | ⟨h0, h1, h2, h3, h5, h6, h7, h8, h9⟩ | ⟨h0, h1, h2, h3, h5, h6, h7, h8, h9⟩
  · exact lkinds_a s o w hT h0 h1 h2 h3 h4 h5 h6 h7 h8 h9 h10
  · exact lkinds_b s o w hT h0 h1 h2 h3 h4 h5 h6 h7 h8 h9 h10
  · exact lkinds_c s o w hT h0 h1 h2 h3 h4 h5 h6 h7 h8 h9
  · exact lkinds_d s o w hT h0 h1 h2 h3 h4 h5 h6 h7 h8 h9
  · exact lkinds_e s o w hT h0 h1 h2 h3 h5 h6 h7 h8 h9
  · exact lkinds_f s o w hT h0 h1 h2 h3 h5 h6 h7 h8 h9
end Go.Proofs.YtbkcniknbpgphaaDoor
