/- The document's words and kinds; Fits of the program and of the document; the two that look, made; nothing that was there changes. -/
import Derived.Test.YtbkcniknbpgphaaDoorCm
import Derived.Test.YtbkcniknbpgphaaDoorRefC
import Derived.Test.YtbkcniknbpgphaaDoorAccR
namespace Go.Proofs.YtbkcniknbpgphaaDoor
open Go.RowKit
attribute [local go_sem ↓] Go.wp_at_zero Go.wp_at_succ

theorem dec_0 : decB 0 = true := by decide +kernel
theorem dec_enc (s : Sl) : decB (encN s) = true := by
  cases hr : rtB s with
  | false => rw [encN_no hr]; exact dec_0
  | true =>
    rw [encN_yes hr]
    have e : rdS (wk s 9) = s := by simpa [rtB] using hr
    simp [decB, e, hr]
theorem enc_bd (s : Sl) : 0 ≤ encN s ∧ encN s < 4611686018427387904 := by
  unfold encN
  split
  · exact wk_bd s
  · omega
set_option maxRecDepth 100000 in
set_option maxHeartbeats 2000000 in
theorem refWord_any (s : Sl) (w : World) (hw : s.Wf) : Calls Tryd.prog 32 #[Value.agg #[Value.int .i64 s.st, Value.int .i64 s.ow, Value.int .i64 s.sr, Value.bool s.br, Value.bool s.ma, Value.int .i64 s.us, Value.int .i64 s.ge, Value.int .i64 s.ep, Value.int .i64 s.ve]] w fun e w' => e = .returned (.int .i64 (encN s)) ∧ Below w.heap.size w w' := by
  have hB := bnew w (.cells #[Value.int .i64 s.st, Value.int .i64 s.ow, Value.int .i64 s.sr, Value.bool s.br, Value.bool s.ma, Value.int .i64 s.us, Value.int .i64 s.ge, Value.int .i64 s.ep, Value.int .i64 s.ve] 23)
  have Hw := Lib.hid hw
  clear hw
  go_enter Tryd.func32, Tryd.ntmps32
  go_wp2_with fail
  refine (refEncode_any s _ Hw.out).mono ?_
  rintro e w1 ⟨rfl, hb⟩
  go_wp2_with fail
  go_ret
  exact ⟨rfl, bst hB hb⟩
set_option maxRecDepth 100000 in
set_option maxHeartbeats 2000000 in
theorem refFits_any (s : Sl) (k o : Int) (w : World) : Calls Tryd.prog 11 #[Value.agg #[Value.int .i64 s.st, Value.int .i64 s.ow, Value.int .i64 s.sr, Value.bool s.br, Value.bool s.ma, Value.int .i64 s.us, Value.int .i64 s.ge, Value.int .i64 s.ep, Value.int .i64 s.ve], .int .i64 k, .int .i64 o] w (RetB (fitsB s k o) w) := by
  obtain ⟨st, ow, sr, br, ma, us, ge, ep, ve⟩ := s
  by_cases h : k < 0 ∨ 6 < k
  · rw [fits_no _ o h]
    have a0 : (k == 0) = false := by simp; omega
    have a1 : (k == 1) = false := by simp; omega
    have a2 : (k == 2) = false := by simp; omega
    have a3 : (k == 3) = false := by simp; omega
    have a4 : (k == 4) = false := by simp; omega
    have a5 : (k == 5) = false := by simp; omega
    have a6 : (k == 6) = false := by simp; omega
    clear h
    go_enter Tryd.func11, Tryd.ntmps11
    go_wp2
    go_ret
    exact .mk rfl (bnew _ _)
  · have h7 : k = 0 ∨ k = 1 ∨ k = 2 ∨ k = 3 ∨ k = 4 ∨ k = 5 ∨ k = 6 := by omega
    clear h
    rcases h7 with rfl | rfl | rfl | rfl | rfl | rfl | rfl
    · rw [fits_0]
      by_cases h : st = 2
      · subst h
        cases br <;>
        · go_enter Tryd.func11, Tryd.ntmps11
          go_wp2
          go_ret
          exact .mk (by simp) (bnew _ _)
      · have h2 : (st == 2) = false := by simpa using h
        go_enter Tryd.func11, Tryd.ntmps11
        go_wp2
        go_ret
        exact .mk (by simp [h]) (bnew _ _)
    · rw [fits_1]
      by_cases h : st = 2
      · subst h
        cases br <;>
        · go_enter Tryd.func11, Tryd.ntmps11
          go_wp2
          go_ret
          exact .mk rfl (bnew _ _)
      · have h2 : (st == 2) = false := by simpa using h
        go_enter Tryd.func11, Tryd.ntmps11
        go_wp2
        go_ret
        exact .mk (by simp [h]) (bnew _ _)
    · go_enter Tryd.func11, Tryd.ntmps11
      go_wp2
      go_ret
      exact .mk rfl (bnew _ _)
    · rw [fits_3]
      by_cases h : st = 2
      · subst h
        cases br <;>
        · go_enter Tryd.func11, Tryd.ntmps11
          go_wp2
          go_ret
          exact .mk rfl (bnew _ _)
      · have h2 : (st == 2) = false := by simpa using h
        go_enter Tryd.func11, Tryd.ntmps11
        go_wp2
        go_ret
        exact .mk (by simp [h]) (bnew _ _)
    · rw [fits_4]
      by_cases h : st = 2
      · subst h
        cases br
        · by_cases h1 : o = 1
          · subst h1
            go_enter Tryd.func11, Tryd.ntmps11
            go_wp2
            go_ret
            exact .mk rfl (bnew _ _)
          · have h2 : (o == 1) = false := by simpa using h1
            go_enter Tryd.func11, Tryd.ntmps11
            go_wp2
            go_ret
            exact .mk (by simp [h2]) (bnew _ _)
        · go_enter Tryd.func11, Tryd.ntmps11
          go_wp2
          go_ret
          exact .mk rfl (bnew _ _)
      · have h2 : (st == 2) = false := by simpa using h
        by_cases h3 : st = 3
        · subst h3
          go_enter Tryd.func11, Tryd.ntmps11
          go_wp2
          go_ret
          exact .mk (by simp) (bnew _ _)
        · have h4 : (st == 3) = false := by simpa using h3
          go_enter Tryd.func11, Tryd.ntmps11
          go_wp2
          go_ret
          exact .mk (by simp) (bnew _ _)
    · go_enter Tryd.func11, Tryd.ntmps11
      go_wp2
      go_ret
      exact .mk rfl (bnew _ _)
    · go_enter Tryd.func11, Tryd.ntmps11
      go_wp2
      go_ret
      exact .mk rfl (bnew _ _)
/-- does a word fit a kind -/
def wfitB (x k o : Int) : Bool := decB x && fitsB (decS x) k o
set_option maxRecDepth 100000 in
set_option maxHeartbeats 2000000 in
theorem refWordF_any (x k o : Int) (w : World) (hx1 : -9223372036854775808 ≤ x) (hx2 : x ≤ 9223372036854775807) :
    Calls Tryd.prog 31 #[.int .i64 x, .int .i64 k, .int .i64 o] w (RetB (wfitB x k o) w) := by
  obtain ⟨s, es⟩ : ∃ s, s = decS x := ⟨_, rfl⟩
  have HE := Lib.hid es
  have Hx := Lib.hid (And.intro hx1 hx2)
  clear hx1 hx2
  go_enter Tryd.func31, Tryd.ntmps31
  go_wp2_with fail
  refine (refDecode_any x _ Hx.out.1 Hx.out.2).mono ?_
  rw [← es]
  clear es
  rintro e w1 ⟨rfl, hb⟩
  have hB := bst hb (bnew w1 (.cells #[Value.int .i64 s.st, Value.int .i64 s.ow, Value.int .i64 s.sr, Value.bool s.br, Value.bool s.ma, Value.int .i64 s.us, Value.int .i64 s.ge, Value.int .i64 s.ep, Value.int .i64 s.ve] 23))
  have r4 := RowAt.new w1 23 #[Value.int .i64 s.st, Value.int .i64 s.ow, Value.int .i64 s.sr, Value.bool s.br, Value.bool s.ma, Value.int .i64 s.us, Value.int .i64 s.ge, Value.int .i64 s.ep, Value.int .i64 s.ve]
  cases hd : decB x with
  | false =>
    have HD := Lib.hid hd
    clear hd
    go_wp2_with fail
    go_ret
    exact .mk (by rw [wfitB, HD.out]; rfl) hB
  | true =>
    have HD := Lib.hid hd
    clear hd
    go_wp2_with fail
    refine (refFits_any s k o _).mono ?_
    rintro e w2 ⟨rfl, hb2⟩
    go_wp2_with fail
    go_ret
    exact .mk (by rw [wfitB, HD.out, ← HE.out]; simp) (bst hB hb2)
end Go.Proofs.YtbkcniknbpgphaaDoor
