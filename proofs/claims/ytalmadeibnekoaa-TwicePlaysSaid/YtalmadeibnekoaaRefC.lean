/- A slot's word, and a word's slot, as the document's own functions tell; nothing that was there changes. -/
import Derived.Test.YtalmadeibnekoaaRIff
namespace Go.Proofs.Ytalmadeibnekoaa
open Go.RowKit
attribute [local go_sem ↓] Go.wp_at_zero Go.wp_at_succ

theorem ret_num2 {a b : Int} {c : Value} (h : a = b) : Ending.returned (.tuple #[.int .i64 a, c]) = .returned (.tuple #[.int .i64 b, c]) := by rw [h]
set_option maxRecDepth 100000 in
set_option maxHeartbeats 2000000 in
theorem refEncode_any (s : Sl) (w : World) (hw : s.Wf) :
    Calls Try.prog 40 #[Value.agg #[Value.int .i64 s.st, Value.int .i64 s.ow, Value.int .i64 s.sr, Value.bool s.br, Value.bool s.ma, Value.int .i64 s.us, Value.int .i64 s.ge, Value.int .i64 s.ep, Value.int .i64 s.ve]] w fun e w' => e = .returned (.tuple #[.int .i64 (encN s), .bool (rtB s)]) ∧ Below w.heap.size w w' := by
  have hB0 : Below w.heap.size w (w.alloc (.cells #[Value.int .i64 s.st, Value.int .i64 s.ow, Value.int .i64 s.sr, Value.bool s.br, Value.bool s.ma, Value.int .i64 s.us, Value.int .i64 s.ge, Value.int .i64 s.ep, Value.int .i64 s.ve] 66)) := (Below.refl _ _).alloc (Nat.le_refl _) _
  have r0 := RowAt.new w 66 #[Value.int .i64 s.st, Value.int .i64 s.ow, Value.int .i64 s.sr, Value.bool s.br, Value.bool s.ma, Value.int .i64 s.us, Value.int .i64 s.ge, Value.int .i64 s.ep, Value.int .i64 s.ve]
  cases hr : rrB s with
  | false =>
    have Hr := Lib.hid hr
    have He := Lib.hid (show encN s = 0 ∧ rtB s = false by rw [rt_eq hw, hr]; exact ⟨encN_no (by rw [rt_eq hw, hr]), rfl⟩)
    clear hr
    go_enter Try.func40, Try.ntmps40
    go_wp2_with fail
    refine (refRight_any s _).mono ?_
    rintro e w1 ⟨rfl, hb⟩
    rw [Hr.out]
    replace hB0 := hB0.trans (hb.mono hB0.size)
    go_wp2_with fail
    go_ret2
    exact ⟨by rw [He.out.1, He.out.2]; rfl, hB0⟩
  | true =>
    have Hr := Lib.hid hr
    have hR := rrB_iff.1 hr
    have He := Lib.hid (show encN s = encI s ∧ rtB s = true by rw [rt_eq hw, hr]; exact ⟨(encN_yes (by rw [rt_eq hw, hr])).trans (wk_enc hR), rfl⟩)
    obtain ⟨q0, q1, q2, q3, q4, q5, q6, _, _, _, _, _, _⟩ := hR
    clear hr
    go_enter Try.func40, Try.ntmps40
    go_wp2_with fail
    refine (refRight_any s _).mono ?_
    rintro e w1 ⟨rfl, hb⟩
    rw [Hr.out]
    replace hB0 := hB0.trans (hb.mono hB0.size)
    have r1 := r0.below hb r0.lt
    clear hb r0
    have k0 : w1.cell? ⟨w.heap.size, 0, none⟩ = some (Value.int .i64 s.st) := r1.cell 0 rfl
    have k1 : w1.cell? ⟨w.heap.size, 1, none⟩ = some (Value.int .i64 s.ow) := r1.cell 1 rfl
    have k2 : w1.cell? ⟨w.heap.size, 2, none⟩ = some (Value.int .i64 s.sr) := r1.cell 2 rfl
    have k3 : w1.cell? ⟨w.heap.size, 3, none⟩ = some (Value.bool s.br) := r1.cell 3 rfl
    have k4 : w1.cell? ⟨w.heap.size, 4, none⟩ = some (Value.bool s.ma) := r1.cell 4 rfl
    have k5 : w1.cell? ⟨w.heap.size, 5, none⟩ = some (Value.int .i64 s.us) := r1.cell 5 rfl
    have k6 : w1.cell? ⟨w.heap.size, 6, none⟩ = some (Value.int .i64 s.ge) := r1.cell 6 rfl
    have k7 : w1.cell? ⟨w.heap.size, 7, none⟩ = some (Value.int .i64 s.ep) := r1.cell 7 rfl
    have k8 : w1.cell? ⟨w.heap.size, 8, none⟩ = some (Value.int .i64 s.ve) := r1.cell 8 rfl
    cases hbr : s.br <;> cases hma : s.ma
    all_goals rw [hbr] at k3
    all_goals rw [hma] at k4
    all_goals have Hb := Lib.hid hbr
    all_goals have Hm := Lib.hid hma
    all_goals clear hbr hma r1
    all_goals go_wp2_with fail
    all_goals go_ret2
    all_goals exact ⟨by rw [He.out.1, He.out.2]; exact ret_num2 (by simp only [encI, Hb.out, Hm.out, b2i, if_true, Bool.false_eq_true, if_false]; omega), hB0⟩

/-- the slot that the document reads of a word -/
def refS (x : Int) : Sl := ⟨x % 8, x / 8 % 16, x / 128 % 256, x / 32768 % 2 == 1, x / 65536 % 2 == 1, x / 131072 % 64, x / 8388608 % 4096, x / 34359738368 % 4096, x / 140737488355328⟩
theorem b2i_one {y : Int} (h : 0 ≤ y ∧ y < 2) : b2i (y == 1) = y := by
  have : y = 0 ∨ y = 1 := by omega
  rcases this with rfl | rfl <;> rfl
theorem rdS_wf {x : Int} (h3 : -9223372036854775808 ≤ x) (h4 : x ≤ 9223372036854775807) : (rdS x).Wf := by
  have f0 := rd_0 h3 h4
  have f1 := rd_1 h3 h4
  have f2 := rd_2 h3 h4
  have f5 := rd_5 h3 h4
  have f6 := rd_6 h3 h4
  have f7 := rd_7 h3 h4
  have f8 := rd_8 h3 h4
  refine ⟨?_, ?_, ?_, ?_, ?_, ?_, ?_⟩ <;> simp only [rdS] <;> omega
theorem decB_neg {x : Int} (h : x < 0) : decB x = false := by
  have := wk_bd (rdS x)
  simp [decB]
  intro _ h2
  omega
theorem rdS_ref {x : Int} (h : 0 ≤ x) (h2 : x < 4611686018427387904) : rdS x = refS x := by
  unfold rdS refS
  rw [rd_0 (by omega) (by omega), rd_1 (by omega) (by omega), rd_2 (by omega) (by omega), rd_3 (by omega) (by omega), rd_4 (by omega) (by omega), rd_5 (by omega) (by omega), rd_6 (by omega) (by omega), rd_7 (by omega) (by omega), rd_8 (by omega) (by omega)]
  rw [Int.ediv_one, show x / 140737488355328 % 32768 = x / 140737488355328 by omega]
theorem encI_ref (x : Int) : encI (refS x) = x := by
  unfold encI refS
  simp only
  rw [b2i_one (by omega), b2i_one (by omega)]
  omega
theorem decB_pos {x : Int} (h : 0 ≤ x) (h4 : x ≤ 9223372036854775807) : decB x = rrB (refS x) := by
  by_cases h2 : x < 4611686018427387904
  · have hw := rdS_wf (x := x) (by omega) h4
    unfold decB
    rw [rt_eq hw, rdS_ref h h2]
    cases hr : rrB (refS x) with
    | false => rfl
    | true =>
      rw [wk_enc (rrB_iff.1 hr), encI_ref x]
      simp
  · have hf : rrB (refS x) = false := by
      rw [Bool.eq_false_iff]
      intro e
      have := (rrB_iff.1 e).ve
      simp only [refS] at this
      omega
    rw [hf]
    have := wk_bd (rdS x)
    simp [decB]
    intro _ h2
    omega
theorem decS_ref {x : Int} (h : 0 ≤ x) (hr : decB x = true) : decS x = refS x := by
  rw [decS_yes hr]
  refine rdS_ref h ?_
  have := wk_bd (rdS x)
  simp [decB] at hr
  omega

end Go.Proofs.Ytalmadeibnekoaa
