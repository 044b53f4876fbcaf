/- The bytes of entries, or why there are none, as the document's own function tells; nothing that was there changes. -/
import Derived.Test.YtbkaiffecnomjaaEnc
import Derived.Test.YtbkaiffecnomjaaRRight
import Derived.Test.YtbkaiffecnomjaaRForm
namespace Go.Proofs.Ytbkaiffecnomjaa
open Go.RowKit
attribute [local go_sem ↓] Go.wp_at_zero Go.wp_at_succ

set_option maxRecDepth 100000 in
set_option maxHeartbeats 2000000 in
theorem refEnc_any (A : Option Addr) (n c0 : Nat) (xs : List En) (w : World) (hn : xs.length = n) (hI : LS w w.heap.size A xs) (hn2 : n ≤ 1000000) :
    Calls Try.prog 11 #[.slice A n c0] w (RetEnc w xs) := by
  have Hn := Lib.hid hn
  have HI := Lib.hid hI
  clear hn hI
  by_cases h : 1000 < n
  · have h1 : (1000 : Int) < (n : Int) := by omega
    have Hy := Lib.hid (enc_long (l := xs) (by rw [Hn.out]; exact h))
    go_enter Try.func11, Try.ntmps11
    go_wp2_with fail
    go_ret2
    exact RetEnc.no Hy.out (Below.refl _ _)
  · have h1 : ¬ (1000 : Int) < (n : Int) := by omega
    have Hl := Lib.hid (show ¬ 1000 < xs.length by rw [Hn.out]; exact h)
    go_enter Try.func11, Try.ntmps11
    go_wp2_with fail
    go_loopw [4, 5] (fun o i wr => ∃ (k j : Nat) (Av : Option Addr) (cv : Nat), k ≤ n ∧ i = .int .i64 k ∧ o = .slice Av j cv ∧ Hid (j = 12 * k) ∧ Hid (BMine w wr (.slice Av j cv) (enc (xs.take k))) ∧ Hid ((xs.take k).all rtB = true)) (fun _ i _ => n - (intOf i).toNat)
    case atStart => exact ⟨0, 0, none, 0, Nat.zero_le _, rfl, rfl, Lib.hid rfl, Lib.hid (BMine.nil (Below.refl _ _)), Lib.hid rfl⟩
    case round =>
      obtain ⟨k, j, Av, cv, hk, rfl, rfl, Hj, HM, HR⟩ := hrel
      by_cases hlt : k < n
      · have hlt2 : (k : Int) < (n : Int) := by omega
        obtain ⟨x, hx⟩ := some_lt (xs := xs) (k := k) (by rw [Hn.out]; exact hlt)
        obtain ⟨b, off, rfl, hb, hc⟩ := (HI.out.below HM.out.below) k x hx
        have HX := Lib.hid hx
        clear hx
        go_wp2_with (refine wpList_load_mid rfl 32 _ rfl b _ rfl [Value.int .i64 x.k, Value.int .i64 x.w, Value.int .i64 x.op, Value.int .i64 x.dl, Value.bool x.wa, Value.bool x.fo, Value.int .i64 x.sl, Value.int .i64 x.ge, Value.int .i64 x.st, Value.int .i64 x.n, Value.bool x.gd] _ hc Try.underlying32 rfl (by kernel_rfl) ?_)
        refine (refRight_any x _).mono ?_
        rintro e w1 ⟨rfl, hb1⟩
        have HM1 := Lib.hid (HM.out.on hb1)
        have hc1 : w1.rangeAt b (off + k * 11) (eL x) := range_below hc hb1 (World.block_lt_of_cell? wr _ (hc 0 _ rfl))
        clear hb1 hc HM
        cases hq : rtB x with
        | false =>
          have Hy := Lib.hid (enc_no Hl.out (all_fail HX.out hq))
          clear hq
          go_wp2_with fail
          go_ret2
          exact RetEnc.no Hy.out HM1.out.below
        | true =>
          have Hq := Lib.hid hq
          clear hq
          go_wp2_with (refine wpList_load_mid rfl 32 _ rfl b _ rfl [Value.int .i64 x.k, Value.int .i64 x.w, Value.int .i64 x.op, Value.int .i64 x.dl, Value.bool x.wa, Value.bool x.fo, Value.int .i64 x.sl, Value.int .i64 x.ge, Value.int .i64 x.st, Value.int .i64 x.n, Value.bool x.gd] _ hc1 Try.underlying32 rfl (by kernel_rfl) ?_)
          refine (form_any x _ (rtB_iff.1 Hq.out)).mono ?_
          rintro e w2 ⟨b2, rfl, r2, _, hb2⟩
          have HM2 := Lib.hid (HM1.out.on hb2)
          have R2 := Lib.hid r2
          clear hb2 HM1 r2 hc1
          obtain ⟨j2, hj2⟩ : ∃ j2, j2 = j + 12 := ⟨_, rfl⟩
          have Hj2 := Lib.hid hj2
          clear hj2
          go_wp2_with (refine HM2.out.appAll (n := j) (m := 12) (k := j2) (zs := enc (xs.take (k + 1))) (by rw [enc_len, take_len (by rw [Hn.out]; omega)]; exact Hj.out.symm) (by have := Hj.out; omega) Hj2.out.symm rfl _ _ rfl rfl (pb (wrE x)) rfl b2 0 12 rfl ?g1 (by rw [enc_step HX.out]) ?_; rotate_left; intro Av3 cv3 w5 hM3)
          case g1 => exact fun i y hy => R2.out.cell (0 + i) (by rw [Nat.zero_add]; exact pA_at hy)
          go_roundw
          case rel => exact ⟨k + 1, j2, Av3, cv3, by omega, by go_num, rfl, Lib.hid (by have := Hj.out; have := Hj2.out; omega), Lib.hid hM3, Lib.hid (all_step HR.out HX.out Hq.out)⟩
          case measure => simp [intOf]; omega
      · obtain rfl : k = n := by omega
        have Hy := Lib.hid (enc_yes Hl.out (by have h3 := HR.out; rwa [List.take_of_length_le (by rw [Hn.out]; exact Nat.le_refl _)] at h3))
        go_wp2_with fail
        go_ret2
        refine RetEnc.yes Hy.out ?_
        have h3 := HM.out
        rwa [List.take_of_length_le (by rw [Hn.out]; exact Nat.le_refl _)] at h3
end Go.Proofs.Ytbkaiffecnomjaa
