/- The law FindFrom, walked. -/
import Derived.Test.YtbkcniknbpgphaaDoorPrel2
import Derived.Deep.CutBlock
namespace Go.Proofs.YtbkcniknbpgphaaDoor
open Go.RowKit
attribute [local go_sem ↓] Go.wp_at_zero Go.wp_at_succ

/-- does the j-th slot's word fit -/
def ftB (xs : List Int) (F : Nat) (k o : Int) (j : Nat) : Bool := fitsB (decS (xs.getD (F + j) 0)) k o
theorem ft_at {xs : List Int} {F j : Nat} {k o v : Int} (h : xs[F + j]? = some v) : ftB xs F k o j = fitsB (decS v) k o := by
  unfold ftB
  rw [List.getD_eq_getElem?_getD, h]
  rfl
/-- what is found from M0 on -/
structure Fnd (xs : List Int) (F : Nat) (k o : Int) (M0 : Nat) (sl : Int) (y : Fs) : Prop where
  hit : y.is = true → ∃ p : Nat, y.po = p ∧ M0 ≤ p ∧ (p : Int) < sl ∧ ftB xs F k o p = true ∧ ∀ j : Nat, M0 ≤ j → j < p → ftB xs F k o j = false
  miss : y.is = false → ∀ j : Nat, M0 ≤ j → (j : Int) < sl → ftB xs F k o j = false
set_option maxRecDepth 100000 in
set_option maxHeartbeats 2000000 in
theorem lfrom_any (a1 a2 a3 a4 a5 : Int) (S P1 P2 : Option Addr) (sn sc pn1 pc1 pn2 pc2 : Nat) (sl : List Sl) (p1 p2 : List Int) (k o m : Int) (w : World) (hT : Tab w) (h1 : 0 ≤ a1 ∧ a1 ≤ 255) (h2 : 0 ≤ a2 ∧ a2 ≤ 255) (h3 : 0 ≤ a3 ∧ a3 ≤ 255) (h4 : 0 ≤ a4 ∧ a4 ≤ 255) (h5 : 0 ≤ a5 ∧ a5 ≤ 255) (hG : GivenAt w S P1 P2 sn pn1 pn2 sl p1 p2) :
    Calls Tryd.prog 8 #[Value.agg #[Value.int .u8 a1, Value.int .u8 a2, Value.int .u8 a3, Value.int .u8 a4, Value.int .u8 a5, .slice S sn sc, .slice P1 pn1 pc1, .slice P2 pn2 pc2], .int .i64 k, .int .i64 o, .int .i64 m] w fun e w' => e = .returned (.bool true) ∧ Below w.heap.size w w' := by
  obtain ⟨M0, hM0⟩ : ∃ M0 : Nat, max m 0 = (M0 : Int) := ⟨(max m 0).toNat, by omega⟩
  have hmM : m ≤ M0 := by omega
  have hmM2 : ∀ i : Nat, m ≤ i → M0 ≤ i := fun i hi => by omega
  have HmM := Lib.hid hM0
  have HmM2 := Lib.hid hmM2
  clear hM0 hmM2
  have hB := bnew w (.cells #[Value.int .u8 a1, Value.int .u8 a2, Value.int .u8 a3, Value.int .u8 a4, Value.int .u8 a5, .slice S sn sc, .slice P1 pn1 pc1, .slice P2 pn2 pc2] 31)
  have r0 := RowAt.new w 31 #[Value.int .u8 a1, Value.int .u8 a2, Value.int .u8 a3, Value.int .u8 a4, Value.int .u8 a5, .slice S sn sc, .slice P1 pn1 pc1, .slice P2 pn2 pc2]
  have HT := Lib.hid (hT.below hB hT.lt)
  have HG := Lib.hid (hG.on hB)
  have hz0 := hT.lt
  clear hT hG
  go_enter Tryd.func8, Tryd.ntmps8
  go_wp2_with fail
  refine (awake_any _ HT.out).mono ?_
  rintro e w1 ⟨rfl, hb⟩
  replace r0 := r0.below hb r0.lt
  replace hB := hB.trans (hb.mono hB.size)
  have HT1 := Lib.hid (HT.out.below hb HT.out.lt)
  have HG1 := Lib.hid (HG.out.on hb)
  clear hb HT HG
  go_wp2_with (refine wpList_load_row rfl 31 _ rfl _ rfl 31 _ (0, 0) _ r0 Tryd.underlying31 rfl (by kernel_rfl) ?_)
  refine (made_any a1 a2 a3 a4 a5 S P1 P2 sn sc pn1 pc1 pn2 pc2 sl p1 p2 _ h1 h2 h3 h4 h5 HG1.out).mono ?_
  rintro e w2 ⟨c, gW, cW, xs, hf, rfl, hL, hgd, hib, hgW, hb⟩
  have hB2 := hB.trans (hb.mono hB.size)
  have HT2 := Lib.hid ((HT1.out.below hb HT1.out.lt).below (bnew w2 (.cells #[Value.int .i64 c.wo, Value.int .i64 c.sl, Value.int .i64 c.st, Value.int .i64 c.wa, Value.int .i64 c.us] 35)) (HT1.out.below hb HT1.out.lt).lt)
  have HW2 := Lib.hid (hib.on (bnew w2 (.cells #[Value.int .i64 c.wo, Value.int .i64 c.sl, Value.int .i64 c.st, Value.int .i64 c.wa, Value.int .i64 c.us] 35)))
  have hW0 : w.heap.size ≤ gW := by have := hB.size; omega
  have hW1 := hib.1
  have rc2 := RowAt.new w2 35 #[Value.int .i64 c.wo, Value.int .i64 c.sl, Value.int .i64 c.st, Value.int .i64 c.wa, Value.int .i64 c.us]
  have hB3 := hB2.trans ((bnew w2 (.cells #[Value.int .i64 c.wo, Value.int .i64 c.sl, Value.int .i64 c.st, Value.int .i64 c.wa, Value.int .i64 c.us] 35)).mono hB2.size)
  have hBs := hB2.size
  have Hc := Lib.hid hf.rc
  have q1 := hf.wo
  have q2 := hf.sl
  have HGd := Lib.hid hgd
  have n9 := (cellsN_eq hf.rc).2
  obtain ⟨N, hN⟩ : ∃ N, N = cellsN c := ⟨_, rfl⟩
  rw [← hN] at hL n9 ⊢
  have HN := Lib.hid hN
  have HL := Lib.hid hL
  clear hb hib hgd r0 hB hB2 HT1 HG1 hf hN hL
  go_wp2_with (refine wpList_load_row rfl 35 _ rfl _ rfl 35 _ (0, 0) _ rc2 Tryd.underlying35 rfl (by kernel_rfl) ?_)
  obtain ⟨Bc, eB⟩ : ∃ Bc, Bc = w2.heap.size := ⟨_, rfl⟩
  rw [← eB] at rc2 hW1 hBs ⊢
  obtain ⟨W2, eW⟩ : ∃ W2, W2 = w2.alloc (.cells #[Value.int .i64 c.wo, Value.int .i64 c.sl, Value.int .i64 c.st, Value.int .i64 c.wa, Value.int .i64 c.us] 35) := ⟨_, rfl⟩
  rw [← eW] at rc2 HT2 HW2 hB3 ⊢
  clear eB eW
  refine (laid_any c (some ⟨gW, 0, none⟩) N cW W2.heap.size xs _ Hc.out HL.out HN.out HW2.out.is (Nat.le_refl _)).mono ?_
  rintro e w3 ⟨g, gw, rfl, hg, hgw, hM, hb⟩
  have l1 := rc2.lt
  have rc3 := rc2.below hb rc2.lt
  have HT3 := Lib.hid (HT2.out.below hb HT2.out.lt)
  have HW3 := Lib.hid (HW2.out.on hb)
  have hB4 := hB3.trans (hb.mono hB3.size)
  have l2 := hM.lg
  have l3 := hM.lw
  have HM3 := Lib.hid hM
  clear hb HT2 HW2 hB3 rc2 hM
  go_wp2_with (refine wpList_load_row rfl 35 _ rfl _ rfl 35 _ (0, 0) _ rc3 Tryd.underlying35 rfl (by kernel_rfl) ?_)
  refine (find_new c k o m _).mono ?_
  rw [HmM.out]
  rintro e w4 ⟨f, q, n, fr, rfl, hF, hf, hq, hb⟩
  have rc4 := rc3.below hb rc3.lt
  have HT4 := Lib.hid (HT3.out.below hb HT3.out.lt)
  have HW4 := Lib.hid (HW3.out.on hb)
  have HM4 := Lib.hid (HM3.out.on hb)
  have HF4 := Lib.hid hF
  have hB5 := hB4.trans (hb.mono hB4.size)
  have o1 : w.heap.size ≤ gW ∧ gW < Bc := ⟨hW0, hW1⟩
  have o2 : Bc < g ∧ Bc < gw ∧ g < f ∧ gw < f ∧ g < q ∧ gw < q := by omega
  have o3 : g ≠ gw := HM4.out.ne
  have o4 : f ≠ q := HF4.out.ne
  clear hb HT3 HW3 HM3 hF hB4 rc3 hW0 hW1 hg hgw l1 l2 l3 hf hq hgW hBs
  obtain ⟨F, hF⟩ : ∃ F : Nat, (3 + c.wo + c.wo).toNat = F := ⟨_, rfl⟩
  have HF := Lib.hid hF
  have hFN : (F : Int) + c.sl = N := by have := (cellsN_eq Hc.out).1; rw [← HN.out] at this; unfold cellsI at this; omega
  clear hF
  go_upto_block 0 with fail
  go_cut [9] (fun ok wr => ok = .bool true ∧ ∃ y : Fs, Hid (FindAt wr f q c n fr k o y) ∧ Hid (Fnd xs F k o M0 c.sl y) ∧ RowAt wr Bc 35 #[Value.int .i64 c.wo, Value.int .i64 c.sl, Value.int .i64 c.st, Value.int .i64 c.wa, Value.int .i64 c.us] ∧ Hid (IB wr gW xs) ∧ Hid (Below w.heap.size w wr))
  case first =>
    go_wp2_with fail
    go_loopw [14] (fun j wr => ∃ (i t : Nat) (wd : Int), j = .int .i64 i ∧ ((i : Int) = 0 ∨ ((M0 + i : Nat) : Int) < c.sl) ∧ t ≤ N + i ∧ Hid (MemAt wr g gw N ⟨xs, t⟩) ∧ Hid (FindAt wr f q c n fr k o ⟨((M0 + i : Nat) : Int), wd, false⟩) ∧ Hid (∀ j : Nat, M0 ≤ j → j < M0 + i → ftB xs F k o j = false) ∧ Hid (Tab wr) ∧ RowAt wr Bc 35 #[Value.int .i64 c.wo, Value.int .i64 c.sl, Value.int .i64 c.st, Value.int .i64 c.wa, Value.int .i64 c.us] ∧ Hid (IB wr gW xs) ∧ Hid (Below w.heap.size w wr)) (fun j _ => 9 - (intOf j).toNat)
    case atStart => exact ⟨0, N, 0, rfl, .inl rfl, by omega, HM4, HF4, Lib.hid (fun j h1 h2 => by omega), HT4, rc4, HW4, Lib.hid hB5⟩
    case round =>
      obtain ⟨i, t, wd, rfl, hi, ht, HM, HFi, HJ, HTi, hrc, HW, hbb⟩ := hrel
      clear HM4 HF4 HT4 rc4 HW4 hB5
      have hsz := hbb.out.size
      have hi9 : (i : Int) < 9 := by omega
      by_cases hj : ((M0 + i : Nat) : Int) < c.sl
      · obtain ⟨v, hv⟩ := num_some (xs := xs) (k := F + (M0 + i)) (by rw [HL.out]; omega)
        have hlk := lookI_at (wd := wd) (b := false) HF.out Hc.out hv
        have hdn : doneB c ⟨((M0 + i : Nat) : Int), wd, false⟩ = false := by simp [doneB]; omega
        have htt := tch_go hdn
        obtain ⟨hv1, hv2⟩ := HGd.out _ v hv
        have hfit := wfit_of (k := k) (o := o) (hv2 (by rw [HF.out]; omega))
        have hft := ft_at (k := k) (o := o) hv
        rw [← hft] at hfit
        clear hv hv2 hft
        go_wp2_with fail
        refine (step_any f q g gw N c n fr k o ⟨((M0 + i : Nat) : Int), wd, false⟩ ⟨xs, t⟩ _ Hc.out (by simp only; omega) HFi.out HM.out HTi.out (by rw [HL.out, HN.out]) (by simp only; omega) HGd.out.in64 (by omega) (by omega) (by omega) (by omega) (by omega) (by omega) (by omega)).mono ?_
        rintro e u3 ⟨rfl, hm, hff, hs⟩
        rw [htt] at hm
        cases hq : ftB xs F k o (M0 + i) with
        | true =>
          rw [step_hit hdn (by rw [hlk, hfit]; exact hq), hlk] at hff ⊢
          rw [show doneB c ⟨((M0 + i : Nat) : Int), v, true⟩ = true from rfl]
          have HQ := Lib.hid hq
          have Hj := Lib.hid hj
          clear hq hlk hdn hfit htt
          have HT3 := Lib.hid (HTi.out.spx hs (by simp <;> omega))
          have rc3 := hrc.spx hs (by simp <;> omega)
          have HW3 := Lib.hid (HW.out.spx hs (by simp <;> omega))
          have hB3 := hs.below hbb.out hsz (by simp <;> omega)
          have HM3 := Lib.hid hm
          have HF3 := Lib.hid hff
          clear hm hff hs HM HFi HTi hrc HW hbb
          go_wp2_with fail
          go_meet
          exact ⟨rfl, _, HF3, Lib.hid ⟨fun _ => ⟨M0 + i, rfl, by omega, Hj.out, HQ.out, HJ.out⟩, fun h => by cases h⟩, rc3, HW3, Lib.hid hB3⟩
        | false =>
          rw [step_miss hdn (by rw [hlk, hfit]; exact hq), hlk] at hff ⊢
          rw [show doneB c ⟨((M0 + i : Nat) : Int) + 1, v, false⟩ = decide (c.sl ≤ ((M0 + i : Nat) : Int) + 1) from rfl]
          have HJ2 : Hid (∀ j : Nat, M0 ≤ j → j < M0 + (i + 1) → ftB xs F k o j = false) := Lib.hid (fun j h1 h2 => by
            by_cases e : j = M0 + i
            · rw [e]; exact hq
            · exact HJ.out j h1 (by omega))
          clear hq hlk hdn hfit htt
          have HT3 := Lib.hid (HTi.out.spx hs (by simp <;> omega))
          have rc3 := hrc.spx hs (by simp <;> omega)
          have HW3 := Lib.hid (HW.out.spx hs (by simp <;> omega))
          have hB3 := hs.below hbb.out hsz (by simp <;> omega)
          have HM3 := Lib.hid hm
          have HF3 := Lib.hid hff
          clear hm hff hs HM HFi HTi hrc HW hbb
          by_cases hlast : c.sl ≤ ((M0 + i : Nat) : Int) + 1
          · rw [decide_eq_true hlast]
            have Hla := Lib.hid hlast
            clear hlast
            go_wp2_with fail
            go_meet
            exact ⟨rfl, _, HF3, Lib.hid ⟨(fun h => by cases h), fun _ j h1 h2 => HJ2.out j h1 (by have := Hla.out; omega)⟩, rc3, HW3, Lib.hid hB3⟩
          · rw [decide_eq_false hlast]
            have Hla := Lib.hid hlast
            clear hlast
            go_wp2_with fail
            refine (found_any f c n fr ⟨((M0 + i : Nat) : Int) + 1, v, false⟩ _ HF3.out.row).mono ?_
            rintro e u4 ⟨rfl, j, rfl⟩
            rw [show foundV ⟨((M0 + i : Nat) : Int) + 1, v, false⟩ = .tuple #[.int .i64 0, .int .i64 0, .bool false] from rfl]
            have hbj : Below u3.heap.size u3 (u3.drewN j) := bdrew (Below.refl _ _) j
            have hF9 := HF3.out.on hbj
            rw [show (((M0 + i : Nat) : Int) + 1) = ((M0 + (i + 1) : Nat) : Int) by omega] at hF9
            have HF9 := Lib.hid hF9
            clear hF9
            go_wp2_with fail
            go_roundw
            case rel => exact ⟨i + 1, t + 1, v, by go_num, .inr (by have := Hla.out; omega), by omega, Lib.hid (HM3.out.drewN j), HF9, HJ2, Lib.hid HT3.out, rc3, Lib.hid (HW3.out.on hbj), Lib.hid (bdrew hB3 j)⟩
            case measure => simp [intOf]; omega
      · obtain rfl : i = 0 := by omega
        have hdn : doneB c ⟨((M0 + 0 : Nat) : Int), wd, false⟩ = true := by simp [doneB]; omega
        have hj2 : c.sl ≤ ((M0 + 0 : Nat) : Int) := by omega
        have Hj := Lib.hid hj2
        clear hj hj2
        go_wp2_with fail
        refine (step_any f q g gw N c n fr k o ⟨((M0 + 0 : Nat) : Int), wd, false⟩ ⟨xs, t⟩ _ Hc.out (by simp only; omega) HFi.out HM.out HTi.out (by rw [HL.out, HN.out]) (by simp only; omega) HGd.out.in64 (by omega) (by omega) (by omega) (by omega) (by omega) (by omega) (by omega)).mono ?_
        rintro e u3 ⟨rfl, hm, hff, hs⟩
        rw [step_done hdn] at hff ⊢
        rw [hdn]
        clear hdn
        have HT3 := Lib.hid (HTi.out.spx hs (by simp <;> omega))
        have rc3 := hrc.spx hs (by simp <;> omega)
        have HW3 := Lib.hid (HW.out.spx hs (by simp <;> omega))
        have hB3 := hs.below hbb.out hsz (by simp <;> omega)
        have HM3 := Lib.hid hm
        have HF3 := Lib.hid hff
        clear hm hff hs HM HFi HTi hrc HW hbb
        go_wp2_with fail
        go_meet
        exact ⟨rfl, _, HF3, Lib.hid ⟨(fun h => by cases h), fun _ j h1 h2 => by have := Hj.out; omega⟩, rc3, HW3, Lib.hid hB3⟩
  case rest =>
    obtain ⟨rfl, y, HFy, HFn, rcy, HWy, hby⟩ := hcut
    clear HM4 HF4 HT4 rc4 HW4 hB5
    obtain ⟨py, wy, b⟩ := y
    cases b with
    | true =>
      obtain ⟨p, e1, e2, e3, e4, e5⟩ := HFn.out.hit rfl
      simp only at e1
      subst e1
      have Hp := Lib.hid (And.intro e2 (And.intro e3 (And.intro e4 e5)))
      clear HFn e2 e3 e4 e5
      go_wp2_with fail
      refine (found_any f c n fr ⟨(p : Int), wy, true⟩ _ HFy.out.row).mono ?_
      rintro e u4 ⟨rfl, j, rfl⟩
      rw [show foundV ⟨(p : Int), wy, true⟩ = .tuple #[.int .i64 p, .int .i64 wy, .bool true] from rfl]
      have rc5 : RowAt (wc.drewN j) Bc 35 #[Value.int .i64 c.wo, Value.int .i64 c.sl, Value.int .i64 c.st, Value.int .i64 c.wa, Value.int .i64 c.us] := rcy
      have hB5 := bdrew hby.out j
      have hbj : Below wc.heap.size wc (wc.drewN j) := bdrew (Below.refl _ _) j
      have HW5 := Lib.hid (HWy.out.on hbj)
      clear rcy hby HWy HFy hbj
      generalize wc.drewN j = u4 at *
      go_wp2_with (refine wpList_load_row rfl 35 _ rfl _ rfl 35 _ (0, 0) _ rc5 Tryd.underlying35 rfl (by kernel_rfl) ?_)
      refine (refSlots_any (some ⟨gW, 0, none⟩) N cW xs c _ Hc.out HL.out HW5.out.is HGd.out.in64).mono ?_
      have hlenS := slotsL_length (HL.out.trans HN.out) Hc.out
      obtain ⟨P, hP⟩ : ∃ P : Nat, c.sl = P := ⟨c.sl.toNat, by omega⟩
      rw [show c.sl.toNat = P by omega] at hlenS
      have hat : ∀ (i : Nat) v, i < P → xs[F + i]? = some v → (slotsL c xs)[i]? = some (decS v) := fun i v hi h => slotsL_at HF.out (HL.out.trans HN.out) (by omega) h
      obtain ⟨L, eL⟩ : ∃ L, L = slotsL c xs := ⟨_, rfl⟩
      rw [← eL] at hlenS hat ⊢
      have Hat := Lib.hid hat
      have HlS := Lib.hid hlenS
      have HP := Lib.hid hP
      have hp1 : P ≤ 5 := by omega
      have hFP : F + P = N := by omega
      clear eL hat hlenS hP
      rintro e w5 ⟨A, cs, rfl, _, hls, _, hb⟩
      rw [HlS.out]
      have HLS5 := Lib.hid hls
      have hB6 := hB5.trans (hb.mono hB5.size)
      clear hb hls rc5 HW5 hB5
      go_wp2_with fail
      go_loopw [22] (fun j wr => ∃ i : Nat, i ≤ P ∧ j = .int .i64 i ∧ Hid (∀ j : Nat, j < i → ftB xs F k o j = false ∨ (j : Int) < m) ∧ Hid (LS wr wr.heap.size A L) ∧ Hid (Below w.heap.size w wr)) (fun j _ => P - (intOf j).toNat)
      case atStart => exact ⟨0, Nat.zero_le _, rfl, Lib.hid (fun j h => by omega), HLS5, Lib.hid hB6⟩
      case round =>
        obtain ⟨i, hi, rfl, HJ, HLS, hbb⟩ := hrel
        clear HLS5 hB6
        have hB6 := hbb.out
        by_cases hlt : i < P
        · obtain ⟨v, hv⟩ := num_some (xs := xs) (k := F + i) (by rw [HL.out]; omega)
          have hft := ft_at (k := k) (o := o) hv
          have HY := Lib.hid (Hat.out i v hlt hv)
          obtain ⟨y, ey⟩ : ∃ y, y = decS v := ⟨_, rfl⟩
          rw [← ey] at hft HY
          have Hft := Lib.hid hft.symm
          obtain ⟨b, off, eA, hb1, d0, d1, d2, d3, d4, d5, d6, d7, d8⟩ := HLS.out i y HY.out
          rw [eA]
          clear hv ey hft
          go_wp2_with fail
          refine (refFits_any y k o _).mono ?_
          rw [Hft.out]
          rintro e u6 ⟨rfl, hb⟩
          have hB7 := hB6.trans (hb.mono hB6.size)
          have HLS7 := Lib.hid (HLS.out.on hb)
          clear hb HLS hB6 hbb d0 d1 d2 d3 d4 d5 d6 d7 d8
          cases hq : ftB xs F k o i with
          | true =>
            have HQ := Lib.hid hq
            clear hq
            by_cases hge : m ≤ i
            · have hpi : p = i := by
                obtain ⟨a1, a2, a3, a4⟩ := Hp.out
                by_cases h1 : p < i
                · rcases HJ.out p h1 with h2 | h2
                  · rw [a3] at h2; cases h2
                  · omega
                · by_cases h2 : i < p
                  · have := a4 i (HmM2.out i hge) h2
                    rw [HQ.out] at this
                    cases this
                  · omega
              subst hpi
              go_wp2_with fail
              go_ret
              exact ⟨rfl, hB7⟩
            · have HJ2 : Hid (∀ j : Nat, j < i + 1 → ftB xs F k o j = false ∨ (j : Int) < m) := Lib.hid (fun j h => by
                by_cases e : j = i
                · rw [e]; exact .inr (by omega)
                · exact HJ.out j (by omega))
              go_wp2_with fail
              rw [← eA]
              go_roundw
              case rel => exact ⟨i + 1, by omega, by go_num, HJ2, HLS7, Lib.hid hB7⟩
              case measure => simp [intOf]; omega
          | false =>
            have HJ2 : Hid (∀ j : Nat, j < i + 1 → ftB xs F k o j = false ∨ (j : Int) < m) := Lib.hid (fun j h => by
              by_cases e : j = i
              · rw [e]; exact .inl hq
              · exact HJ.out j (by omega))
            clear hq
            go_wp2_with fail
            rw [← eA]
            go_roundw
            case rel => exact ⟨i + 1, by omega, by go_num, HJ2, HLS7, Lib.hid hB7⟩
            case measure => simp [intOf]; omega
        · obtain rfl : i = P := by omega
          exfalso
          obtain ⟨a1, a2, a3, a4⟩ := Hp.out
          rcases HJ.out p (by have := HP.out; omega) with h2 | h2
          · rw [a3] at h2; cases h2
          · omega
    | false =>
      have Hms := Lib.hid (HFn.out.miss rfl)
      clear HFn
      go_wp2_with fail
      refine (found_any f c n fr ⟨py, wy, false⟩ _ HFy.out.row).mono ?_
      rintro e u4 ⟨rfl, j, rfl⟩
      rw [show foundV ⟨py, wy, false⟩ = .tuple #[.int .i64 0, .int .i64 0, .bool false] from rfl]
      have rc5 : RowAt (wc.drewN j) Bc 35 #[Value.int .i64 c.wo, Value.int .i64 c.sl, Value.int .i64 c.st, Value.int .i64 c.wa, Value.int .i64 c.us] := rcy
      have hB5 := bdrew hby.out j
      have hbj : Below wc.heap.size wc (wc.drewN j) := bdrew (Below.refl _ _) j
      have HW5 := Lib.hid (HWy.out.on hbj)
      clear rcy hby HWy HFy hbj
      generalize wc.drewN j = u4 at *
      go_wp2_with (refine wpList_load_row rfl 35 _ rfl _ rfl 35 _ (0, 0) _ rc5 Tryd.underlying35 rfl (by kernel_rfl) ?_)
      refine (refSlots_any (some ⟨gW, 0, none⟩) N cW xs c _ Hc.out HL.out HW5.out.is HGd.out.in64).mono ?_
      have hlenS := slotsL_length (HL.out.trans HN.out) Hc.out
      obtain ⟨P, hP⟩ : ∃ P : Nat, c.sl = P := ⟨c.sl.toNat, by omega⟩
      rw [show c.sl.toNat = P by omega] at hlenS
      have hat : ∀ (i : Nat) v, i < P → xs[F + i]? = some v → (slotsL c xs)[i]? = some (decS v) := fun i v hi h => slotsL_at HF.out (HL.out.trans HN.out) (by omega) h
      obtain ⟨L, eL⟩ : ∃ L, L = slotsL c xs := ⟨_, rfl⟩
      rw [← eL] at hlenS hat ⊢
      have Hat := Lib.hid hat
      have HlS := Lib.hid hlenS
      have HP := Lib.hid hP
      have hp1 : P ≤ 5 := by omega
      have hFP : F + P = N := by omega
      clear eL hat hlenS hP
      rintro e w5 ⟨A, cs, rfl, _, hls, _, hb⟩
      rw [HlS.out]
      have HLS5 := Lib.hid hls
      have hB6 := hB5.trans (hb.mono hB5.size)
      clear hb hls rc5 HW5 hB5
      go_wp2_with fail
      go_loopw [22] (fun j wr => ∃ i : Nat, i ≤ P ∧ j = .int .i64 i ∧ Hid (∀ j : Nat, j < i → ftB xs F k o j = false ∨ (j : Int) < m) ∧ Hid (LS wr wr.heap.size A L) ∧ Hid (Below w.heap.size w wr)) (fun j _ => P - (intOf j).toNat)
      case atStart => exact ⟨0, Nat.zero_le _, rfl, Lib.hid (fun j h => by omega), HLS5, Lib.hid hB6⟩
      case round =>
        obtain ⟨i, hi, rfl, HJ, HLS, hbb⟩ := hrel
        clear HLS5 hB6
        have hB6 := hbb.out
        by_cases hlt : i < P
        · obtain ⟨v, hv⟩ := num_some (xs := xs) (k := F + i) (by rw [HL.out]; omega)
          have hft := ft_at (k := k) (o := o) hv
          have HY := Lib.hid (Hat.out i v hlt hv)
          obtain ⟨y, ey⟩ : ∃ y, y = decS v := ⟨_, rfl⟩
          rw [← ey] at hft HY
          have Hft := Lib.hid hft.symm
          obtain ⟨b, off, eA, hb1, d0, d1, d2, d3, d4, d5, d6, d7, d8⟩ := HLS.out i y HY.out
          rw [eA]
          clear hv ey hft
          go_wp2_with fail
          refine (refFits_any y k o _).mono ?_
          rw [Hft.out]
          rintro e u6 ⟨rfl, hb⟩
          have hB7 := hB6.trans (hb.mono hB6.size)
          have HLS7 := Lib.hid (HLS.out.on hb)
          clear hb HLS hB6 hbb d0 d1 d2 d3 d4 d5 d6 d7 d8
          cases hq : ftB xs F k o i with
          | true =>
            have HQ := Lib.hid hq
            clear hq
            by_cases hge : m ≤ i
            · exact absurd (Hms.out i (HmM2.out i hge) (by have := HP.out; omega)) (by rw [HQ.out]; decide)
            · have HJ2 : Hid (∀ j : Nat, j < i + 1 → ftB xs F k o j = false ∨ (j : Int) < m) := Lib.hid (fun j h => by
                by_cases e : j = i
                · rw [e]; exact .inr (by omega)
                · exact HJ.out j (by omega))
              go_wp2_with fail
              rw [← eA]
              go_roundw
              case rel => exact ⟨i + 1, by omega, by go_num, HJ2, HLS7, Lib.hid hB7⟩
              case measure => simp [intOf]; omega
          | false =>
            have HJ2 : Hid (∀ j : Nat, j < i + 1 → ftB xs F k o j = false ∨ (j : Int) < m) := Lib.hid (fun j h => by
              by_cases e : j = i
              · rw [e]; exact .inl hq
              · exact HJ.out j (by omega))
            clear hq
            go_wp2_with fail
            rw [← eA]
            go_roundw
            case rel => exact ⟨i + 1, by omega, by go_num, HJ2, HLS7, Lib.hid hB7⟩
            case measure => simp [intOf]; omega
        · obtain rfl : i = P := by omega
          go_wp2_with fail
          go_ret
          exact ⟨rfl, hB6⟩
end Go.Proofs.YtbkcniknbpgphaaDoor
