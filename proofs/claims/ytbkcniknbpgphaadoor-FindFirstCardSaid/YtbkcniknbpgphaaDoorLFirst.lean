/- The law FindFirst, walked. -/
import Derived.Test.YtbkcniknbpgphaaDoorPrel2
namespace Go.Proofs.YtbkcniknbpgphaaDoor
open Go.RowKit
attribute [local go_sem ↓] Go.wp_at_zero Go.wp_at_succ

set_option maxRecDepth 100000 in
set_option maxHeartbeats 2000000 in
theorem lfirst_any (a1 a2 a3 a4 a5 : Int) (S P1 P2 : Option Addr) (sn sc pn1 pc1 pn2 pc2 : Nat) (sl : List Sl) (p1 p2 : List Int) (k o : Int) (w : World) (hT : Tab w) (h1 : 0 ≤ a1 ∧ a1 ≤ 255) (h2 : 0 ≤ a2 ∧ a2 ≤ 255) (h3 : 0 ≤ a3 ∧ a3 ≤ 255) (h4 : 0 ≤ a4 ∧ a4 ≤ 255) (h5 : 0 ≤ a5 ∧ a5 ≤ 255) (hG : GivenAt w S P1 P2 sn pn1 pn2 sl p1 p2) :
    Calls Tryd.prog 5 #[Value.agg #[Value.int .u8 a1, Value.int .u8 a2, Value.int .u8 a3, Value.int .u8 a4, Value.int .u8 a5, .slice S sn sc, .slice P1 pn1 pc1, .slice P2 pn2 pc2], .int .i64 k, .int .i64 o] w fun e w' => e = .returned (.bool true) ∧ Below w.heap.size w w' := by
  have hB := bnew w (.cells #[Value.int .u8 a1, Value.int .u8 a2, Value.int .u8 a3, Value.int .u8 a4, Value.int .u8 a5, .slice S sn sc, .slice P1 pn1 pc1, .slice P2 pn2 pc2] 31)
  have r0 := RowAt.new w 31 #[Value.int .u8 a1, Value.int .u8 a2, Value.int .u8 a3, Value.int .u8 a4, Value.int .u8 a5, .slice S sn sc, .slice P1 pn1 pc1, .slice P2 pn2 pc2]
  have HT := Lib.hid (hT.below hB hT.lt)
  have HG := Lib.hid (hG.on hB)
  have hz0 := hT.lt
  clear hT hG
  go_enter Tryd.func5, Tryd.ntmps5
  go_wp2_with fail
  refine (awake_any _ HT.out).mono ?_
  rintro e w1 ⟨rfl, hb⟩
  replace r0 := r0.below hb r0.lt
  replace hB := hB.trans (hb.mono hB.size)
  have HT1 := Lib.hid (HT.out.below hb HT.out.lt)
  have HG1 := Lib.hid (HG.out.on hb)
  clear hb HT HG
  go_wp2_with (refine wpList_load_row rfl 31 _ rfl _ rfl 31 _ (0, 0) _ r0 Tryd.underlying31 rfl (by kernel_rfl) ?_)
  refine (made_any a1 a2 a3 a4 a5 S P1 P2 sn sc pn1 pc1 pn2 pc2 sl p1 p2 _ h1 h2 h3 h4 h5 HG1.out).mono ?_
  rintro e w2 ⟨c, gW, cW, xs, hf, rfl, hL, hgd, hib, hgW, hb⟩
  have hB2 := hB.trans (hb.mono hB.size)
  have HT2 := Lib.hid ((HT1.out.below hb HT1.out.lt).below (bnew w2 (.cells #[Value.int .i64 c.wo, Value.int .i64 c.sl, Value.int .i64 c.st, Value.int .i64 c.wa, Value.int .i64 c.us] 35)) (HT1.out.below hb HT1.out.lt).lt)
  have HW2 := Lib.hid (hib.on (bnew w2 (.cells #[Value.int .i64 c.wo, Value.int .i64 c.sl, Value.int .i64 c.st, Value.int .i64 c.wa, Value.int .i64 c.us] 35)))
  have hW0 : w.heap.size ≤ gW := by have := hB.size; omega
  have hW1 := hib.1
  have rc2 := RowAt.new w2 35 #[Value.int .i64 c.wo, Value.int .i64 c.sl, Value.int .i64 c.st, Value.int .i64 c.wa, Value.int .i64 c.us]
  have hB3 := hB2.trans ((bnew w2 (.cells #[Value.int .i64 c.wo, Value.int .i64 c.sl, Value.int .i64 c.st, Value.int .i64 c.wa, Value.int .i64 c.us] 35)).mono hB2.size)
  have hBs := hB2.size
  have Hc := Lib.hid hf.rc
  have q1 := hf.wo
  have q2 := hf.sl
  have HGd := Lib.hid hgd
  have n9 := (cellsN_eq hf.rc).2
  obtain ⟨N, hN⟩ : ∃ N, N = cellsN c := ⟨_, rfl⟩
  rw [← hN] at hL n9 ⊢
  have HN := Lib.hid hN
  have HL := Lib.hid hL
  clear hb hib hgd r0 hB hB2 HT1 HG1 hf hN hL
  go_wp2_with (refine wpList_load_row rfl 35 _ rfl _ rfl 35 _ (0, 0) _ rc2 Tryd.underlying35 rfl (by kernel_rfl) ?_)
  obtain ⟨Bc, eB⟩ : ∃ Bc, Bc = w2.heap.size := ⟨_, rfl⟩
  rw [← eB] at rc2 hW1 hBs ⊢
  obtain ⟨W2, eW⟩ : ∃ W2, W2 = w2.alloc (.cells #[Value.int .i64 c.wo, Value.int .i64 c.sl, Value.int .i64 c.st, Value.int .i64 c.wa, Value.int .i64 c.us] 35) := ⟨_, rfl⟩
  rw [← eW] at rc2 HT2 HW2 hB3 ⊢
  clear eB eW
  refine (laid_any c (some ⟨gW, 0, none⟩) N cW W2.heap.size xs _ Hc.out HL.out HN.out HW2.out.is (Nat.le_refl _)).mono ?_
  rintro e w3 ⟨g, gw, rfl, hg, hgw, hM, hb⟩
  have l1 := rc2.lt
  have rc3 := rc2.below hb rc2.lt
  have HT3 := Lib.hid (HT2.out.below hb HT2.out.lt)
  have HW3 := Lib.hid (HW2.out.on hb)
  have hB4 := hB3.trans (hb.mono hB3.size)
  have l2 := hM.lg
  have l3 := hM.lw
  have HM3 := Lib.hid hM
  clear hb HT2 HW2 hB3 rc2 hM
  go_wp2_with (refine wpList_load_row rfl 35 _ rfl _ rfl 35 _ (0, 0) _ rc3 Tryd.underlying35 rfl (by kernel_rfl) ?_)
  refine (find_new0 c k o _).mono ?_
  rintro e w4 ⟨f, q, n, fr, rfl, hF, hf, hq, hb⟩
  have rc4 := rc3.below hb rc3.lt
  have HT4 := Lib.hid (HT3.out.below hb HT3.out.lt)
  have HW4 := Lib.hid (HW3.out.on hb)
  have HM4 := Lib.hid (HM3.out.on hb)
  have HF4 := Lib.hid hF
  have hB5 := hB4.trans (hb.mono hB4.size)
  have o1 : w.heap.size ≤ gW ∧ gW < Bc := ⟨hW0, hW1⟩
  have o2 : Bc < g ∧ Bc < gw ∧ g < f ∧ gw < f ∧ g < q ∧ gw < q := by omega
  have o3 : g ≠ gw := HM4.out.ne
  have o4 : f ≠ q := HF4.out.ne
  clear hb HT3 HW3 HM3 hF hB4 rc3 hW0 hW1 hg hgw l1 l2 l3 hf hq hgW hBs
  obtain ⟨F, hF⟩ : ∃ F : Nat, (3 + c.wo + c.wo).toNat = F := ⟨_, rfl⟩
  have HF := Lib.hid hF
  have hFN : (F : Int) + c.sl = N := by have := (cellsN_eq Hc.out).1; rw [← HN.out] at this; unfold cellsI at this; omega
  clear hF
  go_wp2_with fail
  refine (touched_any g gw N _ _ HM4.out).mono ?_
  rintro e w5' ⟨rfl, rfl⟩
  go_wp2_with (refine wpList_load_row rfl 35 _ rfl _ rfl 35 _ (0, 0) _ rc4 Tryd.underlying35 rfl (by kernel_rfl) ?_)
  refine (refSlots_any (some ⟨gW, 0, none⟩) N cW xs c _ Hc.out HL.out HW4.out.is HGd.out.in64).mono ?_
  have hlenS := slotsL_length (HL.out.trans HN.out) Hc.out
  obtain ⟨P, hP⟩ : ∃ P : Nat, c.sl = P := ⟨c.sl.toNat, by omega⟩
  rw [show c.sl.toNat = P by omega] at hlenS
  have hat : ∀ (i : Nat) v, i < P → xs[F + i]? = some v → (slotsL c xs)[i]? = some (decS v) := fun i v hi h => slotsL_at HF.out (HL.out.trans HN.out) (by omega) h
  obtain ⟨L, eL⟩ : ∃ L, L = slotsL c xs := ⟨_, rfl⟩
  rw [← eL] at hlenS hat ⊢
  have Hat := Lib.hid hat
  have HlS := Lib.hid hlenS
  have HP := Lib.hid hP
  have hp1 : P ≤ 5 := by omega
  have hp2 : 1 ≤ P := by omega
  have hFP : F + P = N := by omega
  clear eL hat hlenS hP
  rintro e w5 ⟨A, cs, rfl, _, hls, hAn, hb⟩
  rw [HlS.out]
  have l4 := HF4.out.row.lt
  have l5 := HF4.out.lq
  have l6 := HM4.out.lg
  have l7 := HM4.out.lw
  have HA : Hid (∀ b off, A = some ⟨b, off, none⟩ → b ∉ [f, g, gw]) := Lib.hid (fun b off e => by have := hAn b off e; simp <;> omega)
  have HA2 : Hid (∀ b off, A = some ⟨b, off, none⟩ → b ∉ [f]) := Lib.hid (fun b off e => by have := hAn b off e; simp <;> omega)
  have rc5 := rc4.below hb rc4.lt
  have HT5 := Lib.hid (HT4.out.below hb HT4.out.lt)
  have HW5 := Lib.hid (HW4.out.on hb)
  have HM5 := Lib.hid (HM4.out.on hb)
  have HF5 := Lib.hid (HF4.out.on hb)
  have HLS5 := Lib.hid hls
  have hB6 := hB5.trans (hb.mono hB5.size)
  obtain ⟨M, eM⟩ : ∃ M, M = w5.heap.size := ⟨_, rfl⟩
  rw [← eM] at HLS5
  have hM5 : M ≤ w5.heap.size := by omega
  clear hb hls hAn HT4 HW4 HM4 HF4 rc4 hB5 eM l4 l5 l6 l7
  go_wp2_with fail
  go_loopw [14, 15] (fun st j wr => ∃ (i : Nat) (wd : Int), i ≤ P ∧ st = .int .i64 i ∧ j = .int .i64 i ∧ Hid (MemAt wr g gw N ⟨xs, N + i⟩) ∧ Hid (FindAt wr f q c n fr k o ⟨(i : Int), wd, false⟩) ∧ Hid (Tab wr) ∧ RowAt wr Bc 35 #[Value.int .i64 c.wo, Value.int .i64 c.sl, Value.int .i64 c.st, Value.int .i64 c.wa, Value.int .i64 c.us] ∧ Hid (IB wr gW xs) ∧ Hid (LS wr M A L) ∧ M ≤ wr.heap.size ∧ Hid (Below w.heap.size w wr)) (fun _ j _ => P - (intOf j).toNat)
  case atStart => exact ⟨0, 0, Nat.zero_le _, rfl, rfl, HM5, HF5, HT5, rc5, HW5, HLS5, hM5, Lib.hid hB6⟩
  case round =>
    obtain ⟨i, wd, hi, rfl, rfl, HM, HFi, HTi, hrc, HW, HLS, hMw, hbb⟩ := hrel
    clear HM5 HF5 HT5 rc5 HW5 HLS5 hM5 hB6
    have hsz := hbb.out.size
    by_cases hlt : i < P
    · obtain ⟨v, hv⟩ := num_some (xs := xs) (k := F + i) (by rw [HL.out]; omega)
      have hlk := lookI_at (wd := wd) (b := false) HF.out Hc.out hv
      have hdn : doneB c ⟨(i : Int), wd, false⟩ = false := by simp [doneB]; have := HP.out; omega
      have htt := tch_go hdn
      obtain ⟨hv1, hv2⟩ := HGd.out _ v hv
      have hfit := wfit_of (k := k) (o := o) (hv2 (by rw [HF.out]; omega))
      have HY := Lib.hid (Hat.out i v hlt hv)
      have hpin : slotI c i = ((F + i : Nat) : Int) := slotI_nat Hc.out HF.out (by have := HP.out; omega)
      obtain ⟨y, ey⟩ : ∃ y, y = decS v := ⟨_, rfl⟩
      rw [← ey] at hfit HY
      obtain ⟨K4, eK⟩ : ∃ K4 : Nat, K4 = F + i := ⟨_, rfl⟩
      rw [← eK] at hpin hv
      have hi1 : K4 < N := by omega
      have HV := Lib.hid hv
      have HPI := Lib.hid hpin
      clear ey eK hv hpin hv2
      go_wp2_with fail
      refine (step_any f q g gw N c n fr k o ⟨(i : Int), wd, false⟩ ⟨xs, N + i⟩ _ Hc.out (by simp only; omega) HFi.out HM.out HTi.out (by rw [HL.out, HN.out]) (by simp only; omega) HGd.out.in64 (by omega) (by omega) (by omega) (by omega) (by omega) (by omega) (by omega)).mono ?_
      rintro e u3 ⟨rfl, hm, hff, hs⟩
      rw [htt] at hm
      have HT3 := Lib.hid (HTi.out.spx hs (by simp <;> omega))
      have rc3 := hrc.spx hs (by simp <;> omega)
      have HW3 := Lib.hid (HW.out.spx hs (by simp <;> omega))
      have HLS3 := Lib.hid (HLS.out.keep hMw hs HA.out)
      have hB3 := hs.below hbb.out hsz (by simp <;> omega)
      have hM3 := Nat.le_trans hMw hs.size
      have HM3 := Lib.hid hm
      clear hm hs HM HFi HTi hrc hbb HW HLS hsz
      cases hq : fitsB y k o with
      | true =>
        have HQ := Lib.hid hq
        rw [step_hit hdn (by rw [hlk, hfit]; exact hq), hlk] at hff ⊢
        rw [show doneB c ⟨(i : Int), v, true⟩ = true from rfl]
        have HF3 := Lib.hid hff
        clear hff hq hlk hdn hfit htt
        go_wp2_with fail
        refine (found_any f c n fr ⟨(i : Int), v, true⟩ _ HF3.out.row).mono ?_
        rintro e u4 ⟨rfl, j, rfl⟩
        rw [show foundV ⟨(i : Int), v, true⟩ = .tuple #[.int .i64 i, .int .i64 v, .bool true] from rfl]
        have rc4 : RowAt (u3.drewN j) Bc 35 #[Value.int .i64 c.wo, Value.int .i64 c.sl, Value.int .i64 c.st, Value.int .i64 c.wa, Value.int .i64 c.us] := rc3
        have hB4 := bdrew hB3 j
        have HT4 : Hid (Tab (u3.drewN j)) := Lib.hid HT3.out
        have HM4 := Lib.hid (HM3.out.drewN j)
        have hbj : Below u3.heap.size u3 (u3.drewN j) := bdrew (Below.refl _ _) j
        have HF4 := Lib.hid (HF3.out.on hbj)
        have HW4 := Lib.hid (HW3.out.on hbj)
        have HLS4 : Hid (LS (u3.drewN j) M A L) := Lib.hid (HLS3.out.keep hM3 (X := []) (.of_below hbj) (by simp))
        have hM4 : M ≤ (u3.drewN j).heap.size := hM3
        clear rc3 hB3 HT3 HM3 HF3 HW3 HLS3 hM3 hbj
        generalize u3.drewN j = u4 at *
        obtain ⟨b, off, eA, hb1, d0, d1, d2, d3, d4, d5, d6, d7, d8⟩ := HLS4.out i y HY.out
        rw [eA]
        go_wp2_with fail
        refine (refFits_any y k o _).mono ?_
        rw [HQ.out]
        rintro e u6 ⟨rfl, hb⟩
        have rc6 := rc4.below hb rc4.lt
        have hB6 := hB4.trans (hb.mono hB4.size)
        have HT6 := Lib.hid (HT4.out.below hb HT4.out.lt)
        have HM6 := Lib.hid (HM4.out.on hb)
        have HF6 := Lib.hid (HF4.out.on hb)
        have HW6 := Lib.hid (HW4.out.on hb)
        have HLS6 : Hid (LS u6 M A L) := Lib.hid (HLS4.out.keep hM4 (X := []) (.of_below hb) (by simp))
        have hM6 := Nat.le_trans hM4 hb.size
        clear hb rc4 hB4 HT4 HM4 HF4 HW4 HLS4 hM4 d0 d1 d2 d3 d4 d5 d6 d7 d8
        have c0 := rc6.cell 0 rfl
        have c1 := rc6.cell 1 rfl
        have c2 := rc6.cell 2 rfl
        have c3 := rc6.cell 3 rfl
        have c4 := rc6.cell 4 rfl
        go_wp2_with fail
        refine (refSlot_any c i _ Hc.out).mono ?_
        rw [HPI.out]
        rintro e u7 ⟨rfl, hb⟩
        have d7 := (HW6.out.on hb).2 K4 v HV.out
        have rc7 := rc6.below hb rc6.lt
        have HT7 := HT6.out.below hb HT6.out.lt
        have HM7 := HM6.out.on hb
        have HF7 := HF6.out.on hb
        have HW7 := HW6.out.on hb
        have HLS7 : LS u7 M A L := HLS6.out.keep hM6 (X := []) (.of_below hb) (by simp)
        have hM7 := Nat.le_trans hM6 hb.size
        have hB7 := hB6.trans (hb.mono hB6.size)
        clear hb c0 c1 c2 c3 c4 rc6 hB6 HT6 HM6 HF6 HW6 HLS6 hM6
        go_wp2_with fail
        refine (go_any f q c n fr k o ⟨(i : Int), v, true⟩ _ HF7 (fun _ => by simp only; omega)).mono ?_
        rintro e u8 ⟨rfl, hff, hs⟩
        rw [show goF ⟨(i : Int), v, true⟩ = ⟨(i : Int) + 1, v, false⟩ from rfl] at hff
        have HT8 := HT7.spx hs (by simp <;> omega)
        have rc8 := rc7.spx hs (by simp <;> omega)
        have HW8 := HW7.spx hs (by simp <;> omega)
        have HLS8 := HLS7.keep hM7 hs HA2.out
        have hM8 := Nat.le_trans hM7 hs.size
        have HM8 := HM7.spx hs (by simp <;> omega) (by simp <;> omega)
        have hB8 := hs.below hB7 hB7.size (by simp <;> omega)
        clear hs HT7 rc7 HW7 HLS7 hM7 HM7 HF7 hB7
        go_wp2_with fail
        rw [← eA]
        go_roundw
        case rel => exact ⟨i + 1, v, by omega, by go_num, by go_num, Lib.hid HM8, Lib.hid (by rw [Int.natCast_add]; exact hff), Lib.hid HT8, rc8, Lib.hid HW8, Lib.hid HLS8, hM8, Lib.hid hB8⟩
        case measure => simp [intOf]; omega
      | false =>
        have HQ := Lib.hid hq
        rw [step_miss hdn (by rw [hlk, hfit]; exact hq), hlk] at hff ⊢
        rw [show doneB c ⟨(i : Int) + 1, v, false⟩ = decide (c.sl ≤ (i : Int) + 1) from rfl]
        have HF3 := Lib.hid hff
        clear hff hq hlk hdn hfit htt
        have hsub : IntKind.i64.wrap ((P : Int) - 1) = (P : Int) - 1 := IntWalk.i64_in _ (by omega)
        obtain ⟨dn, edn⟩ : ∃ dn, dn = decide (c.sl ≤ (i : Int) + 1) := ⟨_, rfl⟩
        have hdn2 : ((i : Int) == (P : Int) - 1) = dn := by
          rw [edn]
          have := HP.out
          by_cases hh : c.sl ≤ (i : Int) + 1
          · rw [decide_eq_true hh]; simp; omega
          · rw [decide_eq_false hh]; simp; omega
        rw [← edn]
        clear edn
        go_wp2_with fail
        refine (found_any f c n fr ⟨(i : Int) + 1, v, false⟩ _ HF3.out.row).mono ?_
        rintro e u4 ⟨rfl, j, rfl⟩
        rw [show foundV ⟨(i : Int) + 1, v, false⟩ = .tuple #[.int .i64 0, .int .i64 0, .bool false] from rfl]
        have rc4 : RowAt (u3.drewN j) Bc 35 #[Value.int .i64 c.wo, Value.int .i64 c.sl, Value.int .i64 c.st, Value.int .i64 c.wa, Value.int .i64 c.us] := rc3
        have hB4 := bdrew hB3 j
        have HT4 : Hid (Tab (u3.drewN j)) := Lib.hid HT3.out
        have HM4 := Lib.hid (HM3.out.drewN j)
        have hbj : Below u3.heap.size u3 (u3.drewN j) := bdrew (Below.refl _ _) j
        have HF4 := Lib.hid (HF3.out.on hbj)
        have HW4 := Lib.hid (HW3.out.on hbj)
        have HLS4 : Hid (LS (u3.drewN j) M A L) := Lib.hid (HLS3.out.keep hM3 (X := []) (.of_below hbj) (by simp))
        have hM4 : M ≤ (u3.drewN j).heap.size := hM3
        clear rc3 hB3 HT3 HM3 HF3 HW3 HLS3 hM3 hbj
        generalize u3.drewN j = u4 at *
        obtain ⟨b, off, eA, hb1, d0, d1, d2, d3, d4, d5, d6, d7, d8⟩ := HLS4.out i y HY.out
        rw [eA]
        go_wp2_with fail
        refine (refFits_any y k o _).mono ?_
        rw [HQ.out]
        rintro e u6 ⟨rfl, hb⟩
        have rc6 := rc4.below hb rc4.lt
        have hB6 := hB4.trans (hb.mono hB4.size)
        have HT6 := Lib.hid (HT4.out.below hb HT4.out.lt)
        have HM6 := Lib.hid (HM4.out.on hb)
        have HF6 := Lib.hid (HF4.out.on hb)
        have HW6 := Lib.hid (HW4.out.on hb)
        have HLS6 : Hid (LS u6 M A L) := Lib.hid (HLS4.out.keep hM4 (X := []) (.of_below hb) (by simp))
        have hM6 := Nat.le_trans hM4 hb.size
        clear hb rc4 hB4 HT4 HM4 HF4 HW4 HLS4 hM4 d0 d1 d2 d3 d4 d5 d6 d7 d8
        have rc7 := rc6
        have HT7 := HT6.out
        have HM7 := HM6.out
        have HF7 := HF6.out
        have HW7 := HW6.out
        have HLS7 := HLS6.out
        have hM7 := hM6
        have hB7 := hB6
        clear rc6 hB6 HT6 HM6 HF6 HW6 HLS6 hM6
        cases dn <;>
        · go_wp2_with fail
          refine (go_any f q c n fr k o ⟨(i : Int) + 1, v, false⟩ _ HF7 (fun h => by cases h)).mono ?_
          rintro e u8 ⟨rfl, hff, hs⟩
          rw [show goF ⟨(i : Int) + 1, v, false⟩ = ⟨(i : Int) + 1, v, false⟩ from rfl] at hff
          have HT8 := HT7.spx hs (by simp <;> omega)
          have rc8 := rc7.spx hs (by simp <;> omega)
          have HW8 := HW7.spx hs (by simp <;> omega)
          have HLS8 := HLS7.keep hM7 hs HA2.out
          have hM8 := Nat.le_trans hM7 hs.size
          have HM8 := HM7.spx hs (by simp <;> omega) (by simp <;> omega)
          have hB8 := hs.below hB7 hB7.size (by simp <;> omega)
          clear hs HT7 rc7 HW7 HLS7 hM7 HM7 HF7 hB7
          go_wp2_with fail
          rw [← eA]
          go_roundw
          case rel => exact ⟨i + 1, v, by omega, by go_num, by go_num, Lib.hid HM8, Lib.hid (by rw [Int.natCast_add]; exact hff), Lib.hid HT8, rc8, Lib.hid HW8, Lib.hid HLS8, hM8, Lib.hid hB8⟩
          case measure => simp [intOf]; omega
    · obtain rfl : i = P := by omega
      have hdn : doneB c ⟨(i : Int), wd, false⟩ = true := by simp [doneB]; have := HP.out; omega
      go_wp2_with fail
      refine (step_any f q g gw N c n fr k o ⟨(i : Int), wd, false⟩ ⟨xs, N + i⟩ _ Hc.out (by simp only; omega) HFi.out HM.out HTi.out (by rw [HL.out, HN.out]) (by simp only; omega) HGd.out.in64 (by omega) (by omega) (by omega) (by omega) (by omega) (by omega) (by omega)).mono ?_
      rintro e u3 ⟨rfl, hm, hff, hs⟩
      rw [step_done hdn] at hff ⊢
      rw [hdn]
      rw [tch_done hdn] at hm
      have hB3 := hs.below hbb.out hsz (by simp <;> omega)
      have HW3 := HW.out.spx hs (by simp <;> omega)
      have HM3 := Lib.hid hm
      have HF3 := Lib.hid hff
      clear hm hff hs hdn
      go_wp2_with fail
      refine (found_any f c n fr ⟨(i : Int), wd, false⟩ _ HF3.out.row).mono ?_
      rintro e u4 ⟨rfl, j, rfl⟩
      rw [show foundV ⟨(i : Int), wd, false⟩ = .tuple #[.int .i64 0, .int .i64 0, .bool false] from rfl]
      have HM4 := Lib.hid (HM3.out.drewN j)
      have hB4 := bdrew hB3 j
      have HW4 : IB (u3.drewN j) gW xs := HW3
      go_wp2_with fail
      refine (touched_any g gw N _ _ HM4.out).mono ?_
      rintro e u5 ⟨rfl, rfl⟩
      have heq : (((N + i : Nat) : Int) == (N : Int) + (i : Int)) = true := by simp
      go_wp2_with fail
      refine (wordsS_any g gw N _ _ HM4.out (by rw [HL.out]; omega) (by rw [HL.out]; omega)).mono ?_
      rintro e u6 ⟨b, cb, rfl, _, _, hib, hb⟩
      rw [HL.out]
      have hB5 := hB4.trans (hb.mono hB4.size)
      go_wp2_with fail
      refine (ints_same _ _ _ _ N xs _ HL.out hib.is (HW4.on hb).is (by omega)).mono ?_
      rintro e u7 ⟨rfl, hb2⟩
      go_wp2_with fail
      go_ret
      exact ⟨rfl, hB5.trans (hb2.mono hB5.size)⟩
end Go.Proofs.YtbkcniknbpgphaaDoor
