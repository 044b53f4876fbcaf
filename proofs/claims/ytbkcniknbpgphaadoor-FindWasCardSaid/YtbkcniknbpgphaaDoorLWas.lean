/- The law FindWas, walked. -/
import Derived.Test.YtbkcniknbpgphaaDoorPrel
namespace Go.Proofs.YtbkcniknbpgphaaDoor
open Go.RowKit
attribute [local go_sem ↓] Go.wp_at_zero Go.wp_at_succ

set_option maxRecDepth 100000 in
set_option maxHeartbeats 2000000 in
theorem lwas_any (a1 a2 a3 a4 a5 : Int) (S P1 P2 : Option Addr) (sn sc pn1 pc1 pn2 pc2 : Nat) (sl : List Sl) (p1 p2 : List Int) (A : Option Addr) (ln lc : Nat) (l : List Wr) (k o : Int) (w : World) (hT : Tab w) (h1 : 0 ≤ a1 ∧ a1 ≤ 255) (h2 : 0 ≤ a2 ∧ a2 ≤ 255) (h3 : 0 ≤ a3 ∧ a3 ≤ 255) (h4 : 0 ≤ a4 ∧ a4 ≤ 255) (h5 : 0 ≤ a5 ∧ a5 ≤ 255) (hG : GivenAt w S P1 P2 sn pn1 pn2 sl p1 p2) (hWS : WS w w.heap.size A l) (hn : l.length = ln) (hO : ∀ x ∈ l, Wr.Ok x) :
    Calls Tryd.prog 6 #[Value.agg #[Value.int .u8 a1, Value.int .u8 a2, Value.int .u8 a3, Value.int .u8 a4, Value.int .u8 a5, .slice S sn sc, .slice P1 pn1 pc1, .slice P2 pn2 pc2], .int .i64 k, .int .i64 o, .slice A ln lc] w fun e w' => e = .returned (.bool true) ∧ Below w.heap.size w w' := by
  have HWS := Lib.hid hWS
  have Hn := Lib.hid hn
  have HO := Lib.hid hO
  clear hWS hn hO
  have hB := bnew w (.cells #[Value.int .u8 a1, Value.int .u8 a2, Value.int .u8 a3, Value.int .u8 a4, Value.int .u8 a5, .slice S sn sc, .slice P1 pn1 pc1, .slice P2 pn2 pc2] 31)
  have r0 := RowAt.new w 31 #[Value.int .u8 a1, Value.int .u8 a2, Value.int .u8 a3, Value.int .u8 a4, Value.int .u8 a5, .slice S sn sc, .slice P1 pn1 pc1, .slice P2 pn2 pc2]
  have HT := Lib.hid (hT.below hB hT.lt)
  have HG := Lib.hid (hG.on hB)
  have hz0 := hT.lt
  clear hT hG
  go_enter Tryd.func6, Tryd.ntmps6
  go_wp2_with fail
  refine (awake_any _ HT.out).mono ?_
  rintro e w1 ⟨rfl, hb⟩
  replace r0 := r0.below hb r0.lt
  replace hB := hB.trans (hb.mono hB.size)
  have HT1 := Lib.hid (HT.out.below hb HT.out.lt)
  have HG1 := Lib.hid (HG.out.on hb)
  clear hb HT HG
  go_wp2_with fail
  refine (few_any A ln lc _).mono ?_
  rintro e w1' ⟨rfl, rfl⟩
  by_cases hn20 : ln ≤ 20
  case neg =>
    rw [decide_eq_false hn20]
    go_wp2_with fail
    go_ret
    exact ⟨rfl, hB⟩
  rw [decide_eq_true hn20]
  go_wp2_with (refine wpList_load_row rfl 31 _ rfl _ rfl 31 _ (0, 0) _ r0 Tryd.underlying31 rfl (by kernel_rfl) ?_)
  refine (made_any a1 a2 a3 a4 a5 S P1 P2 sn sc pn1 pc1 pn2 pc2 sl p1 p2 _ h1 h2 h3 h4 h5 HG1.out).mono ?_
  rintro e w2 ⟨c, gW, cW, xs, hf, rfl, hL, hgd, hib, hgW, hb⟩
  have hB2 := hB.trans (hb.mono hB.size)
  have HT2 := Lib.hid ((HT1.out.below hb HT1.out.lt).below (bnew w2 (.cells #[Value.int .i64 c.wo, Value.int .i64 c.sl, Value.int .i64 c.st, Value.int .i64 c.wa, Value.int .i64 c.us] 35)) (HT1.out.below hb HT1.out.lt).lt)
  have HW2 := Lib.hid (hib.on (bnew w2 (.cells #[Value.int .i64 c.wo, Value.int .i64 c.sl, Value.int .i64 c.st, Value.int .i64 c.wa, Value.int .i64 c.us] 35)))
  have hW0 : w.heap.size ≤ gW := by have := hB.size; omega
  have hW1 := hib.1
  have rc2 := RowAt.new w2 35 #[Value.int .i64 c.wo, Value.int .i64 c.sl, Value.int .i64 c.st, Value.int .i64 c.wa, Value.int .i64 c.us]
  have hB3 := hB2.trans ((bnew w2 (.cells #[Value.int .i64 c.wo, Value.int .i64 c.sl, Value.int .i64 c.st, Value.int .i64 c.wa, Value.int .i64 c.us] 35)).mono hB2.size)
  have hBs := hB2.size
  have Hc := Lib.hid hf.rc
  have q1 := hf.wo
  have q2 := hf.sl
  have HGd := Lib.hid hgd
  have n9 := (cellsN_eq hf.rc).2
  obtain ⟨N, hN⟩ : ∃ N, N = cellsN c := ⟨_, rfl⟩
  rw [← hN] at hL n9 ⊢
  have HN := Lib.hid hN
  have HL := Lib.hid hL
  clear hb hib hgd r0 hB hB2 HT1 HG1 hf hN hL
  go_wp2_with (refine wpList_load_row rfl 35 _ rfl _ rfl 35 _ (0, 0) _ rc2 Tryd.underlying35 rfl (by kernel_rfl) ?_)
  obtain ⟨Bc, eB⟩ : ∃ Bc, Bc = w2.heap.size := ⟨_, rfl⟩
  rw [← eB] at rc2 hW1 hBs ⊢
  obtain ⟨W2, eW⟩ : ∃ W2, W2 = w2.alloc (.cells #[Value.int .i64 c.wo, Value.int .i64 c.sl, Value.int .i64 c.st, Value.int .i64 c.wa, Value.int .i64 c.us] 35) := ⟨_, rfl⟩
  rw [← eW] at rc2 HT2 HW2 hB3 ⊢
  clear eB eW
  refine (laid_any c (some ⟨gW, 0, none⟩) N cW W2.heap.size xs _ Hc.out HL.out HN.out HW2.out.is (Nat.le_refl _)).mono ?_
  rintro e w3 ⟨g, gw, rfl, hg, hgw, hM, hb⟩
  have l1 := rc2.lt
  have rc3 := rc2.below hb rc2.lt
  have HT3 := Lib.hid (HT2.out.below hb HT2.out.lt)
  have HW3 := Lib.hid (HW2.out.on hb)
  have hB4 := hB3.trans (hb.mono hB3.size)
  have l2 := hM.lg
  have l3 := hM.lw
  have HM3 := Lib.hid hM
  clear hb HT2 HW2 hB3 rc2 hM
  go_wp2_with (refine wpList_load_row rfl 35 _ rfl _ rfl 35 _ (0, 0) _ rc3 Tryd.underlying35 rfl (by kernel_rfl) ?_)
  refine (find_new0 c k o _).mono ?_
  rintro e w4 ⟨f, q, n, fr, rfl, hF, hf, hq, hb⟩
  have rc4 := rc3.below hb rc3.lt
  have HT4 := Lib.hid (HT3.out.below hb HT3.out.lt)
  have HW4 := Lib.hid (HW3.out.on hb)
  have HM4 := Lib.hid (HM3.out.on hb)
  have HF4 := Lib.hid hF
  have hB5 := hB4.trans (hb.mono hB4.size)
  have o1 : w.heap.size ≤ gW ∧ gW < Bc := ⟨hW0, hW1⟩
  have o2 : Bc < g ∧ Bc < gw ∧ g < f ∧ gw < f ∧ g < q ∧ gw < q := by omega
  have o3 : g ≠ gw := HM4.out.ne
  have o4 : f ≠ q := HF4.out.ne
  clear hb HT3 HW3 HM3 hF hB4 rc3 hW0 hW1 hg hgw l1 l2 l3 hf hq hgW hBs
  obtain ⟨F, hF⟩ : ∃ F : Nat, (3 + c.wo + c.wo).toNat = F := ⟨_, rfl⟩
  have HF := Lib.hid hF
  have hFN : (F : Int) + c.sl = N := by have := (cellsN_eq Hc.out).1; rw [← HN.out] at this; unfold cellsI at this; omega
  clear hF
  have k1 := rc4.cell 1 rfl
  go_wp2_with fail
  go_loopw [15] (fun j wr => ∃ (i : Nat) (s : St) (wd : Int), (i : Int) < c.sl ∧ j = .int .i64 i ∧ Hid (MemAt wr g gw N s) ∧ Hid (FindAt wr f q c n fr k o ⟨(i : Int), wd, false⟩) ∧ s.ws.length = N ∧ Hid (∀ (k : Nat) x, s.ws[k]? = some x → In64 x) ∧ s.t ≤ 100 + 30 * i ∧ Hid (Tab wr) ∧ RowAt wr Bc 35 #[Value.int .i64 c.wo, Value.int .i64 c.sl, Value.int .i64 c.st, Value.int .i64 c.wa, Value.int .i64 c.us] ∧ Hid (Below w.heap.size w wr)) (fun j _ => 5 - (intOf j).toNat)
  case atStart => exact ⟨0, ⟨xs, N⟩, 0, by omega, rfl, HM4, HF4, HL.out, Lib.hid HGd.out.in64, by simp only; omega, HT4, rc4, Lib.hid hB5⟩
  case round =>
    obtain ⟨i, s, wd, hi, rfl, HM, HFi, hlen, HI, ht, HTi, hrc, hbb⟩ := hrel
    clear HM4 HF4 HT4 rc4 hB5 k1
    have k1 := hrc.cell 1 rfl
    have hsz := hbb.out.size
    go_wp2_with fail
    refine (writes_any g gw N A ln lc w.heap.size l i s _ HM.out (HWS.out.below hbb.out) Hn.out HO.out hsz (by omega) (by omega) (by omega) (by omega) (by omega) (by omega)).mono ?_
    rintro e u1 ⟨rfl, hm, hs⟩
    obtain ⟨p1', p2', p3'⟩ := wrS_len s l i
    have hin := wrS_in (i := (i : Int)) HI.out HO.out
    obtain ⟨s1, es⟩ : ∃ s1, s1 = wrS s l i := ⟨_, rfl⟩
    rw [← es] at hm p1' p2' p3' hin
    rw [hlen] at p1'
    rw [Hn.out] at p3'
    clear es
    have Hlen := Lib.hid p1'
    have HI1 := Lib.hid hin
    have HM1 := Lib.hid hm
    have HF1 := Lib.hid (HFi.out.spx hs (by simp <;> omega) (by simp <;> omega))
    have HT1 := Lib.hid (HTi.out.spx hs (by simp <;> omega))
    have rc1 := hrc.spx hs (by simp <;> omega)
    have hB1 := hs.below hbb.out hsz (by simp <;> omega)
    clear hm hs hin p1' HM HFi HTi hrc hbb HI k1 hlen
    go_wp2_with fail
    refine (wordsS_any g gw N s1 _ HM1.out (by rw [Hlen.out]; omega) (by rw [Hlen.out]; omega)).mono ?_
    rintro e u2 ⟨b, cb, rfl, _, hbn, hib, hb⟩
    rw [Hlen.out]
    have o5 : f < b ∧ q < b ∧ g < b ∧ gw < b ∧ Bc < b := by have := HF1.out.row.lt; have := HF1.out.lq; have := HM1.out.lg; have := HM1.out.lw; have := rc1.lt; omega
    have HM2 := Lib.hid (HM1.out.on hb)
    have HF2 := Lib.hid (HF1.out.on hb)
    have HT2 := Lib.hid (HT1.out.below hb HT1.out.lt)
    have rc2 := rc1.below hb rc1.lt
    have hB2 := hB1.trans (hb.mono hB1.size)
    have HIB2 := Lib.hid hib
    clear hb hib HM1 HF1 HT1 rc1 hB1 hbn
    go_wp2_with fail
    refine (step_any f q g gw N c n fr k o ⟨(i : Int), wd, false⟩ s1 _ Hc.out (by simp only; omega) HF2.out HM2.out HT2.out (by rw [Hlen.out, HN.out]) (by omega) HI1.out (by omega) (by omega) (by omega) (by omega) (by omega) (by omega) (by omega)).mono ?_
    rintro e u3 ⟨rfl, hm, hff, hs⟩
    have HT3 := Lib.hid (HT2.out.spx hs (by simp <;> omega))
    have rc3 := rc2.spx hs (by simp <;> omega)
    have HIB3 := Lib.hid (HIB2.out.spx hs (by simp <;> omega))
    have hB3 := hs.below hB2 hB2.size (by simp <;> omega)
    have HM3 := Lib.hid hm
    clear hm hs HM2 HF2 HT2 rc2 hB2 HIB2
    obtain ⟨v, hv⟩ := num_some (xs := s1.ws) (k := F + i) (by rw [Hlen.out]; omega)
    have hlk := lookI_at (wd := wd) (b := false) HF.out Hc.out hv
    have hdn : doneB c ⟨(i : Int), wd, false⟩ = false := by simp [doneB]; omega
    obtain ⟨hv1, hv2⟩ := HI1.out _ v hv
    have hpin : slotI c i = ((F + i : Nat) : Int) := slotI_nat Hc.out HF.out (by omega)
    have hv3 := hv
    obtain ⟨K4, eK⟩ : ∃ K4 : Nat, K4 = F + i := ⟨_, rfl⟩
    rw [← eK] at hpin hv3
    have hi1 : K4 < N := by omega
    have HV := Lib.hid hv3
    have HP := Lib.hid hpin
    have htt : tch c ⟨(i : Int), wd, false⟩ ≤ 1 := by unfold tch; split <;> omega
    clear eK hv hv3 hpin
    cases hq : wfitB v k o with
    | true =>
      have HQ := Lib.hid hq
      rw [step_hit hdn (by rw [hlk]; exact hq), hlk] at hff ⊢
      rw [show doneB c ⟨(i : Int), v, true⟩ = true from rfl]
      have HF3 := Lib.hid hff
      clear hff hq hlk hdn
      go_wp2_with fail
      refine (found_any f c n fr ⟨(i : Int), v, true⟩ _ HF3.out.row).mono ?_
      rintro e u4 ⟨rfl, j, rfl⟩
      rw [show foundV ⟨(i : Int), v, true⟩ = .tuple #[.int .i64 i, .int .i64 v, .bool true] from rfl]
      have rc4 : RowAt (u3.drewN j) Bc 35 #[Value.int .i64 c.wo, Value.int .i64 c.sl, Value.int .i64 c.st, Value.int .i64 c.wa, Value.int .i64 c.us] := rc3
      have hB4 := bdrew hB3 j
      have HIB4 : Hid (IB (u3.drewN j) b s1.ws) := Lib.hid HIB3.out
      clear rc3 hB3 HIB3
      generalize u3.drewN j = u4 at *
      go_wp2_with (refine wpList_load_row rfl 35 _ rfl _ rfl 35 _ (0, 0) _ rc4 Tryd.underlying35 rfl (by kernel_rfl) ?_)
      refine (refSlot_any c i _ Hc.out).mono ?_
      rw [HP.out]
      rintro e u5 ⟨rfl, hb⟩
      have rc5 := rc4.below hb rc4.lt
      have hB5 := hB4.trans (hb.mono hB4.size)
      have HIB5 := Lib.hid (HIB4.out.on hb)
      have d5 := HIB5.out.2 K4 v HV.out
      clear hb rc4 hB4 HIB4
      go_wp2_with fail
      refine (refWordF_any v k o _ hv1 hv2).mono ?_
      rw [HQ.out]
      rintro e u6 ⟨rfl, hb⟩
      have rc6 := rc5.below hb rc5.lt
      have hB6 := hB5.trans (hb.mono hB5.size)
      have HIB6 := Lib.hid (HIB5.out.on hb)
      have c0 := rc6.cell 0 rfl
      have c1 := rc6.cell 1 rfl
      have c2 := rc6.cell 2 rfl
      have c3 := rc6.cell 3 rfl
      have c4 := rc6.cell 4 rfl
      clear hb rc5 hB5 HIB5 d5
      go_wp2_with fail
      refine (refSlot_any c i _ Hc.out).mono ?_
      rw [HP.out]
      rintro e u7 ⟨rfl, hb⟩
      have hB7 := hB6.trans (hb.mono hB6.size)
      have d7 := (HIB6.out.on hb).2 K4 v HV.out
      clear hb c0 c1 c2 c3 c4
      go_wp2_with fail
      go_ret
      exact ⟨rfl, hB7⟩
    | false =>
      have HQ := Lib.hid hq
      rw [step_miss hdn (by rw [hlk]; exact hq), hlk] at hff ⊢
      have HF3 := Lib.hid hff
      clear hff hq hlk hdn
      have hdec : doneB c ⟨(i : Int) + 1, v, false⟩ = decide (c.sl ≤ (i : Int) + 1) := rfl
      rw [hdec]
      clear hdec
      by_cases hlast : c.sl ≤ (i : Int) + 1
      · rw [decide_eq_true hlast]
        go_wp2_with fail
        refine (found_any f c n fr ⟨(i : Int) + 1, v, false⟩ _ HF3.out.row).mono ?_
        rintro e u4 ⟨rfl, j, rfl⟩
        rw [show foundV ⟨(i : Int) + 1, v, false⟩ = .tuple #[.int .i64 0, .int .i64 0, .bool false] from rfl]
        have hbj : Below u3.heap.size u3 (u3.drewN j) := bdrew (Below.refl _ _) j
        have rc4 : RowAt (u3.drewN j) Bc 35 #[Value.int .i64 c.wo, Value.int .i64 c.sl, Value.int .i64 c.st, Value.int .i64 c.wa, Value.int .i64 c.us] := rc3
        have hB4 := bdrew hB3 j
        have HIB4 : Hid (IB (u3.drewN j) b s1.ws) := Lib.hid HIB3.out
        go_wp2_with (refine wpList_load_row rfl 35 _ rfl _ rfl 35 _ (0, 0) _ rc4 Tryd.underlying35 rfl (by kernel_rfl) ?_)
        refine (refSlot_any c i _ Hc.out).mono ?_
        rw [HP.out]
        rintro e u5 ⟨rfl, hb⟩
        have rc5 := rc4.below hb rc4.lt
        have hB5 := hB4.trans (hb.mono hB4.size)
        have d5 := (HIB4.out.on hb).2 K4 v HV.out
        go_wp2_with fail
        refine (refWordF_any v k o _ hv1 hv2).mono ?_
        rw [HQ.out]
        rintro e u6 ⟨rfl, hb'⟩
        have rc6 := rc5.below hb' rc5.lt
        have hB6 := hB5.trans (hb'.mono hB5.size)
        have hb5 : Below (u3.drewN j).heap.size (u3.drewN j) u6 := hb.trans (hb'.mono hb.size)
        have HT6 := HT3.out.below (hbj.trans hb5) HT3.out.lt
        clear hb hb' rc5 rc4 hB5 hB4 HIB4 d5
        have c1 := rc6.cell 1 rfl
        have hsub : IntKind.i64.wrap (c.sl - 1) = c.sl - 1 := IntWalk.i64_in _ (by omega)
        have heq : ((i : Int) == c.sl - 1) = true := by simp; omega
        go_wp2_with fail
        go_ret
        exact ⟨rfl, hB6⟩
      · rw [decide_eq_false hlast]
        go_wp2_with fail
        refine (found_any f c n fr ⟨(i : Int) + 1, v, false⟩ _ HF3.out.row).mono ?_
        rintro e u4 ⟨rfl, j, rfl⟩
        rw [show foundV ⟨(i : Int) + 1, v, false⟩ = .tuple #[.int .i64 0, .int .i64 0, .bool false] from rfl]
        have hbj : Below u3.heap.size u3 (u3.drewN j) := bdrew (Below.refl _ _) j
        have rc4 : RowAt (u3.drewN j) Bc 35 #[Value.int .i64 c.wo, Value.int .i64 c.sl, Value.int .i64 c.st, Value.int .i64 c.wa, Value.int .i64 c.us] := rc3
        have hB4 := bdrew hB3 j
        have HIB4 : Hid (IB (u3.drewN j) b s1.ws) := Lib.hid HIB3.out
        go_wp2_with (refine wpList_load_row rfl 35 _ rfl _ rfl 35 _ (0, 0) _ rc4 Tryd.underlying35 rfl (by kernel_rfl) ?_)
        refine (refSlot_any c i _ Hc.out).mono ?_
        rw [HP.out]
        rintro e u5 ⟨rfl, hb⟩
        have rc5 := rc4.below hb rc4.lt
        have hB5 := hB4.trans (hb.mono hB4.size)
        have d5 := (HIB4.out.on hb).2 K4 v HV.out
        go_wp2_with fail
        refine (refWordF_any v k o _ hv1 hv2).mono ?_
        rw [HQ.out]
        rintro e u6 ⟨rfl, hb'⟩
        have rc6 := rc5.below hb' rc5.lt
        have hB6 := hB5.trans (hb'.mono hB5.size)
        have hb5 : Below (u3.drewN j).heap.size (u3.drewN j) u6 := hb.trans (hb'.mono hb.size)
        have HT6 := HT3.out.below (hbj.trans hb5) HT3.out.lt
        clear hb hb' rc5 rc4 hB5 hB4 HIB4 d5
        have HM6 := (HM3.out.drewN j).on hb5
        have HF6 := (HF3.out.spx (.of_below hbj) (X := []) (by simp) (by simp)).on hb5
        go_wp2_with fail
        go_roundw
        case rel => exact ⟨i + 1, ⟨s1.ws, s1.t + tch c ⟨(i : Int), wd, false⟩⟩, v, by omega, by go_num, Lib.hid HM6, Lib.hid (by rw [Int.natCast_add]; exact HF6), Hlen.out, HI1, by simp only; omega, Lib.hid HT6, rc6, Lib.hid hB6⟩
        case measure => simp [intOf]; omega
end Go.Proofs.YtbkcniknbpgphaaDoor
