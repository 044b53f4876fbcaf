/- Each round more is one in which something turned; no condition. -/
import Derived.Test.YtalmadeibnekoaaPrel
import Derived.Test.YtalmadeibnekoaaWr
namespace Go.Proofs.Ytalmadeibnekoaa
open Go.RowKit
attribute [local go_sem ↓] Go.wp_at_zero Go.wp_at_succ

/-- how many words others have stored ahead of step i, and at it -/
def cntB (l : List Wr) (i : Int) : Nat := l.countP fun x => decide (x.wh < i)
def hitB (l : List Wr) (i : Int) : Nat := l.countP fun x => decide (x.wh = i)
theorem cnt_step (l : List Wr) (i : Int) : cntB l (i + 1) = cntB l i + hitB l i := by
  unfold cntB hitB
  induction l with
  | nil => rfl
  | cons x l ih =>
    simp only [List.countP_cons, ih, decide_eq_true_eq]
    by_cases h1 : x.wh < i
    · rw [if_pos (by omega), if_pos h1, if_neg (by omega)]; omega
    · by_cases h2 : x.wh = i
      · rw [if_pos (by omega), if_neg h1, if_pos h2]; omega
      · rw [if_neg (by omega), if_neg h1, if_neg h2]; omega
theorem cnt_le (l : List Wr) (i : Int) : cntB l i ≤ l.length := List.countP_le_length
theorem pot_set (x : Tw) (F : Nat) (ws : List Int) (k : Nat) (v : Int) : pot x ((ws.set k v).drop F) ≤ pot x (ws.drop F) + 1 := by
  rw [List.drop_set]
  split
  · omega
  · have := dif_set (lastT x) (ws.drop F) (k - F) v
    unfold pot
    omega
theorem pot_writes (x : Tw) (F : Nat) (l : List Wr) (i : Int) (s : St) : pot x ((wrS s l i).ws.drop F) ≤ pot x (s.ws.drop F) + hitB l i := by
  unfold wrS hitB
  induction l generalizing s with
  | nil => simp
  | cons y l ih =>
    simp only [List.foldl_cons, List.countP_cons, decide_eq_true_eq]
    have h := ih (wr1 s y i)
    by_cases hy : y.wh = i
    · rw [if_pos hy]
      rw [wr1_hit hy] at h ⊢
      have := pot_set x F s.ws (y.ad % (s.ws.length : Int)).toNat y.v
      simp only at h
      omega
    · rw [if_neg hy]
      rw [wr1_miss hy] at h ⊢
      omega
theorem steps_more {n : Nat} {x : Tw} {v : Int} (hd : x.dn = false) : (stepT n x v).ro * n + (stepT n x v).se.length = x.ro * n + x.se.length + 1 := by
  by_cases hn : x.se.length + 1 = n
  · rw [step_end hd hn]
    simp only [Nat.succ_mul, List.length_nil]
    omega
  · rw [step_mid hd hn]
    simp only [List.length_append, List.length_cons, List.length_nil]
    omega
theorem last_ro {n : Nat} {x : Tw} {v : Int} (hd : x.dn = false) (h2 : (stepT n x v).dn = true) : (stepT n x v).ro = x.ro + 1 := by
  by_cases hn : x.se.length + 1 = n
  · rw [step_end hd hn]
  · rw [step_mid hd hn] at h2; cases h2
set_option maxRecDepth 100000 in
set_option maxHeartbeats 2000000 in
theorem llate_any (a1 a2 a3 a4 a5 : Int) (S P1 P2 : Option Addr) (sn sc pn1 pc1 pn2 pc2 : Nat) (sl : List Sl) (p1 p2 : List Int) (A : Option Addr) (ln lc : Nat) (l : List Wr) (w : World) (h1 : 0 ≤ a1 ∧ a1 ≤ 255) (h2 : 0 ≤ a2 ∧ a2 ≤ 255) (h3 : 0 ≤ a3 ∧ a3 ≤ 255) (h4 : 0 ≤ a4 ∧ a4 ≤ 255) (h5 : 0 ≤ a5 ∧ a5 ≤ 255) (hG : GivenAt w S P1 P2 sn pn1 pn2 sl p1 p2) (hWS : WS w w.heap.size A l) (hn : l.length = ln) (hO : ∀ x ∈ l, Wr.Ok x) :
    Calls Try.prog 6 #[Value.agg #[Value.int .u8 a1, Value.int .u8 a2, Value.int .u8 a3, Value.int .u8 a4, Value.int .u8 a5, .slice S sn sc, .slice P1 pn1 pc1, .slice P2 pn2 pc2], .slice A ln lc] w fun e w' => e = .returned (.bool true) ∧ Below w.heap.size w w' := by
  have HWS := Lib.hid hWS
  have Hn := Lib.hid hn
  have HO := Lib.hid hO
  clear hWS hn hO
  have hB := bnew w (.cells #[Value.int .u8 a1, Value.int .u8 a2, Value.int .u8 a3, Value.int .u8 a4, Value.int .u8 a5, .slice S sn sc, .slice P1 pn1 pc1, .slice P2 pn2 pc2] 27)
  have r0 := RowAt.new w 27 #[Value.int .u8 a1, Value.int .u8 a2, Value.int .u8 a3, Value.int .u8 a4, Value.int .u8 a5, .slice S sn sc, .slice P1 pn1 pc1, .slice P2 pn2 pc2]
  have HG := Lib.hid (hG.on hB)
  clear hG
  go_enter Try.func6, Try.ntmps6
  go_wp2_with fail
  refine (awake_any _).mono ?_
  rintro e w1 ⟨rfl, hb⟩
  replace r0 := r0.below hb r0.lt
  replace hB := hB.trans (hb.mono hB.size)
  have HG1 := Lib.hid (HG.out.on hb)
  clear hb HG
  by_cases hn20 : ln ≤ 20
  case neg =>
    have h41 : (20 : Int) < (ln : Int) := by omega
    go_wp2_with fail
    go_ret
    exact ⟨rfl, hB⟩
  have h41 : ¬ (20 : Int) < (ln : Int) := by omega
  go_wp2_with (refine wpList_load_row rfl 27 _ rfl _ rfl 27 _ (0, 0) _ r0 Try.underlying27 rfl (by kernel_rfl) ?_)
  refine (made_any a1 a2 a3 a4 a5 S P1 P2 sn sc pn1 pc1 pn2 pc2 sl p1 p2 _ h1 h2 h3 h4 h5 HG1.out).mono ?_
  rintro e w2 ⟨c, gW, cW, xs, hf, rfl, hcW, hL, hgd, hib, hgW, hb⟩
  have hB2 := hB.trans (hb.mono hB.size)
  have HW2 := Lib.hid (hib.on (bnew w2 (.cells #[Value.int .i64 c.wo, Value.int .i64 c.sl, Value.int .i64 c.st, Value.int .i64 c.wa, Value.int .i64 c.us] 31)))
  have hW0 : w.heap.size ≤ gW := by have := hB.size; omega
  have hW1 := hib.1
  have rc2 := RowAt.new w2 31 #[Value.int .i64 c.wo, Value.int .i64 c.sl, Value.int .i64 c.st, Value.int .i64 c.wa, Value.int .i64 c.us]
  have hB3 := hB2.trans ((bnew w2 (.cells #[Value.int .i64 c.wo, Value.int .i64 c.sl, Value.int .i64 c.st, Value.int .i64 c.wa, Value.int .i64 c.us] 31)).mono hB2.size)
  have hBs := hB2.size
  have Hc := Lib.hid hf.rc
  have q1 := hf.wo
  have q2 := hf.sl
  have HGd := Lib.hid hgd
  have n9 := (cellsN_eq hf.rc).2
  obtain ⟨N, hN⟩ : ∃ N, N = cellsN c := ⟨_, rfl⟩
  rw [← hN] at hL n9 hcW ⊢
  have HN := Lib.hid hN
  have HL := Lib.hid hL
  clear hb hib hgd r0 hB hB2 HG1 hf hN hL
  go_wp2_with (refine wpList_load_row rfl 31 _ rfl _ rfl 31 _ (0, 0) _ rc2 Try.underlying31 rfl (by kernel_rfl) ?_)
  obtain ⟨Bc, eB⟩ : ∃ Bc, Bc = w2.heap.size := ⟨_, rfl⟩
  rw [← eB] at rc2 hW1 hBs ⊢
  obtain ⟨W2, eW⟩ : ∃ W2, W2 = w2.alloc (.cells #[Value.int .i64 c.wo, Value.int .i64 c.sl, Value.int .i64 c.st, Value.int .i64 c.wa, Value.int .i64 c.us] 31) := ⟨_, rfl⟩
  rw [← eW] at rc2 HW2 hB3 ⊢
  clear eB eW
  refine (laid_any c (some ⟨gW, 0, none⟩) N cW W2.heap.size xs _ Hc.out HL.out HN.out HW2.out.is (Nat.le_refl _)).mono ?_
  rintro e w3 ⟨g, gw, rfl, hg, hgw, hM, hb⟩
  have l1 := rc2.lt
  have rc3 := rc2.below hb rc2.lt
  have HW3 := Lib.hid (HW2.out.on hb)
  have hB4 := hB3.trans (hb.mono hB3.size)
  have l2 := hM.lg
  have l3 := hM.lw
  have HM3 := Lib.hid hM
  clear hb HW2 hB3 rc2 hM
  go_wp2_with (refine wpList_load_row rfl 31 _ rfl _ rfl 31 _ (0, 0) _ rc3 Try.underlying31 rfl (by kernel_rfl) ?_)
  refine (tw_new c _).mono ?_
  rintro e w4 ⟨f, rfl, hT, hf, hb⟩
  have rc4 := rc3.below hb rc3.lt
  have HW4 := Lib.hid (HW3.out.on hb)
  have HM4 := Lib.hid (HM3.out.on hb)
  have HT4 := Lib.hid hT
  have hB5 := hB4.trans (hb.mono hB4.size)
  have o1 : w.heap.size ≤ gW ∧ gW < Bc := ⟨hW0, hW1⟩
  have o2 : Bc < g ∧ Bc < gw ∧ g < f ∧ gw < f := by omega
  have o3 : g ≠ gw := HM4.out.ne
  clear hb HW3 HM3 hT hB4 rc3 hW0 hW1 hg hgw l1 l2 l3 hf hgW hBs
  obtain ⟨F, hF⟩ : ∃ F : Nat, (3 + c.wo + c.wo).toNat = F := ⟨_, rfl⟩
  have HF := Lib.hid hF
  obtain ⟨P, hP⟩ : ∃ P : Nat, c.sl = P := ⟨c.sl.toNat, by omega⟩
  have HP := Lib.hid hP
  have hFP : F + P = N := by have := (cellsN_eq Hc.out).1; rw [← HN.out] at this; unfold cellsI at this; omega
  have hp9 : 1 ≤ P ∧ P ≤ 5 := by omega
  clear hF hP
  go_wp2_with fail
  go_loopw [10] (fun j wr => ∃ (i : Nat) (s : St) (x : Tw) (sb ab : Nat), i ≤ 300 ∧ j = .int .i64 i ∧ Hid (MemAt wr g gw N s) ∧ Hid (TwAt wr f sb ab c x) ∧ s.ws.length = N ∧ s.t ≤ 100 + 30 * i ∧ Hid (x.Ok P) ∧ Hid (x.dn = false) ∧ Hid (pot x (s.ws.drop F) ≤ cntB l i) ∧ Hid (i = x.ro * P + x.se.length) ∧ f ≤ sb ∧ f ≤ ab ∧ Hid (Below w.heap.size w wr)) (fun j _ => 300 - (intOf j).toNat)
  case atStart => exact ⟨0, ⟨xs, N⟩, newT, f, f, by omega, rfl, HM4, HT4, HL.out, by simp only; omega, Lib.hid (new_ok (by omega)), Lib.hid rfl, Lib.hid (by simp [pot, newT, lastT, dif_nil]), Lib.hid (by simp [newT]), Nat.le_refl _, Nat.le_refl _, Lib.hid hB5⟩
  case round =>
    obtain ⟨i, s, x, sb, ab, hi, rfl, HM, HT, hlen, ht, Hok, Hdn, Hpot, Hi, hsb, hab, hbb⟩ := hrel
    clear HM4 HT4 HW4 rc4 hB5
    have hsz : w.heap.size ≤ wr.heap.size := hbb.out.size
    by_cases hlt : i < 300
    · have hlt2 : (i : Int) < 300 := by omega
      go_wp2_with fail
      refine (writes_any g gw N A ln lc w.heap.size l i s _ HM.out (HWS.out.below hbb.out) Hn.out HO.out hsz (by omega) (by omega) (by omega) (by omega) (by omega) (by omega)).mono ?_
      rintro e u1 ⟨rfl, hm, hs⟩
      obtain ⟨p1', p2', p3'⟩ := wrS_len s l i
      have Hp1 := Lib.hid (pot_writes x F l i s)
      obtain ⟨s1, es⟩ : ∃ s1, s1 = wrS s l i := ⟨_, rfl⟩
      rw [← es] at hm p1' p2' p3' Hp1
      rw [hlen] at p1'
      rw [Hn.out] at p3'
      clear es
      have HM1 := Lib.hid hm
      have HT1 := Lib.hid (HT.out.spx hs (by simp <;> omega) (by simp <;> omega) (by simp <;> omega))
      have hB1 := hs.below hbb.out hsz (by simp <;> omega)
      have hse := Hok.out.se
      obtain ⟨v, hv⟩ := num_some (xs := s1.ws) (k := F + x.se.length) (by omega)
      have Hv := Lib.hid hv
      have hfl := HT1.out.lt.1
      have hro : x.ro ≤ 1000000 := by
        have h1 := Hpot.out
        have h2 := cnt_le l i
        have h3 := Hn.out
        unfold pot at h1
        omega
      have hro2 : x.ro ≤ ln + 1 := by
        have h1 := Hpot.out
        have h2 := cnt_le l i
        have h3 := Hn.out
        unfold pot at h1
        omega
      clear hm hs HM HT hbb hlen hv
      go_wp2_with fail
      refine (step_any f sb ab g gw N c P F x s1 v _ Hc.out HP.out HF.out HT1.out Hok.out HM1.out Hv.out (by omega) hro (by omega) (by omega) (by omega) (by omega) (by omega) (by omega)).mono ?_
      rintro e u2 ⟨sb2, ab2, rfl, hT, hm, hs, hsb2, hab2⟩
      have HB2 := Lib.hid (hs.below hB1 hB1.size (by simp <;> omega))
      have Hok2 := Lib.hid (step_ok Hok.out v)
      have htc : tch x ≤ 1 := by unfold tch; split <;> omega
      have HV : Hid ((s1.ws.drop F)[x.se.length]? = some v) := Lib.hid (by rw [List.getElem?_drop]; exact Hv.out)
      have HP2 := Lib.hid (fun h => pot_step (W := s1.ws.drop F) Hok.out Hdn.out HV.out h)
      have HI2 := Lib.hid (steps_more (n := P) (v := v) Hdn.out)
      have HR2 := Lib.hid (fun h => last_ro (n := P) (v := v) Hdn.out h)
      have HCN := Lib.hid (cnt_step l i)
      obtain ⟨y, ey⟩ : ∃ y, y = stepT P x v := ⟨_, rfl⟩
      rw [← ey] at hT Hok2 HP2 HI2 HR2 ⊢
      have HT2 := Lib.hid hT
      have HM2 := Lib.hid hm
      clear ey hT hm hs hB1 HT1 HM1
      cases hd : y.dn with
      | true =>
        have h2 := (Hok2.out.dn hd).2
        have h3 := HR2.out hd
        have h4 : y.ro ≤ ln + 2 := by omega
        have g1 : (2 : Int) ≤ (y.ro : Int) := by omega
        have g2 : (y.ro : Int) ≤ 2 + (ln : Int) := by omega
        clear h3 hd h2
        go_wp2_with fail
        refine (rounds_any f sb2 ab2 c _ _ HT2.out).mono ?_
        rintro e u3 ⟨rfl, rfl⟩
        go_wp2_with fail
        refine (rounds_any f sb2 ab2 c _ _ HT2.out).mono ?_
        rintro e u4 ⟨rfl, rfl⟩
        go_wp2_with fail
        go_ret
        exact ⟨rfl, HB2.out⟩
      | false =>
        have HD2 := Lib.hid hd
        have Hpot2 : Hid (pot y (s1.ws.drop F) ≤ cntB l ((i + 1 : Nat) : Int)) := Lib.hid (by
          have h1 := HP2.out hd
          have h2 := Hp1.out
          have h3 := Hpot.out
          have h4 := HCN.out
          rw [Int.natCast_add]
          simp only [Int.cast_ofNat_Int] at *
          omega)
        have Hi2 : Hid (i + 1 = y.ro * P + y.se.length) := Lib.hid (by have h1 := HI2.out; have h2 := Hi.out; omega)
        clear hd
        go_wp2_with fail
        go_roundw
        case rel => exact ⟨i + 1, ⟨s1.ws, s1.t + tch x⟩, y, sb2, ab2, by omega, by go_num, HM2, HT2, p1', by simp only; omega, Hok2, HD2, Hpot2, Hi2, by omega, by omega, HB2⟩
        case measure => simp [intOf]; omega
    · exfalso
      have h1 := Hpot.out
      have h2 := cnt_le l i
      have h3 := Hn.out
      have h4 := Hi.out
      have h5 := Hok.out.se
      have h6 : x.ro ≤ 21 := by unfold pot at h1; omega
      have h7 : x.ro * P ≤ 21 * 5 := Nat.mul_le_mul h6 hp9.2
      omega
end Go.Proofs.Ytalmadeibnekoaa
