/- What each step tells is as the document says; no condition. -/
import Derived.Test.YtalmadeibnekoaaPrel
import Derived.Test.YtalmadeibnekoaaRStep
import Derived.Test.YtalmadeibnekoaaWr2
namespace Go.Proofs.Ytalmadeibnekoaa
open Go.RowKit
attribute [local go_sem ↓] Go.wp_at_zero Go.wp_at_succ

theorem Mine.mem {w0 w : World} {A : Option Addr} {n c : Nat} {xs : List Int} (h : Mine w0 w (.slice A n c) xs) (h1 : 0 < xs.length) : ∃ g, A = some ⟨g, 0, none⟩ ∧ w0.heap.size ≤ g ∧ WB w g xs := by
  have hi := h.inv.2.1
  rcases h.own.2 with ⟨e, _⟩ | ⟨g, cap, cur, e, hg, hh, _⟩
  · injection e with e1
    subst e1
    obtain ⟨b, off, e, _⟩ := hi 0 xs[0] (by simp)
    cases e
  · injection e with e1
    subst e1
    exact ⟨g, rfl, hg, .of_is hi (Nat.le_refl _) h1, fun j => frozen_of_row w g j cur 3 hh⟩
theorem wrS_ws (ws : List Int) (t t2 : Nat) (l : List Wr) (i : Int) : (wrS ⟨ws, t⟩ l i).ws = (wrS ⟨ws, t2⟩ l i).ws := by
  unfold wrS
  induction l generalizing ws t t2 with
  | nil => rfl
  | cons x l ih =>
    simp only [List.foldl_cons]
    by_cases h : x.wh = i
    · rw [wr1_hit h, wr1_hit h]
      exact ih _ _ _
    · rw [wr1_miss h, wr1_miss h]
      exact ih _ _ _
set_option maxRecDepth 100000 in
set_option maxHeartbeats 8000000 in
theorem lplays_any (a1 a2 a3 a4 a5 : Int) (S P1 P2 : Option Addr) (sn sc pn1 pc1 pn2 pc2 : Nat) (sl : List Sl) (p1 p2 : List Int) (A : Option Addr) (ln lc : Nat) (l : List Wr) (m0 : Int) (w : World) (h1 : 0 ≤ a1 ∧ a1 ≤ 255) (h2 : 0 ≤ a2 ∧ a2 ≤ 255) (h3 : 0 ≤ a3 ∧ a3 ≤ 255) (h4 : 0 ≤ a4 ∧ a4 ≤ 255) (h5 : 0 ≤ a5 ∧ a5 ≤ 255) (hG : GivenAt w S P1 P2 sn pn1 pn2 sl p1 p2) (hWS : WS w w.heap.size A l) (hn : l.length = ln) (hO : ∀ x ∈ l, Wr.Ok x) (hm0 : 0 ≤ m0 ∧ m0 ≤ 255) :
    Calls Try.prog 3 #[Value.agg #[Value.int .u8 a1, Value.int .u8 a2, Value.int .u8 a3, Value.int .u8 a4, Value.int .u8 a5, .slice S sn sc, .slice P1 pn1 pc1, .slice P2 pn2 pc2], .slice A ln lc, .int .u8 m0] w fun e w' => e = .returned (.bool true) ∧ Below w.heap.size w w' := by
  have HWS := Lib.hid hWS
  have Hn := Lib.hid hn
  have HO := Lib.hid hO
  clear hWS hn hO
  have hB := bnew w (.cells #[Value.int .u8 a1, Value.int .u8 a2, Value.int .u8 a3, Value.int .u8 a4, Value.int .u8 a5, .slice S sn sc, .slice P1 pn1 pc1, .slice P2 pn2 pc2] 27)
  have r0 := RowAt.new w 27 #[Value.int .u8 a1, Value.int .u8 a2, Value.int .u8 a3, Value.int .u8 a4, Value.int .u8 a5, .slice S sn sc, .slice P1 pn1 pc1, .slice P2 pn2 pc2]
  have HG := Lib.hid (hG.on hB)
  clear hG
  go_enter Try.func3, Try.ntmps3
  go_wp2_with fail
  refine (awake_any _).mono ?_
  rintro e w1 ⟨rfl, hb⟩
  replace r0 := r0.below hb r0.lt
  replace hB := hB.trans (hb.mono hB.size)
  have HG1 := Lib.hid (HG.out.on hb)
  clear hb HG
  by_cases hn20 : ln ≤ 20
  case neg =>
    have h41 : (20 : Int) < (ln : Int) := by omega
    go_wp2_with fail
    go_ret
    exact ⟨rfl, hB⟩
  have h41 : ¬ (20 : Int) < (ln : Int) := by omega
  go_wp2_with (refine wpList_load_row rfl 27 _ rfl _ rfl 27 _ (0, 0) _ r0 Try.underlying27 rfl (by kernel_rfl) ?_)
  refine (made_any a1 a2 a3 a4 a5 S P1 P2 sn sc pn1 pc1 pn2 pc2 sl p1 p2 _ h1 h2 h3 h4 h5 HG1.out).mono ?_
  rintro e w2 ⟨c, gW, cW, xs, hf, rfl, hcW, hL, hgd, hib, hgW, hb⟩
  have hB2 := hB.trans (hb.mono hB.size)
  have HW2 := Lib.hid (hib.on (bnew w2 (.cells #[Value.int .i64 c.wo, Value.int .i64 c.sl, Value.int .i64 c.st, Value.int .i64 c.wa, Value.int .i64 c.us] 31)))
  have hW0 : w.heap.size ≤ gW := by have := hB.size; omega
  have hW1 := hib.1
  have rc2 := RowAt.new w2 31 #[Value.int .i64 c.wo, Value.int .i64 c.sl, Value.int .i64 c.st, Value.int .i64 c.wa, Value.int .i64 c.us]
  have hB3 := hB2.trans ((bnew w2 (.cells #[Value.int .i64 c.wo, Value.int .i64 c.sl, Value.int .i64 c.st, Value.int .i64 c.wa, Value.int .i64 c.us] 31)).mono hB2.size)
  have hBs := hB2.size
  have Hc := Lib.hid hf.rc
  have q1 := hf.wo
  have q2 := hf.sl
  have HGd := Lib.hid hgd
  have n9 := (cellsN_eq hf.rc).2
  obtain ⟨N, hN⟩ : ∃ N, N = cellsN c := ⟨_, rfl⟩
  rw [← hN] at hL n9 hcW ⊢
  have HN := Lib.hid hN
  have HL := Lib.hid hL
  clear hb hib hgd r0 hB hB2 HG1 hf hN hL
  go_wp2_with (refine wpList_load_row rfl 31 _ rfl _ rfl 31 _ (0, 0) _ rc2 Try.underlying31 rfl (by kernel_rfl) ?_)
  obtain ⟨Bc, eB⟩ : ∃ Bc, Bc = w2.heap.size := ⟨_, rfl⟩
  rw [← eB] at rc2 hW1 hBs ⊢
  obtain ⟨W2, eW⟩ : ∃ W2, W2 = w2.alloc (.cells #[Value.int .i64 c.wo, Value.int .i64 c.sl, Value.int .i64 c.st, Value.int .i64 c.wa, Value.int .i64 c.us] 31) := ⟨_, rfl⟩
  rw [← eW] at rc2 HW2 hB3 ⊢
  clear eB eW
  refine (laid_any c (some ⟨gW, 0, none⟩) N cW W2.heap.size xs _ Hc.out HL.out HN.out HW2.out.is (Nat.le_refl _)).mono ?_
  rintro e w3 ⟨g, gw, rfl, hg, hgw, hM, hb⟩
  have l1 := rc2.lt
  have rc3 := rc2.below hb rc2.lt
  have HW3 := Lib.hid (HW2.out.on hb)
  have hB4 := hB3.trans (hb.mono hB3.size)
  have l2 := hM.lg
  have l3 := hM.lw
  have HM3 := Lib.hid hM
  clear hb HW2 hB3 rc2 hM
  go_wp2_with (refine wpList_load_row rfl 31 _ rfl _ rfl 31 _ (0, 0) _ rc3 Try.underlying31 rfl (by kernel_rfl) ?_)
  refine (tw_new c _).mono ?_
  rintro e w4 ⟨f, rfl, hT, hf, hb⟩
  have rc4 := rc3.below hb rc3.lt
  have HW4 := Lib.hid (HW3.out.on hb)
  have HM4 := Lib.hid (HM3.out.on hb)
  have HT4 := Lib.hid hT
  have hB5 := hB4.trans (hb.mono hB4.size)
  have o1 : w.heap.size ≤ gW ∧ gW < Bc := ⟨hW0, hW1⟩
  have o2 : Bc < g ∧ Bc < gw ∧ g < f ∧ gw < f := by omega
  have o3 : g ≠ gw := HM4.out.ne
  clear hb HW3 HM3 hT hB4 rc3 hW0 hW1 hg hgw l1 l2 l3 hf hgW hBs
  obtain ⟨F, hF⟩ : ∃ F : Nat, (3 + c.wo + c.wo).toNat = F := ⟨_, rfl⟩
  have HF := Lib.hid hF
  obtain ⟨P, hP⟩ : ∃ P : Nat, c.sl = P := ⟨c.sl.toNat, by omega⟩
  have HP := Lib.hid hP
  have hFP : F + P = N := by have := (cellsN_eq Hc.out).1; rw [← HN.out] at this; unfold cellsI at this; omega
  have hp9 : 1 ≤ P ∧ P ≤ 5 := by omega
  clear hF hP
  have HW5 := Lib.hid (HW4.out.on (bnew w4 (.cells #[] 3)))
  go_wp2_with (first
    | (at_builtin; refine (mine_empty w4).appAll (n := 0) (m := N) rfl (by omega) (Nat.zero_add N) rfl _ _ rfl rfl xs HL.out gW 0 cW rfl (fun k y hy => by rw [Nat.zero_add]; exact HW5.out.2 k y hy) (List.nil_append xs) ?_; intro A5 c5 w5 hM5
       obtain ⟨rgw, eA5, hrg, hwb⟩ := hM5.mem (by rw [HL.out]; omega)
       subst eA5
       have zc := (rc4.below hM5.below rc4.lt).alloc (.cells #[.slice (some ⟨rgw, 0, none⟩) N c5, .int .i64 0] 41))
    | (refine wpList_load_row rfl 31 _ rfl _ rfl 31 _ (0, 0) _ zc Try.underlying31 rfl (by kernel_rfl) ?_))
  have hb5 := hM5.below
  have hMr := memAt_box w5 rgw c5 xs 0 41 hwb.1 hwb.2
  rw [HL.out] at hMr
  have hMr1 : MemAt (w5.alloc (.cells #[.slice (some ⟨rgw, 0, none⟩) N c5, .int .i64 0] 41)) w5.heap.size rgw c5 ⟨xs, 0⟩ := hMr
  have hbA := bst hb5 (bnew w5 (.cells #[.slice (some ⟨rgw, 0, none⟩) N c5, .int .i64 0] 41))
  have hbB := bst hbA (bnew (w5.alloc (.cells #[.slice (some ⟨rgw, 0, none⟩) N c5, .int .i64 0] 41)) (.cells #[Value.int .i64 c.wo, Value.int .i64 c.sl, Value.int .i64 c.st, Value.int .i64 c.wa, Value.int .i64 c.us, Value.slice none 0 0] 44))
  have hR := rf_new ((w5.alloc (.cells #[.slice (some ⟨rgw, 0, none⟩) N c5, .int .i64 0] 41)).alloc (.cells #[Value.int .i64 c.wo, Value.int .i64 c.sl, Value.int .i64 c.st, Value.int .i64 c.wa, Value.int .i64 c.us, Value.slice none 0 0] 44)) c (w5.heap.size + 1) (new2 w5 (.cells #[.slice (some ⟨rgw, 0, none⟩) N c5, .int .i64 0] 41) 44 #[Value.int .i64 c.wo, Value.int .i64 c.sl, Value.int .i64 c.st, Value.int .i64 c.wa, Value.int .i64 c.us, Value.slice none 0 0])
  have l4 := HT4.out.lt
  have l6 := HM4.out.lg
  have l7 := HM4.out.lw
  have l8 := hwb.1.1
  have hMr2 := hMr1.on (bnew (w5.alloc (.cells #[.slice (some ⟨rgw, 0, none⟩) N c5, .int .i64 0] 41)) (.cells #[Value.int .i64 c.wo, Value.int .i64 c.sl, Value.int .i64 c.st, Value.int .i64 c.wa, Value.int .i64 c.us, Value.slice none 0 0] 44))
  have HM6 := Lib.hid (HM4.out.on hbB)
  have HT6 := Lib.hid (HT4.out.on hbB)
  have hB6 := hB5.trans (hbB.mono hB5.size)
  obtain ⟨w6, e6⟩ : ∃ w6, w6 = (w5.alloc (.cells #[.slice (some ⟨rgw, 0, none⟩) N c5, .int .i64 0] 41)).alloc (.cells #[Value.int .i64 c.wo, Value.int .i64 c.sl, Value.int .i64 c.st, Value.int .i64 c.wa, Value.int .i64 c.us, Value.slice none 0 0] 44) := ⟨_, rfl⟩
  rw [← e6] at hMr2 HM6 HT6 hB6 hR ⊢
  obtain ⟨h, eh⟩ : ∃ h, h = w5.heap.size + 1 := ⟨_, rfl⟩
  obtain ⟨rg, erg⟩ : ∃ rg, rg = w5.heap.size := ⟨_, rfl⟩
  rw [← eh] at hR
  rw [← erg] at eh l8 hMr2 ⊢
  rw [← eh]
  have o5 : f < rgw ∧ rgw < rg ∧ rg < h := by omega
  have HR6 := Lib.hid hR
  have HMr6 := Lib.hid hMr2
  clear hb5 hMr hMr1 hMr2 hbA hbB l4 l6 l7 l8 erg eh e6 hR hwb hrg zc hM5 HM4 HT4 HW4 HW5 rc4 hB5
  go_wp2_with fail
  refine (touched_any g gw N _ _ HM6.out).mono ?_
  rintro e w7 ⟨rfl, rfl⟩
  obtain ⟨st, est⟩ : ∃ st : Nat, m0 % 61 = (st : Int) := ⟨(m0 % 61).toNat, by omega⟩
  have hst : st ≤ 60 := by omega
  have hwm : IntKind.i64.wrap (st : Int) = (st : Int) := IntWalk.i64_in _ (by omega)
  have htm0 : m0.tmod 61 = (st : Int) := by rw [Int.tmod_eq_emod_of_nonneg (by omega)]; exact est
  clear est
  go_wp2_with fail
  go_loopw [15] (fun j wr => ∃ (i t2 : Nat) (s : St) (x : Tw) (S : List Int) (sb ab rb : Nat), i ≤ st ∧ j = .int .i64 i ∧ Hid (MemAt wr g gw N s) ∧ Hid (TwAt wr f sb ab c x) ∧ Hid (MemAt wr rg rgw c5 ⟨s.ws, t2⟩) ∧ Hid (RfAt wr h rb c S) ∧ Hid (Rel P x S) ∧ s.ws.length = N ∧ s.t ≤ 100 + 30 * i ∧ t2 ≤ i ∧ N + t2 ≤ s.t ∧ S.length ≤ i ∧ f ≤ sb ∧ f ≤ ab ∧ h ≤ rb ∧ (sb ≠ rg ∧ sb ≠ rgw ∧ sb ≠ h ∧ sb ≠ rb ∧ ab ≠ rg ∧ ab ≠ rgw ∧ ab ≠ h ∧ ab ≠ rb) ∧ Hid (Below w.heap.size w wr)) (fun j _ => st - (intOf j).toNat)
  case atStart => exact ⟨0, 0, ⟨xs, N⟩, newT, [], f, f, h, Nat.zero_le _, rfl, HM6, HT6, HMr6, HR6, Lib.hid (rel_new (by omega)), HL.out, by simp only; omega, Nat.le_refl _, Nat.le_refl _, Nat.zero_le _, Nat.le_refl _, Nat.le_refl _, Nat.le_refl _, by omega, Lib.hid hB6⟩
  case round =>
    obtain ⟨i, t2, s, x, S, sb, ab, rb, hi, rfl, HM, HT, HMr, HR, HRel, hlen, ht, ht2, htt, hSi, z1, z2, z3, zd, hbb⟩ := hrel
    clear HM6 HT6 HMr6 HR6 hB6
    have hsz : w.heap.size ≤ wr.heap.size := hbb.out.size
    by_cases hlt : i < st
    · have hlt2 : (i : Int) < (st : Int) := by omega
      go_wp2_with fail
      refine (writes_any g gw N A ln lc w.heap.size l i s _ HM.out (HWS.out.below hbb.out) Hn.out HO.out hsz (by omega) (by omega) (by omega) (by omega) (by omega) (by omega)).mono ?_
      rintro e u1 ⟨rfl, hm, hs⟩
      obtain ⟨p1', p2', p3'⟩ := wrS_len s l i
      have hws := wrS_ws s.ws t2 s.t l i
      rw [show (⟨s.ws, s.t⟩ : St) = s from rfl] at hws
      obtain ⟨s1, es⟩ : ∃ s1, s1 = wrS s l i := ⟨_, rfl⟩
      rw [← es] at hm p1' p2' p3' hws
      rw [hlen] at p1'
      rw [Hn.out] at p3'
      clear es
      have HM1 := Lib.hid hm
      have HT1 := Lib.hid (HT.out.spx hs (by simp <;> omega) (by simp <;> omega) (by simp <;> omega))
      have HMr1 := Lib.hid (HMr.out.spx hs (by simp <;> omega) (by simp <;> omega))
      have HR1 := Lib.hid (HR.out.spx hs (by simp <;> omega) (by simp <;> omega))
      have hB1 := hs.below hbb.out hsz (by simp <;> omega)
      clear hm hs HM HT HMr HR hbb hsz
      go_wp2_with fail
      refine (refWrites_any rg rgw c5 A ln lc w.heap.size l i ⟨s.ws, t2⟩ _ HMr1.out (HWS.out.below hB1) Hn.out HO.out hB1.size (by omega) (by omega) (by simp only; omega) (by simp only; omega) (by simp only; omega) (by omega)).mono ?_
      rintro e u2 ⟨rfl, hm, hs⟩
      rw [hws] at hm
      have HMr2 := Lib.hid hm
      have HM2 := Lib.hid (HM1.out.spx hs (by simp <;> omega) (by simp <;> omega))
      have HT2 := Lib.hid (HT1.out.spx hs (by simp <;> omega) (by simp <;> omega) (by simp <;> omega))
      have HR2 := Lib.hid (HR1.out.spx hs (by simp <;> omega) (by simp <;> omega))
      have hB2 := hs.below hB1 hB1.size (by simp <;> omega)
      clear hm hs HM1 HT1 HMr1 HR1 hB1 hws hlen
      have hse := HRel.out.ok.se
      obtain ⟨v, hv⟩ := num_some (xs := s1.ws) (k := F + x.se.length) (by omega)
      have Hv := Lib.hid hv
      have hv2 : s1.ws[F + S.length % P]? = some v := by rw [HRel.out.mod]; exact hv
      have Hv2 := Lib.hid hv2
      have hSl := HRel.out.len
      have htS : tchS P S = tch x := by unfold tchS tch; rw [HRel.out.dn]
      have HtS := Lib.hid htS
      have hro9 : x.ro ≤ S.length := by rw [hSl]; have := Nat.le_mul_of_pos_right x.ro (show 0 < P by omega); omega
      clear hv hv2 hSl htS
      go_wp2_with fail
      refine (step_any f sb ab g gw N c P F x s1 v _ Hc.out HP.out HF.out HT2.out HRel.out.ok HM2.out Hv.out (by omega) (by omega) (by omega) (by omega) (by omega) (by omega) (by omega) (by omega)).mono ?_
      rintro e u3 ⟨sb2, ab2, rfl, hT, hm, hs, hsb2, hab2⟩
      have lr := HR2.out.lt
      have lm := HMr2.out.lg
      have lm2 := HMr2.out.lw
      have HMr3 := Lib.hid (HMr2.out.spx hs (by simp <;> omega) (by simp <;> omega))
      have HR3 := Lib.hid (HR2.out.spx hs (by simp <;> omega) (by simp <;> omega))
      have hB3 := hs.below hB2 hB2.size (by simp <;> omega)
      have HM3 := Lib.hid hm
      have HT3 := Lib.hid hT
      have zd2 : sb2 ≠ rg ∧ sb2 ≠ rgw ∧ sb2 ≠ h ∧ sb2 ≠ rb ∧ ab2 ≠ rg ∧ ab2 ≠ rgw ∧ ab2 ≠ h ∧ ab2 ≠ rb := by omega
      have y1 : f ≤ sb2 := by omega
      have y2 : f ≤ ab2 := by omega
      have hse2 := HT3.out.lt
      clear hm hT hs HMr2 HR2 hB2 HM2 HT2 lr lm lm2 hsb2 hab2
      go_wp2_with fail
      refine (rstep_any h rb rg rgw c5 c P F S ⟨s1.ws, t2⟩ v _ HR3.out Hc.out HP.out HF.out (by omega) HMr3.out Hv2.out (by simp only; omega) (by omega) (by omega) (by omega) (by omega)).mono ?_
      rintro e u4 ⟨rb2, rfl, hR, hm, hs, hrb2⟩
      rw [HtS.out] at hm
      have HRel2 := Lib.hid (rel_step HRel.out v)
      have htc : tch x ≤ 1 := by unfold tch; split <;> omega
      have hSS : (stepS P S v).length ≤ S.length + 1 := by unfold stepS; split <;> simp
      obtain ⟨y, ey⟩ : ∃ y, y = stepT P x v := ⟨_, rfl⟩
      obtain ⟨S2, eS⟩ : ∃ S2, S2 = stepS P S v := ⟨_, rfl⟩
      rw [← ey] at HT3 HRel2 ⊢
      rw [← eS] at hR HRel2 hSS ⊢
      have hS9 : S2.length ≤ 1000000 := by omega
      have HT4 := Lib.hid (HT3.out.spx hs (by simp <;> omega) (by simp <;> omega) (by simp <;> omega))
      have HM4 := Lib.hid (HM3.out.spx hs (by simp <;> omega) (by simp <;> omega))
      have hB4 := hs.below hB3 hB3.size (by simp <;> omega)
      have HMr4 := Lib.hid hm
      have HR4 := Lib.hid hR
      obtain ⟨d1, d2, d3, d4, d5, d6, d7, d8⟩ := zd2
      have d9 : sb2 ≠ rb2 := by omega
      have d10 : ab2 ≠ rb2 := by omega
      have zd3 : sb2 ≠ rg ∧ sb2 ≠ rgw ∧ sb2 ≠ h ∧ sb2 ≠ rb2 ∧ ab2 ≠ rg ∧ ab2 ≠ rgw ∧ ab2 ≠ h ∧ ab2 ≠ rb2 := ⟨d1, d2, d3, d9, d5, d6, d7, d10⟩
      have y3 : h ≤ rb2 := by have := HR3.out.lt; omega
      have HDV : Hid (S2.length / P = y.ro) := Lib.hid HRel2.out.div
      have HTE : Hid (tellsS P S2 = tellsT y) := Lib.hid HRel2.out.tells
      have HDD : Hid (y.dn = doneS P S2) := Lib.hid HRel2.out.dn
      obtain ⟨ws, t1⟩ := s1
      obtain ⟨td, etd⟩ : ∃ td, td = tch x := ⟨_, rfl⟩
      simp only at p1' p2' p3' HM4 HMr4
      rw [← etd] at htc HM4 HMr4
      obtain ⟨T1, eT1⟩ : ∃ T1, T1 = t1 + td := ⟨_, rfl⟩
      obtain ⟨T2, eT2⟩ : ∃ T2, T2 = t2 + td := ⟨_, rfl⟩
      rw [← eT1] at HM4
      rw [← eT2] at HMr4
      obtain ⟨D, eD⟩ : ∃ D, D = T1 - N := ⟨_, rfl⟩
      have hw1 : IntKind.i64.wrap ((T1 : Int) - (N : Int)) = (D : Int) := by rw [IntWalk.i64_in _ (by omega)]; omega
      have hDT : ¬ (D : Int) < (T2 : Int) := by omega
      have k1 : T1 ≤ 100 + 30 * (i + 1) := by omega
      have k2 : T2 ≤ i + 1 := by omega
      have k3 : N + T2 ≤ T1 := by omega
      have k4 : S2.length ≤ i + 1 := by omega
      have pl1 := p1'
      have hne : ((y.ro : Int) != (y.ro : Int)) = false := by simp
      have hyok := HRel2.out.ok
      clear hm hR hs HMr3 HR3 hB3 HM3 HT3 HRel etd eT1 eT2 eD ey eS zd d1 d2 d3 d4 d5 d6 d7 d8 d9 d10 hrb2 hse2 Hv Hv2 HtS ht ht2 htt p2' p3' hSS
      rw [← HDD.out]
      cases hd : y.dn with
      | true =>
        have HD := Lib.hid hd
        have hy3 : y.ah.length = P := by
          have h2 := (hyok.dn hd).2
          rcases hyok.ah with ⟨e, _⟩ | ⟨_, e⟩
          · omega
          · exact e
        have hy1 : 1 ≤ y.ah.length := by omega
        have hy2 : y.ah.length ≤ 4096 := by omega
        have HTE : Hid (tellsS P S2 = y.ah) := Lib.hid (by rw [HTE.out]; unfold tellsT; rw [hd]; rfl)
        clear hd hyok hy3
        go_wp2_with fail
        have HM0 := Lib.hid HM4.out.drew
        have HT0 := Lib.hid HT4.out.drew
        have HMr0 := Lib.hid HMr4.out.drew
        have HR0 := Lib.hid HR4.out.drew
        have hB0 := hB4.drew
        clear HM4 HT4 HMr4 HR4 hB4
        have x0_0 : u4.drew.cell? ⟨rg, 1, none⟩ = some (.int .i64 (T2 : Int)) := HMr0.out.c1
        refine wp_region_held_drew (S := (fun w' => w'.cell? ⟨rg, 1, none⟩ = some (.int .i64 (T2 : Int)))) (by kernel_rfl) x0_0 (fun hS => ?_)
        generalize u4.drew = u0 at *
        refine wpAnyH_take (i := 0) (oi := { dst := some 70, op := Op.move (Operand.tmp 16), type := 4, pos := "law.go:72", after := #[], guard := none }) (v := ?v0_43) rfl (by kernel_rfl) (by kernel_rfl) (by kernel_rfl) (fun _ _ _ h => h) (Or.inl ⟨by rfl, ?hy0_43⟩) hS ?rest0_43
        case hy0_43 =>
          intro w hSw
          (try dsimp only at hSw)
          go_simp
          try with_reducible rfl
        try simp only [Act.put, List.setIfInBounds_toArray, List.set_cons_zero, List.set_cons_succ]
        refine wpAnyH_take (i := 1) (oi := { dst := some 71, op := Op.move (Operand.tmp 17), type := 4, pos := "law.go:72", after := #[], guard := none }) (v := ?v1_44) rfl (by kernel_rfl) (by kernel_rfl) (by kernel_rfl) (fun _ _ _ h => h) (Or.inl ⟨by rfl, ?hy1_44⟩) hS ?rest1_44
        case hy1_44 =>
          intro w hSw
          (try dsimp only at hSw)
          go_simp
          try with_reducible rfl
        try simp only [Act.put, List.setIfInBounds_toArray, List.set_cons_zero, List.set_cons_succ]
        refine wpAnyH_take (i := 2) (oi := { dst := some 72, op := Op.binOp BinOp.neq 4 (Operand.tmp 70) (Operand.tmp 71) 4, type := 4, pos := "law.go:72", after := #[{ on := 0, ground := Ground.data }, { on := 1, ground := Ground.data }], guard := none }) (v := ?v2_45) rfl (by kernel_rfl) (by kernel_rfl) (by kernel_rfl) (fun _ _ _ h => h) (Or.inl ⟨by rfl, ?hy2_45⟩) hS ?rest2_45
        case hy2_45 =>
          intro w hSw
          (try dsimp only at hSw)
          go_simp
          try with_reducible rfl
        try simp only [Act.put, List.setIfInBounds_toArray, List.set_cons_zero, List.set_cons_succ]
        refine wpAnyH_take (i := 3) (oi := { dst := some 73, op := Op.move (Operand.tmp 72), type := 4, pos := "law.go:72", after := #[{ on := 2, ground := Ground.data }], guard := none }) (v := ?v3_46) rfl (by kernel_rfl) (by kernel_rfl) (by kernel_rfl) (fun _ _ _ h => h) (Or.inl ⟨by rfl, ?hy3_46⟩) hS ?rest3_46
        case hy3_46 =>
          intro w hSw
          (try dsimp only at hSw)
          go_simp
          try with_reducible rfl
        try simp only [Act.put, List.setIfInBounds_toArray, List.set_cons_zero, List.set_cons_succ]
        refine wpAnyH_take (i := 4) (oi := { dst := some 74, op := Op.move (Operand.tmp 11), type := 37, pos := "law.go:72", after := #[{ on := 3, ground := Ground.guard }], guard := some (3, false) }) (v := ?v4_47) rfl (by kernel_rfl) (by kernel_rfl) (by kernel_rfl) (fun _ _ _ h => h) (Or.inl ⟨by rfl, ?hy4_47⟩) hS ?rest4_47
        case hy4_47 =>
          intro w hSw
          (try dsimp only at hSw)
          go_simp
          try with_reducible rfl
        try simp only [Act.put, List.setIfInBounds_toArray, List.set_cons_zero, List.set_cons_succ]
        refine wpAnyH_take (i := 6) (oi := { dst := some 76, op := Op.move (Operand.tmp 13), type := 42, pos := "law.go:72", after := #[{ on := 3, ground := Ground.guard }], guard := some (3, false) }) (v := ?v6_48) rfl (by kernel_rfl) (by kernel_rfl) (by kernel_rfl) (fun _ _ _ h => h) (Or.inl ⟨by rfl, ?hy6_48⟩) hS ?rest6_48
        case hy6_48 =>
          intro w hSw
          (try dsimp only at hSw)
          go_simp
          try with_reducible rfl
        try simp only [Act.put, List.setIfInBounds_toArray, List.set_cons_zero, List.set_cons_succ]
        refine wpAnyH_ready (rs := [5]) (by kernel_rfl) (by simp) ?_
        refine AllReadyH.cons (o := { dst := some 75, op := Op.call { callee := Callee.value (Operand.func 17), args := #[Operand.tmp 74], argTypes := #[37] }, type := 3, pos := "law.go:72", after := #[{ on := 4, ground := Ground.data }, { on := 3, ground := Ground.chain }, { on := 3, ground := Ground.guard }], guard := some (3, false) }) rfl (fun K hK => ?_) AllReadyH.nil
        go_simp
        refine (rounds_any f sb2 ab2 c y _ HT0.out).mono ?_
        rintro e u1 ⟨rfl, rfl⟩
        have HM1 := HM0
        have HT1 := HT0
        have HMr1 := HMr0
        have HR1 := HR0
        have hB1 := hB0
        have x1_0 := x0_0
        refine hK.out _ _ x1_0 (fun hS => ?_)
        clear hK K
        try simp only [Act.put, List.setIfInBounds_toArray, List.set_cons_zero, List.set_cons_succ]
        refine wpAnyH_ready (rs := [7]) (by kernel_rfl) (by simp) ?_
        refine AllReadyH.cons (o := { dst := some 77, op := Op.call { callee := Callee.value (Operand.func 18), args := #[Operand.tmp 76], argTypes := #[42] }, type := 3, pos := "law.go:72", after := #[{ on := 6, ground := Ground.data }, { on := 5, ground := Ground.chain }, { on := 3, ground := Ground.guard }], guard := some (3, false) }) rfl (fun K hK => ?_) AllReadyH.nil
        go_simp
        refine (rrounds_any h rb2 c P S2 _ HR1.out Hc.out HP.out hS9).mono ?_
        rw [HDV.out]
        rintro e u2 ⟨rfl, jq, ejq⟩
        have hb : Below u0.heap.size u0 u2 := by rw [ejq]; exact bdrew (Below.refl _ _) jq
        clear ejq
        have HM2 := Lib.hid (HM1.out.on hb)
        have HT2 := Lib.hid (HT1.out.on hb)
        have HMr2 := Lib.hid (HMr1.out.on hb)
        have HR2 := Lib.hid (HR1.out.on hb)
        have hB2 := hB1.trans (hb.mono hB1.size)
        have x2_0 : u2.cell? ⟨rg, 1, none⟩ = some (.int .i64 (T2 : Int)) := HMr2.out.c1
        clear hb
        refine hK.out _ _ x2_0 (fun hS => ?_)
        clear hK K
        try simp only [Act.put, List.setIfInBounds_toArray, List.set_cons_zero, List.set_cons_succ]
        refine wpAnyH_take (i := 8) (oi := { dst := some 78, op := Op.binOp BinOp.neq 3 (Operand.tmp 75) (Operand.tmp 77) 3, type := 4, pos := "law.go:72", after := #[{ on := 5, ground := Ground.data }, { on := 7, ground := Ground.data }, { on := 3, ground := Ground.guard }], guard := some (3, false) }) (v := ?v8_49) rfl (by kernel_rfl) (by kernel_rfl) (by kernel_rfl) (fun _ _ _ h => h) (Or.inl ⟨by rfl, ?hy8_49⟩) hS ?rest8_49
        case hy8_49 =>
          intro w hSw
          (try dsimp only at hSw)
          go_simp
          try with_reducible rfl
        try simp only [Act.put, List.setIfInBounds_toArray, List.set_cons_zero, List.set_cons_succ]
        refine wpAnyH_take (i := 9) (oi := { dst := some 79, op := Op.pick (Operand.tmp 73) (Operand.const (Value.bool true)) (Operand.tmp 78), type := 4, pos := "law.go:72", after := #[{ on := 3, ground := Ground.data }, { on := 8, ground := Ground.data }], guard := none }) (v := ?v9_50) rfl (by kernel_rfl) (by kernel_rfl) (by kernel_rfl) (fun _ _ _ h => h) (Or.inl ⟨by rfl, ?hy9_50⟩) hS ?rest9_50
        case hy9_50 =>
          intro w hSw
          (try dsimp only at hSw)
          go_simp
          try with_reducible rfl
        try simp only [Act.put, List.setIfInBounds_toArray, List.set_cons_zero, List.set_cons_succ]
        refine wpAnyH_take (i := 10) (oi := { dst := some 80, op := Op.move (Operand.tmp 79), type := 4, pos := "law.go:72", after := #[{ on := 9, ground := Ground.data }, { on := 7, ground := Ground.chain }], guard := none }) (v := ?v10_51) rfl (by kernel_rfl) (by kernel_rfl) (by kernel_rfl) (fun _ _ _ h => h) (Or.inl ⟨by rfl, ?hy10_51⟩) hS ?rest10_51
        case hy10_51 =>
          intro w hSw
          (try dsimp only at hSw)
          go_simp
          try with_reducible rfl
        try simp only [Act.put, List.setIfInBounds_toArray, List.set_cons_zero, List.set_cons_succ]
        refine wpAnyH_take (i := 11) (oi := { dst := some 81, op := Op.move (Operand.tmp 11), type := 37, pos := "law.go:72", after := #[{ on := 10, ground := Ground.guard }], guard := some (10, false) }) (v := ?v11_52) rfl (by kernel_rfl) (by kernel_rfl) (by kernel_rfl) (fun _ _ _ h => h) (Or.inl ⟨by rfl, ?hy11_52⟩) hS ?rest11_52
        case hy11_52 =>
          intro w hSw
          (try dsimp only at hSw)
          go_simp
          try with_reducible rfl
        try simp only [Act.put, List.setIfInBounds_toArray, List.set_cons_zero, List.set_cons_succ]
        refine wpAnyH_take (i := 13) (oi := { dst := some 83, op := Op.move (Operand.tmp 13), type := 42, pos := "law.go:72", after := #[{ on := 10, ground := Ground.guard }], guard := some (10, false) }) (v := ?v13_53) rfl (by kernel_rfl) (by kernel_rfl) (by kernel_rfl) (fun _ _ _ h => h) (Or.inl ⟨by rfl, ?hy13_53⟩) hS ?rest13_53
        case hy13_53 =>
          intro w hSw
          (try dsimp only at hSw)
          go_simp
          try with_reducible rfl
        try simp only [Act.put, List.setIfInBounds_toArray, List.set_cons_zero, List.set_cons_succ]
        refine wpAnyH_ready (rs := [12]) (by kernel_rfl) (by simp) ?_
        refine AllReadyH.cons (o := { dst := some 82, op := Op.call { callee := Callee.value (Operand.func 20), args := #[Operand.tmp 81], argTypes := #[37] }, type := 32, pos := "law.go:72", after := #[{ on := 11, ground := Ground.data }, { on := 10, ground := Ground.chain }, { on := 10, ground := Ground.guard }], guard := some (10, false) }) rfl (fun K hK => ?_) AllReadyH.nil
        go_simp
        refine (words_yes f sb2 ab2 c y _ HT2.out HD.out hy1 hy2).mono ?_
        rintro e u3 ⟨bq, rfl, hr, _, hb⟩
        have HM3 := Lib.hid (HM2.out.on hb)
        have HT3 := Lib.hid (HT2.out.on hb)
        have HMr3 := Lib.hid (HMr2.out.on hb)
        have HR3 := Lib.hid (HR2.out.on hb)
        have hB3 := hB2.trans (hb.mono hB2.size)
        have x3_0 : u3.cell? ⟨rg, 1, none⟩ = some (.int .i64 (T2 : Int)) := HMr3.out.c1
        clear hb
        have Hq := Lib.hid hr
        refine hK.out _ _ x3_0 (fun hS => ?_)
        clear hK K
        try simp only [Act.put, List.setIfInBounds_toArray, List.set_cons_zero, List.set_cons_succ]
        refine wpAnyH_ready (rs := [14]) (by kernel_rfl) (by simp) ?_
        refine AllReadyH.cons (o := { dst := some 84, op := Op.call { callee := Callee.value (Operand.func 21), args := #[Operand.tmp 83], argTypes := #[42] }, type := 32, pos := "law.go:72", after := #[{ on := 13, ground := Ground.data }, { on := 12, ground := Ground.chain }, { on := 10, ground := Ground.guard }], guard := some (10, false) }) rfl (fun K hK => ?_) AllReadyH.nil
        go_simp
        refine (rwords_any h rb2 c P S2 _ HR3.out Hc.out HP.out hS9).mono ?_
        rw [HTE.out]
        rintro e u4 ⟨A2, c2, rfl, hI, hb⟩
        have Hq2 := Lib.hid (Hq.out.below hb Hq.out.lt)
        have HM4 := Lib.hid (HM3.out.on hb)
        have HT4 := Lib.hid (HT3.out.on hb)
        have HMr4 := Lib.hid (HMr3.out.on hb)
        have HR4 := Lib.hid (HR3.out.on hb)
        have hB4 := hB3.trans (hb.mono hB3.size)
        have x4_0 : u4.cell? ⟨rg, 1, none⟩ = some (.int .i64 (T2 : Int)) := HMr4.out.c1
        clear hb
        have HI := Lib.hid hI
        refine hK.out _ _ x4_0 (fun hS => ?_)
        clear hK K
        try simp only [Act.put, List.setIfInBounds_toArray, List.set_cons_zero, List.set_cons_succ]
        refine wpAnyH_ready (rs := [15]) (by kernel_rfl) (by simp) ?_
        refine AllReadyH.cons (o := { dst := some 85, op := Op.call { callee := Callee.value (Operand.func 19), args := #[Operand.tmp 82, Operand.tmp 84], argTypes := #[32, 32] }, type := 4, pos := "law.go:72", after := #[{ on := 12, ground := Ground.data }, { on := 14, ground := Ground.data }, { on := 14, ground := Ground.chain }, { on := 10, ground := Ground.guard }], guard := some (10, false) }) rfl (fun K hK => ?_) AllReadyH.nil
        go_simp
        refine (ints_same _ _ _ _ y.ah.length y.ah _ rfl (copy_is Hq2.out (by omega)) HI.out (by omega)).mono ?_
        rintro e u5 ⟨rfl, hb⟩
        have HM5 := Lib.hid (HM4.out.on hb)
        have HT5 := Lib.hid (HT4.out.on hb)
        have HMr5 := Lib.hid (HMr4.out.on hb)
        have HR5 := Lib.hid (HR4.out.on hb)
        have hB5 := hB4.trans (hb.mono hB4.size)
        have x5_0 : u5.cell? ⟨rg, 1, none⟩ = some (.int .i64 (T2 : Int)) := HMr5.out.c1
        clear hb
        refine hK.out _ _ x5_0 (fun hS => ?_)
        clear hK K
        try simp only [Act.put, List.setIfInBounds_toArray, List.set_cons_zero, List.set_cons_succ]
        refine wpAnyH_take (i := 16) (oi := { dst := some 86, op := Op.unOp UnOp.not 4 (Operand.tmp 85), type := 4, pos := "law.go:72", after := #[{ on := 15, ground := Ground.data }, { on := 10, ground := Ground.guard }], guard := some (10, false) }) (v := ?v16_54) rfl (by kernel_rfl) (by kernel_rfl) (by kernel_rfl) (fun _ _ _ h => h) (Or.inl ⟨by rfl, ?hy16_54⟩) hS ?rest16_54
        case hy16_54 =>
          intro w hSw
          (try dsimp only at hSw)
          go_simp
          try with_reducible rfl
        try simp only [Act.put, List.setIfInBounds_toArray, List.set_cons_zero, List.set_cons_succ]
        refine wpAnyH_take (i := 17) (oi := { dst := some 87, op := Op.pick (Operand.tmp 80) (Operand.const (Value.bool true)) (Operand.tmp 86), type := 4, pos := "law.go:72", after := #[{ on := 10, ground := Ground.data }, { on := 16, ground := Ground.data }], guard := none }) (v := ?v17_55) rfl (by kernel_rfl) (by kernel_rfl) (by kernel_rfl) (fun _ _ _ h => h) (Or.inl ⟨by rfl, ?hy17_55⟩) hS ?rest17_55
        case hy17_55 =>
          intro w hSw
          (try dsimp only at hSw)
          go_simp
          try with_reducible rfl
        try simp only [Act.put, List.setIfInBounds_toArray, List.set_cons_zero, List.set_cons_succ]
        refine wpAnyH_take (i := 18) (oi := { dst := some 88, op := Op.move (Operand.tmp 87), type := 4, pos := "law.go:72", after := #[{ on := 17, ground := Ground.data }, { on := 15, ground := Ground.chain }], guard := none }) (v := ?v18_56) rfl (by kernel_rfl) (by kernel_rfl) (by kernel_rfl) (fun _ _ _ h => h) (Or.inl ⟨by rfl, ?hy18_56⟩) hS ?rest18_56
        case hy18_56 =>
          intro w hSw
          (try dsimp only at hSw)
          go_simp
          try with_reducible rfl
        try simp only [Act.put, List.setIfInBounds_toArray, List.set_cons_zero, List.set_cons_succ]
        refine wpAnyH_take (i := 19) (oi := { dst := some 89, op := Op.move (Operand.tmp 10), type := 35, pos := "law.go:72", after := #[{ on := 18, ground := Ground.guard }], guard := some (18, false) }) (v := ?v19_57) rfl (by kernel_rfl) (by kernel_rfl) (by kernel_rfl) (fun _ _ _ h => h) (Or.inl ⟨by rfl, ?hy19_57⟩) hS ?rest19_57
        case hy19_57 =>
          intro w hSw
          (try dsimp only at hSw)
          go_simp
          try with_reducible rfl
        try simp only [Act.put, List.setIfInBounds_toArray, List.set_cons_zero, List.set_cons_succ]
        refine wpAnyH_take (i := 21) (oi := { dst := some 91, op := Op.move (Operand.tmp 14), type := 3, pos := "law.go:72", after := #[{ on := 18, ground := Ground.guard }], guard := some (18, false) }) (v := ?v21_58) rfl (by kernel_rfl) (by kernel_rfl) (by kernel_rfl) (fun _ _ _ h => h) (Or.inl ⟨by rfl, ?hy21_58⟩) hS ?rest21_58
        case hy21_58 =>
          intro w hSw
          (try dsimp only at hSw)
          go_simp
          try with_reducible rfl
        try simp only [Act.put, List.setIfInBounds_toArray, List.set_cons_zero, List.set_cons_succ]
        refine wpAnyH_take (i := 23) (oi := { dst := some 93, op := Op.move (Operand.tmp 12), type := 39, pos := "law.go:72", after := #[{ on := 18, ground := Ground.guard }], guard := some (18, false) }) (v := ?v23_59) rfl (by kernel_rfl) (by kernel_rfl) (by kernel_rfl) (fun _ _ _ h => h) (Or.inl ⟨by rfl, ?hy23_59⟩) hS ?rest23_59
        case hy23_59 =>
          intro w hSw
          (try dsimp only at hSw)
          go_simp
          try with_reducible rfl
        try simp only [Act.put, List.setIfInBounds_toArray, List.set_cons_zero, List.set_cons_succ]
        refine wpAnyH_take (i := 24) (oi := { dst := some 94, op := Op.nilCheck (Operand.tmp 93), type := 0, pos := "law.go:72", after := #[{ on := 23, ground := Ground.data }, { on := 18, ground := Ground.guard }], guard := some (18, false) }) (v := ?v24_60) rfl (by kernel_rfl) (by kernel_rfl) (by kernel_rfl) (fun _ _ _ h => h) (Or.inl ⟨by rfl, ?hy24_60⟩) hS ?rest24_60
        case hy24_60 =>
          intro w hSw
          (try dsimp only at hSw)
          go_simp
          try with_reducible rfl
        try simp only [Act.put, List.setIfInBounds_toArray, List.set_cons_zero, List.set_cons_succ]
        refine wpAnyH_take (i := 25) (oi := { dst := some 95, op := Op.fieldAddr 41 (Operand.tmp 94) 1, type := 0, pos := "law.go:72", after := #[{ on := 24, ground := Ground.data }, { on := 18, ground := Ground.guard }], guard := some (18, false) }) (v := ?v25_61) rfl (by kernel_rfl) (by kernel_rfl) (by kernel_rfl) (fun _ _ _ h => h) (Or.inl ⟨by rfl, ?hy25_61⟩) hS ?rest25_61
        case hy25_61 =>
          intro w hSw
          (try dsimp only at hSw)
          go_simp
          try with_reducible rfl
        try simp only [Act.put, List.setIfInBounds_toArray, List.set_cons_zero, List.set_cons_succ]
        refine wpAnyH_take (i := 26) (oi := { dst := some 96, op := Op.load 3 (Operand.tmp 95), type := 3, pos := "law.go:72", after := #[{ on := 25, ground := Ground.data }, { on := 18, ground := Ground.guard }], guard := some (18, false) }) (v := ?v26_62) rfl (by kernel_rfl) (by kernel_rfl) (by kernel_rfl) (fun _ _ _ h => h) (Or.inl ⟨by rfl, ?hy26_62⟩) hS ?rest26_62
        case hy26_62 =>
          intro w hSw
          (try dsimp only at hSw)
          go_simp
          try with_reducible rfl
        try simp only [Act.put, List.setIfInBounds_toArray, List.set_cons_zero, List.set_cons_succ]
        refine wpAnyH_ready (rs := [20]) (by kernel_rfl) (by simp) ?_
        refine AllReadyH.cons (o := { dst := some 90, op := Op.call { callee := Callee.value (Operand.func 12), args := #[Operand.tmp 89], argTypes := #[35] }, type := 3, pos := "law.go:72", after := #[{ on := 19, ground := Ground.data }, { on := 18, ground := Ground.chain }, { on := 18, ground := Ground.guard }], guard := some (18, false) }) rfl (fun K hK => ?_) AllReadyH.nil
        go_simp
        refine (touched_any g gw N _ _ HM5.out).mono ?_
        rintro e u6 ⟨rfl, rfl⟩
        have HM6 := HM5
        have HT6 := HT5
        have HMr6 := HMr5
        have HR6 := HR5
        have hB6 := hB5
        refine hK.out _ _ x5_0 (fun hS => ?_)
        clear hK K
        skip
        refine wpAnyH_take (i := 22) (oi := { dst := some 92, op := Op.binOp BinOp.sub 3 (Operand.tmp 90) (Operand.tmp 91) 3, type := 3, pos := "law.go:72", after := #[{ on := 20, ground := Ground.data }, { on := 21, ground := Ground.data }, { on := 18, ground := Ground.guard }], guard := some (18, false) }) (v := ?v22_63) rfl (by kernel_rfl) (by kernel_rfl) (by kernel_rfl) (fun _ _ _ h => h) (Or.inl ⟨by rfl, ?hy22_63⟩) hS ?rest22_63
        case hy22_63 =>
          intro w hSw
          (try dsimp only at hSw)
          go_simp
          try with_reducible rfl
        try simp only [Act.put, List.setIfInBounds_toArray, List.set_cons_zero, List.set_cons_succ]
        refine wpAnyH_take (i := 27) (oi := { dst := some 97, op := Op.binOp BinOp.lss 3 (Operand.tmp 92) (Operand.tmp 96) 3, type := 4, pos := "law.go:72", after := #[{ on := 22, ground := Ground.data }, { on := 26, ground := Ground.data }, { on := 18, ground := Ground.guard }], guard := some (18, false) }) (v := ?v27_64) rfl (by kernel_rfl) (by kernel_rfl) (by kernel_rfl) (fun _ _ _ h => h) (Or.inl ⟨by rfl, ?hy27_64⟩) hS ?rest27_64
        case hy27_64 =>
          intro w hSw
          (try dsimp only at hSw)
          go_simp
          try with_reducible rfl
        try simp only [Act.put, List.setIfInBounds_toArray, List.set_cons_zero, List.set_cons_succ]
        refine wpAnyH_take (i := 28) (oi := { dst := some 98, op := Op.pick (Operand.tmp 88) (Operand.const (Value.bool true)) (Operand.tmp 97), type := 4, pos := "law.go:72", after := #[{ on := 18, ground := Ground.data }, { on := 27, ground := Ground.data }], guard := none }) (v := ?v28_65) rfl (by kernel_rfl) (by kernel_rfl) (by kernel_rfl) (fun _ _ _ h => h) (Or.inl ⟨by rfl, ?hy28_65⟩) hS ?rest28_65
        case hy28_65 =>
          intro w hSw
          (try dsimp only at hSw)
          go_simp
          try with_reducible rfl
        try simp only [Act.put, List.setIfInBounds_toArray, List.set_cons_zero, List.set_cons_succ]
        refine wpAnyH_done (by kernel_rfl) ?_ _
        go_wp2
        go_roundw
        case rel => exact ⟨i + 1, T2, ⟨ws, T1⟩, y, S2, sb2, ab2, rb2, by omega, by go_num, HM6, HT6, HMr6, HR6, HRel2, pl1, k1, k2, k3, k4, y1, y2, y3, zd3, Lib.hid hB6⟩
        case measure => simp [intOf]; omega
      | false =>
        have HD := Lib.hid hd
        have HTE : Hid (tellsS P S2 = []) := Lib.hid (by rw [HTE.out]; unfold tellsT; rw [hd]; rfl)
        clear hd hyok
        go_wp2_with fail
        have HM0 := Lib.hid HM4.out.drew
        have HT0 := Lib.hid HT4.out.drew
        have HMr0 := Lib.hid HMr4.out.drew
        have HR0 := Lib.hid HR4.out.drew
        have hB0 := hB4.drew
        clear HM4 HT4 HMr4 HR4 hB4
        have x0_0 : u4.drew.cell? ⟨rg, 1, none⟩ = some (.int .i64 (T2 : Int)) := HMr0.out.c1
        refine wp_region_held_drew (S := (fun w' => w'.cell? ⟨rg, 1, none⟩ = some (.int .i64 (T2 : Int)))) (by kernel_rfl) x0_0 (fun hS => ?_)
        generalize u4.drew = u0 at *
        refine wpAnyH_take (i := 0) (oi := { dst := some 70, op := Op.move (Operand.tmp 16), type := 4, pos := "law.go:72", after := #[], guard := none }) (v := ?v0_66) rfl (by kernel_rfl) (by kernel_rfl) (by kernel_rfl) (fun _ _ _ h => h) (Or.inl ⟨by rfl, ?hy0_66⟩) hS ?rest0_66
        case hy0_66 =>
          intro w hSw
          (try dsimp only at hSw)
          go_simp
          try with_reducible rfl
        try simp only [Act.put, List.setIfInBounds_toArray, List.set_cons_zero, List.set_cons_succ]
        refine wpAnyH_take (i := 1) (oi := { dst := some 71, op := Op.move (Operand.tmp 17), type := 4, pos := "law.go:72", after := #[], guard := none }) (v := ?v1_67) rfl (by kernel_rfl) (by kernel_rfl) (by kernel_rfl) (fun _ _ _ h => h) (Or.inl ⟨by rfl, ?hy1_67⟩) hS ?rest1_67
        case hy1_67 =>
          intro w hSw
          (try dsimp only at hSw)
          go_simp
          try with_reducible rfl
        try simp only [Act.put, List.setIfInBounds_toArray, List.set_cons_zero, List.set_cons_succ]
        refine wpAnyH_take (i := 2) (oi := { dst := some 72, op := Op.binOp BinOp.neq 4 (Operand.tmp 70) (Operand.tmp 71) 4, type := 4, pos := "law.go:72", after := #[{ on := 0, ground := Ground.data }, { on := 1, ground := Ground.data }], guard := none }) (v := ?v2_68) rfl (by kernel_rfl) (by kernel_rfl) (by kernel_rfl) (fun _ _ _ h => h) (Or.inl ⟨by rfl, ?hy2_68⟩) hS ?rest2_68
        case hy2_68 =>
          intro w hSw
          (try dsimp only at hSw)
          go_simp
          try with_reducible rfl
        try simp only [Act.put, List.setIfInBounds_toArray, List.set_cons_zero, List.set_cons_succ]
        refine wpAnyH_take (i := 3) (oi := { dst := some 73, op := Op.move (Operand.tmp 72), type := 4, pos := "law.go:72", after := #[{ on := 2, ground := Ground.data }], guard := none }) (v := ?v3_69) rfl (by kernel_rfl) (by kernel_rfl) (by kernel_rfl) (fun _ _ _ h => h) (Or.inl ⟨by rfl, ?hy3_69⟩) hS ?rest3_69
        case hy3_69 =>
          intro w hSw
          (try dsimp only at hSw)
          go_simp
          try with_reducible rfl
        try simp only [Act.put, List.setIfInBounds_toArray, List.set_cons_zero, List.set_cons_succ]
        refine wpAnyH_take (i := 4) (oi := { dst := some 74, op := Op.move (Operand.tmp 11), type := 37, pos := "law.go:72", after := #[{ on := 3, ground := Ground.guard }], guard := some (3, false) }) (v := ?v4_70) rfl (by kernel_rfl) (by kernel_rfl) (by kernel_rfl) (fun _ _ _ h => h) (Or.inl ⟨by rfl, ?hy4_70⟩) hS ?rest4_70
        case hy4_70 =>
          intro w hSw
          (try dsimp only at hSw)
          go_simp
          try with_reducible rfl
        try simp only [Act.put, List.setIfInBounds_toArray, List.set_cons_zero, List.set_cons_succ]
        refine wpAnyH_take (i := 6) (oi := { dst := some 76, op := Op.move (Operand.tmp 13), type := 42, pos := "law.go:72", after := #[{ on := 3, ground := Ground.guard }], guard := some (3, false) }) (v := ?v6_71) rfl (by kernel_rfl) (by kernel_rfl) (by kernel_rfl) (fun _ _ _ h => h) (Or.inl ⟨by rfl, ?hy6_71⟩) hS ?rest6_71
        case hy6_71 =>
          intro w hSw
          (try dsimp only at hSw)
          go_simp
          try with_reducible rfl
        try simp only [Act.put, List.setIfInBounds_toArray, List.set_cons_zero, List.set_cons_succ]
        refine wpAnyH_ready (rs := [5]) (by kernel_rfl) (by simp) ?_
        refine AllReadyH.cons (o := { dst := some 75, op := Op.call { callee := Callee.value (Operand.func 17), args := #[Operand.tmp 74], argTypes := #[37] }, type := 3, pos := "law.go:72", after := #[{ on := 4, ground := Ground.data }, { on := 3, ground := Ground.chain }, { on := 3, ground := Ground.guard }], guard := some (3, false) }) rfl (fun K hK => ?_) AllReadyH.nil
        go_simp
        refine (rounds_any f sb2 ab2 c y _ HT0.out).mono ?_
        rintro e u1 ⟨rfl, rfl⟩
        have HM1 := HM0
        have HT1 := HT0
        have HMr1 := HMr0
        have HR1 := HR0
        have hB1 := hB0
        have x1_0 := x0_0
        refine hK.out _ _ x1_0 (fun hS => ?_)
        clear hK K
        try simp only [Act.put, List.setIfInBounds_toArray, List.set_cons_zero, List.set_cons_succ]
        refine wpAnyH_ready (rs := [7]) (by kernel_rfl) (by simp) ?_
        refine AllReadyH.cons (o := { dst := some 77, op := Op.call { callee := Callee.value (Operand.func 18), args := #[Operand.tmp 76], argTypes := #[42] }, type := 3, pos := "law.go:72", after := #[{ on := 6, ground := Ground.data }, { on := 5, ground := Ground.chain }, { on := 3, ground := Ground.guard }], guard := some (3, false) }) rfl (fun K hK => ?_) AllReadyH.nil
        go_simp
        refine (rrounds_any h rb2 c P S2 _ HR1.out Hc.out HP.out hS9).mono ?_
        rw [HDV.out]
        rintro e u2 ⟨rfl, jq, ejq⟩
        have hb : Below u0.heap.size u0 u2 := by rw [ejq]; exact bdrew (Below.refl _ _) jq
        clear ejq
        have HM2 := Lib.hid (HM1.out.on hb)
        have HT2 := Lib.hid (HT1.out.on hb)
        have HMr2 := Lib.hid (HMr1.out.on hb)
        have HR2 := Lib.hid (HR1.out.on hb)
        have hB2 := hB1.trans (hb.mono hB1.size)
        have x2_0 : u2.cell? ⟨rg, 1, none⟩ = some (.int .i64 (T2 : Int)) := HMr2.out.c1
        clear hb
        refine hK.out _ _ x2_0 (fun hS => ?_)
        clear hK K
        try simp only [Act.put, List.setIfInBounds_toArray, List.set_cons_zero, List.set_cons_succ]
        refine wpAnyH_take (i := 8) (oi := { dst := some 78, op := Op.binOp BinOp.neq 3 (Operand.tmp 75) (Operand.tmp 77) 3, type := 4, pos := "law.go:72", after := #[{ on := 5, ground := Ground.data }, { on := 7, ground := Ground.data }, { on := 3, ground := Ground.guard }], guard := some (3, false) }) (v := ?v8_72) rfl (by kernel_rfl) (by kernel_rfl) (by kernel_rfl) (fun _ _ _ h => h) (Or.inl ⟨by rfl, ?hy8_72⟩) hS ?rest8_72
        case hy8_72 =>
          intro w hSw
          (try dsimp only at hSw)
          go_simp
          try with_reducible rfl
        try simp only [Act.put, List.setIfInBounds_toArray, List.set_cons_zero, List.set_cons_succ]
        refine wpAnyH_take (i := 9) (oi := { dst := some 79, op := Op.pick (Operand.tmp 73) (Operand.const (Value.bool true)) (Operand.tmp 78), type := 4, pos := "law.go:72", after := #[{ on := 3, ground := Ground.data }, { on := 8, ground := Ground.data }], guard := none }) (v := ?v9_73) rfl (by kernel_rfl) (by kernel_rfl) (by kernel_rfl) (fun _ _ _ h => h) (Or.inl ⟨by rfl, ?hy9_73⟩) hS ?rest9_73
        case hy9_73 =>
          intro w hSw
          (try dsimp only at hSw)
          go_simp
          try with_reducible rfl
        try simp only [Act.put, List.setIfInBounds_toArray, List.set_cons_zero, List.set_cons_succ]
        refine wpAnyH_take (i := 10) (oi := { dst := some 80, op := Op.move (Operand.tmp 79), type := 4, pos := "law.go:72", after := #[{ on := 9, ground := Ground.data }, { on := 7, ground := Ground.chain }], guard := none }) (v := ?v10_74) rfl (by kernel_rfl) (by kernel_rfl) (by kernel_rfl) (fun _ _ _ h => h) (Or.inl ⟨by rfl, ?hy10_74⟩) hS ?rest10_74
        case hy10_74 =>
          intro w hSw
          (try dsimp only at hSw)
          go_simp
          try with_reducible rfl
        try simp only [Act.put, List.setIfInBounds_toArray, List.set_cons_zero, List.set_cons_succ]
        refine wpAnyH_take (i := 11) (oi := { dst := some 81, op := Op.move (Operand.tmp 11), type := 37, pos := "law.go:72", after := #[{ on := 10, ground := Ground.guard }], guard := some (10, false) }) (v := ?v11_75) rfl (by kernel_rfl) (by kernel_rfl) (by kernel_rfl) (fun _ _ _ h => h) (Or.inl ⟨by rfl, ?hy11_75⟩) hS ?rest11_75
        case hy11_75 =>
          intro w hSw
          (try dsimp only at hSw)
          go_simp
          try with_reducible rfl
        try simp only [Act.put, List.setIfInBounds_toArray, List.set_cons_zero, List.set_cons_succ]
        refine wpAnyH_take (i := 13) (oi := { dst := some 83, op := Op.move (Operand.tmp 13), type := 42, pos := "law.go:72", after := #[{ on := 10, ground := Ground.guard }], guard := some (10, false) }) (v := ?v13_76) rfl (by kernel_rfl) (by kernel_rfl) (by kernel_rfl) (fun _ _ _ h => h) (Or.inl ⟨by rfl, ?hy13_76⟩) hS ?rest13_76
        case hy13_76 =>
          intro w hSw
          (try dsimp only at hSw)
          go_simp
          try with_reducible rfl
        try simp only [Act.put, List.setIfInBounds_toArray, List.set_cons_zero, List.set_cons_succ]
        refine wpAnyH_ready (rs := [12]) (by kernel_rfl) (by simp) ?_
        refine AllReadyH.cons (o := { dst := some 82, op := Op.call { callee := Callee.value (Operand.func 20), args := #[Operand.tmp 81], argTypes := #[37] }, type := 32, pos := "law.go:72", after := #[{ on := 11, ground := Ground.data }, { on := 10, ground := Ground.chain }, { on := 10, ground := Ground.guard }], guard := some (10, false) }) rfl (fun K hK => ?_) AllReadyH.nil
        go_simp
        refine (words_no f sb2 ab2 c y _ HT2.out HD.out).mono ?_
        rintro e u3 ⟨rfl, rfl⟩
        have HM3 := HM2
        have HT3 := HT2
        have HMr3 := HMr2
        have HR3 := HR2
        have hB3 := hB2
        have x3_0 := x2_0
        refine hK.out _ _ x3_0 (fun hS => ?_)
        clear hK K
        try simp only [Act.put, List.setIfInBounds_toArray, List.set_cons_zero, List.set_cons_succ]
        refine wpAnyH_ready (rs := [14]) (by kernel_rfl) (by simp) ?_
        refine AllReadyH.cons (o := { dst := some 84, op := Op.call { callee := Callee.value (Operand.func 21), args := #[Operand.tmp 83], argTypes := #[42] }, type := 32, pos := "law.go:72", after := #[{ on := 13, ground := Ground.data }, { on := 12, ground := Ground.chain }, { on := 10, ground := Ground.guard }], guard := some (10, false) }) rfl (fun K hK => ?_) AllReadyH.nil
        go_simp
        refine (rwords_any h rb2 c P S2 _ HR3.out Hc.out HP.out hS9).mono ?_
        rw [HTE.out]
        rintro e u4 ⟨A2, c2, rfl, hI, hb⟩
        have HM4 := Lib.hid (HM3.out.on hb)
        have HT4 := Lib.hid (HT3.out.on hb)
        have HMr4 := Lib.hid (HMr3.out.on hb)
        have HR4 := Lib.hid (HR3.out.on hb)
        have hB4 := hB3.trans (hb.mono hB3.size)
        have x4_0 : u4.cell? ⟨rg, 1, none⟩ = some (.int .i64 (T2 : Int)) := HMr4.out.c1
        clear hb
        have HI := Lib.hid hI
        refine hK.out _ _ x4_0 (fun hS => ?_)
        clear hK K
        try simp only [Act.put, List.setIfInBounds_toArray, List.set_cons_zero, List.set_cons_succ]
        refine wpAnyH_ready (rs := [15]) (by kernel_rfl) (by simp) ?_
        refine AllReadyH.cons (o := { dst := some 85, op := Op.call { callee := Callee.value (Operand.func 19), args := #[Operand.tmp 82, Operand.tmp 84], argTypes := #[32, 32] }, type := 4, pos := "law.go:72", after := #[{ on := 12, ground := Ground.data }, { on := 14, ground := Ground.data }, { on := 14, ground := Ground.chain }, { on := 10, ground := Ground.guard }], guard := some (10, false) }) rfl (fun K hK => ?_) AllReadyH.nil
        go_simp
        refine (ints_same _ _ _ _ 0 [] _ rfl (fun k x hk => by simp at hk) HI.out (by omega)).mono ?_
        rintro e u5 ⟨rfl, hb⟩
        have HM5 := Lib.hid (HM4.out.on hb)
        have HT5 := Lib.hid (HT4.out.on hb)
        have HMr5 := Lib.hid (HMr4.out.on hb)
        have HR5 := Lib.hid (HR4.out.on hb)
        have hB5 := hB4.trans (hb.mono hB4.size)
        have x5_0 : u5.cell? ⟨rg, 1, none⟩ = some (.int .i64 (T2 : Int)) := HMr5.out.c1
        clear hb
        refine hK.out _ _ x5_0 (fun hS => ?_)
        clear hK K
        try simp only [Act.put, List.setIfInBounds_toArray, List.set_cons_zero, List.set_cons_succ]
        refine wpAnyH_take (i := 16) (oi := { dst := some 86, op := Op.unOp UnOp.not 4 (Operand.tmp 85), type := 4, pos := "law.go:72", after := #[{ on := 15, ground := Ground.data }, { on := 10, ground := Ground.guard }], guard := some (10, false) }) (v := ?v16_77) rfl (by kernel_rfl) (by kernel_rfl) (by kernel_rfl) (fun _ _ _ h => h) (Or.inl ⟨by rfl, ?hy16_77⟩) hS ?rest16_77
        case hy16_77 =>
          intro w hSw
          (try dsimp only at hSw)
          go_simp
          try with_reducible rfl
        try simp only [Act.put, List.setIfInBounds_toArray, List.set_cons_zero, List.set_cons_succ]
        refine wpAnyH_take (i := 17) (oi := { dst := some 87, op := Op.pick (Operand.tmp 80) (Operand.const (Value.bool true)) (Operand.tmp 86), type := 4, pos := "law.go:72", after := #[{ on := 10, ground := Ground.data }, { on := 16, ground := Ground.data }], guard := none }) (v := ?v17_78) rfl (by kernel_rfl) (by kernel_rfl) (by kernel_rfl) (fun _ _ _ h => h) (Or.inl ⟨by rfl, ?hy17_78⟩) hS ?rest17_78
        case hy17_78 =>
          intro w hSw
          (try dsimp only at hSw)
          go_simp
          try with_reducible rfl
        try simp only [Act.put, List.setIfInBounds_toArray, List.set_cons_zero, List.set_cons_succ]
        refine wpAnyH_take (i := 18) (oi := { dst := some 88, op := Op.move (Operand.tmp 87), type := 4, pos := "law.go:72", after := #[{ on := 17, ground := Ground.data }, { on := 15, ground := Ground.chain }], guard := none }) (v := ?v18_79) rfl (by kernel_rfl) (by kernel_rfl) (by kernel_rfl) (fun _ _ _ h => h) (Or.inl ⟨by rfl, ?hy18_79⟩) hS ?rest18_79
        case hy18_79 =>
          intro w hSw
          (try dsimp only at hSw)
          go_simp
          try with_reducible rfl
        try simp only [Act.put, List.setIfInBounds_toArray, List.set_cons_zero, List.set_cons_succ]
        refine wpAnyH_take (i := 19) (oi := { dst := some 89, op := Op.move (Operand.tmp 10), type := 35, pos := "law.go:72", after := #[{ on := 18, ground := Ground.guard }], guard := some (18, false) }) (v := ?v19_80) rfl (by kernel_rfl) (by kernel_rfl) (by kernel_rfl) (fun _ _ _ h => h) (Or.inl ⟨by rfl, ?hy19_80⟩) hS ?rest19_80
        case hy19_80 =>
          intro w hSw
          (try dsimp only at hSw)
          go_simp
          try with_reducible rfl
        try simp only [Act.put, List.setIfInBounds_toArray, List.set_cons_zero, List.set_cons_succ]
        refine wpAnyH_take (i := 21) (oi := { dst := some 91, op := Op.move (Operand.tmp 14), type := 3, pos := "law.go:72", after := #[{ on := 18, ground := Ground.guard }], guard := some (18, false) }) (v := ?v21_81) rfl (by kernel_rfl) (by kernel_rfl) (by kernel_rfl) (fun _ _ _ h => h) (Or.inl ⟨by rfl, ?hy21_81⟩) hS ?rest21_81
        case hy21_81 =>
          intro w hSw
          (try dsimp only at hSw)
          go_simp
          try with_reducible rfl
        try simp only [Act.put, List.setIfInBounds_toArray, List.set_cons_zero, List.set_cons_succ]
        refine wpAnyH_take (i := 23) (oi := { dst := some 93, op := Op.move (Operand.tmp 12), type := 39, pos := "law.go:72", after := #[{ on := 18, ground := Ground.guard }], guard := some (18, false) }) (v := ?v23_82) rfl (by kernel_rfl) (by kernel_rfl) (by kernel_rfl) (fun _ _ _ h => h) (Or.inl ⟨by rfl, ?hy23_82⟩) hS ?rest23_82
        case hy23_82 =>
          intro w hSw
          (try dsimp only at hSw)
          go_simp
          try with_reducible rfl
        try simp only [Act.put, List.setIfInBounds_toArray, List.set_cons_zero, List.set_cons_succ]
        refine wpAnyH_take (i := 24) (oi := { dst := some 94, op := Op.nilCheck (Operand.tmp 93), type := 0, pos := "law.go:72", after := #[{ on := 23, ground := Ground.data }, { on := 18, ground := Ground.guard }], guard := some (18, false) }) (v := ?v24_83) rfl (by kernel_rfl) (by kernel_rfl) (by kernel_rfl) (fun _ _ _ h => h) (Or.inl ⟨by rfl, ?hy24_83⟩) hS ?rest24_83
        case hy24_83 =>
          intro w hSw
          (try dsimp only at hSw)
          go_simp
          try with_reducible rfl
        try simp only [Act.put, List.setIfInBounds_toArray, List.set_cons_zero, List.set_cons_succ]
        refine wpAnyH_take (i := 25) (oi := { dst := some 95, op := Op.fieldAddr 41 (Operand.tmp 94) 1, type := 0, pos := "law.go:72", after := #[{ on := 24, ground := Ground.data }, { on := 18, ground := Ground.guard }], guard := some (18, false) }) (v := ?v25_84) rfl (by kernel_rfl) (by kernel_rfl) (by kernel_rfl) (fun _ _ _ h => h) (Or.inl ⟨by rfl, ?hy25_84⟩) hS ?rest25_84
        case hy25_84 =>
          intro w hSw
          (try dsimp only at hSw)
          go_simp
          try with_reducible rfl
        try simp only [Act.put, List.setIfInBounds_toArray, List.set_cons_zero, List.set_cons_succ]
        refine wpAnyH_take (i := 26) (oi := { dst := some 96, op := Op.load 3 (Operand.tmp 95), type := 3, pos := "law.go:72", after := #[{ on := 25, ground := Ground.data }, { on := 18, ground := Ground.guard }], guard := some (18, false) }) (v := ?v26_85) rfl (by kernel_rfl) (by kernel_rfl) (by kernel_rfl) (fun _ _ _ h => h) (Or.inl ⟨by rfl, ?hy26_85⟩) hS ?rest26_85
        case hy26_85 =>
          intro w hSw
          (try dsimp only at hSw)
          go_simp
          try with_reducible rfl
        try simp only [Act.put, List.setIfInBounds_toArray, List.set_cons_zero, List.set_cons_succ]
        refine wpAnyH_ready (rs := [20]) (by kernel_rfl) (by simp) ?_
        refine AllReadyH.cons (o := { dst := some 90, op := Op.call { callee := Callee.value (Operand.func 12), args := #[Operand.tmp 89], argTypes := #[35] }, type := 3, pos := "law.go:72", after := #[{ on := 19, ground := Ground.data }, { on := 18, ground := Ground.chain }, { on := 18, ground := Ground.guard }], guard := some (18, false) }) rfl (fun K hK => ?_) AllReadyH.nil
        go_simp
        refine (touched_any g gw N _ _ HM5.out).mono ?_
        rintro e u6 ⟨rfl, rfl⟩
        have HM6 := HM5
        have HT6 := HT5
        have HMr6 := HMr5
        have HR6 := HR5
        have hB6 := hB5
        refine hK.out _ _ x5_0 (fun hS => ?_)
        clear hK K
        skip
        refine wpAnyH_take (i := 22) (oi := { dst := some 92, op := Op.binOp BinOp.sub 3 (Operand.tmp 90) (Operand.tmp 91) 3, type := 3, pos := "law.go:72", after := #[{ on := 20, ground := Ground.data }, { on := 21, ground := Ground.data }, { on := 18, ground := Ground.guard }], guard := some (18, false) }) (v := ?v22_86) rfl (by kernel_rfl) (by kernel_rfl) (by kernel_rfl) (fun _ _ _ h => h) (Or.inl ⟨by rfl, ?hy22_86⟩) hS ?rest22_86
        case hy22_86 =>
          intro w hSw
          (try dsimp only at hSw)
          go_simp
          try with_reducible rfl
        try simp only [Act.put, List.setIfInBounds_toArray, List.set_cons_zero, List.set_cons_succ]
        refine wpAnyH_take (i := 27) (oi := { dst := some 97, op := Op.binOp BinOp.lss 3 (Operand.tmp 92) (Operand.tmp 96) 3, type := 4, pos := "law.go:72", after := #[{ on := 22, ground := Ground.data }, { on := 26, ground := Ground.data }, { on := 18, ground := Ground.guard }], guard := some (18, false) }) (v := ?v27_87) rfl (by kernel_rfl) (by kernel_rfl) (by kernel_rfl) (fun _ _ _ h => h) (Or.inl ⟨by rfl, ?hy27_87⟩) hS ?rest27_87
        case hy27_87 =>
          intro w hSw
          (try dsimp only at hSw)
          go_simp
          try with_reducible rfl
        try simp only [Act.put, List.setIfInBounds_toArray, List.set_cons_zero, List.set_cons_succ]
        refine wpAnyH_take (i := 28) (oi := { dst := some 98, op := Op.pick (Operand.tmp 88) (Operand.const (Value.bool true)) (Operand.tmp 97), type := 4, pos := "law.go:72", after := #[{ on := 18, ground := Ground.data }, { on := 27, ground := Ground.data }], guard := none }) (v := ?v28_88) rfl (by kernel_rfl) (by kernel_rfl) (by kernel_rfl) (fun _ _ _ h => h) (Or.inl ⟨by rfl, ?hy28_88⟩) hS ?rest28_88
        case hy28_88 =>
          intro w hSw
          (try dsimp only at hSw)
          go_simp
          try with_reducible rfl
        try simp only [Act.put, List.setIfInBounds_toArray, List.set_cons_zero, List.set_cons_succ]
        refine wpAnyH_done (by kernel_rfl) ?_ _
        go_wp2
        go_roundw
        case rel => exact ⟨i + 1, T2, ⟨ws, T1⟩, y, S2, sb2, ab2, rb2, by omega, by go_num, HM6, HT6, HMr6, HR6, HRel2, pl1, k1, k2, k3, k4, y1, y2, y3, zd3, Lib.hid hB6⟩
        case measure => simp [intOf]; omega
    · obtain rfl : i = st := by omega
      have hlt2 : ¬ (i : Int) < (i : Int) := by omega
      go_wp2_with fail
      have HM0 := Lib.hid HM.out.drew
      have HMr0 := Lib.hid HMr.out.drew
      have hB0 := hbb.out.drew
      clear HM HT HMr HR hbb
      have x0_0 : wr.drew.cell? ⟨rg, 0, none⟩ = some (.slice (some ⟨rgw, 0, none⟩) N c5) := by have := HMr0.out.c0; rwa [hlen] at this
      refine wp_region_held_drew (S := (fun w' => w'.cell? ⟨rg, 0, none⟩ = some (.slice (some ⟨rgw, 0, none⟩) N c5))) (by kernel_rfl) x0_0 (fun hS => ?_)
      generalize wr.drew = u0 at *
      refine wpAnyH_take (i := 0) (oi := { dst := some 99, op := Op.move (Operand.tmp 7), type := 4, pos := "law.go:76", after := #[], guard := none }) (v := ?v0_89) rfl (by kernel_rfl) (by kernel_rfl) (by kernel_rfl) (fun _ _ _ h => h) (Or.inl ⟨by rfl, ?hy0_89⟩) hS ?rest0_89
      case hy0_89 =>
        intro w hSw
        (try dsimp only at hSw)
        go_simp
        try with_reducible rfl
      try simp only [Act.put, List.setIfInBounds_toArray, List.set_cons_zero, List.set_cons_succ]
      refine wpAnyH_take (i := 1) (oi := { dst := some 100, op := Op.move (Operand.tmp 99), type := 4, pos := "law.go:76", after := #[{ on := 0, ground := Ground.data }], guard := none }) (v := ?v1_90) rfl (by kernel_rfl) (by kernel_rfl) (by kernel_rfl) (fun _ _ _ h => h) (Or.inl ⟨by rfl, ?hy1_90⟩) hS ?rest1_90
      case hy1_90 =>
        intro w hSw
        (try dsimp only at hSw)
        go_simp
        try with_reducible rfl
      try simp only [Act.put, List.setIfInBounds_toArray, List.set_cons_zero, List.set_cons_succ]
      refine wpAnyH_take (i := 2) (oi := { dst := some 101, op := Op.move (Operand.tmp 10), type := 35, pos := "law.go:76", after := #[{ on := 1, ground := Ground.guard }], guard := some (1, true) }) (v := ?v2_91) rfl (by kernel_rfl) (by kernel_rfl) (by kernel_rfl) (fun _ _ _ h => h) (Or.inl ⟨by rfl, ?hy2_91⟩) hS ?rest2_91
      case hy2_91 =>
        intro w hSw
        (try dsimp only at hSw)
        go_simp
        try with_reducible rfl
      try simp only [Act.put, List.setIfInBounds_toArray, List.set_cons_zero, List.set_cons_succ]
      refine wpAnyH_take (i := 4) (oi := { dst := some 103, op := Op.move (Operand.tmp 12), type := 39, pos := "law.go:76", after := #[{ on := 1, ground := Ground.guard }], guard := some (1, true) }) (v := ?v4_92) rfl (by kernel_rfl) (by kernel_rfl) (by kernel_rfl) (fun _ _ _ h => h) (Or.inl ⟨by rfl, ?hy4_92⟩) hS ?rest4_92
      case hy4_92 =>
        intro w hSw
        (try dsimp only at hSw)
        go_simp
        try with_reducible rfl
      try simp only [Act.put, List.setIfInBounds_toArray, List.set_cons_zero, List.set_cons_succ]
      refine wpAnyH_take (i := 5) (oi := { dst := some 104, op := Op.nilCheck (Operand.tmp 103), type := 0, pos := "law.go:76", after := #[{ on := 4, ground := Ground.data }, { on := 1, ground := Ground.guard }], guard := some (1, true) }) (v := ?v5_93) rfl (by kernel_rfl) (by kernel_rfl) (by kernel_rfl) (fun _ _ _ h => h) (Or.inl ⟨by rfl, ?hy5_93⟩) hS ?rest5_93
      case hy5_93 =>
        intro w hSw
        (try dsimp only at hSw)
        go_simp
        try with_reducible rfl
      try simp only [Act.put, List.setIfInBounds_toArray, List.set_cons_zero, List.set_cons_succ]
      refine wpAnyH_take (i := 6) (oi := { dst := some 105, op := Op.fieldAddr 41 (Operand.tmp 104) 0, type := 0, pos := "law.go:76", after := #[{ on := 5, ground := Ground.data }, { on := 1, ground := Ground.guard }], guard := some (1, true) }) (v := ?v6_94) rfl (by kernel_rfl) (by kernel_rfl) (by kernel_rfl) (fun _ _ _ h => h) (Or.inl ⟨by rfl, ?hy6_94⟩) hS ?rest6_94
      case hy6_94 =>
        intro w hSw
        (try dsimp only at hSw)
        go_simp
        try with_reducible rfl
      try simp only [Act.put, List.setIfInBounds_toArray, List.set_cons_zero, List.set_cons_succ]
      refine wpAnyH_take (i := 7) (oi := { dst := some 106, op := Op.load 32 (Operand.tmp 105), type := 32, pos := "law.go:76", after := #[{ on := 6, ground := Ground.data }, { on := 1, ground := Ground.guard }], guard := some (1, true) }) (v := ?v7_95) rfl (by kernel_rfl) (by kernel_rfl) (by kernel_rfl) (fun _ _ _ h => h) (Or.inl ⟨by rfl, ?hy7_95⟩) hS ?rest7_95
      case hy7_95 =>
        intro w hSw
        (try dsimp only at hSw)
        go_simp
        try with_reducible rfl
      try simp only [Act.put, List.setIfInBounds_toArray, List.set_cons_zero, List.set_cons_succ]
      refine wpAnyH_ready (rs := [3]) (by kernel_rfl) (by simp) ?_
      refine AllReadyH.cons (o := { dst := some 102, op := Op.call { callee := Callee.value (Operand.func 22), args := #[Operand.tmp 101], argTypes := #[35] }, type := 32, pos := "law.go:76", after := #[{ on := 2, ground := Ground.data }, { on := 1, ground := Ground.chain }, { on := 1, ground := Ground.guard }], guard := some (1, true) }) rfl (fun K hK => ?_) AllReadyH.nil
      go_simp
      refine (wordsS_any g gw N s _ HM0.out (by omega) (by omega)).mono ?_
      rintro e u1 ⟨bz, cz, rfl, _, _, hib, hb⟩
      rw [hlen]
      have HMr1 := Lib.hid (HMr0.out.on hb)
      have hB1 := hB0.trans (hb.mono hB0.size)
      clear hb
      have Hib := Lib.hid hib
      have x1_0 : u1.cell? ⟨rg, 0, none⟩ = some (.slice (some ⟨rgw, 0, none⟩) N c5) := by have := HMr1.out.c0; rwa [hlen] at this
      refine hK.out _ _ x1_0 (fun hS => ?_)
      clear hK K
      try simp only [Act.put, List.setIfInBounds_toArray, List.set_cons_zero, List.set_cons_succ]
      refine wpAnyH_ready (rs := [8]) (by kernel_rfl) (by simp) ?_
      refine AllReadyH.cons (o := { dst := some 107, op := Op.call { callee := Callee.value (Operand.func 19), args := #[Operand.tmp 102, Operand.tmp 106], argTypes := #[32, 32] }, type := 4, pos := "law.go:76", after := #[{ on := 3, ground := Ground.data }, { on := 7, ground := Ground.data }, { on := 3, ground := Ground.chain }, { on := 1, ground := Ground.guard }], guard := some (1, true) }) rfl (fun K hK => ?_) AllReadyH.nil
      go_simp
      refine (ints_same _ _ _ _ N s.ws _ hlen Hib.out.is HMr1.out.is (by omega)).mono ?_
      rintro e u2 ⟨rfl, hb⟩
      have HMr2 := Lib.hid (HMr1.out.on hb)
      have hB2 := hB1.trans (hb.mono hB1.size)
      clear hb
      have x2_0 : u2.cell? ⟨rg, 0, none⟩ = some (.slice (some ⟨rgw, 0, none⟩) N c5) := by have := HMr2.out.c0; rwa [hlen] at this
      refine hK.out _ _ x2_0 (fun hS => ?_)
      clear hK K
      try simp only [Act.put, List.setIfInBounds_toArray, List.set_cons_zero, List.set_cons_succ]
      refine wpAnyH_take (i := 9) (oi := { dst := some 108, op := Op.pick (Operand.tmp 100) (Operand.tmp 107) (Operand.const (Value.bool false)), type := 4, pos := "law.go:76", after := #[{ on := 1, ground := Ground.data }, { on := 8, ground := Ground.data }], guard := none }) (v := ?v9_96) rfl (by kernel_rfl) (by kernel_rfl) (by kernel_rfl) (fun _ _ _ h => h) (Or.inl ⟨by rfl, ?hy9_96⟩) hS ?rest9_96
      case hy9_96 =>
        intro w hSw
        (try dsimp only at hSw)
        go_simp
        try with_reducible rfl
      try simp only [Act.put, List.setIfInBounds_toArray, List.set_cons_zero, List.set_cons_succ]
      refine wpAnyH_take (i := 10) (oi := { dst := some 6, op := Op.assign (Operand.tmp 108), type := 4, pos := "law.go:76", after := #[{ on := 9, ground := Ground.data }, { on := 8, ground := Ground.chain }, { on := 0, ground := Ground.phase }, { on := 1, ground := Ground.phase }, { on := 2, ground := Ground.phase }, { on := 3, ground := Ground.phase }, { on := 4, ground := Ground.phase }, { on := 5, ground := Ground.phase }, { on := 6, ground := Ground.phase }, { on := 7, ground := Ground.phase }, { on := 8, ground := Ground.phase }, { on := 9, ground := Ground.phase }], guard := none }) (v := ?v10_97) rfl (by kernel_rfl) (by kernel_rfl) (by kernel_rfl) (fun _ _ _ h => h) (Or.inl ⟨by rfl, ?hy10_97⟩) hS ?rest10_97
      case hy10_97 =>
        intro w hSw
        (try dsimp only at hSw)
        go_simp
        try with_reducible rfl
      try simp only [Act.put, List.setIfInBounds_toArray, List.set_cons_zero, List.set_cons_succ]
      refine wpAnyH_done (by kernel_rfl) ?_ _
      go_wp2
      go_ret
      exact ⟨rfl, hB2⟩
end Go.Proofs.Ytalmadeibnekoaa
