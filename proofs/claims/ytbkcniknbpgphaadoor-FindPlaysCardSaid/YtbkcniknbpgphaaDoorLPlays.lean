/- The law FindPlays, walked. -/
import Derived.Test.YtbkcniknbpgphaaDoorPlayM
namespace Go.Proofs.YtbkcniknbpgphaaDoor
open Go.RowKit
attribute [local go_sem ↓] Go.wp_at_zero Go.wp_at_succ

set_option maxRecDepth 100000 in
set_option maxHeartbeats 2000000 in
theorem lplays_any (a1 a2 a3 a4 a5 : Int) (S P1 P2 : Option Addr) (sn sc pn1 pc1 pn2 pc2 : Nat) (sl : List Sl) (p1 p2 : List Int) (A T : Option Addr) (ln lc tn tc : Nat) (l : List Wr) (ts : List Int) (k o m : Int) (w : World) (hT : Tab w) (h1 : 0 ≤ a1 ∧ a1 ≤ 255) (h2 : 0 ≤ a2 ∧ a2 ≤ 255) (h3 : 0 ≤ a3 ∧ a3 ≤ 255) (h4 : 0 ≤ a4 ∧ a4 ≤ 255) (h5 : 0 ≤ a5 ∧ a5 ≤ 255) (hG : GivenAt w S P1 P2 sn pn1 pn2 sl p1 p2) (hWS : WS w w.heap.size A l) (hn : l.length = ln) (hO : ∀ x ∈ l, Wr.Ok x)
    (hTS : BS w w.heap.size T ts) (htn : ts.length = tn) (htr : ∀ x ∈ ts, 0 ≤ x ∧ x ≤ 255) :
    Calls Tryd.prog 4 #[Value.agg #[Value.int .u8 a1, Value.int .u8 a2, Value.int .u8 a3, Value.int .u8 a4, Value.int .u8 a5, .slice S sn sc, .slice P1 pn1 pc1, .slice P2 pn2 pc2], .int .i64 k, .int .i64 o, .int .i64 m, .slice A ln lc, .slice T tn tc] w fun e w' => e = .returned (.bool true) ∧ Below w.heap.size w w' := by
  have HWS := Lib.hid hWS
  have Hn := Lib.hid hn
  have HO := Lib.hid hO
  have HTS := Lib.hid hTS
  have Htn := Lib.hid htn
  have Htr := Lib.hid htr
  obtain ⟨M0, hM0⟩ : ∃ M0 : Int, max m 0 = M0 := ⟨_, rfl⟩
  have hm0 : 0 ≤ M0 := by omega
  have HmM := Lib.hid hM0
  clear hWS hn hO hTS htn htr hM0
  have hB := bnew w (.cells #[Value.int .u8 a1, Value.int .u8 a2, Value.int .u8 a3, Value.int .u8 a4, Value.int .u8 a5, .slice S sn sc, .slice P1 pn1 pc1, .slice P2 pn2 pc2] 31)
  have r0 := RowAt.new w 31 #[Value.int .u8 a1, Value.int .u8 a2, Value.int .u8 a3, Value.int .u8 a4, Value.int .u8 a5, .slice S sn sc, .slice P1 pn1 pc1, .slice P2 pn2 pc2]
  have HT := Lib.hid (hT.below hB hT.lt)
  have HG := Lib.hid (hG.on hB)
  have hz0 := hT.lt
  clear hT hG
  go_enter Tryd.func4, Tryd.ntmps4
  go_wp2_with fail
  refine (awake_any _ HT.out).mono ?_
  rintro e w1 ⟨rfl, hb⟩
  replace r0 := r0.below hb r0.lt
  replace hB := hB.trans (hb.mono hB.size)
  have HT1 := Lib.hid (HT.out.below hb HT.out.lt)
  have HG1 := Lib.hid (HG.out.on hb)
  clear hb HT HG
  go_wp2_with fail
  refine (few_any A ln lc _).mono ?_
  rintro e w1' ⟨rfl, rfl⟩
  by_cases hn20 : ln ≤ 20
  case neg =>
    rw [decide_eq_false hn20]
    go_wp2_with fail
    go_ret
    exact ⟨rfl, hB⟩
  rw [decide_eq_true hn20]
  by_cases hn40 : tn ≤ 40
  case neg =>
    have h41 : (40 : Int) < (tn : Int) := by omega
    go_wp2_with fail
    go_ret
    exact ⟨rfl, hB⟩
  have h41 : ¬ (40 : Int) < (tn : Int) := by omega
  go_wp2_with (refine wpList_load_row rfl 31 _ rfl _ rfl 31 _ (0, 0) _ r0 Tryd.underlying31 rfl (by kernel_rfl) ?_)
  refine (made_any a1 a2 a3 a4 a5 S P1 P2 sn sc pn1 pc1 pn2 pc2 sl p1 p2 _ h1 h2 h3 h4 h5 HG1.out).mono ?_
  rintro e w2 ⟨c, gW, cW, xs, hf, rfl, hL, hgd, hib, hgW, hb⟩
  have hB2 := hB.trans (hb.mono hB.size)
  have HT2 := Lib.hid ((HT1.out.below hb HT1.out.lt).below (bnew w2 (.cells #[Value.int .i64 c.wo, Value.int .i64 c.sl, Value.int .i64 c.st, Value.int .i64 c.wa, Value.int .i64 c.us] 35)) (HT1.out.below hb HT1.out.lt).lt)
  have HW2 := Lib.hid (hib.on (bnew w2 (.cells #[Value.int .i64 c.wo, Value.int .i64 c.sl, Value.int .i64 c.st, Value.int .i64 c.wa, Value.int .i64 c.us] 35)))
  have hW0 : w.heap.size ≤ gW := by have := hB.size; omega
  have hW1 := hib.1
  have rc2 := RowAt.new w2 35 #[Value.int .i64 c.wo, Value.int .i64 c.sl, Value.int .i64 c.st, Value.int .i64 c.wa, Value.int .i64 c.us]
  have hB3 := hB2.trans ((bnew w2 (.cells #[Value.int .i64 c.wo, Value.int .i64 c.sl, Value.int .i64 c.st, Value.int .i64 c.wa, Value.int .i64 c.us] 35)).mono hB2.size)
  have hBs := hB2.size
  have Hc := Lib.hid hf.rc
  have q1 := hf.wo
  have q2 := hf.sl
  have HGd := Lib.hid hgd
  have n9 := (cellsN_eq hf.rc).2
  obtain ⟨N, hN⟩ : ∃ N, N = cellsN c := ⟨_, rfl⟩
  rw [← hN] at hL n9 ⊢
  have HN := Lib.hid hN
  have HL := Lib.hid hL
  clear hb hib hgd r0 hB hB2 HT1 HG1 hf hN hL
  go_wp2_with (refine wpList_load_row rfl 35 _ rfl _ rfl 35 _ (0, 0) _ rc2 Tryd.underlying35 rfl (by kernel_rfl) ?_)
  obtain ⟨Bc, eB⟩ : ∃ Bc, Bc = w2.heap.size := ⟨_, rfl⟩
  rw [← eB] at rc2 hW1 hBs ⊢
  obtain ⟨W2, eW⟩ : ∃ W2, W2 = w2.alloc (.cells #[Value.int .i64 c.wo, Value.int .i64 c.sl, Value.int .i64 c.st, Value.int .i64 c.wa, Value.int .i64 c.us] 35) := ⟨_, rfl⟩
  rw [← eW] at rc2 HT2 HW2 hB3 ⊢
  clear eB eW
  refine (laid_any c (some ⟨gW, 0, none⟩) N cW W2.heap.size xs _ Hc.out HL.out HN.out HW2.out.is (Nat.le_refl _)).mono ?_
  rintro e w3 ⟨g, gw, rfl, hg, hgw, hM, hb⟩
  have l1 := rc2.lt
  have rc3 := rc2.below hb rc2.lt
  have HT3 := Lib.hid (HT2.out.below hb HT2.out.lt)
  have HW3 := Lib.hid (HW2.out.on hb)
  have hB4 := hB3.trans (hb.mono hB3.size)
  have l2 := hM.lg
  have l3 := hM.lw
  have HM3 := Lib.hid hM
  clear hb HT2 HW2 hB3 rc2 hM
  go_wp2_with (refine wpList_load_row rfl 35 _ rfl _ rfl 35 _ (0, 0) _ rc3 Tryd.underlying35 rfl (by kernel_rfl) ?_)
  refine (find_new c k o m _).mono ?_
  rw [HmM.out]
  rintro e w4 ⟨f, q, n, fr, rfl, hF, hf, hq, hb⟩
  have rc4 := rc3.below hb rc3.lt
  have HT4 := Lib.hid (HT3.out.below hb HT3.out.lt)
  have HW4 := Lib.hid (HW3.out.on hb)
  have HM4 := Lib.hid (HM3.out.on hb)
  have HF4 := Lib.hid hF
  have hB5 := hB4.trans (hb.mono hB4.size)
  have o1 : w.heap.size ≤ gW ∧ gW < Bc := ⟨hW0, hW1⟩
  have o2 : Bc < g ∧ Bc < gw ∧ g < f ∧ gw < f ∧ g < q ∧ gw < q := by omega
  have o3 : g ≠ gw := HM4.out.ne
  have o4 : f ≠ q := HF4.out.ne
  clear hb HT3 HW3 HM3 hF hB4 rc3 hW0 hW1 hg hgw l1 l2 l3 hf hq hgW hBs
  obtain ⟨F, hF⟩ : ∃ F : Nat, (3 + c.wo + c.wo).toNat = F := ⟨_, rfl⟩
  have HF := Lib.hid hF
  have hFN : (F : Int) + c.sl = N := by have := (cellsN_eq Hc.out).1; rw [← HN.out] at this; unfold cellsI at this; omega
  clear hF
  have HW5 := Lib.hid (HW4.out.on (bnew w4 (.cells #[] 3)))
  go_wp2_with (first
    | (at_builtin; refine (mine_empty w4).appAll (n := 0) (m := N) rfl (by omega) (Nat.zero_add N) rfl _ _ rfl rfl xs HL.out gW 0 cW rfl (fun k y hy => by rw [Nat.zero_add]; exact HW5.out.2 k y hy) (List.nil_append xs) ?_; intro A5 c5 w5 hM5
       obtain ⟨rgw, eA5, hrg, hwb⟩ := hM5.mem (by rw [HL.out]; omega)
       subst eA5
       have zc := (rc4.below hM5.below rc4.lt).alloc (.cells #[.slice (some ⟨rgw, 0, none⟩) N c5, .int .i64 0] 45))
    | (refine wpList_load_row rfl 35 _ rfl _ rfl 35 _ (0, 0) _ zc Tryd.underlying35 rfl (by kernel_rfl) ?_))
  refine (ref_new c k o m _).mono ?_
  rw [HmM.out]
  rintro e w6 ⟨h, rfl, hR, hh, hb⟩
  have hb5 := hM5.below
  have hMr := memAt_box w5 rgw c5 xs 0 45 hwb.1 hwb.2
  rw [HL.out] at hMr
  have hMr1 : MemAt (w5.alloc (.cells #[.slice (some ⟨rgw, 0, none⟩) N c5, .int .i64 0] 45)) w5.heap.size rgw c5 ⟨xs, 0⟩ := hMr
  have hbA := bst hb5 (bnew w5 (.cells #[.slice (some ⟨rgw, 0, none⟩) N c5, .int .i64 0] 45))
  have hbB := bst hbA hb
  have l4 := HF4.out.row.lt
  have l5 := HF4.out.lq
  have l6 := HM4.out.lg
  have l7 := HM4.out.lw
  have l8 := hwb.1.1
  obtain ⟨rg, erg⟩ : ∃ rg, rg = w5.heap.size := ⟨_, rfl⟩
  have hhs : rg < h := by rw [World.size_alloc] at hh; omega
  have hMr2 := hMr1.on hb
  rw [← erg] at hMr2 l8 ⊢
  have o5 : f < rgw ∧ q < rgw ∧ rgw < rg ∧ rg < h := by omega
  have HR6 := Lib.hid hR
  have HMr6 := Lib.hid hMr2
  have HT6 := Lib.hid (HT4.out.below hbB HT4.out.lt)
  have HM6 := Lib.hid (HM4.out.on hbB)
  have HF6 := Lib.hid (HF4.out.on hbB)
  have hB6 := hB5.trans (hbB.mono hB5.size)
  clear hb5 hMr hMr1 hMr2 hbA hbB l4 l5 l6 l7 l8 hh hhs erg hR hb hwb hrg zc hM5 HT4 HM4 HF4 HW4 HW5 rc4 hB5
  go_wp2_with fail
  go_loopw [21] (fun j wr => ∃ (i t2 : Nat) (s : St) (x : Fs), i ≤ tn ∧ j = .int .i64 i ∧ Hid (MemAt wr g gw N s) ∧ Hid (FindAt wr f q c n fr k o x) ∧ Hid (MemAt wr rg rgw c5 ⟨s.ws, t2⟩) ∧ Hid (RefAt wr h c k o x) ∧ s.ws.length = N ∧ Hid (∀ (k : Nat) x, s.ws[k]? = some x → In64 x) ∧ s.t ≤ 100 + 30 * i ∧ t2 ≤ i ∧ Hid (Okx c x) ∧ Hid (Tab wr) ∧ Hid (Below w.heap.size w wr)) (fun j _ => tn - (intOf j).toNat)
  case atStart => exact ⟨0, 0, ⟨xs, N⟩, ⟨M0, 0, false⟩, Nat.zero_le _, rfl, HM6, HF6, HMr6, HR6, HL.out, Lib.hid HGd.out.in64, by simp only; omega, Nat.le_refl _, Lib.hid ⟨hm0, fun h => by cases h⟩, HT6, Lib.hid hB6⟩
  case round =>
    obtain ⟨i, t2, s, x, hi, rfl, HM, HFi, HMr, HR, hlen, HI, ht, ht2, HX, HTi, hbb⟩ := hrel
    clear HM6 HF6 HMr6 HR6 HT6 hB6
    have hsz := hbb.out.size
    by_cases hlt : i < tn
    · go_wp2_with fail
      refine (writes_any g gw N A ln lc w.heap.size l i s _ HM.out (HWS.out.below hbb.out) Hn.out HO.out hsz (by omega) (by omega) (by omega) (by omega) (by omega) (by omega)).mono ?_
      rintro e u1 ⟨rfl, hm, hs⟩
      obtain ⟨p1', p2', p3'⟩ := wrS_len s l i
      have hin := wrS_in (i := (i : Int)) HI.out HO.out
      have hws := wrS_ws s.ws t2 s.t l i
      rw [show (⟨s.ws, s.t⟩ : St) = s from rfl] at hws
      obtain ⟨s1, es⟩ : ∃ s1, s1 = wrS s l i := ⟨_, rfl⟩
      rw [← es] at hm p1' p2' p3' hin hws
      rw [hlen] at p1'
      rw [Hn.out] at p3'
      clear es
      have Hlen := Lib.hid p1'
      have HI1 := Lib.hid hin
      have HM1 := Lib.hid hm
      have HF1 := Lib.hid (HFi.out.spx hs (by simp <;> omega) (by simp <;> omega))
      have HMr1 := Lib.hid (HMr.out.spx hs (by simp <;> omega) (by simp <;> omega))
      have HR1 := Lib.hid (HR.out.spx hs (by simp <;> omega))
      have HT1 := Lib.hid (HTi.out.spx hs (by simp <;> omega))
      have hB1 := hs.below hbb.out hsz (by simp <;> omega)
      clear hm hs hin p1' HM HFi HMr HR HTi hbb HI hsz
      go_wp2_with fail
      refine (refWrites_any rg rgw c5 A ln lc w.heap.size l i ⟨s.ws, t2⟩ _ HMr1.out (HWS.out.below hB1) Hn.out HO.out hB1.size (by omega) (by omega) (by simp only; omega) (by simp only; omega) (by simp only; omega) (by omega)).mono ?_
      rintro e u2 ⟨rfl, hm, hs⟩
      rw [hws] at hm
      have HMr2 := Lib.hid hm
      have HM2 := Lib.hid (HM1.out.spx hs (by simp <;> omega) (by simp <;> omega))
      have HF2 := Lib.hid (HF1.out.spx hs (by simp <;> omega) (by simp <;> omega))
      have HR2 := Lib.hid (HR1.out.spx hs (by simp <;> omega))
      have HT2 := Lib.hid (HT1.out.spx hs (by simp <;> omega))
      have hB2 := hs.below hB1 hB1.size (by simp <;> omega)
      clear hm hs HM1 HF1 HMr1 HR1 HT1 hB1 hws hlen
      go_wp2_with fail
      refine (touched_any g gw N _ _ HM2.out).mono ?_
      rintro e u3 ⟨rfl, rfl⟩
      have c1 := HMr2.out.c1
      obtain ⟨ws, t1⟩ := s1
      simp only at c1 p2' p3' HI1 Hlen HM2 HMr2 ⊢
      go_wp2_with fail
      clear c1
      have HMr0 := Lib.hid HMr2.out.drew
      have HM0 := Lib.hid HM2.out.drew
      have HF0 := Lib.hid HF2.out.drew
      have HR0 := Lib.hid HR2.out.drew
      have HT0 := Lib.hid HT2.out.drew
      have hB0 := hB2.drew
      clear HMr2 HM2 HF2 HR2 HT2 hB2
      have htc := tch_le c x
      obtain ⟨td, etd⟩ : ∃ td, td = tch c x := ⟨_, rfl⟩
      rw [← etd] at htc
      have HTD := Lib.hid etd
      obtain ⟨T1, eT1⟩ : ∃ T1, T1 = t1 + td := ⟨_, rfl⟩
      obtain ⟨T2, eT2⟩ : ∃ T2, T2 = t2 + td := ⟨_, rfl⟩
      have hw1 : IntKind.i64.wrap ((T1 : Int) - (t1 : Int)) = (td : Int) := by rw [IntWalk.i64_in _ (by omega)]; omega
      have hw2 : IntKind.i64.wrap ((T2 : Int) - (t2 : Int)) = (td : Int) := by rw [IntWalk.i64_in _ (by omega)]; omega
      have HT1e := Lib.hid eT1
      have HT2e := Lib.hid eT2
      have hT1 : T1 ≤ 100 + 30 * (i + 1) := by omega
      have hT2 : T2 ≤ i + 1 := by omega
      obtain ⟨y, ey⟩ : ∃ y, y = stepF c k o x ws := ⟨_, rfl⟩
      have HY := Lib.hid ey
      have HX2 := Lib.hid (step_ok (k := k) (o := o) (ws := ws) HX.out)
      rw [← ey] at HX2
      obtain ⟨bd, ebd⟩ : ∃ bd, bd = doneB c y := ⟨_, rfl⟩
      have HBD := Lib.hid ebd
      clear etd eT1 eT2 ey ebd
      refine wp_region_held_drew (S := (fun _ => True)) (by kernel_rfl) trivial (fun hS => ?_)
      generalize u2.drew = u0 at *
      refine wpAnyH_take (i := 0) (oi := { dst := some 87, op := Op.move (Operand.tmp 18), type := 41, pos := "law.go:84", after := #[], guard := none }) (v := ?v0_1) rfl (by kernel_rfl) (by kernel_rfl) (by kernel_rfl) (fun _ _ _ h => h) (Or.inl ⟨by rfl, ?hy0_1⟩) hS ?rest0_1
      case hy0_1 =>
        intro w hSw
        (try dsimp only at hSw)
        go_simp
        try with_reducible rfl
      try simp only [Act.put, List.setIfInBounds_toArray, List.set_cons_zero, List.set_cons_succ]
      refine wpAnyH_take (i := 1) (oi := { dst := some 88, op := Op.move (Operand.tmp 17), type := 39, pos := "law.go:84", after := #[], guard := none }) (v := ?v1_2) rfl (by kernel_rfl) (by kernel_rfl) (by kernel_rfl) (fun _ _ _ h => h) (Or.inl ⟨by rfl, ?hy1_2⟩) hS ?rest1_2
      case hy1_2 =>
        intro w hSw
        (try dsimp only at hSw)
        go_simp
        try with_reducible rfl
      try simp only [Act.put, List.setIfInBounds_toArray, List.set_cons_zero, List.set_cons_succ]
      refine wpAnyH_take (i := 3) (oi := { dst := some 90, op := Op.move (Operand.tmp 20), type := 46, pos := "law.go:84", after := #[], guard := none }) (v := ?v3_3) rfl (by kernel_rfl) (by kernel_rfl) (by kernel_rfl) (fun _ _ _ h => h) (Or.inl ⟨by rfl, ?hy3_3⟩) hS ?rest3_3
      case hy3_3 =>
        intro w hSw
        (try dsimp only at hSw)
        go_simp
        try with_reducible rfl
      try simp only [Act.put, List.setIfInBounds_toArray, List.set_cons_zero, List.set_cons_succ]
      refine wpAnyH_take (i := 4) (oi := { dst := some 91, op := Op.move (Operand.tmp 19), type := 43, pos := "law.go:84", after := #[], guard := none }) (v := ?v4_4) rfl (by kernel_rfl) (by kernel_rfl) (by kernel_rfl) (fun _ _ _ h => h) (Or.inl ⟨by rfl, ?hy4_4⟩) hS ?rest4_4
      case hy4_4 =>
        intro w hSw
        (try dsimp only at hSw)
        go_simp
        try with_reducible rfl
      try simp only [Act.put, List.setIfInBounds_toArray, List.set_cons_zero, List.set_cons_succ]
      refine wpAnyH_ready (rs := [2]) (by kernel_rfl) (by simp) ?_
      refine AllReadyH.cons (o := { dst := some 89, op := Op.call { callee := Callee.value (Operand.func 20), args := #[Operand.tmp 87, Operand.tmp 88], argTypes := #[41, 39] }, type := 4, pos := "law.go:84", after := #[{ on := 0, ground := Ground.data }, { on := 1, ground := Ground.data }], guard := none }) rfl (fun K hK => ?_) AllReadyH.nil
      go_simp
      refine (step_any f q g gw N c n fr k o x ⟨ws, t1⟩ _ Hc.out HX.out.1 HF0.out HM0.out HT0.out (by rw [← HN.out]; exact Hlen.out) (by simp only; omega) HI1.out (by omega) (by omega) (by omega) (by omega) (by omega) (by omega) (by omega)).mono ?_
      rintro e v1 ⟨rfl, hm, hff, hs⟩
      rw [← HY.out] at hff ⊢
      rw [← HBD.out]
      rw [← HTD.out, ← HT1e.out] at hm
      have HM1 := Lib.hid hm
      have HF1 := Lib.hid hff
      have HMr1 := Lib.hid (HMr0.out.spx hs (by simp <;> omega) (by simp <;> omega))
      have HR1 := Lib.hid (HR0.out.spx hs (by simp <;> omega))
      have HT1 := Lib.hid (HT0.out.spx hs (by simp <;> omega))
      have hB1 := hs.below hB0 hB0.size (by simp <;> omega)
      clear hm hff hs
      refine hK.out _ _ trivial (fun hS => ?_)
      clear hK K
      try simp only [Act.put, List.setIfInBounds_toArray, List.set_cons_zero, List.set_cons_succ]
      refine wpAnyH_ready (rs := [5]) (by kernel_rfl) (by simp) ?_
      refine AllReadyH.cons (o := { dst := some 92, op := Op.call { callee := Callee.value (Operand.func 21), args := #[Operand.tmp 90, Operand.tmp 91], argTypes := #[46, 43] }, type := 4, pos := "law.go:84", after := #[{ on := 3, ground := Ground.data }, { on := 4, ground := Ground.data }, { on := 2, ground := Ground.chain }], guard := none }) rfl (fun K hK => ?_) AllReadyH.nil
      go_simp
      refine (rstep_any h rg rgw c5 c k o x ⟨ws, t2⟩ _ Hc.out HX.out.1 HR1.out HMr1.out (by rw [← HN.out]; exact Hlen.out) (by simp only; omega) HI1.out (by omega) (by omega)).mono ?_
      rintro e v2 ⟨rfl, hm, hff, hs⟩
      rw [← HY.out] at hff ⊢
      rw [← HBD.out]
      rw [← HTD.out, ← HT2e.out] at hm
      have HMr2 := Lib.hid hm
      have HR2 := Lib.hid hff
      have HM2 := Lib.hid (HM1.out.spx hs (by simp <;> omega) (by simp <;> omega))
      have HF2 := Lib.hid (HF1.out.spx hs (by simp <;> omega) (by simp <;> omega))
      have HT2 := Lib.hid (HT1.out.spx hs (by simp <;> omega))
      have hB2 := hs.below hB1 hB1.size (by simp <;> omega)
      clear hm hff hs
      have x2_0 : v2.cell? ⟨rg, 1, none⟩ = some (.int .i64 (T2 : Int)) := HMr2.out.c1
      refine hK.out _ _ trivial (fun hS => ?_)
      clear hK K
      try simp only [Act.put, List.setIfInBounds_toArray, List.set_cons_zero, List.set_cons_succ]
      refine held_mono (S2 := (fun w' => w'.cell? ⟨rg, 1, none⟩ = some (.int .i64 (T2 : Int)))) (fun _ _ => trivial) _ _ _ _ ?_
      clear hS
      have hS : (fun w' => w'.cell? ⟨rg, 1, none⟩ = some (.int .i64 (T2 : Int))) v2 := x2_0
      refine wpAnyH_take (i := 6) (oi := { dst := some 93, op := Op.binOp BinOp.neq 4 (Operand.tmp 89) (Operand.tmp 92) 4, type := 4, pos := "law.go:84", after := #[{ on := 2, ground := Ground.data }, { on := 5, ground := Ground.data }], guard := none }) (v := ?v6_5) rfl (by kernel_rfl) (by kernel_rfl) (by kernel_rfl) (fun _ _ _ h => h) (Or.inl ⟨by rfl, ?hy6_5⟩) hS ?rest6_5
      case hy6_5 =>
        intro w hSw
        (try dsimp only at hSw)
        go_simp
        try with_reducible rfl
      try simp only [Act.put, List.setIfInBounds_toArray, List.set_cons_zero, List.set_cons_succ]
      refine wpAnyH_take (i := 7) (oi := { dst := some 94, op := Op.move (Operand.tmp 93), type := 4, pos := "law.go:84", after := #[{ on := 6, ground := Ground.data }, { on := 5, ground := Ground.chain }], guard := none }) (v := ?v7_6) rfl (by kernel_rfl) (by kernel_rfl) (by kernel_rfl) (fun _ _ _ h => h) (Or.inl ⟨by rfl, ?hy7_6⟩) hS ?rest7_6
      case hy7_6 =>
        intro w hSw
        (try dsimp only at hSw)
        go_simp
        try with_reducible rfl
      try simp only [Act.put, List.setIfInBounds_toArray, List.set_cons_zero, List.set_cons_succ]
      refine wpAnyH_take (i := 8) (oi := { dst := some 95, op := Op.move (Operand.tmp 17), type := 39, pos := "law.go:84", after := #[{ on := 7, ground := Ground.guard }], guard := some (7, false) }) (v := ?v8_7) rfl (by kernel_rfl) (by kernel_rfl) (by kernel_rfl) (fun _ _ _ h => h) (Or.inl ⟨by rfl, ?hy8_7⟩) hS ?rest8_7
      case hy8_7 =>
        intro w hSw
        (try dsimp only at hSw)
        go_simp
        try with_reducible rfl
      try simp only [Act.put, List.setIfInBounds_toArray, List.set_cons_zero, List.set_cons_succ]
      refine wpAnyH_take (i := 10) (oi := { dst := some 97, op := Op.move (Operand.tmp 22), type := 3, pos := "law.go:84", after := #[{ on := 7, ground := Ground.guard }], guard := some (7, false) }) (v := ?v10_8) rfl (by kernel_rfl) (by kernel_rfl) (by kernel_rfl) (fun _ _ _ h => h) (Or.inl ⟨by rfl, ?hy10_8⟩) hS ?rest10_8
      case hy10_8 =>
        intro w hSw
        (try dsimp only at hSw)
        go_simp
        try with_reducible rfl
      try simp only [Act.put, List.setIfInBounds_toArray, List.set_cons_zero, List.set_cons_succ]
      refine wpAnyH_take (i := 12) (oi := { dst := some 99, op := Op.move (Operand.tmp 19), type := 43, pos := "law.go:84", after := #[{ on := 7, ground := Ground.guard }], guard := some (7, false) }) (v := ?v12_9) rfl (by kernel_rfl) (by kernel_rfl) (by kernel_rfl) (fun _ _ _ h => h) (Or.inl ⟨by rfl, ?hy12_9⟩) hS ?rest12_9
      case hy12_9 =>
        intro w hSw
        (try dsimp only at hSw)
        go_simp
        try with_reducible rfl
      try simp only [Act.put, List.setIfInBounds_toArray, List.set_cons_zero, List.set_cons_succ]
      refine wpAnyH_take (i := 13) (oi := { dst := some 100, op := Op.nilCheck (Operand.tmp 99), type := 0, pos := "law.go:84", after := #[{ on := 12, ground := Ground.data }, { on := 7, ground := Ground.guard }], guard := some (7, false) }) (v := ?v13_10) rfl (by kernel_rfl) (by kernel_rfl) (by kernel_rfl) (fun _ _ _ h => h) (Or.inl ⟨by rfl, ?hy13_10⟩) hS ?rest13_10
      case hy13_10 =>
        intro w hSw
        (try dsimp only at hSw)
        go_simp
        try with_reducible rfl
      try simp only [Act.put, List.setIfInBounds_toArray, List.set_cons_zero, List.set_cons_succ]
      refine wpAnyH_take (i := 14) (oi := { dst := some 101, op := Op.fieldAddr 45 (Operand.tmp 100) 1, type := 0, pos := "law.go:84", after := #[{ on := 13, ground := Ground.data }, { on := 7, ground := Ground.guard }], guard := some (7, false) }) (v := ?v14_11) rfl (by kernel_rfl) (by kernel_rfl) (by kernel_rfl) (fun _ _ _ h => h) (Or.inl ⟨by rfl, ?hy14_11⟩) hS ?rest14_11
      case hy14_11 =>
        intro w hSw
        (try dsimp only at hSw)
        go_simp
        try with_reducible rfl
      try simp only [Act.put, List.setIfInBounds_toArray, List.set_cons_zero, List.set_cons_succ]
      refine wpAnyH_take (i := 15) (oi := { dst := some 102, op := Op.load 3 (Operand.tmp 101), type := 3, pos := "law.go:84", after := #[{ on := 14, ground := Ground.data }, { on := 7, ground := Ground.guard }], guard := some (7, false) }) (v := ?v15_12) rfl (by kernel_rfl) (by kernel_rfl) (by kernel_rfl) (fun _ _ _ h => h) (Or.inl ⟨by rfl, ?hy15_12⟩) hS ?rest15_12
      case hy15_12 =>
        intro w hSw
        (try dsimp only at hSw)
        go_simp
        try with_reducible rfl
      try simp only [Act.put, List.setIfInBounds_toArray, List.set_cons_zero, List.set_cons_succ]
      refine wpAnyH_take (i := 16) (oi := { dst := some 103, op := Op.move (Operand.tmp 23), type := 3, pos := "law.go:84", after := #[{ on := 7, ground := Ground.guard }], guard := some (7, false) }) (v := ?v16_13) rfl (by kernel_rfl) (by kernel_rfl) (by kernel_rfl) (fun _ _ _ h => h) (Or.inl ⟨by rfl, ?hy16_13⟩) hS ?rest16_13
      case hy16_13 =>
        intro w hSw
        (try dsimp only at hSw)
        go_simp
        try with_reducible rfl
      try simp only [Act.put, List.setIfInBounds_toArray, List.set_cons_zero, List.set_cons_succ]
      refine wpAnyH_take (i := 17) (oi := { dst := some 104, op := Op.binOp BinOp.sub 3 (Operand.tmp 102) (Operand.tmp 103) 3, type := 3, pos := "law.go:84", after := #[{ on := 15, ground := Ground.data }, { on := 16, ground := Ground.data }, { on := 7, ground := Ground.guard }], guard := some (7, false) }) (v := ?v17_14) rfl (by kernel_rfl) (by kernel_rfl) (by kernel_rfl) (fun _ _ _ h => h) (Or.inl ⟨by rfl, ?hy17_14⟩) hS ?rest17_14
      case hy17_14 =>
        intro w hSw
        (try dsimp only at hSw)
        go_simp
        try with_reducible rfl
      try simp only [Act.put, List.setIfInBounds_toArray, List.set_cons_zero, List.set_cons_succ]
      refine wpAnyH_ready (rs := [9]) (by kernel_rfl) (by simp) ?_
      refine AllReadyH.cons (o := { dst := some 96, op := Op.call { callee := Callee.value (Operand.func 19), args := #[Operand.tmp 95], argTypes := #[39] }, type := 3, pos := "law.go:84", after := #[{ on := 8, ground := Ground.data }, { on := 7, ground := Ground.chain }, { on := 7, ground := Ground.guard }], guard := some (7, false) }) rfl (fun K hK => ?_) AllReadyH.nil
      go_simp
      refine (touched_any g gw N _ _ HM2.out).mono ?_
      rintro e v3 ⟨rfl, rfl⟩
      refine hK.out _ _ x2_0 (fun hS => ?_)
      clear hK K
      skip
      refine wpAnyH_take (i := 11) (oi := { dst := some 98, op := Op.binOp BinOp.sub 3 (Operand.tmp 96) (Operand.tmp 97) 3, type := 3, pos := "law.go:84", after := #[{ on := 9, ground := Ground.data }, { on := 10, ground := Ground.data }, { on := 7, ground := Ground.guard }], guard := some (7, false) }) (v := ?v11_15) rfl (by kernel_rfl) (by kernel_rfl) (by kernel_rfl) (fun _ _ _ h => h) (Or.inl ⟨by rfl, ?hy11_15⟩) hS ?rest11_15
      case hy11_15 =>
        intro w hSw
        (try dsimp only at hSw)
        go_simp
        try with_reducible rfl
      try simp only [Act.put, List.setIfInBounds_toArray, List.set_cons_zero, List.set_cons_succ]
      refine wpAnyH_take (i := 18) (oi := { dst := some 105, op := Op.binOp BinOp.neq 3 (Operand.tmp 98) (Operand.tmp 104) 3, type := 4, pos := "law.go:84", after := #[{ on := 11, ground := Ground.data }, { on := 17, ground := Ground.data }, { on := 7, ground := Ground.guard }], guard := some (7, false) }) (v := ?v18_16) rfl (by kernel_rfl) (by kernel_rfl) (by kernel_rfl) (fun _ _ _ h => h) (Or.inl ⟨by rfl, ?hy18_16⟩) hS ?rest18_16
      case hy18_16 =>
        intro w hSw
        (try dsimp only at hSw)
        go_simp
        try with_reducible rfl
      try simp only [Act.put, List.setIfInBounds_toArray, List.set_cons_zero, List.set_cons_succ]
      refine wpAnyH_take (i := 19) (oi := { dst := some 106, op := Op.pick (Operand.tmp 94) (Operand.const (Value.bool true)) (Operand.tmp 105), type := 4, pos := "law.go:84", after := #[{ on := 7, ground := Ground.data }, { on := 18, ground := Ground.data }], guard := none }) (v := ?v19_17) rfl (by kernel_rfl) (by kernel_rfl) (by kernel_rfl) (fun _ _ _ h => h) (Or.inl ⟨by rfl, ?hy19_17⟩) hS ?rest19_17
      case hy19_17 =>
        intro w hSw
        (try dsimp only at hSw)
        go_simp
        try with_reducible rfl
      try simp only [Act.put, List.setIfInBounds_toArray, List.set_cons_zero, List.set_cons_succ]
      refine wpAnyH_done (by kernel_rfl) ?_ _
      go_wp2_with fail
      refine (found_any f c n fr y _ HF2.out.row).mono ?_
      rintro e v4 ⟨rfl, j, rfl⟩
      have hbj : Below v2.heap.size v2 (v2.drewN j) := bdrew (Below.refl _ _) j
      have HM4 := Lib.hid (HM2.out.drewN j)
      have HMr4 := Lib.hid (HMr2.out.drewN j)
      have HF4 := Lib.hid (HF2.out.on hbj)
      have HR4 := Lib.hid (HR2.out.on hbj)
      have HT4 : Hid (Tab (v2.drewN j)) := Lib.hid HT2.out
      have hB4 := bdrew hB2 j
      obtain ⟨v4, ev⟩ : ∃ v4, v4 = v2.drewN j := ⟨_, rfl⟩
      rw [← ev] at HM4 HMr4 HF4 HR4 HT4 hB4 ⊢
      clear hbj ev HM2 HMr2 HF2 HR2 HT2 hB2
      obtain ⟨tx, htx⟩ := byte_some (l := ts) (k := i) (by rw [Htn.out]; exact hlt)
      have rtx := Htr.out tx (List.mem_of_getElem? htx)
      obtain ⟨b, off, eT, hb1, d0⟩ := (HTS.out.below hB4) i tx htx
      rw [eT]
      clear htx
      obtain ⟨py, wy, by'⟩ := y
      have e7 := HR4.out.row.cell 7 rfl
      have e8 := HR4.out.row.cell 8 rfl
      have e9 := HR4.out.row.cell 9 rfl
      simp only at e7 e8 e9
      have z0 : 0 ≤ tx % 3 ∧ tx % 3 ≤ 2 := by omega
      cases by' with
      | false =>
        rw [show foundV ⟨py, wy, false⟩ = .tuple #[.int .i64 0, .int .i64 0, .bool false] from rfl]
        by_cases h1 : tx % 3 = 1
        · go_wp2_with fail
          refine (again_any f q c n fr k o ⟨py, wy, false⟩ _ HF4.out).mono ?_
          rintro e v5 ⟨rfl, hff, hs⟩
          have HF5 := Lib.hid hff
          have HM5 := Lib.hid (HM4.out.spx hs (by simp <;> omega) (by simp <;> omega))
          have HMr5 := Lib.hid (HMr4.out.spx hs (by simp <;> omega) (by simp <;> omega))
          have HR5 := Lib.hid (HR4.out.spx hs (by simp <;> omega))
          have HT5 := Lib.hid (HT4.out.spx hs (by simp <;> omega))
          have hB5 := hs.below hB4 hB4.size (by simp <;> omega)
          clear hff hs HM4 HMr4 HF4 HR4 HT4 hB4 e7 e8 e9 d0
          go_wp2_with fail
          refine (refAgain_any h c k o ⟨py, wy, false⟩ _ HR5.out).mono ?_
          rintro e v6 ⟨rfl, hff, hs⟩
          have HR6 := Lib.hid hff
          have HM6 := Lib.hid (HM5.out.spx hs (by simp <;> omega) (by simp <;> omega))
          have HMr6 := Lib.hid (HMr5.out.spx hs (by simp <;> omega) (by simp <;> omega))
          have HF6 := Lib.hid (HF5.out.spx hs (by simp <;> omega) (by simp <;> omega))
          have HT6 := Lib.hid (HT5.out.spx hs (by simp <;> omega))
          have hB6 := hs.below hB5 hB5.size (by simp <;> omega)
          clear hff hs HM5 HMr5 HF5 HR5 HT5 hB5
          go_wp2_with fail
          rw [← eT]
          go_roundw
          case rel => exact ⟨i + 1, T2, ⟨ws, T1⟩, againF ⟨py, wy, false⟩, by omega, by go_num, HM6, HF6, HMr6, HR6, Hlen.out, HI1, hT1, hT2, Lib.hid (again_ok HX2.out), HT6, Lib.hid hB6⟩
          case measure => simp [intOf]; omega
        · have h1b : ((tx % 3) == 1) = false := by simpa using h1
          by_cases h2 : tx % 3 = 2
          · go_wp2_with fail
            refine (go_any f q c n fr k o ⟨py, wy, false⟩ _ HF4.out (fun hh => ⟨HX2.out.1, by have := HX2.out.2 hh; omega⟩)).mono ?_
            rintro e v5 ⟨rfl, hff, hs⟩
            have HF5 := Lib.hid hff
            have HM5 := Lib.hid (HM4.out.spx hs (by simp <;> omega) (by simp <;> omega))
            have HMr5 := Lib.hid (HMr4.out.spx hs (by simp <;> omega) (by simp <;> omega))
            have HR5 := Lib.hid (HR4.out.spx hs (by simp <;> omega))
            have HT5 := Lib.hid (HT4.out.spx hs (by simp <;> omega))
            have hB5 := hs.below hB4 hB4.size (by simp <;> omega)
            clear hff hs HM4 HMr4 HF4 HR4 HT4 hB4 e7 e8 e9 d0
            go_wp2_with fail
            refine (refGo_any h c k o ⟨py, wy, false⟩ _ HR5.out (fun hh => ⟨HX2.out.1, by have := HX2.out.2 hh; omega⟩)).mono ?_
            rintro e v6 ⟨rfl, hff, hs⟩
            have HR6 := Lib.hid hff
            have HM6 := Lib.hid (HM5.out.spx hs (by simp <;> omega) (by simp <;> omega))
            have HMr6 := Lib.hid (HMr5.out.spx hs (by simp <;> omega) (by simp <;> omega))
            have HF6 := Lib.hid (HF5.out.spx hs (by simp <;> omega) (by simp <;> omega))
            have HT6 := Lib.hid (HT5.out.spx hs (by simp <;> omega))
            have hB6 := hs.below hB5 hB5.size (by simp <;> omega)
            clear hff hs HM5 HMr5 HF5 HR5 HT5 hB5
            go_wp2_with fail
            rw [← eT]
            go_roundw
            case rel => exact ⟨i + 1, T2, ⟨ws, T1⟩, goF ⟨py, wy, false⟩, by omega, by go_num, HM6, HF6, HMr6, HR6, Hlen.out, HI1, hT1, hT2, Lib.hid (go_ok HX2.out), HT6, Lib.hid hB6⟩
            case measure => simp [intOf]; omega
          · have h2b : ((tx % 3) == 2) = false := by simpa using h2
            go_wp2_with fail
            rw [← eT]
            go_roundw
            case rel => exact ⟨i + 1, T2, ⟨ws, T1⟩, ⟨py, wy, false⟩, by omega, by go_num, HM4, HF4, HMr4, HR4, Hlen.out, HI1, hT1, hT2, HX2, HT4, Lib.hid hB4⟩
            case measure => simp [intOf]; omega
      | true =>
        rw [show foundV ⟨py, wy, true⟩ = .tuple #[.int .i64 py, .int .i64 wy, .bool true] from rfl]
        by_cases h1 : tx % 3 = 1
        · go_wp2_with fail
          refine (again_any f q c n fr k o ⟨py, wy, true⟩ _ HF4.out).mono ?_
          rintro e v5 ⟨rfl, hff, hs⟩
          have HF5 := Lib.hid hff
          have HM5 := Lib.hid (HM4.out.spx hs (by simp <;> omega) (by simp <;> omega))
          have HMr5 := Lib.hid (HMr4.out.spx hs (by simp <;> omega) (by simp <;> omega))
          have HR5 := Lib.hid (HR4.out.spx hs (by simp <;> omega))
          have HT5 := Lib.hid (HT4.out.spx hs (by simp <;> omega))
          have hB5 := hs.below hB4 hB4.size (by simp <;> omega)
          clear hff hs HM4 HMr4 HF4 HR4 HT4 hB4 e7 e8 e9 d0
          go_wp2_with fail
          refine (refAgain_any h c k o ⟨py, wy, true⟩ _ HR5.out).mono ?_
          rintro e v6 ⟨rfl, hff, hs⟩
          have HR6 := Lib.hid hff
          have HM6 := Lib.hid (HM5.out.spx hs (by simp <;> omega) (by simp <;> omega))
          have HMr6 := Lib.hid (HMr5.out.spx hs (by simp <;> omega) (by simp <;> omega))
          have HF6 := Lib.hid (HF5.out.spx hs (by simp <;> omega) (by simp <;> omega))
          have HT6 := Lib.hid (HT5.out.spx hs (by simp <;> omega))
          have hB6 := hs.below hB5 hB5.size (by simp <;> omega)
          clear hff hs HM5 HMr5 HF5 HR5 HT5 hB5
          go_wp2_with fail
          rw [← eT]
          go_roundw
          case rel => exact ⟨i + 1, T2, ⟨ws, T1⟩, againF ⟨py, wy, true⟩, by omega, by go_num, HM6, HF6, HMr6, HR6, Hlen.out, HI1, hT1, hT2, Lib.hid (again_ok HX2.out), HT6, Lib.hid hB6⟩
          case measure => simp [intOf]; omega
        · have h1b : ((tx % 3) == 1) = false := by simpa using h1
          by_cases h2 : tx % 3 = 2
          · go_wp2_with fail
            refine (go_any f q c n fr k o ⟨py, wy, true⟩ _ HF4.out (fun hh => ⟨HX2.out.1, by have := HX2.out.2 hh; omega⟩)).mono ?_
            rintro e v5 ⟨rfl, hff, hs⟩
            have HF5 := Lib.hid hff
            have HM5 := Lib.hid (HM4.out.spx hs (by simp <;> omega) (by simp <;> omega))
            have HMr5 := Lib.hid (HMr4.out.spx hs (by simp <;> omega) (by simp <;> omega))
            have HR5 := Lib.hid (HR4.out.spx hs (by simp <;> omega))
            have HT5 := Lib.hid (HT4.out.spx hs (by simp <;> omega))
            have hB5 := hs.below hB4 hB4.size (by simp <;> omega)
            clear hff hs HM4 HMr4 HF4 HR4 HT4 hB4 e7 e8 e9 d0
            go_wp2_with fail
            refine (refGo_any h c k o ⟨py, wy, true⟩ _ HR5.out (fun hh => ⟨HX2.out.1, by have := HX2.out.2 hh; omega⟩)).mono ?_
            rintro e v6 ⟨rfl, hff, hs⟩
            have HR6 := Lib.hid hff
            have HM6 := Lib.hid (HM5.out.spx hs (by simp <;> omega) (by simp <;> omega))
            have HMr6 := Lib.hid (HMr5.out.spx hs (by simp <;> omega) (by simp <;> omega))
            have HF6 := Lib.hid (HF5.out.spx hs (by simp <;> omega) (by simp <;> omega))
            have HT6 := Lib.hid (HT5.out.spx hs (by simp <;> omega))
            have hB6 := hs.below hB5 hB5.size (by simp <;> omega)
            clear hff hs HM5 HMr5 HF5 HR5 HT5 hB5
            go_wp2_with fail
            rw [← eT]
            go_roundw
            case rel => exact ⟨i + 1, T2, ⟨ws, T1⟩, goF ⟨py, wy, true⟩, by omega, by go_num, HM6, HF6, HMr6, HR6, Hlen.out, HI1, hT1, hT2, Lib.hid (go_ok HX2.out), HT6, Lib.hid hB6⟩
            case measure => simp [intOf]; omega
          · have h2b : ((tx % 3) == 2) = false := by simpa using h2
            go_wp2_with fail
            rw [← eT]
            go_roundw
            case rel => exact ⟨i + 1, T2, ⟨ws, T1⟩, ⟨py, wy, true⟩, by omega, by go_num, HM4, HF4, HMr4, HR4, Hlen.out, HI1, hT1, hT2, HX2, HT4, Lib.hid hB4⟩
            case measure => simp [intOf]; omega
    · obtain rfl : i = tn := by omega
      go_wp2_with fail
      have HMr0 := Lib.hid HMr.out.drew
      have HM0 := Lib.hid HM.out.drew
      have hB0 := hbb.out.drew
      clear HM HFi HMr HR HTi hbb
      have x0_0 : wr.drew.cell? ⟨rg, 0, none⟩ = some (.slice (some ⟨rgw, 0, none⟩) N c5) := by have := HMr0.out.c0; rwa [hlen] at this
      refine wp_region_held_drew (S := (fun w' => w'.cell? ⟨rg, 0, none⟩ = some (.slice (some ⟨rgw, 0, none⟩) N c5))) (by kernel_rfl) x0_0 (fun hS => ?_)
      generalize wr.drew = u0 at *
      refine wpAnyH_take (i := 0) (oi := { dst := some 167, op := Op.move (Operand.tmp 13), type := 4, pos := "law.go:100", after := #[], guard := none }) (v := ?v0_18) rfl (by kernel_rfl) (by kernel_rfl) (by kernel_rfl) (fun _ _ _ h => h) (Or.inl ⟨by rfl, ?hy0_18⟩) hS ?rest0_18
      case hy0_18 =>
        intro w hSw
        (try dsimp only at hSw)
        go_simp
        try with_reducible rfl
      try simp only [Act.put, List.setIfInBounds_toArray, List.set_cons_zero, List.set_cons_succ]
      refine wpAnyH_take (i := 1) (oi := { dst := some 168, op := Op.move (Operand.tmp 167), type := 4, pos := "law.go:100", after := #[{ on := 0, ground := Ground.data }], guard := none }) (v := ?v1_19) rfl (by kernel_rfl) (by kernel_rfl) (by kernel_rfl) (fun _ _ _ h => h) (Or.inl ⟨by rfl, ?hy1_19⟩) hS ?rest1_19
      case hy1_19 =>
        intro w hSw
        (try dsimp only at hSw)
        go_simp
        try with_reducible rfl
      try simp only [Act.put, List.setIfInBounds_toArray, List.set_cons_zero, List.set_cons_succ]
      refine wpAnyH_take (i := 2) (oi := { dst := some 169, op := Op.move (Operand.tmp 17), type := 39, pos := "law.go:100", after := #[{ on := 1, ground := Ground.guard }], guard := some (1, true) }) (v := ?v2_20) rfl (by kernel_rfl) (by kernel_rfl) (by kernel_rfl) (fun _ _ _ h => h) (Or.inl ⟨by rfl, ?hy2_20⟩) hS ?rest2_20
      case hy2_20 =>
        intro w hSw
        (try dsimp only at hSw)
        go_simp
        try with_reducible rfl
      try simp only [Act.put, List.setIfInBounds_toArray, List.set_cons_zero, List.set_cons_succ]
      refine wpAnyH_take (i := 4) (oi := { dst := some 171, op := Op.move (Operand.tmp 19), type := 43, pos := "law.go:100", after := #[{ on := 1, ground := Ground.guard }], guard := some (1, true) }) (v := ?v4_21) rfl (by kernel_rfl) (by kernel_rfl) (by kernel_rfl) (fun _ _ _ h => h) (Or.inl ⟨by rfl, ?hy4_21⟩) hS ?rest4_21
      case hy4_21 =>
        intro w hSw
        (try dsimp only at hSw)
        go_simp
        try with_reducible rfl
      try simp only [Act.put, List.setIfInBounds_toArray, List.set_cons_zero, List.set_cons_succ]
      refine wpAnyH_take (i := 5) (oi := { dst := some 172, op := Op.nilCheck (Operand.tmp 171), type := 0, pos := "law.go:100", after := #[{ on := 4, ground := Ground.data }, { on := 1, ground := Ground.guard }], guard := some (1, true) }) (v := ?v5_22) rfl (by kernel_rfl) (by kernel_rfl) (by kernel_rfl) (fun _ _ _ h => h) (Or.inl ⟨by rfl, ?hy5_22⟩) hS ?rest5_22
      case hy5_22 =>
        intro w hSw
        (try dsimp only at hSw)
        go_simp
        try with_reducible rfl
      try simp only [Act.put, List.setIfInBounds_toArray, List.set_cons_zero, List.set_cons_succ]
      refine wpAnyH_take (i := 6) (oi := { dst := some 173, op := Op.fieldAddr 45 (Operand.tmp 172) 0, type := 0, pos := "law.go:100", after := #[{ on := 5, ground := Ground.data }, { on := 1, ground := Ground.guard }], guard := some (1, true) }) (v := ?v6_23) rfl (by kernel_rfl) (by kernel_rfl) (by kernel_rfl) (fun _ _ _ h => h) (Or.inl ⟨by rfl, ?hy6_23⟩) hS ?rest6_23
      case hy6_23 =>
        intro w hSw
        (try dsimp only at hSw)
        go_simp
        try with_reducible rfl
      try simp only [Act.put, List.setIfInBounds_toArray, List.set_cons_zero, List.set_cons_succ]
      refine wpAnyH_take (i := 7) (oi := { dst := some 174, op := Op.load 36 (Operand.tmp 173), type := 36, pos := "law.go:100", after := #[{ on := 6, ground := Ground.data }, { on := 1, ground := Ground.guard }], guard := some (1, true) }) (v := ?v7_24) rfl (by kernel_rfl) (by kernel_rfl) (by kernel_rfl) (fun _ _ _ h => h) (Or.inl ⟨by rfl, ?hy7_24⟩) hS ?rest7_24
      case hy7_24 =>
        intro w hSw
        (try dsimp only at hSw)
        go_simp
        try with_reducible rfl
      try simp only [Act.put, List.setIfInBounds_toArray, List.set_cons_zero, List.set_cons_succ]
      refine wpAnyH_ready (rs := [3]) (by kernel_rfl) (by simp) ?_
      refine AllReadyH.cons (o := { dst := some 170, op := Op.call { callee := Callee.value (Operand.func 28), args := #[Operand.tmp 169], argTypes := #[39] }, type := 36, pos := "law.go:100", after := #[{ on := 2, ground := Ground.data }, { on := 1, ground := Ground.chain }, { on := 1, ground := Ground.guard }], guard := some (1, true) }) rfl (fun K hK => ?_) AllReadyH.nil
      go_simp
      refine (wordsS_any g gw N s _ HM0.out (by rw [hlen]; omega) (by rw [hlen]; omega)).mono ?_
      rintro e v1 ⟨b, cb, rfl, _, _, hib, hb⟩
      rw [hlen]
      have HMr1 := Lib.hid (HMr0.out.on hb)
      have hB1 := hB0.trans (hb.mono hB0.size)
      have x1_0 : v1.cell? ⟨rg, 0, none⟩ = some (.slice (some ⟨rgw, 0, none⟩) N c5) := by have := HMr1.out.c0; rwa [hlen] at this
      clear hb
      refine hK.out _ _ x1_0 (fun hS => ?_)
      clear hK K
      try simp only [Act.put, List.setIfInBounds_toArray, List.set_cons_zero, List.set_cons_succ]
      refine wpAnyH_ready (rs := [8]) (by kernel_rfl) (by simp) ?_
      refine AllReadyH.cons (o := { dst := some 175, op := Op.call { callee := Callee.value (Operand.func 27), args := #[Operand.tmp 170, Operand.tmp 174], argTypes := #[36, 36] }, type := 4, pos := "law.go:100", after := #[{ on := 3, ground := Ground.data }, { on := 7, ground := Ground.data }, { on := 3, ground := Ground.chain }, { on := 1, ground := Ground.guard }], guard := some (1, true) }) rfl (fun K hK => ?_) AllReadyH.nil
      go_simp
      refine (ints_same _ _ _ _ N s.ws _ hlen hib.is HMr1.out.is (by omega)).mono ?_
      rintro e v2 ⟨rfl, hb⟩
      have hB2 := hB1.trans (hb.mono hB1.size)
      have x2_0 : v2.cell? ⟨rg, 0, none⟩ = some (.slice (some ⟨rgw, 0, none⟩) N c5) := by have := (HMr1.out.on hb).c0; rwa [hlen] at this
      refine hK.out _ _ x2_0 (fun hS => ?_)
      clear hK K
      try simp only [Act.put, List.setIfInBounds_toArray, List.set_cons_zero, List.set_cons_succ]
      refine wpAnyH_take (i := 9) (oi := { dst := some 176, op := Op.pick (Operand.tmp 168) (Operand.tmp 175) (Operand.const (Value.bool false)), type := 4, pos := "law.go:100", after := #[{ on := 1, ground := Ground.data }, { on := 8, ground := Ground.data }], guard := none }) (v := ?v9_25) rfl (by kernel_rfl) (by kernel_rfl) (by kernel_rfl) (fun _ _ _ h => h) (Or.inl ⟨by rfl, ?hy9_25⟩) hS ?rest9_25
      case hy9_25 =>
        intro w hSw
        (try dsimp only at hSw)
        go_simp
        try with_reducible rfl
      try simp only [Act.put, List.setIfInBounds_toArray, List.set_cons_zero, List.set_cons_succ]
      refine wpAnyH_take (i := 10) (oi := { dst := some 12, op := Op.assign (Operand.tmp 176), type := 4, pos := "law.go:100", after := #[{ on := 9, ground := Ground.data }, { on := 8, ground := Ground.chain }, { on := 0, ground := Ground.phase }, { on := 1, ground := Ground.phase }, { on := 2, ground := Ground.phase }, { on := 3, ground := Ground.phase }, { on := 4, ground := Ground.phase }, { on := 5, ground := Ground.phase }, { on := 6, ground := Ground.phase }, { on := 7, ground := Ground.phase }, { on := 8, ground := Ground.phase }, { on := 9, ground := Ground.phase }], guard := none }) (v := ?v10_26) rfl (by kernel_rfl) (by kernel_rfl) (by kernel_rfl) (fun _ _ _ h => h) (Or.inl ⟨by rfl, ?hy10_26⟩) hS ?rest10_26
      case hy10_26 =>
        intro w hSw
        (try dsimp only at hSw)
        go_simp
        try with_reducible rfl
      try simp only [Act.put, List.setIfInBounds_toArray, List.set_cons_zero, List.set_cons_succ]
      refine wpAnyH_done (by kernel_rfl) ?_ _
      go_wp2
      go_ret
      exact ⟨rfl, hB2⟩
end Go.Proofs.YtbkcniknbpgphaaDoor
