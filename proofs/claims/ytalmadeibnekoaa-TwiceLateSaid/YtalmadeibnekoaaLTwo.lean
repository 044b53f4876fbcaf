/- Two that look at once; no condition. -/
import Derived.Test.YtalmadeibnekoaaPrel
import Derived.Test.YtalmadeibnekoaaRTw
namespace Go.Proofs.Ytalmadeibnekoaa
open Go.RowKit
attribute [local go_sem ↓] Go.wp_at_zero Go.wp_at_succ

/-- a list of bools that was there -/
def OS (w : World) (M : Nat) (A : Option Addr) (l : List Bool) : Prop := ∀ (k : Nat) x, l[k]? = some x → ∃ b off, A = some ⟨b, off, none⟩ ∧ b < M ∧ w.cell? ⟨b, off + k, none⟩ = some (.bool x)
theorem OS.below {w w' : World} {N : Nat} {A : Option Addr} {xs : List Bool} (h : OS w N A xs) (hb : Below N w w') : OS w' N A xs := by
  intro k x hk
  obtain ⟨b, off, e, h1, h2⟩ := h k x hk
  exact ⟨b, off, e, h1, (hb.cell (p := ⟨b, off + k, none⟩) h1).trans h2⟩
theorem bool_some {l : List Bool} {k : Nat} (h : k < l.length) : ∃ x, l[k]? = some x := ⟨l[k], by simp⟩
set_option maxRecDepth 100000 in
set_option maxHeartbeats 2000000 in
theorem ltwo_any (a1 a2 a3 a4 a5 : Int) (S P1 P2 : Option Addr) (sn sc pn1 pc1 pn2 pc2 : Nat) (sl : List Sl) (p1 p2 : List Int) (T : Option Addr) (tn tc : Nat) (ts : List Bool) (w : World) (h1 : 0 ≤ a1 ∧ a1 ≤ 255) (h2 : 0 ≤ a2 ∧ a2 ≤ 255) (h3 : 0 ≤ a3 ∧ a3 ≤ 255) (h4 : 0 ≤ a4 ∧ a4 ≤ 255) (h5 : 0 ≤ a5 ∧ a5 ≤ 255) (hG : GivenAt w S P1 P2 sn pn1 pn2 sl p1 p2) (hTS : OS w w.heap.size T ts) (htn : ts.length = tn) :
    Calls Try.prog 7 #[Value.agg #[Value.int .u8 a1, Value.int .u8 a2, Value.int .u8 a3, Value.int .u8 a4, Value.int .u8 a5, .slice S sn sc, .slice P1 pn1 pc1, .slice P2 pn2 pc2], .slice T tn tc] w fun e w' => e = .returned (.bool true) ∧ Below w.heap.size w w' := by
  have HTS := Lib.hid hTS
  have Htn := Lib.hid htn
  clear hTS htn
  have hB := bnew w (.cells #[Value.int .u8 a1, Value.int .u8 a2, Value.int .u8 a3, Value.int .u8 a4, Value.int .u8 a5, .slice S sn sc, .slice P1 pn1 pc1, .slice P2 pn2 pc2] 27)
  have r0 := RowAt.new w 27 #[Value.int .u8 a1, Value.int .u8 a2, Value.int .u8 a3, Value.int .u8 a4, Value.int .u8 a5, .slice S sn sc, .slice P1 pn1 pc1, .slice P2 pn2 pc2]
  have HG := Lib.hid (hG.on hB)
  clear hG
  go_enter Try.func7, Try.ntmps7
  go_wp2_with fail
  refine (awake_any _).mono ?_
  rintro e w1 ⟨rfl, hb⟩
  replace r0 := r0.below hb r0.lt
  replace hB := hB.trans (hb.mono hB.size)
  have HG1 := Lib.hid (HG.out.on hb)
  clear hb HG
  by_cases hn40 : tn ≤ 40
  case neg =>
    have h41 : (40 : Int) < (tn : Int) := by omega
    go_wp2_with fail
    go_ret
    exact ⟨rfl, hB⟩
  have h41 : ¬ (40 : Int) < (tn : Int) := by omega
  go_wp2_with (refine wpList_load_row rfl 27 _ rfl _ rfl 27 _ (0, 0) _ r0 Try.underlying27 rfl (by kernel_rfl) ?_)
  refine (made_any a1 a2 a3 a4 a5 S P1 P2 sn sc pn1 pc1 pn2 pc2 sl p1 p2 _ h1 h2 h3 h4 h5 HG1.out).mono ?_
  rintro e w2 ⟨c, gW, cW, xs, hf, rfl, hcW, hL, hgd, hib, hgW, hb⟩
  have hB2 := hB.trans (hb.mono hB.size)
  have HW2 := Lib.hid (hib.on (bnew w2 (.cells #[Value.int .i64 c.wo, Value.int .i64 c.sl, Value.int .i64 c.st, Value.int .i64 c.wa, Value.int .i64 c.us] 31)))
  have hW0 : w.heap.size ≤ gW := by have := hB.size; omega
  have hW1 := hib.1
  have rc2 := RowAt.new w2 31 #[Value.int .i64 c.wo, Value.int .i64 c.sl, Value.int .i64 c.st, Value.int .i64 c.wa, Value.int .i64 c.us]
  have hB3 := hB2.trans ((bnew w2 (.cells #[Value.int .i64 c.wo, Value.int .i64 c.sl, Value.int .i64 c.st, Value.int .i64 c.wa, Value.int .i64 c.us] 31)).mono hB2.size)
  have hBs := hB2.size
  have Hc := Lib.hid hf.rc
  have q1 := hf.wo
  have q2 := hf.sl
  have HGd := Lib.hid hgd
  have n9 := (cellsN_eq hf.rc).2
  obtain ⟨N, hN⟩ : ∃ N, N = cellsN c := ⟨_, rfl⟩
  rw [← hN] at hL n9 hcW ⊢
  have HN := Lib.hid hN
  have HL := Lib.hid hL
  clear hb hib hgd r0 hB hB2 HG1 hf hN hL
  go_wp2_with (refine wpList_load_row rfl 31 _ rfl _ rfl 31 _ (0, 0) _ rc2 Try.underlying31 rfl (by kernel_rfl) ?_)
  obtain ⟨Bc, eB⟩ : ∃ Bc, Bc = w2.heap.size := ⟨_, rfl⟩
  rw [← eB] at rc2 hW1 hBs ⊢
  obtain ⟨W2, eW⟩ : ∃ W2, W2 = w2.alloc (.cells #[Value.int .i64 c.wo, Value.int .i64 c.sl, Value.int .i64 c.st, Value.int .i64 c.wa, Value.int .i64 c.us] 31) := ⟨_, rfl⟩
  rw [← eW] at rc2 HW2 hB3 ⊢
  clear eB eW
  refine (laid_any c (some ⟨gW, 0, none⟩) N cW W2.heap.size xs _ Hc.out HL.out HN.out HW2.out.is (Nat.le_refl _)).mono ?_
  rintro e w3 ⟨g, gw, rfl, hg, hgw, hM, hb⟩
  have l1 := rc2.lt
  have rc3 := rc2.below hb rc2.lt
  have HW3 := Lib.hid (HW2.out.on hb)
  have hB4 := hB3.trans (hb.mono hB3.size)
  have l2 := hM.lg
  have l3 := hM.lw
  have HM3 := Lib.hid hM
  clear hb HW2 hB3 rc2 hM
  go_wp2_with (refine wpList_load_row rfl 31 _ rfl _ rfl 31 _ (0, 0) _ rc3 Try.underlying31 rfl (by kernel_rfl) ?_)
  refine (tw_new c _).mono ?_
  rintro e w4 ⟨f, rfl, hT, hf, hb⟩
  have rc4 := rc3.below hb rc3.lt
  have HW4 := Lib.hid (HW3.out.on hb)
  have HM4 := Lib.hid (HM3.out.on hb)
  have HT4 := Lib.hid hT
  have hB5 := hB4.trans (hb.mono hB4.size)
  have o1 : w.heap.size ≤ gW ∧ gW < Bc := ⟨hW0, hW1⟩
  have o2 : Bc < g ∧ Bc < gw ∧ g < f ∧ gw < f := by omega
  have o3 : g ≠ gw := HM4.out.ne
  clear hb HW3 HM3 hT hB4 rc3 hW0 hW1 hg hgw l1 l2 l3 hf hgW hBs
  obtain ⟨F, hF⟩ : ∃ F : Nat, (3 + c.wo + c.wo).toNat = F := ⟨_, rfl⟩
  have HF := Lib.hid hF
  obtain ⟨P, hP⟩ : ∃ P : Nat, c.sl = P := ⟨c.sl.toNat, by omega⟩
  have HP := Lib.hid hP
  have hFP : F + P = N := by have := (cellsN_eq Hc.out).1; rw [← HN.out] at this; unfold cellsI at this; omega
  have hp9 : 1 ≤ P ∧ P ≤ 5 := by omega
  clear hF hP
  go_wp2_with (refine wpList_load_row rfl 31 _ rfl _ rfl 31 _ (0, 0) _ rc4 Try.underlying31 rfl (by kernel_rfl) ?_)
  refine (tw_new c _).mono ?_
  rintro e w5 ⟨f2, rfl, hT, hf2, hb⟩
  have rc5 := rc4.below hb rc4.lt
  have HW5 := Lib.hid (HW4.out.on hb)
  have HM5 := Lib.hid (HM4.out.on hb)
  have HA5 := Lib.hid (HT4.out.on hb)
  have HT5 := Lib.hid hT
  have hB6 := hB5.trans (hb.mono hB5.size)
  have o4 : f < f2 := by have := HT4.out.lt; omega
  clear hb hT hB5 rc4 HW4 HM4 HT4 hf2
  obtain ⟨W, hW⟩ : ∃ W, W = xs.drop F := ⟨_, rfl⟩
  have hWl : W.length = P := by rw [hW, List.length_drop, HL.out]; omega
  have HW := Lib.hid hW.symm
  have HWl := Lib.hid hWl
  have hWl1 : 1 ≤ W.length := by omega
  have hWl2 : W.length ≤ 4096 := by omega
  have HxF := Lib.hid (show xs.length = F + P by rw [HL.out, hFP])
  have HAa : Hid (TwAt w5 f f f c (aloneT P W 0)) := Lib.hid (by rw [alone_zero (by omega)]; exact HA5.out)
  have HTa : Hid (TwAt w5 f2 f2 f2 c (aloneT P W 0)) := Lib.hid (by rw [alone_zero (by omega)]; exact HT5.out)
  have hm2 : IntKind.i64.wrap (2 * c.sl) = 2 * c.sl := IntWalk.i64_in _ (by omega)
  clear hW hWl HA5 HT5
  go_wp2_with fail
  go_loopw [11] (fun j wr => ∃ (i ka kb t sa aa sb ab : Nat), i ≤ tn ∧ j = .int .i64 i ∧ Hid (MemAt wr g gw N ⟨xs, t⟩) ∧ t ≤ 1000 + 2 * i ∧ Hid (TwAt wr f sa aa c (aloneT P W ka)) ∧ Hid (TwAt wr f2 sb ab c (aloneT P W kb)) ∧ f ≤ sa ∧ f ≤ aa ∧ f2 ≤ sb ∧ f2 ≤ ab ∧ (sa ≠ f2 ∧ sa ≠ sb ∧ sa ≠ ab ∧ aa ≠ f2 ∧ aa ≠ sb ∧ aa ≠ ab) ∧ Hid (IB wr gW xs) ∧ RowAt wr Bc 31 #[Value.int .i64 c.wo, Value.int .i64 c.sl, Value.int .i64 c.st, Value.int .i64 c.wa, Value.int .i64 c.us] ∧ Hid (Below w.heap.size w wr)) (fun j _ => tn - (intOf j).toNat)
  case atStart => exact ⟨0, 0, 0, N, f, f, f2, f2, by omega, rfl, HM5, by omega, HAa, HTa, Nat.le_refl _, Nat.le_refl _, Nat.le_refl _, Nat.le_refl _, by omega, HW5, rc5, Lib.hid hB6⟩
  case round =>
    obtain ⟨i, ka, kb, t, sa, aa, sb, ab, hi, rfl, HM, ht, HA, HT, z1, z2, z3, z4, zd, HX, hrc, hbb⟩ := hrel
    clear HM5 HAa HTa HW5 rc5 hB6
    have la := HA.out.lt
    have lb := HT.out.lt
    have hsz : w.heap.size ≤ wr.heap.size := hbb.out.size
    by_cases hlt : i < tn
    · obtain ⟨tb, htb⟩ := bool_some (l := ts) (k := i) (by rw [Htn.out]; exact hlt)
      obtain ⟨bt, off, eT, hbt, d0⟩ := (HTS.out.below hbb.out) i tb htb
      subst eT
      clear htb
      cases tb with
      | true =>
        go_wp2_with fail
        refine (astep_any f sa aa g gw N c P F W xs t ka _ Hc.out HP.out HF.out HW.out HxF.out HA.out HM.out (by omega) (by omega) (by omega) (by omega) (by omega) (by omega) (by omega)).mono ?_
        rintro e u1 ⟨sa2, aa2, rfl, hT, hm, hs, hsa2, haa2⟩
        have HT1 := Lib.hid (HT.out.spx hs (by simp <;> omega) (by simp <;> omega) (by simp <;> omega))
        have HX1 := Lib.hid (HX.out.spx hs (by simp <;> omega))
        have rb1 := hrc.spx hs (by simp <;> omega)
        have HB1 := Lib.hid (hs.below hbb.out hsz (by simp <;> omega))
        have HA1 := Lib.hid hT
        have hs1 := hs.size
        obtain ⟨t1, et1⟩ : ∃ t1, t1 = t + if 2 * P ≤ ka then 0 else 1 := ⟨_, rfl⟩
        rw [← et1] at hm
        have ht1 : t1 ≤ t + 1 := by rw [et1]; split <;> omega
        have HM1 := Lib.hid hm
        clear hm hs hT et1
        go_wp2_with fail
        go_roundw
        case rel => exact ⟨i + 1, ka + 1, kb, t1, sa2, aa2, sb, ab, by omega, by go_num, HM1, by omega, HA1, HT1, by omega, by omega, z3, z4, by omega, HX1, rb1, HB1⟩
        case measure => simp [intOf]; omega
      | false =>
        go_wp2_with fail
        refine (astep_any f2 sb ab g gw N c P F W xs t kb _ Hc.out HP.out HF.out HW.out HxF.out HT.out HM.out (by omega) (by omega) (by omega) (by omega) (by omega) (by omega) (by omega)).mono ?_
        rintro e u2 ⟨sb2, ab2, rfl, hT, hm, hs, hsb2, hab2⟩
        have HA2 := Lib.hid (HA.out.spx hs (by simp <;> omega) (by simp <;> omega) (by simp <;> omega))
        have HX2 := Lib.hid (HX.out.spx hs (by simp <;> omega))
        have rb2 := hrc.spx hs (by simp <;> omega)
        have HB2 := Lib.hid (hs.below hbb.out hsz (by simp <;> omega))
        have HT2 := Lib.hid hT
        obtain ⟨t2, et2⟩ : ∃ t2, t2 = t + if 2 * P ≤ kb then 0 else 1 := ⟨_, rfl⟩
        rw [← et2] at hm
        have ht2 : t2 ≤ t + 1 := by rw [et2]; split <;> omega
        have HM2 := Lib.hid hm
        clear hm hs hT et2
        go_wp2_with fail
        go_roundw
        case rel => exact ⟨i + 1, ka, kb + 1, t2, sa, aa, sb2, ab2, by omega, by go_num, HM2, by omega, HA2, HT2, z1, z2, by omega, by omega, by omega, HX2, rb2, HB2⟩
        case measure => simp [intOf]; omega
    · obtain rfl : i = tn := by omega
      have b1 := hrc.cell 1 rfl
      go_wp2_with fail
      go_loopw [12] (fun j wr => ∃ (i ka kb t sa aa sb ab : Nat), (i ≤ 2 * P ∧ i ≤ ka ∧ i ≤ kb) ∧ j = .int .i64 i ∧ Hid (MemAt wr g gw N ⟨xs, t⟩) ∧ t ≤ 1000 + 2 * i + 100 ∧ Hid (TwAt wr f sa aa c (aloneT P W ka)) ∧ Hid (TwAt wr f2 sb ab c (aloneT P W kb)) ∧ f ≤ sa ∧ f ≤ aa ∧ f2 ≤ sb ∧ f2 ≤ ab ∧ (sa ≠ f2 ∧ sa ≠ sb ∧ sa ≠ ab ∧ aa ≠ f2 ∧ aa ≠ sb ∧ aa ≠ ab) ∧ Hid (IB wr gW xs) ∧ RowAt wr Bc 31 #[Value.int .i64 c.wo, Value.int .i64 c.sl, Value.int .i64 c.st, Value.int .i64 c.wa, Value.int .i64 c.us] ∧ Hid (Below w.heap.size w wr)) (fun j _ => 2 * P - (intOf j).toNat)
      case atStart => exact ⟨0, ka, kb, t, sa, aa, sb, ab, by omega, rfl, HM, by omega, HA, HT, z1, z2, z3, z4, zd, HX, hrc, hbb⟩
      case round =>
        clear HM ht HA HT z1 z2 z3 z4 zd HX hrc hbb la lb hsz b1 hi hlt
        obtain ⟨i2, ka, kb, t, sa, aa, sb, ab, hi, rfl, HM, ht, HA, HT, z1, z2, z3, z4, zd, HX, hrc, hbb⟩ := hrel
        have la := HA.out.lt
        have lb := HT.out.lt
        have hsz : w.heap.size ≤ wr.heap.size := hbb.out.size
        have hpc := HP.out
        have b1 := hrc.cell 1 rfl
        by_cases hlt : i2 < 2 * P
        · have hli : (i2 : Int) < 2 * c.sl := by omega
          clear hpc
          go_wp2_with fail
          refine (astep_any f sa aa g gw N c P F W xs t ka _ Hc.out HP.out HF.out HW.out HxF.out HA.out HM.out (by omega) (by omega) (by omega) (by omega) (by omega) (by omega) (by omega)).mono ?_
          rintro e u1 ⟨sa2, aa2, rfl, hT, hm, hs, hsa2, haa2⟩
          have HT1 := Lib.hid (HT.out.spx hs (by simp <;> omega) (by simp <;> omega) (by simp <;> omega))
          have HX1 := Lib.hid (HX.out.spx hs (by simp <;> omega))
          have rb1 := hrc.spx hs (by simp <;> omega)
          have HB1 := Lib.hid (hs.below hbb.out hsz (by simp <;> omega))
          have HA1 := Lib.hid hT
          have hs1 := hs.size
          obtain ⟨t1, et1⟩ : ∃ t1, t1 = t + if 2 * P ≤ ka then 0 else 1 := ⟨_, rfl⟩
          rw [← et1] at hm
          have ht1 : t1 ≤ t + 1 := by rw [et1]; split <;> omega
          have HM1 := Lib.hid hm
          clear hm hs hT et1
          have la2 := HA1.out.lt
          clear b1
          go_wp2_with fail
          refine (astep_any f2 sb ab g gw N c P F W xs t1 kb _ Hc.out HP.out HF.out HW.out HxF.out HT1.out HM1.out (by omega) (by omega) (by omega) (by omega) (by omega) (by omega) (by omega)).mono ?_
          rintro e u2 ⟨sb2, ab2, rfl, hT, hm, hs, hsb2, hab2⟩
          have HA2 := Lib.hid (HA1.out.spx hs (by simp <;> omega) (by simp <;> omega) (by simp <;> omega))
          have HX2 := Lib.hid (HX1.out.spx hs (by simp <;> omega))
          have rb2 := rb1.spx hs (by simp <;> omega)
          have HB2 := Lib.hid (hs.below HB1.out (by omega) (by simp <;> omega))
          have HT2 := Lib.hid hT
          obtain ⟨t2, et2⟩ : ∃ t2, t2 = t1 + if 2 * P ≤ kb then 0 else 1 := ⟨_, rfl⟩
          rw [← et2] at hm
          have ht2 : t2 ≤ t1 + 1 := by rw [et2]; split <;> omega
          have HM2 := Lib.hid hm
          clear hm hs hT et2
          go_wp2_with fail
          go_roundw
          case rel => exact ⟨i2 + 1, ka + 1, kb + 1, t2, sa2, aa2, sb2, ab2, by omega, by go_num, HM2, by omega, HA2, HT2, by omega, by omega, by omega, by omega, by omega, HX2, rb2, HB2⟩
          case measure => simp [intOf]; omega
        · have hk2 : 2 * P ≤ ka ∧ 2 * P ≤ kb := by omega
          obtain rfl : i2 = 2 * P := by omega
          have hli : ¬ ((2 * P : Nat) : Int) < 2 * c.sl := by omega
          have hps : ((P : Int) == c.sl) = true := by simp; omega
          have e3 := alone3 (n := P) (W := W) hk2.1 (by omega)
          have e4 := alone3 (n := P) (W := W) hk2.2 (by omega)
          rw [e3] at HA
          rw [e4] at HT
          clear e3 e4 hpc hk2
          go_wp2_with fail
          have rb0 : RowAt wr.drew Bc 31 #[Value.int .i64 c.wo, Value.int .i64 c.sl, Value.int .i64 c.st, Value.int .i64 c.wa, Value.int .i64 c.us] := hrc
          have HA0 := Lib.hid HA.out.drew
          have HT0 := Lib.hid HT.out.drew
          have HM0 := Lib.hid HM.out.drew
          have HX0 : Hid (IB wr.drew gW xs) := Lib.hid HX.out
          have hB0 := hbb.out.drew
          clear HM HT HA HX hrc hbb b1 la lb
          have cb0_0 : wr.drew.cell? ⟨Bc, 0, none⟩ = some (Value.int .i64 c.wo) := rb0.cell 0 rfl
          have cb0_1 : wr.drew.cell? ⟨Bc, 1, none⟩ = some (Value.int .i64 c.sl) := rb0.cell 1 rfl
          have cb0_2 : wr.drew.cell? ⟨Bc, 2, none⟩ = some (Value.int .i64 c.st) := rb0.cell 2 rfl
          have cb0_3 : wr.drew.cell? ⟨Bc, 3, none⟩ = some (Value.int .i64 c.wa) := rb0.cell 3 rfl
          have cb0_4 : wr.drew.cell? ⟨Bc, 4, none⟩ = some (Value.int .i64 c.us) := rb0.cell 4 rfl
          refine wp_region_held_drew (S := (fun w' => w'.cell? ⟨Bc, 0, none⟩ = some (Value.int .i64 c.wo) ∧ w'.cell? ⟨Bc, 1, none⟩ = some (Value.int .i64 c.sl) ∧ w'.cell? ⟨Bc, 2, none⟩ = some (Value.int .i64 c.st) ∧ w'.cell? ⟨Bc, 3, none⟩ = some (Value.int .i64 c.wa) ∧ w'.cell? ⟨Bc, 4, none⟩ = some (Value.int .i64 c.us))) (by kernel_rfl) ⟨cb0_0, cb0_1, cb0_2, cb0_3, cb0_4⟩ (fun hS => ?_)
          generalize wr.drew = u0 at *
          refine wpAnyH_take (i := 0) (oi := { dst := some 69, op := Op.move (Operand.tmp 5), type := 4, pos := "law.go:193", after := #[], guard := none }) (v := ?v0_43) rfl (by kernel_rfl) (by kernel_rfl) (by kernel_rfl) (fun _ _ _ h => h) (Or.inl ⟨by rfl, ?hy0_43⟩) hS ?rest0_43
          case hy0_43 =>
            intro w hSw
            (try dsimp only at hSw)
            go_simp
            try with_reducible rfl
          try simp only [Act.put, List.setIfInBounds_toArray, List.set_cons_zero, List.set_cons_succ]
          refine wpAnyH_take (i := 1) (oi := { dst := some 70, op := Op.move (Operand.tmp 69), type := 4, pos := "law.go:193", after := #[{ on := 0, ground := Ground.data }], guard := none }) (v := ?v1_44) rfl (by kernel_rfl) (by kernel_rfl) (by kernel_rfl) (fun _ _ _ h => h) (Or.inl ⟨by rfl, ?hy1_44⟩) hS ?rest1_44
          case hy1_44 =>
            intro w hSw
            (try dsimp only at hSw)
            go_simp
            try with_reducible rfl
          try simp only [Act.put, List.setIfInBounds_toArray, List.set_cons_zero, List.set_cons_succ]
          refine wpAnyH_take (i := 2) (oi := { dst := some 71, op := Op.move (Operand.tmp 9), type := 37, pos := "law.go:193", after := #[{ on := 1, ground := Ground.guard }], guard := some (1, true) }) (v := ?v2_45) rfl (by kernel_rfl) (by kernel_rfl) (by kernel_rfl) (fun _ _ _ h => h) (Or.inl ⟨by rfl, ?hy2_45⟩) hS ?rest2_45
          case hy2_45 =>
            intro w hSw
            (try dsimp only at hSw)
            go_simp
            try with_reducible rfl
          try simp only [Act.put, List.setIfInBounds_toArray, List.set_cons_zero, List.set_cons_succ]
          refine wpAnyH_ready (rs := [3]) (by kernel_rfl) (by simp) ?_
          refine AllReadyH.cons (o := { dst := some 72, op := Op.call { callee := Callee.value (Operand.func 17), args := #[Operand.tmp 71], argTypes := #[37] }, type := 3, pos := "law.go:193", after := #[{ on := 2, ground := Ground.data }, { on := 1, ground := Ground.chain }, { on := 1, ground := Ground.guard }], guard := some (1, true) }) rfl (fun K hK => ?_) AllReadyH.nil
          go_simp
          refine (rounds_any f sa aa c _ _ HA0.out).mono ?_
          rintro e v1 ⟨rfl, rfl⟩
          refine hK.out _ _ ⟨cb0_0, cb0_1, cb0_2, cb0_3, cb0_4⟩ (fun hS => ?_)
          clear hK K
          skip
          refine wpAnyH_take (i := 4) (oi := { dst := some 73, op := Op.binOp BinOp.eql 3 (Operand.tmp 72) (Operand.const (Value.int IntKind.i64 2)) 3, type := 4, pos := "law.go:193", after := #[{ on := 3, ground := Ground.data }, { on := 1, ground := Ground.guard }], guard := some (1, true) }) (v := ?v4_46) rfl (by kernel_rfl) (by kernel_rfl) (by kernel_rfl) (fun _ _ _ h => h) (Or.inl ⟨by rfl, ?hy4_46⟩) hS ?rest4_46
          case hy4_46 =>
            intro w hSw
            (try dsimp only at hSw)
            go_simp
            try with_reducible rfl
          try simp only [Act.put, List.setIfInBounds_toArray, List.set_cons_zero, List.set_cons_succ]
          refine wpAnyH_take (i := 5) (oi := { dst := some 74, op := Op.pick (Operand.tmp 70) (Operand.tmp 73) (Operand.const (Value.bool false)), type := 4, pos := "law.go:193", after := #[{ on := 1, ground := Ground.data }, { on := 4, ground := Ground.data }], guard := none }) (v := ?v5_47) rfl (by kernel_rfl) (by kernel_rfl) (by kernel_rfl) (fun _ _ _ h => h) (Or.inl ⟨by rfl, ?hy5_47⟩) hS ?rest5_47
          case hy5_47 =>
            intro w hSw
            (try dsimp only at hSw)
            go_simp
            try with_reducible rfl
          try simp only [Act.put, List.setIfInBounds_toArray, List.set_cons_zero, List.set_cons_succ]
          refine wpAnyH_take (i := 6) (oi := { dst := some 75, op := Op.move (Operand.tmp 74), type := 4, pos := "law.go:193", after := #[{ on := 5, ground := Ground.data }, { on := 3, ground := Ground.chain }], guard := none }) (v := ?v6_48) rfl (by kernel_rfl) (by kernel_rfl) (by kernel_rfl) (fun _ _ _ h => h) (Or.inl ⟨by rfl, ?hy6_48⟩) hS ?rest6_48
          case hy6_48 =>
            intro w hSw
            (try dsimp only at hSw)
            go_simp
            try with_reducible rfl
          try simp only [Act.put, List.setIfInBounds_toArray, List.set_cons_zero, List.set_cons_succ]
          refine wpAnyH_take (i := 7) (oi := { dst := some 76, op := Op.move (Operand.tmp 10), type := 37, pos := "law.go:193", after := #[{ on := 6, ground := Ground.guard }], guard := some (6, true) }) (v := ?v7_49) rfl (by kernel_rfl) (by kernel_rfl) (by kernel_rfl) (fun _ _ _ h => h) (Or.inl ⟨by rfl, ?hy7_49⟩) hS ?rest7_49
          case hy7_49 =>
            intro w hSw
            (try dsimp only at hSw)
            go_simp
            try with_reducible rfl
          try simp only [Act.put, List.setIfInBounds_toArray, List.set_cons_zero, List.set_cons_succ]
          refine wpAnyH_ready (rs := [8]) (by kernel_rfl) (by simp) ?_
          refine AllReadyH.cons (o := { dst := some 77, op := Op.call { callee := Callee.value (Operand.func 17), args := #[Operand.tmp 76], argTypes := #[37] }, type := 3, pos := "law.go:193", after := #[{ on := 7, ground := Ground.data }, { on := 6, ground := Ground.chain }, { on := 6, ground := Ground.guard }], guard := some (6, true) }) rfl (fun K hK => ?_) AllReadyH.nil
          go_simp
          refine (rounds_any f2 sb ab c _ _ HT0.out).mono ?_
          rintro e v2 ⟨rfl, rfl⟩
          refine hK.out _ _ ⟨cb0_0, cb0_1, cb0_2, cb0_3, cb0_4⟩ (fun hS => ?_)
          clear hK K
          skip
          refine wpAnyH_take (i := 9) (oi := { dst := some 78, op := Op.binOp BinOp.eql 3 (Operand.tmp 77) (Operand.const (Value.int IntKind.i64 2)) 3, type := 4, pos := "law.go:193", after := #[{ on := 8, ground := Ground.data }, { on := 6, ground := Ground.guard }], guard := some (6, true) }) (v := ?v9_50) rfl (by kernel_rfl) (by kernel_rfl) (by kernel_rfl) (fun _ _ _ h => h) (Or.inl ⟨by rfl, ?hy9_50⟩) hS ?rest9_50
          case hy9_50 =>
            intro w hSw
            (try dsimp only at hSw)
            go_simp
            try with_reducible rfl
          try simp only [Act.put, List.setIfInBounds_toArray, List.set_cons_zero, List.set_cons_succ]
          refine wpAnyH_take (i := 10) (oi := { dst := some 79, op := Op.pick (Operand.tmp 75) (Operand.tmp 78) (Operand.const (Value.bool false)), type := 4, pos := "law.go:193", after := #[{ on := 6, ground := Ground.data }, { on := 9, ground := Ground.data }], guard := none }) (v := ?v10_51) rfl (by kernel_rfl) (by kernel_rfl) (by kernel_rfl) (fun _ _ _ h => h) (Or.inl ⟨by rfl, ?hy10_51⟩) hS ?rest10_51
          case hy10_51 =>
            intro w hSw
            (try dsimp only at hSw)
            go_simp
            try with_reducible rfl
          try simp only [Act.put, List.setIfInBounds_toArray, List.set_cons_zero, List.set_cons_succ]
          refine wpAnyH_take (i := 11) (oi := { dst := some 80, op := Op.move (Operand.tmp 79), type := 4, pos := "law.go:193", after := #[{ on := 10, ground := Ground.data }, { on := 8, ground := Ground.chain }], guard := none }) (v := ?v11_52) rfl (by kernel_rfl) (by kernel_rfl) (by kernel_rfl) (fun _ _ _ h => h) (Or.inl ⟨by rfl, ?hy11_52⟩) hS ?rest11_52
          case hy11_52 =>
            intro w hSw
            (try dsimp only at hSw)
            go_simp
            try with_reducible rfl
          try simp only [Act.put, List.setIfInBounds_toArray, List.set_cons_zero, List.set_cons_succ]
          refine wpAnyH_take (i := 12) (oi := { dst := some 81, op := Op.move (Operand.tmp 9), type := 37, pos := "law.go:193", after := #[{ on := 11, ground := Ground.guard }], guard := some (11, true) }) (v := ?v12_53) rfl (by kernel_rfl) (by kernel_rfl) (by kernel_rfl) (fun _ _ _ h => h) (Or.inl ⟨by rfl, ?hy12_53⟩) hS ?rest12_53
          case hy12_53 =>
            intro w hSw
            (try dsimp only at hSw)
            go_simp
            try with_reducible rfl
          try simp only [Act.put, List.setIfInBounds_toArray, List.set_cons_zero, List.set_cons_succ]
          refine wpAnyH_take (i := 14) (oi := { dst := some 83, op := Op.move (Operand.tmp 10), type := 37, pos := "law.go:193", after := #[{ on := 11, ground := Ground.guard }], guard := some (11, true) }) (v := ?v14_54) rfl (by kernel_rfl) (by kernel_rfl) (by kernel_rfl) (fun _ _ _ h => h) (Or.inl ⟨by rfl, ?hy14_54⟩) hS ?rest14_54
          case hy14_54 =>
            intro w hSw
            (try dsimp only at hSw)
            go_simp
            try with_reducible rfl
          try simp only [Act.put, List.setIfInBounds_toArray, List.set_cons_zero, List.set_cons_succ]
          refine wpAnyH_ready (rs := [13]) (by kernel_rfl) (by simp) ?_
          refine AllReadyH.cons (o := { dst := some 82, op := Op.call { callee := Callee.value (Operand.func 20), args := #[Operand.tmp 81], argTypes := #[37] }, type := 32, pos := "law.go:193", after := #[{ on := 12, ground := Ground.data }, { on := 11, ground := Ground.chain }, { on := 11, ground := Ground.guard }], guard := some (11, true) }) rfl (fun K hK => ?_) AllReadyH.nil
          go_simp
          refine (words_yes f sa aa c _ _ HA0.out rfl hWl1 hWl2).mono ?_
          rintro e v3 ⟨bq1, rfl, hr, _, hb⟩
          rw [HWl.out]
          have rb3 := rb0.below hb rb0.lt
          have HA3 := Lib.hid (HA0.out.on hb)
          have HT3 := Lib.hid (HT0.out.on hb)
          have HM3 := Lib.hid (HM0.out.on hb)
          have HX3 := Lib.hid (HX0.out.on hb)
          have hB3 := hB0.trans (hb.mono hB0.size)
          have cb3_0 : v3.cell? ⟨Bc, 0, none⟩ = some (Value.int .i64 c.wo) := rb3.cell 0 rfl
          have cb3_1 : v3.cell? ⟨Bc, 1, none⟩ = some (Value.int .i64 c.sl) := rb3.cell 1 rfl
          have cb3_2 : v3.cell? ⟨Bc, 2, none⟩ = some (Value.int .i64 c.st) := rb3.cell 2 rfl
          have cb3_3 : v3.cell? ⟨Bc, 3, none⟩ = some (Value.int .i64 c.wa) := rb3.cell 3 rfl
          have cb3_4 : v3.cell? ⟨Bc, 4, none⟩ = some (Value.int .i64 c.us) := rb3.cell 4 rfl
          clear hb
          have Hq1 := Lib.hid hr
          refine hK.out _ _ ⟨cb3_0, cb3_1, cb3_2, cb3_3, cb3_4⟩ (fun hS => ?_)
          clear hK K
          try simp only [Act.put, List.setIfInBounds_toArray, List.set_cons_zero, List.set_cons_succ]
          refine wpAnyH_ready (rs := [15]) (by kernel_rfl) (by simp) ?_
          refine AllReadyH.cons (o := { dst := some 84, op := Op.call { callee := Callee.value (Operand.func 20), args := #[Operand.tmp 83], argTypes := #[37] }, type := 32, pos := "law.go:193", after := #[{ on := 14, ground := Ground.data }, { on := 13, ground := Ground.chain }, { on := 11, ground := Ground.guard }], guard := some (11, true) }) rfl (fun K hK => ?_) AllReadyH.nil
          go_simp
          refine (words_yes f2 sb ab c _ _ HT3.out rfl hWl1 hWl2).mono ?_
          rintro e v4 ⟨bq2, rfl, hr, _, hb⟩
          rw [HWl.out]
          have Hq1 := Lib.hid (Hq1.out.below hb Hq1.out.lt)
          have rb4 := rb3.below hb rb3.lt
          have HA4 := Lib.hid (HA3.out.on hb)
          have HT4 := Lib.hid (HT3.out.on hb)
          have HM4 := Lib.hid (HM3.out.on hb)
          have HX4 := Lib.hid (HX3.out.on hb)
          have hB4 := hB3.trans (hb.mono hB3.size)
          have cb4_0 : v4.cell? ⟨Bc, 0, none⟩ = some (Value.int .i64 c.wo) := rb4.cell 0 rfl
          have cb4_1 : v4.cell? ⟨Bc, 1, none⟩ = some (Value.int .i64 c.sl) := rb4.cell 1 rfl
          have cb4_2 : v4.cell? ⟨Bc, 2, none⟩ = some (Value.int .i64 c.st) := rb4.cell 2 rfl
          have cb4_3 : v4.cell? ⟨Bc, 3, none⟩ = some (Value.int .i64 c.wa) := rb4.cell 3 rfl
          have cb4_4 : v4.cell? ⟨Bc, 4, none⟩ = some (Value.int .i64 c.us) := rb4.cell 4 rfl
          clear hb
          have Hq2 := Lib.hid hr
          refine hK.out _ _ ⟨cb4_0, cb4_1, cb4_2, cb4_3, cb4_4⟩ (fun hS => ?_)
          clear hK K
          try simp only [Act.put, List.setIfInBounds_toArray, List.set_cons_zero, List.set_cons_succ]
          refine wpAnyH_ready (rs := [16]) (by kernel_rfl) (by simp) ?_
          refine AllReadyH.cons (o := { dst := some 85, op := Op.call { callee := Callee.value (Operand.func 19), args := #[Operand.tmp 82, Operand.tmp 84], argTypes := #[32, 32] }, type := 4, pos := "law.go:193", after := #[{ on := 13, ground := Ground.data }, { on := 15, ground := Ground.data }, { on := 15, ground := Ground.chain }, { on := 11, ground := Ground.guard }], guard := some (11, true) }) rfl (fun K hK => ?_) AllReadyH.nil
          go_simp
          refine (ints_same _ _ _ _ P W _ HWl.out (copy_is Hq1.out (by rw [HWl.out]; omega)) (copy_is Hq2.out (by rw [HWl.out]; omega)) (by omega)).mono ?_
          rintro e v5 ⟨rfl, hb⟩
          have rb5 := rb4.below hb rb4.lt
          have HA5 := Lib.hid (HA4.out.on hb)
          have HT5 := Lib.hid (HT4.out.on hb)
          have HM5 := Lib.hid (HM4.out.on hb)
          have HX5 := Lib.hid (HX4.out.on hb)
          have hB5 := hB4.trans (hb.mono hB4.size)
          have cb5_0 : v5.cell? ⟨Bc, 0, none⟩ = some (Value.int .i64 c.wo) := rb5.cell 0 rfl
          have cb5_1 : v5.cell? ⟨Bc, 1, none⟩ = some (Value.int .i64 c.sl) := rb5.cell 1 rfl
          have cb5_2 : v5.cell? ⟨Bc, 2, none⟩ = some (Value.int .i64 c.st) := rb5.cell 2 rfl
          have cb5_3 : v5.cell? ⟨Bc, 3, none⟩ = some (Value.int .i64 c.wa) := rb5.cell 3 rfl
          have cb5_4 : v5.cell? ⟨Bc, 4, none⟩ = some (Value.int .i64 c.us) := rb5.cell 4 rfl
          clear hb
          refine hK.out _ _ ⟨cb5_0, cb5_1, cb5_2, cb5_3, cb5_4⟩ (fun hS => ?_)
          clear hK K
          try simp only [Act.put, List.setIfInBounds_toArray, List.set_cons_zero, List.set_cons_succ]
          refine wpAnyH_take (i := 17) (oi := { dst := some 86, op := Op.pick (Operand.tmp 80) (Operand.tmp 85) (Operand.const (Value.bool false)), type := 4, pos := "law.go:193", after := #[{ on := 11, ground := Ground.data }, { on := 16, ground := Ground.data }], guard := none }) (v := ?v17_55) rfl (by kernel_rfl) (by kernel_rfl) (by kernel_rfl) (fun _ _ _ h => h) (Or.inl ⟨by rfl, ?hy17_55⟩) hS ?rest17_55
          case hy17_55 =>
            intro w hSw
            (try dsimp only at hSw)
            go_simp
            try with_reducible rfl
          try simp only [Act.put, List.setIfInBounds_toArray, List.set_cons_zero, List.set_cons_succ]
          refine wpAnyH_take (i := 18) (oi := { dst := some 87, op := Op.move (Operand.tmp 86), type := 4, pos := "law.go:193", after := #[{ on := 17, ground := Ground.data }, { on := 16, ground := Ground.chain }], guard := none }) (v := ?v18_56) rfl (by kernel_rfl) (by kernel_rfl) (by kernel_rfl) (fun _ _ _ h => h) (Or.inl ⟨by rfl, ?hy18_56⟩) hS ?rest18_56
          case hy18_56 =>
            intro w hSw
            (try dsimp only at hSw)
            go_simp
            try with_reducible rfl
          try simp only [Act.put, List.setIfInBounds_toArray, List.set_cons_zero, List.set_cons_succ]
          refine wpAnyH_take (i := 19) (oi := { dst := some 88, op := Op.move (Operand.tmp 9), type := 37, pos := "law.go:193", after := #[{ on := 18, ground := Ground.guard }], guard := some (18, true) }) (v := ?v19_57) rfl (by kernel_rfl) (by kernel_rfl) (by kernel_rfl) (fun _ _ _ h => h) (Or.inl ⟨by rfl, ?hy19_57⟩) hS ?rest19_57
          case hy19_57 =>
            intro w hSw
            (try dsimp only at hSw)
            go_simp
            try with_reducible rfl
          try simp only [Act.put, List.setIfInBounds_toArray, List.set_cons_zero, List.set_cons_succ]
          refine wpAnyH_take (i := 22) (oi := { dst := some 91, op := Op.fieldAddr 31 (Operand.tmp 6) 1, type := 0, pos := "law.go:193", after := #[{ on := 18, ground := Ground.guard }], guard := some (18, true) }) (v := ?v22_58) rfl (by kernel_rfl) (by kernel_rfl) (by kernel_rfl) (fun _ _ _ h => h) (Or.inl ⟨by rfl, ?hy22_58⟩) hS ?rest22_58
          case hy22_58 =>
            intro w hSw
            (try dsimp only at hSw)
            go_simp
            try with_reducible rfl
          try simp only [Act.put, List.setIfInBounds_toArray, List.set_cons_zero, List.set_cons_succ]
          refine wpAnyH_take (i := 23) (oi := { dst := some 92, op := Op.load 3 (Operand.tmp 91), type := 3, pos := "law.go:193", after := #[{ on := 22, ground := Ground.data }, { on := 18, ground := Ground.guard }], guard := some (18, true) }) (v := ?v23_59) rfl (by kernel_rfl) (by kernel_rfl) (by kernel_rfl) (fun _ _ _ h => h) (Or.inl ⟨by rfl, ?hy23_59⟩) hS ?rest23_59
          case hy23_59 =>
            intro w hSw
            (try dsimp only at hSw)
            go_simp
            try with_reducible rfl
          try simp only [Act.put, List.setIfInBounds_toArray, List.set_cons_zero, List.set_cons_succ]
          refine wpAnyH_ready (rs := [20]) (by kernel_rfl) (by simp) ?_
          refine AllReadyH.cons (o := { dst := some 89, op := Op.call { callee := Callee.value (Operand.func 20), args := #[Operand.tmp 88], argTypes := #[37] }, type := 32, pos := "law.go:193", after := #[{ on := 19, ground := Ground.data }, { on := 18, ground := Ground.chain }, { on := 18, ground := Ground.guard }], guard := some (18, true) }) rfl (fun K hK => ?_) AllReadyH.nil
          go_simp
          refine (words_yes f sa aa c _ _ HA5.out rfl hWl1 hWl2).mono ?_
          rintro e v6 ⟨bq3, rfl, _, _, hb⟩
          rw [HWl.out]
          have rb6 := rb5.below hb rb5.lt
          have HA6 := Lib.hid (HA5.out.on hb)
          have HT6 := Lib.hid (HT5.out.on hb)
          have HM6 := Lib.hid (HM5.out.on hb)
          have HX6 := Lib.hid (HX5.out.on hb)
          have hB6 := hB5.trans (hb.mono hB5.size)
          have cb6_0 : v6.cell? ⟨Bc, 0, none⟩ = some (Value.int .i64 c.wo) := rb6.cell 0 rfl
          have cb6_1 : v6.cell? ⟨Bc, 1, none⟩ = some (Value.int .i64 c.sl) := rb6.cell 1 rfl
          have cb6_2 : v6.cell? ⟨Bc, 2, none⟩ = some (Value.int .i64 c.st) := rb6.cell 2 rfl
          have cb6_3 : v6.cell? ⟨Bc, 3, none⟩ = some (Value.int .i64 c.wa) := rb6.cell 3 rfl
          have cb6_4 : v6.cell? ⟨Bc, 4, none⟩ = some (Value.int .i64 c.us) := rb6.cell 4 rfl
          clear hb
          refine hK.out _ _ ⟨cb6_0, cb6_1, cb6_2, cb6_3, cb6_4⟩ (fun hS => ?_)
          clear hK K
          try simp only [Act.put, List.setIfInBounds_toArray, List.set_cons_zero, List.set_cons_succ]
          refine wpAnyH_take (i := 21) (oi := { dst := some 90, op := Op.call { callee := Callee.builtin Builtin.len, args := #[Operand.tmp 89], argTypes := #[32] }, type := 3, pos := "law.go:193", after := #[{ on := 20, ground := Ground.data }, { on := 18, ground := Ground.guard }], guard := some (18, true) }) (v := ?v21_60) rfl (by kernel_rfl) (by kernel_rfl) (by kernel_rfl) (fun _ _ _ h => h) (Or.inl ⟨by rfl, ?hy21_60⟩) hS ?rest21_60
          case hy21_60 =>
            intro w hSw
            (try dsimp only at hSw)
            go_simp
            try with_reducible rfl
          try simp only [Act.put, List.setIfInBounds_toArray, List.set_cons_zero, List.set_cons_succ]
          refine wpAnyH_take (i := 24) (oi := { dst := some 93, op := Op.binOp BinOp.eql 3 (Operand.tmp 90) (Operand.tmp 92) 3, type := 4, pos := "law.go:193", after := #[{ on := 21, ground := Ground.data }, { on := 23, ground := Ground.data }, { on := 18, ground := Ground.guard }], guard := some (18, true) }) (v := ?v24_61) rfl (by kernel_rfl) (by kernel_rfl) (by kernel_rfl) (fun _ _ _ h => h) (Or.inl ⟨by rfl, ?hy24_61⟩) hS ?rest24_61
          case hy24_61 =>
            intro w hSw
            (try dsimp only at hSw)
            go_simp
            try with_reducible rfl
          try simp only [Act.put, List.setIfInBounds_toArray, List.set_cons_zero, List.set_cons_succ]
          refine wpAnyH_take (i := 25) (oi := { dst := some 94, op := Op.pick (Operand.tmp 87) (Operand.tmp 93) (Operand.const (Value.bool false)), type := 4, pos := "law.go:193", after := #[{ on := 18, ground := Ground.data }, { on := 24, ground := Ground.data }], guard := none }) (v := ?v25_62) rfl (by kernel_rfl) (by kernel_rfl) (by kernel_rfl) (fun _ _ _ h => h) (Or.inl ⟨by rfl, ?hy25_62⟩) hS ?rest25_62
          case hy25_62 =>
            intro w hSw
            (try dsimp only at hSw)
            go_simp
            try with_reducible rfl
          try simp only [Act.put, List.setIfInBounds_toArray, List.set_cons_zero, List.set_cons_succ]
          refine wpAnyH_take (i := 26) (oi := { dst := some 95, op := Op.move (Operand.tmp 94), type := 4, pos := "law.go:193", after := #[{ on := 25, ground := Ground.data }, { on := 20, ground := Ground.chain }], guard := none }) (v := ?v26_63) rfl (by kernel_rfl) (by kernel_rfl) (by kernel_rfl) (fun _ _ _ h => h) (Or.inl ⟨by rfl, ?hy26_63⟩) hS ?rest26_63
          case hy26_63 =>
            intro w hSw
            (try dsimp only at hSw)
            go_simp
            try with_reducible rfl
          try simp only [Act.put, List.setIfInBounds_toArray, List.set_cons_zero, List.set_cons_succ]
          refine wpAnyH_take (i := 27) (oi := { dst := some 96, op := Op.move (Operand.tmp 8), type := 35, pos := "law.go:193", after := #[{ on := 26, ground := Ground.guard }], guard := some (26, true) }) (v := ?v27_64) rfl (by kernel_rfl) (by kernel_rfl) (by kernel_rfl) (fun _ _ _ h => h) (Or.inl ⟨by rfl, ?hy27_64⟩) hS ?rest27_64
          case hy27_64 =>
            intro w hSw
            (try dsimp only at hSw)
            go_simp
            try with_reducible rfl
          try simp only [Act.put, List.setIfInBounds_toArray, List.set_cons_zero, List.set_cons_succ]
          refine wpAnyH_take (i := 29) (oi := { dst := some 98, op := Op.move (Operand.tmp 7), type := 32, pos := "law.go:193", after := #[{ on := 26, ground := Ground.guard }], guard := some (26, true) }) (v := ?v29_65) rfl (by kernel_rfl) (by kernel_rfl) (by kernel_rfl) (fun _ _ _ h => h) (Or.inl ⟨by rfl, ?hy29_65⟩) hS ?rest29_65
          case hy29_65 =>
            intro w hSw
            (try dsimp only at hSw)
            go_simp
            try with_reducible rfl
          try simp only [Act.put, List.setIfInBounds_toArray, List.set_cons_zero, List.set_cons_succ]
          refine wpAnyH_ready (rs := [28]) (by kernel_rfl) (by simp) ?_
          refine AllReadyH.cons (o := { dst := some 97, op := Op.call { callee := Callee.value (Operand.func 22), args := #[Operand.tmp 96], argTypes := #[35] }, type := 32, pos := "law.go:193", after := #[{ on := 27, ground := Ground.data }, { on := 26, ground := Ground.chain }, { on := 26, ground := Ground.guard }], guard := some (26, true) }) rfl (fun K hK => ?_) AllReadyH.nil
          go_simp
          refine (wordsS_any g gw N _ _ HM6.out (by rw [HL.out]; omega) (by rw [HL.out]; omega)).mono ?_
          rintro e v7 ⟨bz, cz, rfl, _, _, hib, hb⟩
          rw [HL.out]
          have rb7 := rb6.below hb rb6.lt
          have HA7 := Lib.hid (HA6.out.on hb)
          have HT7 := Lib.hid (HT6.out.on hb)
          have HM7 := Lib.hid (HM6.out.on hb)
          have HX7 := Lib.hid (HX6.out.on hb)
          have hB7 := hB6.trans (hb.mono hB6.size)
          have cb7_0 : v7.cell? ⟨Bc, 0, none⟩ = some (Value.int .i64 c.wo) := rb7.cell 0 rfl
          have cb7_1 : v7.cell? ⟨Bc, 1, none⟩ = some (Value.int .i64 c.sl) := rb7.cell 1 rfl
          have cb7_2 : v7.cell? ⟨Bc, 2, none⟩ = some (Value.int .i64 c.st) := rb7.cell 2 rfl
          have cb7_3 : v7.cell? ⟨Bc, 3, none⟩ = some (Value.int .i64 c.wa) := rb7.cell 3 rfl
          have cb7_4 : v7.cell? ⟨Bc, 4, none⟩ = some (Value.int .i64 c.us) := rb7.cell 4 rfl
          clear hb
          have Hib := Lib.hid hib
          refine hK.out _ _ ⟨cb7_0, cb7_1, cb7_2, cb7_3, cb7_4⟩ (fun hS => ?_)
          clear hK K
          try simp only [Act.put, List.setIfInBounds_toArray, List.set_cons_zero, List.set_cons_succ]
          refine wpAnyH_ready (rs := [30]) (by kernel_rfl) (by simp) ?_
          refine AllReadyH.cons (o := { dst := some 99, op := Op.call { callee := Callee.value (Operand.func 19), args := #[Operand.tmp 97, Operand.tmp 98], argTypes := #[32, 32] }, type := 4, pos := "law.go:193", after := #[{ on := 28, ground := Ground.data }, { on := 29, ground := Ground.data }, { on := 28, ground := Ground.chain }, { on := 26, ground := Ground.guard }], guard := some (26, true) }) rfl (fun K hK => ?_) AllReadyH.nil
          go_simp
          refine (ints_same _ _ _ _ N xs _ HL.out Hib.out.is HX7.out.is (by omega)).mono ?_
          rintro e v8 ⟨rfl, hb⟩
          have rb8 := rb7.below hb rb7.lt
          have HA8 := Lib.hid (HA7.out.on hb)
          have HT8 := Lib.hid (HT7.out.on hb)
          have HM8 := Lib.hid (HM7.out.on hb)
          have HX8 := Lib.hid (HX7.out.on hb)
          have hB8 := hB7.trans (hb.mono hB7.size)
          have cb8_0 : v8.cell? ⟨Bc, 0, none⟩ = some (Value.int .i64 c.wo) := rb8.cell 0 rfl
          have cb8_1 : v8.cell? ⟨Bc, 1, none⟩ = some (Value.int .i64 c.sl) := rb8.cell 1 rfl
          have cb8_2 : v8.cell? ⟨Bc, 2, none⟩ = some (Value.int .i64 c.st) := rb8.cell 2 rfl
          have cb8_3 : v8.cell? ⟨Bc, 3, none⟩ = some (Value.int .i64 c.wa) := rb8.cell 3 rfl
          have cb8_4 : v8.cell? ⟨Bc, 4, none⟩ = some (Value.int .i64 c.us) := rb8.cell 4 rfl
          clear hb
          refine hK.out _ _ ⟨cb8_0, cb8_1, cb8_2, cb8_3, cb8_4⟩ (fun hS => ?_)
          clear hK K
          try simp only [Act.put, List.setIfInBounds_toArray, List.set_cons_zero, List.set_cons_succ]
          refine wpAnyH_take (i := 31) (oi := { dst := some 100, op := Op.pick (Operand.tmp 95) (Operand.tmp 99) (Operand.const (Value.bool false)), type := 4, pos := "law.go:193", after := #[{ on := 26, ground := Ground.data }, { on := 30, ground := Ground.data }], guard := none }) (v := ?v31_66) rfl (by kernel_rfl) (by kernel_rfl) (by kernel_rfl) (fun _ _ _ h => h) (Or.inl ⟨by rfl, ?hy31_66⟩) hS ?rest31_66
          case hy31_66 =>
            intro w hSw
            (try dsimp only at hSw)
            go_simp
            try with_reducible rfl
          try simp only [Act.put, List.setIfInBounds_toArray, List.set_cons_zero, List.set_cons_succ]
          refine wpAnyH_take (i := 32) (oi := { dst := some 4, op := Op.assign (Operand.tmp 100), type := 4, pos := "law.go:193", after := #[{ on := 31, ground := Ground.data }, { on := 30, ground := Ground.chain }, { on := 0, ground := Ground.phase }, { on := 1, ground := Ground.phase }, { on := 2, ground := Ground.phase }, { on := 3, ground := Ground.phase }, { on := 4, ground := Ground.phase }, { on := 5, ground := Ground.phase }, { on := 6, ground := Ground.phase }, { on := 7, ground := Ground.phase }, { on := 8, ground := Ground.phase }, { on := 9, ground := Ground.phase }, { on := 10, ground := Ground.phase }, { on := 11, ground := Ground.phase }, { on := 12, ground := Ground.phase }, { on := 13, ground := Ground.phase }, { on := 14, ground := Ground.phase }, { on := 15, ground := Ground.phase }, { on := 16, ground := Ground.phase }, { on := 17, ground := Ground.phase }, { on := 18, ground := Ground.phase }, { on := 19, ground := Ground.phase }, { on := 20, ground := Ground.phase }, { on := 21, ground := Ground.phase }, { on := 22, ground := Ground.phase }, { on := 23, ground := Ground.phase }, { on := 24, ground := Ground.phase }, { on := 25, ground := Ground.phase }, { on := 26, ground := Ground.phase }, { on := 27, ground := Ground.phase }, { on := 28, ground := Ground.phase }, { on := 29, ground := Ground.phase }, { on := 30, ground := Ground.phase }, { on := 31, ground := Ground.phase }], guard := none }) (v := ?v32_67) rfl (by kernel_rfl) (by kernel_rfl) (by kernel_rfl) (fun _ _ _ h => h) (Or.inl ⟨by rfl, ?hy32_67⟩) hS ?rest32_67
          case hy32_67 =>
            intro w hSw
            (try dsimp only at hSw)
            go_simp
            try with_reducible rfl
          try simp only [Act.put, List.setIfInBounds_toArray, List.set_cons_zero, List.set_cons_succ]
          refine wpAnyH_done (by kernel_rfl) ?_ _
          go_wp2
          go_ret
          exact ⟨rfl, hB8⟩
end Go.Proofs.Ytalmadeibnekoaa
