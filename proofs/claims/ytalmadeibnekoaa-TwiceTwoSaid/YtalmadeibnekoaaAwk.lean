/- A step where nobody else touches the memory; the chapter's example; no condition. -/
import Derived.Test.YtalmadeibnekoaaStep
import Derived.Test.YtalmadeibnekoaaLaid2
namespace Go.Proofs.Ytalmadeibnekoaa
open Go.RowKit
attribute [local go_sem ↓] Go.wp_at_zero Go.wp_at_succ

theorem alone_ok {n : Nat} {W : List Int} {k : Nat} (hW : W.length = n) (hn : 0 < n) : (aloneT n W k).Ok n := by
  by_cases h1 : k < n
  · rw [alone1 h1]
    exact ⟨by rw [List.length_take]; omega, .inl ⟨rfl, rfl⟩, fun h => by cases h⟩
  · by_cases h2 : k < 2 * n
    · rw [alone2 (by omega) h2]
      exact ⟨by rw [List.length_take]; omega, .inr ⟨by simp, hW⟩, fun h => by cases h⟩
    · rw [alone3 (by omega) hn]
      exact ⟨by simpa using hn, .inr ⟨by simp, hW⟩, fun _ => ⟨rfl, Nat.le_refl _⟩⟩
theorem alone_ro {n : Nat} {W : List Int} {k : Nat} : (aloneT n W k).ro ≤ 2 := by
  unfold aloneT
  split
  · simp
  · split <;> simp
theorem alone_tch {n : Nat} {W : List Int} {k : Nat} (hn : 0 < n) : tch (aloneT n W k) = if 2 * n ≤ k then 0 else 1 := by
  unfold tch
  rw [alone_dn hn]
  simp
/-- a step where nobody else touches the memory -/
def RetAl (f sb ab g gw c0 : Nat) (c : Cf) (n : Nat) (W ws : List Int) (t k : Nat) (w : World) (e : Ending) (w' : World) : Prop :=
  ∃ sb' ab', e = .returned (.bool (decide (2 * n ≤ k + 1))) ∧ TwAt w' f sb' ab' c (aloneT n W (k + 1)) ∧ MemAt w' g gw c0 ⟨ws, t + if 2 * n ≤ k then 0 else 1⟩ ∧ SpX [f, sb, g, gw] w w' ∧ (sb' = sb ∨ w.heap.size ≤ sb') ∧ (ab' = ab ∨ w.heap.size ≤ ab')
theorem astep_any (f sb ab g gw c0 : Nat) (c : Cf) (n F : Nat) (W ws : List Int) (t k : Nat) (w : World) (hc : Rc c) (hn : c.sl = n) (hF : (3 + c.wo + c.wo).toNat = F) (hW : ws.drop F = W) (hl : ws.length = F + n) (hT : TwAt w f sb ab c (aloneT n W k)) (hM : MemAt w g gw c0 ⟨ws, t⟩) (ht : t < 1000000)
    (hfg : f ≠ g) (hfw : f ≠ gw) (hsg : sb ≠ g) (hsw : sb ≠ gw) (hag : ab ≠ g) (haw : ab ≠ gw) :
    Calls Try.prog 15 #[.pointer (some ⟨f, 0, none⟩), .pointer (some ⟨g, 0, none⟩)] w (RetAl f sb ab g gw c0 c n W ws t k w) := by
  have q := hc.sl
  have hn0 : 0 < n := by omega
  have hWl : W.length = n := by rw [← hW, List.length_drop]; omega
  have hok := alone_ok (k := k) hWl hn0
  have hse := hok.se
  obtain ⟨v, hv⟩ := num_some (xs := ws) (k := F + (aloneT n W k).se.length) (by omega)
  have hv2 : W[(aloneT n W k).se.length]? = some v := by
    obtain ⟨j, ej⟩ : ∃ j, j = (aloneT n W k).se.length := ⟨_, rfl⟩
    rw [← ej] at hv ⊢
    rw [← hW, List.getElem?_drop]
    exact hv
  have hst := alone_step (k := k) hWl hn0 (fun _ => hv2)
  refine (step_any f sb ab g gw c0 c n F (aloneT n W k) ⟨ws, t⟩ v w hc hn hF hT hok hM hv ht (by have := @alone_ro n W k; omega) hfg hfw hsg hsw hag haw).mono ?_
  rintro e w' ⟨sb', ab', rfl, k1, k2, k3, k4, k5⟩
  rw [hst] at k1 ⊢
  rw [alone_tch hn0] at k2
  exact ⟨sb', ab', by rw [alone_dn hn0], k1, k2, k3, k4, k5⟩
set_option maxRecDepth 100000 in
set_option maxHeartbeats 2000000 in
theorem laid_nil (c : Cf) (w : World) (hc : Rc c) :
    Calls Try.prog 10 #[Value.agg #[Value.int .i64 c.wo, Value.int .i64 c.sl, Value.int .i64 c.st, Value.int .i64 c.wa, Value.int .i64 c.us], .slice none 0 0] w fun e w' => ∃ g gw, e = .returned (.pointer (some ⟨g, 0, none⟩)) ∧ TellsMem w ⟨List.replicate (cellsN c) 0, 0⟩ g gw (cellsN c) w' := by
  have hB : Below w.heap.size w (w.alloc (.cells #[Value.int .i64 c.wo, Value.int .i64 c.sl, Value.int .i64 c.st, Value.int .i64 c.wa, Value.int .i64 c.us] 31)) := bnew _ _
  have r0 := RowAt.new w 31 #[Value.int .i64 c.wo, Value.int .i64 c.sl, Value.int .i64 c.st, Value.int .i64 c.wa, Value.int .i64 c.us]
  have Hc := Lib.hid hc
  clear hc
  go_enter Try.func10, Try.ntmps10
  go_wp2_with (refine wpList_load_row rfl 31 _ rfl _ rfl 31 _ (0, 0) _ r0 Try.underlying31 rfl (by kernel_rfl) ?_)
  refine (memS_yes c _ Hc.out).mono ?_
  rintro e w1 ⟨g, gw, rfl, h1, h2, hm, hb⟩
  have hg : w.heap.size ≤ g := by have := hB.size; omega
  have hgw : w.heap.size ≤ gw := by have := hB.size; omega
  replace hB := hB.trans (hb.mono hB.size)
  have Hm := Lib.hid hm
  clear hb h1 h2 r0 hm
  go_wp2_with fail
  go_loopw [7] (fun j wr => j = .int .i64 0 ∧ wr = w1) (fun _ _ => 0)
  case atStart => exact ⟨rfl, rfl⟩
  case round =>
    obtain ⟨rfl, rfl⟩ := hrel
    go_wp2
    go_ret
    exact ⟨g, gw, rfl, hg, hgw, Hm.out, hB⟩
/-- the chapter's example -/
def ex : Cf := ⟨1, 3, 0, 0, 1⟩
theorem ex_rc : Rc ex := ⟨by decide, by decide, by decide, by decide, by decide⟩
theorem ex_n : cellsN ex = 8 := by decide
theorem ex_new (w : World) : Calls Try.prog 11 #[Value.agg #[Value.int .i64 1, Value.int .i64 3, Value.int .i64 0, Value.int .i64 0, Value.int .i64 1]] w fun e w' => ∃ f, e = .returned (.pointer (some ⟨f, 0, none⟩)) ∧ TwAt w' f f f ex newT ∧ w.heap.size ≤ f ∧ Below w.heap.size w w' := tw_new ex w
theorem ex_laid (w : World) : Calls Try.prog 10 #[Value.agg #[Value.int .i64 1, Value.int .i64 3, Value.int .i64 0, Value.int .i64 0, Value.int .i64 1], .slice none 0 0] w fun e w' => ∃ g gw, e = .returned (.pointer (some ⟨g, 0, none⟩)) ∧ TellsMem w ⟨[0, 0, 0, 0, 0, 0, 0, 0], 0⟩ g gw 8 w' := laid_nil ex w ex_rc
theorem ex_step (f sb ab g gw t k : Nat) (w : World) (hT : TwAt w f sb ab ex (aloneT 3 [0, 0, 0] k)) (hM : MemAt w g gw 8 ⟨[0, 0, 0, 0, 0, 0, 0, 0], t⟩) (ht : t < 1000000) (hfg : f ≠ g) (hfw : f ≠ gw) (hsg : sb ≠ g) (hsw : sb ≠ gw) (hag : ab ≠ g) (haw : ab ≠ gw) :
    Calls Try.prog 15 #[.pointer (some ⟨f, 0, none⟩), .pointer (some ⟨g, 0, none⟩)] w (RetAl f sb ab g gw 8 ex 3 [0, 0, 0] [0, 0, 0, 0, 0, 0, 0, 0] t k w) :=
  astep_any f sb ab g gw 8 ex 3 5 _ _ t k w ex_rc rfl rfl rfl rfl hT hM ht hfg hfw hsg hsw hag haw
set_option maxRecDepth 100000 in
set_option maxHeartbeats 2000000 in
theorem awake_any (w : World) : Calls Try.prog 8 #[] w fun e w' => e = .returned (.bool true) ∧ Below w.heap.size w w' := by
  have hB0 := bnew w (.cells #[Value.int .i64 0, Value.int .i64 0, Value.int .i64 0, Value.int .i64 0, Value.int .i64 0] 31)
  have rz := RowAt.new w 31 #[Value.int .i64 0, Value.int .i64 0, Value.int .i64 0, Value.int .i64 0, Value.int .i64 0]
  have r0 := rz.set #[Value.int .i64 1, Value.int .i64 3, Value.int .i64 0, Value.int .i64 0, Value.int .i64 1]
  have hB := below_setRow hB0 (Nat.le_refl _) #[Value.int .i64 1, Value.int .i64 3, Value.int .i64 0, Value.int .i64 0, Value.int .i64 1]
  clear hB0
  go_enter Try.func8, Try.ntmps8
  go_wp2_with (first
    | (refine wpList_store_row rfl 31 _ _ rfl _ #[Value.int .i64 1, Value.int .i64 3, Value.int .i64 0, Value.int .i64 0, Value.int .i64 1] rfl rfl 31 _ rz (by kernel_rfl) rfl (by simp [Value.oneCell']) ?_)
    | (refine wpList_load_row rfl 31 _ rfl _ rfl 31 _ (0, 0) _ r0 Try.underlying31 rfl (by kernel_rfl) ?_))
  obtain ⟨B1, e1⟩ : ∃ B1, B1 = w.heap.size := ⟨_, rfl⟩
  obtain ⟨W, hW⟩ : ∃ W, W = (w.alloc (.cells #[Value.int .i64 0, Value.int .i64 0, Value.int .i64 0, Value.int .i64 0, Value.int .i64 0] 31)).setRow w.heap.size #[Value.int .i64 1, Value.int .i64 3, Value.int .i64 0, Value.int .i64 0, Value.int .i64 1] := ⟨_, rfl⟩
  rw [← hW] at hB r0 ⊢
  rw [← e1] at r0 ⊢
  clear hW e1 rz
  refine (ex_laid _).mono ?_
  rintro e w1 ⟨g, gw, rfl, hg, hgw, hM, hb⟩
  have r1 := r0.below hb r0.lt
  have HM1 := Lib.hid hM
  have hB1 := hB.trans (hb.mono hB.size)
  have hs0 := hB.size
  have hs1 := r0.lt
  clear hb hM hB r0
  go_wp2_with (refine wpList_load_row rfl 31 _ rfl _ rfl 31 _ (0, 0) _ r1 Try.underlying31 rfl (by kernel_rfl) ?_)
  refine (ex_new _).mono ?_
  rintro e w2 ⟨f, rfl, hT, hf, hb⟩
  have HM2 := Lib.hid (HM1.out.on hb)
  have HT2 : Hid (TwAt w2 f f f ex (aloneT 3 [0, 0, 0] 0)) := Lib.hid hT
  have hB2 := hB1.trans (hb.mono hB1.size)
  have l1 := HM1.out.lg
  have l2 := HM1.out.lw
  have hg0 : w.heap.size ≤ g := by omega
  have hgw0 : w.heap.size ≤ gw := by omega
  have hf0 : g < f ∧ gw < f := by omega
  clear hb hT hB1 HM1 r1 hg hgw hs0 hs1 l1 l2 hf
  go_wp2_with fail
  go_loopw [4] (fun j wr => ∃ (k sb ab : Nat), k ≤ 5 ∧ j = .int .i64 k ∧ Hid (MemAt wr g gw 8 ⟨[0, 0, 0, 0, 0, 0, 0, 0], k⟩) ∧ Hid (TwAt wr f sb ab ex (aloneT 3 [0, 0, 0] k)) ∧ f ≤ sb ∧ f ≤ ab ∧ Hid (Below w.heap.size w wr)) (fun j _ => 5 - (intOf j).toNat)
  case atStart => exact ⟨0, f, f, by omega, rfl, HM2, HT2, Nat.le_refl _, Nat.le_refl _, Lib.hid hB2⟩
  case round =>
    obtain ⟨k, sb, ab, hk, rfl, HM, HT, hsb, hab, hbb⟩ := hrel
    clear HM2 HT2 hB2
    have hsz := hbb.out.size
    have hk9 : (k : Int) < 9 := by omega
    go_wp2_with fail
    refine (ex_step f sb ab g gw k k _ HT.out HM.out (by omega) (by omega) (by omega) (by omega) (by omega) (by omega) (by omega)).mono ?_
    rintro e u1 ⟨sb', ab', rfl, hT, hm, hs, hsb2, hab2⟩
    have hfl := HT.out.lt.1
    have hB3 := hs.below hbb.out hsz (by simp <;> omega)
    have hsb3 : f ≤ sb' := by omega
    have hab3 : f ≤ ab' := by omega
    rw [if_neg (by omega)] at hm
    clear HM HT hbb hs hsb hab hsb2 hab2
    by_cases h5 : k = 5
    · subst h5
      have HM3 := Lib.hid hm
      have HT3 : Hid (TwAt u1 f sb' ab' ex ⟨[], [0, 0, 0], 2, true⟩) := Lib.hid hT
      rw [show decide (2 * 3 ≤ 5 + 1) = true from rfl]
      clear hm hT
      go_wp2_with fail
      refine (touched_any g gw 8 _ _ HM3.out).mono ?_
      rintro e u2 ⟨rfl, rfl⟩
      go_wp2_with fail
      refine (rounds_any f sb' ab' ex _ _ HT3.out).mono ?_
      rintro e u3 ⟨rfl, rfl⟩
      go_wp2_with fail
      refine (words_yes f sb' ab' ex _ _ HT3.out rfl (by decide) (by decide)).mono ?_
      rintro e u4 ⟨b, rfl, hr, _, hb⟩
      have hB4 := hB3.trans (hb.mono hB3.size)
      have r4 := hr.alloc (.cells #[.int .i64 0, .int .i64 0, .int .i64 0] 3)
      have hB5 := hB4.alloc hB4.size (.cells #[.int .i64 0, .int .i64 0, .int .i64 0] 3)
      have i1 := (own_row (f := b + 1) r4 (by omega) (by decide)).is
      have i2 := (own_row (xs := [0, 0, 0]) (f := u4.heap.size + 1) (RowAt.new u4 3 #[.int .i64 0, .int .i64 0, .int .i64 0]) (by omega) (by decide)).is
      clear hb hr HM3 HT3 r4 hB4
      go_wp2_with fail
      refine (ints_any _ _ _ _ [0, 0, 0] [0, 0, 0] _ i1 i2 (by decide)).mono ?_
      rintro e u5 ⟨rfl, hb⟩
      have hB6 := hB5.trans (hb.mono hB5.size)
      go_wp2_with fail
      go_ret
      exact ⟨rfl, hB6⟩
    · rw [decide_eq_false (show ¬ 2 * 3 ≤ k + 1 by omega)]
      go_wp2_with fail
      go_roundw
      case rel => exact ⟨k + 1, sb', ab', by omega, by go_num, Lib.hid hm, Lib.hid hT, hsb3, hab3, Lib.hid hB3⟩
      case measure => simp [intOf]; omega
end Go.Proofs.Ytalmadeibnekoaa
