/- The slots of words, as the document's own function tells; nothing that was there changes. -/
import Derived.Test.YtbkcniknbpgphaaDoorSlots
import Derived.Test.YtbkcniknbpgphaaDoorAccR
namespace Go.Proofs.YtbkcniknbpgphaaDoor
open Go.RowKit
attribute [local go_sem ↓] Go.wp_at_zero Go.wp_at_succ

theorem slotI_nat {c : Cf} {k f : Nat} (hc : Rc c) (hf : (3 + c.wo + c.wo).toNat = f) (h : k < c.sl.toNat) : slotI c k = ((f + k : Nat) : Int) := by
  have q1 := hc.wo
  have q2 := hc.sl
  unfold slotI cellI wiB
  rw [if_pos (by simp; omega)]
  omega
theorem LMine.appFAt {R : Nat → Prop} {w0 w : World} {v : Value} {xs : List Sl} (h : LMine w0 w v xs) (hf : Far R w v) {ops : Array Oper} {rest : List Oper} {o : Oper} {a : Act} {Q : Exit → Act → World → Prop} {n : Nat} (hn : xs.length = n) (hn2 : n ≤ 1000000)
    (hg : o.guard = none) (x t : Operand) (hop : o.op = Op.call { callee := Callee.builtin Builtin.append, args := #[x, t], argTypes := #[28, 28] }) (hs : a.eval x = v) (s : Sl) (g c : Nat) (hx : a.eval t = .slice (some ⟨g, 0, none⟩) 1 c) (eg : w.heap.size = g)
    (hK : ∀ A' c' w', LMine w0 w' (.slice A' (n + 1) c') (xs ++ [s]) → Far R w' (.slice A' (n + 1) c') → (∀ b, R b → w'.heap[b]? = w.heap[b]?) → wpList Tryd.prog ops Q rest (a.put o.dst (.slice A' (n + 1) c')) w') :
    wpList Tryd.prog ops Q (o :: rest) a (w.alloc (.cells #[Value.int .i64 s.st, Value.int .i64 s.ow, Value.int .i64 s.sr, Value.bool s.br, Value.bool s.ma, Value.int .i64 s.us, Value.int .i64 s.ge, Value.int .i64 s.ep, Value.int .i64 s.ve] 23)) := by
  subst eg
  exact h.appF hf hn hn2 hg x t hop hs s c hx hK
set_option maxRecDepth 100000 in
set_option maxHeartbeats 2000000 in
theorem refSlots_any (A : Option Addr) (n c0 : Nat) (xs : List Int) (c : Cf) (w : World) (hc : Rc c) (hn : xs.length = n) (hI : IS w w.heap.size A xs) (hx : ∀ (k : Nat) x, xs[k]? = some x → -9223372036854775808 ≤ x ∧ x ≤ 9223372036854775807) :
    Calls Tryd.prog 29 #[Value.agg #[Value.int .i64 c.wo, Value.int .i64 c.sl, Value.int .i64 c.st, Value.int .i64 c.wa, Value.int .i64 c.us], .slice A n c0] w (RetSls w (slotsL c xs)) := by
  have hB : Below w.heap.size w (w.alloc (.cells #[Value.int .i64 c.wo, Value.int .i64 c.sl, Value.int .i64 c.st, Value.int .i64 c.wa, Value.int .i64 c.us] 35)) := (Below.refl _ _).alloc (Nat.le_refl _) _
  have r0 := RowAt.new w 35 #[Value.int .i64 c.wo, Value.int .i64 c.sl, Value.int .i64 c.st, Value.int .i64 c.wa, Value.int .i64 c.us]
  have q1 := hc.wo
  have q2 := hc.sl
  have Hn := Lib.hid (cellsN_eq hc)
  have Hc := Lib.hid hc
  have HI := Lib.hid hI
  have Hl := Lib.hid hn
  have Hx := Lib.hid hx
  clear hc hI hn hx
  by_cases h : xs.length = cellsN c
  · have hq : ((n : Int) == cellsI c) = true := by
      have := Hn.out.1
      have := Hl.out
      simp
      omega
    have Hy := Lib.hid (slotsL_yes h)
    have He := Lib.hid h
    obtain ⟨b, off, eA⟩ := HI.out.some (by have := Hn.out; omega)
    subst eA
    clear h
    obtain ⟨f, hf⟩ : ∃ f : Nat, (3 + c.wo + c.wo).toNat = f := ⟨_, rfl⟩
    obtain ⟨p, hp⟩ : ∃ p : Nat, c.sl = p := ⟨c.sl.toNat, by omega⟩
    have Hf := Lib.hid hf
    have Hp := Lib.hid hp
    have Hp2 := Lib.hid (show c.sl.toNat = p by omega)
    have Hp3 := Lib.hid (show f + p = n by have := He.out; have := Hl.out; have := Hn.out.1; unfold cellsI at *; omega)
    have hp9 : p ≤ 16 := by omega
    clear hp hf
    go_enter Tryd.func29, Tryd.ntmps29
    go_wp2
    obtain ⟨W, hW⟩ : ∃ W, W = w.alloc (.cells #[Value.int .i64 c.wo, Value.int .i64 c.sl, Value.int .i64 c.st, Value.int .i64 c.wa, Value.int .i64 c.us] 35) := ⟨_, rfl⟩
    obtain ⟨B1, e1⟩ : ∃ B1, B1 = w.heap.size := ⟨_, rfl⟩
    rw [← hW, ← e1] at r0
    rw [← hW] at hB ⊢
    rw [← e1]
    clear hW e1
    go_loopw [5, 6] (fun o i wr => ∃ (k : Nat) (Av : Option Addr) (cv : Nat), k ≤ p ∧ i = .int .i64 k ∧ o = .slice Av k cv ∧ Hid (LMine w wr (.slice Av k cv) (((xs.drop f).take k).map decS)) ∧ Hid (Far (· = B1) wr (.slice Av k cv)) ∧ RowAt wr B1 35 #[Value.int .i64 c.wo, Value.int .i64 c.sl, Value.int .i64 c.st, Value.int .i64 c.wa, Value.int .i64 c.us]) (fun _ i _ => p - (intOf i).toNat)
    case atStart => exact ⟨0, none, 0, Nat.zero_le _, rfl, rfl, Lib.hid (LMine.nil hB), Lib.hid (Far.nil (fun b hb => by rw [hb]; exact r0.lt)), r0⟩
    case round =>
      obtain ⟨k, Av, cv, hk, rfl, rfl, HM, HF, hr⟩ := hrel
      by_cases hlt2 : k < p
      · have hd2 : (k : Int) < c.sl := by rw [Hp.out]; omega
        have Hlen : Hid ((((xs.drop f).take k).map decS).length = k) := Lib.hid (by rw [List.length_map]; exact cut_len (by have := Hp3.out; have := Hl.out; omega))
        obtain ⟨x, hx⟩ := num_some (xs := xs) (k := f + k) (by have := Hp3.out; have := Hl.out; omega)
        have hr0 := hr.lt
        have k00 : wr.cell? ⟨B1, 0, none⟩ = some (Value.int .i64 c.wo) := hr.cell 0 rfl
        have k01 : wr.cell? ⟨B1, 1, none⟩ = some (Value.int .i64 c.sl) := hr.cell 1 rfl
        have k02 : wr.cell? ⟨B1, 2, none⟩ = some (Value.int .i64 c.st) := hr.cell 2 rfl
        have k03 : wr.cell? ⟨B1, 3, none⟩ = some (Value.int .i64 c.wa) := hr.cell 3 rfl
        have k04 : wr.cell? ⟨B1, 4, none⟩ = some (Value.int .i64 c.us) := hr.cell 4 rfl
        go_wp2_with fail
        refine (refCells_any c _ Hc.out).mono ?_
        rintro e w1 ⟨rfl, hb⟩
        have HM1 := Lib.hid (HM.out.on hb)
        have HF1 := Lib.hid (HF.out.on hb.size)
        replace hr := hr.below hb hr.lt
        clear hb HM HF k00 k01 k02 k03 k04
        have k10 : w1.cell? ⟨B1, 0, none⟩ = some (Value.int .i64 c.wo) := hr.cell 0 rfl
        have k11 : w1.cell? ⟨B1, 1, none⟩ = some (Value.int .i64 c.sl) := hr.cell 1 rfl
        have k12 : w1.cell? ⟨B1, 2, none⟩ = some (Value.int .i64 c.st) := hr.cell 2 rfl
        have k13 : w1.cell? ⟨B1, 3, none⟩ = some (Value.int .i64 c.wa) := hr.cell 3 rfl
        have k14 : w1.cell? ⟨B1, 4, none⟩ = some (Value.int .i64 c.us) := hr.cell 4 rfl
        go_wp2_with fail
        refine (refSlot_any c k _ Hc.out).mono ?_
        rintro e w2 ⟨rfl, hb⟩
        have HM2 := Lib.hid (HM1.out.on hb)
        have HF2 := Lib.hid (HF1.out.on hb.size)
        replace hr := hr.below hb hr.lt
        clear hb HM1 HF1 k10 k11 k12 k13 k14
        obtain ⟨b2, off2, eb, hb2, hcx⟩ := (HI.out.below HM2.out.below) (f + k) x hx
        injection eb with eb
        injection eb with eb1 eb2
        subst eb1 eb2
        have HX := Lib.hid hx
        have hi1 : f + k < n := by have := Hp3.out; omega
        obtain ⟨hx1, hx2⟩ := Hx.out _ x hx
        clear hx
        rw [slotI_nat Hc.out Hf.out (by rw [Hp2.out]; exact hlt2)]
        go_wp2_with fail
        refine (refDecode_any x _ hx1 hx2).mono ?_
        obtain ⟨s, es⟩ : ∃ s, s = decS x := ⟨_, rfl⟩
        rw [← es]
        have Es := Lib.hid es
        clear es hcx
        rintro e w4 ⟨rfl, hb⟩
        have hb5 := hb.alloc hb.size (.cells #[Value.int .i64 s.st, Value.int .i64 s.ow, Value.int .i64 s.sr, Value.bool s.br, Value.bool s.ma, Value.int .i64 s.us, Value.int .i64 s.ge, Value.int .i64 s.ep, Value.int .i64 s.ve] 23)
        have HM3 := Lib.hid (HM2.out.on hb5)
        have HF3 := Lib.hid (HF2.out.on hb5.size)
        have r4 := RowAt.new w4 23 #[Value.int .i64 s.st, Value.int .i64 s.ow, Value.int .i64 s.sr, Value.bool s.br, Value.bool s.ma, Value.int .i64 s.us, Value.int .i64 s.ge, Value.int .i64 s.ep, Value.int .i64 s.ve]
        replace hr := hr.below hb5 hr.lt
        clear hb hb5 HM2 HF2
        go_wp2_with (first | (refine wpList_load_row rfl 23 _ rfl _ rfl 23 _ (0, 0) _ r4 Tryd.underlying23 rfl (by kernel_rfl) ?_) | (refine HM3.out.appFAt HF3.out (n := k) Hlen.out (by omega) rfl _ _ rfl rfl s _ _ rfl (by simp) ?_; intro Av3 cv3 w5 hM3 hF3 hR3))
        go_roundw
        case rel => exact ⟨k + 1, Av3, cv3, by omega, by go_num, rfl, Lib.hid (by rw [mapS HX.out, ← Es.out]; exact hM3), Lib.hid hF3, hr.same (hR3 _ rfl)⟩
        case measure => simp [intOf]; omega
      · obtain rfl : k = p := by omega
        have hd2 : ¬ (k : Int) < c.sl := by rw [Hp.out]; omega
        have k00 : wr.cell? ⟨B1, 0, none⟩ = some (Value.int .i64 c.wo) := hr.cell 0 rfl
        have k01 : wr.cell? ⟨B1, 1, none⟩ = some (Value.int .i64 c.sl) := hr.cell 1 rfl
        have k02 : wr.cell? ⟨B1, 2, none⟩ = some (Value.int .i64 c.st) := hr.cell 2 rfl
        have k03 : wr.cell? ⟨B1, 3, none⟩ = some (Value.int .i64 c.wa) := hr.cell 3 rfl
        have k04 : wr.cell? ⟨B1, 4, none⟩ = some (Value.int .i64 c.us) := hr.cell 4 rfl
        go_wp2_with fail
        go_ret
        rw [Hy.out, Hf.out, Hp2.out]
        exact HM.out.ret
  · have hq : ((n : Int) == cellsI c) = false := by
      have := Hn.out.1
      have := Hl.out
      simp
      omega
    have Hy := Lib.hid (slotsL_no h)
    clear h
    have hd2 : (0 : Int) < c.sl := by omega
    go_enter Tryd.func29, Tryd.ntmps29
    go_wp2
    obtain ⟨W, hW⟩ : ∃ W, W = w.alloc (.cells #[Value.int .i64 c.wo, Value.int .i64 c.sl, Value.int .i64 c.st, Value.int .i64 c.wa, Value.int .i64 c.us] 35) := ⟨_, rfl⟩
    obtain ⟨B1, e1⟩ : ∃ B1, B1 = w.heap.size := ⟨_, rfl⟩
    rw [← hW, ← e1] at r0
    rw [← hW] at hB ⊢
    rw [← e1]
    clear hW e1
    go_loopw [5, 6] (fun o i wr => i = .int .i64 0 ∧ o = .slice none 0 0 ∧ Below w.heap.size w wr ∧ RowAt wr B1 35 #[Value.int .i64 c.wo, Value.int .i64 c.sl, Value.int .i64 c.st, Value.int .i64 c.wa, Value.int .i64 c.us]) (fun _ _ _ => 0)
    case atStart => exact ⟨rfl, rfl, hB, r0⟩
    case round =>
      obtain ⟨rfl, rfl, hB1, hr⟩ := hrel
      have k00 : wr.cell? ⟨B1, 0, none⟩ = some (Value.int .i64 c.wo) := hr.cell 0 rfl
      have k01 : wr.cell? ⟨B1, 1, none⟩ = some (Value.int .i64 c.sl) := hr.cell 1 rfl
      have k02 : wr.cell? ⟨B1, 2, none⟩ = some (Value.int .i64 c.st) := hr.cell 2 rfl
      have k03 : wr.cell? ⟨B1, 3, none⟩ = some (Value.int .i64 c.wa) := hr.cell 3 rfl
      have k04 : wr.cell? ⟨B1, 4, none⟩ = some (Value.int .i64 c.us) := hr.cell 4 rfl
      go_wp2_with fail
      refine (refCells_any c _ Hc.out).mono ?_
      rintro e w1 ⟨rfl, hb⟩
      replace hB1 := hB1.trans (hb.mono hB1.size)
      clear hb
      go_wp2_with fail
      go_ret
      rw [Hy.out]
      exact ⟨none, 0, rfl, Nat.le_refl _, ls_nil _ _ _, (fun _ _ e => by cases e), hB1⟩
end Go.Proofs.YtbkcniknbpgphaaDoor
