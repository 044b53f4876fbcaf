/- The slots of words; nothing that was there changes. -/
import Derived.Test.YtfnpleicbpbiaaaDoorPins
import Derived.Test.YtfnpleicbpbiaaaDoorFar
import Derived.Test.YtfnpleicbpbiaaaDoorRefC
namespace Go.Proofs.YtfnpleicbpbiaaaDoor
open Go.RowKit
attribute [local go_sem ↓] Go.wp_at_zero Go.wp_at_succ

/-- the slots of words -/
def slotsL (c : Cf) (xs : List Int) : List Sl := if xs.length = cellsN c then ((xs.drop (3 + c.wo + c.wo).toNat).take c.sl.toNat).map decS else []
theorem slotsL_yes {c : Cf} {xs : List Int} (h : xs.length = cellsN c) : slotsL c xs = ((xs.drop (3 + c.wo + c.wo).toNat).take c.sl.toNat).map decS := if_pos h
theorem slotsL_no {c : Cf} {xs : List Int} (h : ¬ xs.length = cellsN c) : slotsL c xs = [] := if_neg h
theorem ls_nil (w : World) (N : Nat) (A : Option Addr) : LS w N A [] := fun k x hk => by simp at hk
theorem mapS {xs : List Int} {f k : Nat} {x : Int} (h : xs[f + k]? = some x) : ((xs.drop f).take (k + 1)).map decS = ((xs.drop f).take k).map decS ++ [decS x] := by
  rw [List.take_add_one, List.getElem?_drop, h]
  simp
/-- the same, where the walk spells the new block's number otherwise -/
theorem LMine.appAt {w0 w : World} {v : Value} {xs : List Sl} (h : LMine w0 w v xs) {ops : Array Oper} {rest : List Oper} {o : Oper} {a : Act} {Q : Exit → Act → World → Prop} {n : Nat} (hn : xs.length = n) (hn2 : n ≤ 1000000)
    (hg : o.guard = none) (x t : Operand) (hop : o.op = Op.call { callee := Callee.builtin Builtin.append, args := #[x, t], argTypes := #[37, 37] }) (hs : a.eval x = v) (s : Sl) (g c : Nat) (hx : a.eval t = .slice (some ⟨g, 0, none⟩) 1 c) (eg : w.heap.size = g)
    (hK : ∀ A' c' w', LMine w0 w' (.slice A' (n + 1) c') (xs ++ [s]) → wpList Tryd.prog ops Q rest (a.put o.dst (.slice A' (n + 1) c')) w') :
    wpList Tryd.prog ops Q (o :: rest) a (w.alloc (.cells #[Value.int .i64 s.st, Value.int .i64 s.ow, Value.int .i64 s.sr, Value.bool s.br, Value.bool s.ma, Value.int .i64 s.us, Value.int .i64 s.ge, Value.int .i64 s.ep, Value.int .i64 s.ve] 57)) := by
  subst eg
  exact h.app hn hn2 hg x t hop hs s c hx hK
set_option maxRecDepth 100000 in
set_option maxHeartbeats 2000000 in
theorem slots_any (A : Option Addr) (n c0 : Nat) (xs : List Int) (c : Cf) (w : World) (hT : Tab w) (hc : Rc c) (hn : xs.length = n) (hcap : n ≤ c0) (hI : IS w w.heap.size A xs) (hx : ∀ (k : Nat) x, xs[k]? = some x → -9223372036854775808 ≤ x ∧ x ≤ 9223372036854775807) :
    Calls Tryd.prog 22 #[Value.agg #[Value.int .i64 c.wo, Value.int .i64 c.sl, Value.int .i64 c.st, Value.int .i64 c.wa, Value.int .i64 c.us], .slice A n c0] w (RetSls w (slotsL c xs)) := by
  have hB : Below w.heap.size w (w.alloc (.cells #[Value.int .i64 c.wo, Value.int .i64 c.sl, Value.int .i64 c.st, Value.int .i64 c.wa, Value.int .i64 c.us] 23)) := (Below.refl _ _).alloc (Nat.le_refl _) _
  have r0 := RowAt.new w 23 #[Value.int .i64 c.wo, Value.int .i64 c.sl, Value.int .i64 c.st, Value.int .i64 c.wa, Value.int .i64 c.us]
  have q1 := hc.wo
  have q2 := hc.sl
  have Hn := Lib.hid (cellsN_eq hc)
  have Hc := Lib.hid hc
  have HI := Lib.hid hI
  have Hl := Lib.hid hn
  have Hx := Lib.hid hx
  have HT := Lib.hid hT
  clear hc hI hn hx hT
  by_cases h : xs.length = cellsN c
  · have hq : ((n : Int) != cellsI c) = false := by
      have := Hn.out.1
      have := Hl.out
      simp
      omega
    have Hy := Lib.hid (slotsL_yes h)
    have He := Lib.hid h
    obtain ⟨b, off, eA⟩ := HI.out.some (by have := Hn.out; omega)
    subst eA
    clear h
    obtain ⟨f, hf⟩ : ∃ f : Nat, (3 + c.wo + c.wo).toNat = f := ⟨_, rfl⟩
    obtain ⟨q, hp⟩ : ∃ q : Nat, c.sl.toNat = q := ⟨_, rfl⟩
    have Hf := Lib.hid hf
    have Hp := Lib.hid hp
    have Hp3 := Lib.hid (show f + q = n by have := He.out; have := Hl.out; have := Hn.out.1; unfold cellsI at *; omega)
    have hp9 : q ≤ 16 := by omega
    have hf9 : f ≤ 1000 := by omega
    clear hp hf
    go_enter Tryd.func22, Tryd.ntmps22
    go_wp2_with fail
    refine (cells_any c _ Hc.out).mono ?_
    rintro e w1 ⟨rfl, hb⟩
    replace r0 := r0.below hb r0.lt
    replace hB := hB.trans (hb.mono hB.size)
    clear hb
    go_wp2_with (refine wpList_load_row rfl 23 _ rfl _ rfl 23 _ (0, 0) _ r0 Tryd.underlying23 rfl (by kernel_rfl) ?_)
    refine (parts_any c _ Hc.out).mono ?_
    rintro e w2 ⟨rfl, hb⟩
    replace hB := hB.trans (hb.mono hB.size)
    clear hb r0
    go_wp2_with fail
    refine (cutI_any b off n c0 (3 + c.wo + c.wo) c.sl _ (by omega) (by omega) (by have := Hn.out.1; have := Hl.out; have := He.out; unfold cellsI at *; omega) hcap).mono ?_
    rintro e w3 ⟨rfl, hb⟩
    replace hB := (below3 hB (Nat.le_refl _) (.cells #[.int .i64 3, .int .i64 c.wo] 49) (.cells #[.int .i64 (3 + c.wo), .int .i64 c.wo] 49) (.cells #[.int .i64 (3 + c.wo + c.wo), .int .i64 c.sl] 49)).trans (hb.mono (by have := hB.size; simp; omega))
    clear hb
    rw [Hf.out, Hp.out]
    go_wp2
    go_loopw [8, 28] (fun o i wr => ∃ (k : Nat) (Av : Option Addr) (cv : Nat), k ≤ q ∧ i = .int .i64 k ∧ o = .slice Av k cv ∧ Hid (LMine w wr (.slice Av k cv) (((xs.drop f).take k).map decS))) (fun _ i _ => q - (intOf i).toNat)
    case atStart => exact ⟨0, none, 0, Nat.zero_le _, rfl, rfl, Lib.hid (LMine.nil hB)⟩
    case round =>
      obtain ⟨k, Av, cv, hk, rfl, rfl, HM⟩ := hrel
      by_cases hlt2 : k < q
      · have Hlen : Hid ((((xs.drop f).take k).map decS).length = k) := Lib.hid (by rw [List.length_map]; exact cut_len (by have := Hp3.out; have := Hl.out; omega))
        obtain ⟨x, hx⟩ := num_some (xs := xs) (k := f + k) (by have := Hp3.out; have := Hl.out; omega)
        obtain ⟨b2, off2, eb, hb2, hcx⟩ := (HI.out.below HM.out.below) (f + k) x hx
        injection eb with eb
        injection eb with eb1 eb2
        subst eb1 eb2
        obtain ⟨hx1, hx2⟩ := Hx.out _ x hx
        have HX := Lib.hid hx
        rw [← Nat.add_assoc] at hcx
        clear hx
        go_wp2_with fail
        refine (decode_any x _ (HT.out.below HM.out.below HT.out.lt) hx1 hx2).mono ?_
        obtain ⟨s, es⟩ : ∃ s, s = decS x := ⟨_, rfl⟩
        rw [← es]
        have Es := Lib.hid es
        clear es
        rintro e w4 ⟨rfl, hb⟩
        have HM2 := Lib.hid ((HM.out.on hb).on ((Below.refl w4.heap.size w4).alloc (Nat.le_refl _) (.cells #[Value.int .i64 s.st, Value.int .i64 s.ow, Value.int .i64 s.sr, Value.bool s.br, Value.bool s.ma, Value.int .i64 s.us, Value.int .i64 s.ge, Value.int .i64 s.ep, Value.int .i64 s.ve] 57)))
        have r4 := RowAt.new w4 57 #[Value.int .i64 s.st, Value.int .i64 s.ow, Value.int .i64 s.sr, Value.bool s.br, Value.bool s.ma, Value.int .i64 s.us, Value.int .i64 s.ge, Value.int .i64 s.ep, Value.int .i64 s.ve]
        clear hb HM
        go_wp2_with (first | (refine wpList_load_row rfl 57 _ rfl _ rfl 57 _ (0, 0) _ r4 Tryd.underlying57 rfl (by kernel_rfl) ?_) | (refine HM2.out.appAt (n := k) Hlen.out (by omega) rfl _ _ rfl rfl s _ _ rfl (by simp) ?_; intro Av3 cv3 w5 hM3))
        go_roundw
        case rel => exact ⟨k + 1, Av3, cv3, by omega, by go_num, rfl, Lib.hid (by rw [mapS HX.out, ← Es.out]; exact hM3)⟩
        case measure => simp [intOf]; omega
      · obtain rfl : k = q := by omega
        go_wp2_with fail
        go_ret
        rw [Hy.out, Hf.out, Hp.out]
        exact HM.out.ret
  · have hq : ((n : Int) != cellsI c) = true := by
      have := Hn.out.1
      have := Hl.out
      simp
      omega
    have Hy := Lib.hid (slotsL_no h)
    clear h
    go_enter Tryd.func22, Tryd.ntmps22
    go_wp2_with fail
    refine (cells_any c _ Hc.out).mono ?_
    rintro e w1 ⟨rfl, hb⟩
    replace hB := hB.trans (hb.mono hB.size)
    clear hb r0
    go_wp2_with fail
    go_ret
    rw [Hy.out]
    exact ⟨none, 0, rfl, Nat.le_refl _, ls_nil _ _ _, hB⟩
end Go.Proofs.YtfnpleicbpbiaaaDoor
