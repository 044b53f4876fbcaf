/- The pins of words; nothing that was there changes. -/
import Derived.Test.YtfnpleicbpbiaaaDoorCut
import Derived.Test.YtfnpleicbpbiaaaDoorMem
namespace Go.Proofs.YtfnpleicbpbiaaaDoor
open Go.RowKit
attribute [local go_sem ↓] Go.wp_at_zero Go.wp_at_succ

theorem cutI_any (b off n c : Nat) (f m : Int) (w : World) (h1 : 0 ≤ f ∧ f ≤ 1000) (h2 : 1 ≤ m ∧ m ≤ 1000) (h3 : f + m ≤ n) (h4 : n ≤ c) :
    Calls Tryd.prog 34 #[.agg #[.int .i64 f, .int .i64 m], .slice (some ⟨b, off, none⟩) n c] w fun e w' => e = .returned (.slice (some ⟨b, off + f.toNat, none⟩) m.toNat m.toNat) ∧ Below w.heap.size w w' := by
  have e1 : ((f.toNat : Nat) : Int) = f := by omega
  have e2 : ((m.toNat : Nat) : Int) = m := by omega
  have h := cut_any b off n c f.toNat m.toNat w (by omega) (by omega) (by omega) (by omega) h4
  rw [e1, e2] at h
  exact h
theorem IS.cut {w : World} {N b off : Nat} {xs : List Int} (h : IS w N (some ⟨b, off, none⟩) xs) (f m : Nat) : IS w N (some ⟨b, off + f, none⟩) ((xs.drop f).take m) := by
  intro k x hk
  rw [List.getElem?_take] at hk
  split at hk
  · rw [List.getElem?_drop] at hk
    obtain ⟨b2, off2, e, h1, h2⟩ := h _ x hk
    injection e with e
    injection e with e1 e2
    subst e1 e2
    exact ⟨b, off + f, rfl, h1, by rw [Nat.add_assoc]; exact h2⟩
  · cases hk
theorem cut_len {xs : List Int} {f m : Nat} (h : f + m ≤ xs.length) : ((xs.drop f).take m).length = m := by
  rw [List.length_take, List.length_drop]
  omega
theorem IS.some {w : World} {N : Nat} {A : Option Addr} {xs : List Int} (h : IS w N A xs) (h1 : 0 < xs.length) : ∃ b off, A = some ⟨b, off, none⟩ := by
  obtain ⟨x, hx⟩ := num_some (xs := xs) (k := 0) h1
  obtain ⟨b, off, e, _⟩ := h 0 x hx
  exact ⟨b, off, e⟩
/-- the pins of words -/
def pinsL (c : Cf) (xs : List Int) : List Int := if xs.length = cellsN c then (xs.drop 3).take c.wo.toNat else []
theorem pinsL_yes {c : Cf} {xs : List Int} (h : xs.length = cellsN c) : pinsL c xs = (xs.drop 3).take c.wo.toNat := if_pos h
theorem pinsL_no {c : Cf} {xs : List Int} (h : ¬ xs.length = cellsN c) : pinsL c xs = [] := if_neg h
theorem is_nil (w : World) (N : Nat) (A : Option Addr) : IS w N A [] := fun k x hk => by simp at hk
/-- behind a call that keeps all that there was -/
theorem Mine.on {w0 w w' : World} {v : Value} {xs : List Int} (h : Mine w0 w v xs) (hb : Below w.heap.size w w') : Mine w0 w' v xs :=
  ⟨h.own.kept ⟨hb.os, hb.tape, hb.output, hb.size, fun k hk _ => hb.block k hk⟩ (row := none) (by cases v.ownBlock <;> simp), h.below.trans (hb.mono h.below.size)⟩
/-- the three boxes of the parts -/
theorem below3 {n : Nat} {A W : World} (h : Below n A W) (hn : n ≤ A.heap.size) (o p q : Obj) : Below n A (((W.alloc o).alloc p).alloc q) := by
  have := h.size
  exact ((h.alloc (by omega) o).alloc (by simp; omega) p).alloc (by simp; omega) q
set_option maxRecDepth 100000 in
set_option maxHeartbeats 2000000 in
theorem pins_any (A : Option Addr) (n c0 : Nat) (xs : List Int) (c : Cf) (w : World) (hc : Rc c) (hn : xs.length = n) (hcap : n ≤ c0) (hI : IS w w.heap.size A xs) :
    Calls Tryd.prog 24 #[Value.agg #[Value.int .i64 c.wo, Value.int .i64 c.sl, Value.int .i64 c.st, Value.int .i64 c.wa, Value.int .i64 c.us], .slice A n c0] w (RetInts w (pinsL c xs)) := by
  have hB : Below w.heap.size w (w.alloc (.cells #[Value.int .i64 c.wo, Value.int .i64 c.sl, Value.int .i64 c.st, Value.int .i64 c.wa, Value.int .i64 c.us] 23)) := (Below.refl _ _).alloc (Nat.le_refl _) _
  have r0 := RowAt.new w 23 #[Value.int .i64 c.wo, Value.int .i64 c.sl, Value.int .i64 c.st, Value.int .i64 c.wa, Value.int .i64 c.us]
  have q1 := hc.wo
  have q2 := hc.sl
  have Hn := Lib.hid (cellsN_eq hc)
  have Hc := Lib.hid hc
  have HI := Lib.hid hI
  have Hl := Lib.hid hn
  clear hc hI hn
  by_cases h : xs.length = cellsN c
  · have hq : ((n : Int) != cellsI c) = false := by
      have := Hn.out.1
      have := Hl.out
      simp
      omega
    have Hy := Lib.hid (pinsL_yes h)
    have He := Lib.hid h
    obtain ⟨b, off, eA⟩ := HI.out.some (by have := Hn.out; omega)
    subst eA
    clear h
    go_enter Tryd.func24, Tryd.ntmps24
    go_wp2_with fail
    refine (cells_any c _ Hc.out).mono ?_
    rintro e w1 ⟨rfl, hb⟩
    replace r0 := r0.below hb r0.lt
    replace hB := hB.trans (hb.mono hB.size)
    clear hb
    go_wp2_with (refine wpList_load_row rfl 23 _ rfl _ rfl 23 _ (0, 0) _ r0 Tryd.underlying23 rfl (by kernel_rfl) ?_)
    refine (parts_any c _ Hc.out).mono ?_
    rintro e w2 ⟨rfl, hb⟩
    replace hB := hB.trans (hb.mono hB.size)
    clear hb
    go_wp2_with fail
    refine (cutI_any b off n c0 3 c.wo _ (by omega) (by omega) (by have := Hn.out.1; have := Hl.out; have := He.out; unfold cellsI at *; omega) hcap).mono ?_
    rintro e w3 ⟨rfl, hb⟩
    replace hB := (below3 hB (Nat.le_refl _) (.cells #[.int .i64 3, .int .i64 c.wo] 49) (.cells #[.int .i64 (3 + c.wo), .int .i64 c.wo] 49) (.cells #[.int .i64 (3 + c.wo + c.wo), .int .i64 c.sl] 49)).trans (hb.mono (by have := hB.size; simp; omega))
    clear hb
    have HJ := Lib.hid ((HI.out.cut 3 c.wo.toNat).below hB)
    have Hk := Lib.hid (cut_len (xs := xs) (f := 3) (m := c.wo.toNat) (by have := Hn.out.1; have := He.out; unfold cellsI at *; omega))
    have hcl := clone_is (some ⟨b, off + 3, none⟩) c.wo.toNat ((xs.drop 3).take c.wo.toNat) w3 (HJ.out.more hB.size) (by rw [Hk.out]; omega) (by rw [Hk.out]; omega)
    rw [Hk.out] at hcl
    go_wp2_with fail
    refine hcl.mono ?_
    rintro e w4 ⟨g, c2, rfl, hc2, hI4, hb⟩
    replace hB := hB.trans (hb.mono hB.size)
    go_wp2_with fail
    go_ret
    rw [Hy.out]
    exact ⟨some ⟨g, 0, none⟩, c2, by rw [Hk.out]; rfl, by rw [Hk.out]; exact hc2, hI4, hB⟩
  · have hq : ((n : Int) != cellsI c) = true := by
      have := Hn.out.1
      have := Hl.out
      simp
      omega
    have Hy := Lib.hid (pinsL_no h)
    clear h
    go_enter Tryd.func24, Tryd.ntmps24
    go_wp2_with fail
    refine (cells_any c _ Hc.out).mono ?_
    rintro e w1 ⟨rfl, hb⟩
    replace hB := hB.trans (hb.mono hB.size)
    clear hb r0
    go_wp2_with fail
    go_ret
    rw [Hy.out]
    exact ⟨none, 0, rfl, Nat.le_refl _, is_nil _ _ _, hB⟩
end Go.Proofs.YtfnpleicbpbiaaaDoor
