/- LifeOwn: who isn't its owner can do nothing with a slot that is leased, or dialed, but break it, and retire it. -/
import Derived.Test.YtdiipmejkanhfaaDoorAwake
namespace Go.Proofs.YtdiipmejkanhfaaDoor
open Go.RowKit
attribute [local go_sem ↓] Go.wp_at_zero Go.wp_at_succ

theorem own_math {s : Sl} {d a mo : Int} (hs : s.Wf) (h : nxB s d a mo = true) (ha : a ≠ s.ow) :
    ((s.st = 3 ∨ s.st = 1) → (d = 13 ∨ d = 11) ∧ s.st = 3) ∧ (s.st = 4 → d = 13 ∨ d = 6) ∧ (s.st = 5 → d = 8) := by
  obtain ⟨hr, ho, hc⟩ := (nxB_spec hs).1 h
  obtain ⟨k, rfl⟩ : ∃ k : Nat, d = k := ⟨d.toNat, by omega⟩
  have hk : k < 18 := by omega
  have hk2 : ((k : Int)).toNat = k := by omega
  rw [hk2] at hc
  have ha2 : ¬ s.ow = a := fun e => ha e.symm
  rcases eighteen hk with rfl | rfl | rfl | rfl | rfl | rfl | rfl | rfl | rfl | rfl | rfl | rfl | rfl | rfl | rfl | rfl | rfl | rfl
  all_goals simp [chB, minB, souB, ha2] at hc
  all_goals (simp; try omega)
set_option maxRecDepth 100000 in
set_option maxHeartbeats 4000000 in
theorem lown_any (s : Sl) (d a mo : Int) (w : World) (hT : Tb w) (hs : s.Wf) :
    Calls Tryd.prog 6 #[Value.agg #[Value.int .i64 s.st, Value.int .i64 s.ow, Value.int .i64 s.sr, Value.bool s.br, Value.bool s.ma, Value.int .i64 s.us, Value.int .i64 s.ge, Value.int .i64 s.ep, Value.int .i64 s.ve], .int .i64 d, .int .i64 a, .int .i64 mo] w fun e w' => e = .returned (.bool true) ∧ Below w.heap.size w w' := by
  cases hn : nxB s d a mo with
  | false =>
    obtain ⟨t, et⟩ : ∃ t, nxS s d a mo = t := ⟨_, rfl⟩
    have CN := next_is hs et hn
    clear hn et
    have r0 := RowAt.new w 23 #[Value.int .i64 s.st, Value.int .i64 s.ow, Value.int .i64 s.sr, Value.bool s.br, Value.bool s.ma, Value.int .i64 s.us, Value.int .i64 s.ge, Value.int .i64 s.ep, Value.int .i64 s.ve]
    have hB := (Below.refl w.heap.size w).alloc (Nat.le_refl _) (.cells #[Value.int .i64 s.st, Value.int .i64 s.ow, Value.int .i64 s.sr, Value.bool s.br, Value.bool s.ma, Value.int .i64 s.us, Value.int .i64 s.ge, Value.int .i64 s.ep, Value.int .i64 s.ve] 23)
    have HT := Lib.hid (hT.alloc (.cells #[Value.int .i64 s.st, Value.int .i64 s.ow, Value.int .i64 s.sr, Value.bool s.br, Value.bool s.ma, Value.int .i64 s.us, Value.int .i64 s.ge, Value.int .i64 s.ep, Value.int .i64 s.ve] 23))
    clear hT
    go_enter Tryd.func6, Tryd.ntmps6
    go_wp2_with fail
    refine (awake_any _ HT.out).mono ?_
    rintro e w1 ⟨rfl, hb⟩
    replace r0 := r0.below hb r0.lt
    replace hB := hB.trans (hb.mono hB.size)
    replace HT := Lib.hid (HT.out.below hb HT.out.lt)
    clear hb
    obtain ⟨B1, e1⟩ : ∃ B1, B1 = w.heap.size := ⟨_, rfl⟩
    have hle : w.heap.size ≤ B1 := by omega
    rw [← e1] at r0 ⊢
    clear e1
    have l0 := r0.lt
    have c0 : w1.cell? ⟨B1, 0, none⟩ = some (Value.int .i64 s.st) := r0.cell 0 rfl
    have c1 : w1.cell? ⟨B1, 1, none⟩ = some (Value.int .i64 s.ow) := r0.cell 1 rfl
    have c2 : w1.cell? ⟨B1, 2, none⟩ = some (Value.int .i64 s.sr) := r0.cell 2 rfl
    have c3 : w1.cell? ⟨B1, 3, none⟩ = some (Value.bool s.br) := r0.cell 3 rfl
    have c4 : w1.cell? ⟨B1, 4, none⟩ = some (Value.bool s.ma) := r0.cell 4 rfl
    have c5 : w1.cell? ⟨B1, 5, none⟩ = some (Value.int .i64 s.us) := r0.cell 5 rfl
    have c6 : w1.cell? ⟨B1, 6, none⟩ = some (Value.int .i64 s.ge) := r0.cell 6 rfl
    have c7 : w1.cell? ⟨B1, 7, none⟩ = some (Value.int .i64 s.ep) := r0.cell 7 rfl
    have c8 : w1.cell? ⟨B1, 8, none⟩ = some (Value.int .i64 s.ve) := r0.cell 8 rfl
    go_wp2_with fail
    refine (CN _ HT.out).mono ?_
    rintro e w2 ⟨rfl, hb⟩
    replace r0 := (r0.below hb r0.lt).alloc (.cells #[Value.int .i64 t.st, Value.int .i64 t.ow, Value.int .i64 t.sr, Value.bool t.br, Value.bool t.ma, Value.int .i64 t.us, Value.int .i64 t.ge, Value.int .i64 t.ep, Value.int .i64 t.ve] 23)
    replace hB := (hB.trans (hb.mono hB.size)).alloc (hB.trans (hb.mono hB.size)).size (.cells #[Value.int .i64 t.st, Value.int .i64 t.ow, Value.int .i64 t.sr, Value.bool t.br, Value.bool t.ma, Value.int .i64 t.us, Value.int .i64 t.ge, Value.int .i64 t.ep, Value.int .i64 t.ve] 23)
    clear hb l0
    have l0 := r0.lt
    clear c0 c1 c2 c3 c4 c5 c6 c7 c8
    go_wp2
    go_ret
    exact ⟨rfl, hB⟩
  | true =>
    obtain ⟨t, et⟩ : ∃ t, nxS s d a mo = t := ⟨_, rfl⟩
    have CN := next_is hs et hn
    clear et
    by_cases ha : a = s.ow
    · clear hn
      subst ha
      have r0 := RowAt.new w 23 #[Value.int .i64 s.st, Value.int .i64 s.ow, Value.int .i64 s.sr, Value.bool s.br, Value.bool s.ma, Value.int .i64 s.us, Value.int .i64 s.ge, Value.int .i64 s.ep, Value.int .i64 s.ve]
      have hB := (Below.refl w.heap.size w).alloc (Nat.le_refl _) (.cells #[Value.int .i64 s.st, Value.int .i64 s.ow, Value.int .i64 s.sr, Value.bool s.br, Value.bool s.ma, Value.int .i64 s.us, Value.int .i64 s.ge, Value.int .i64 s.ep, Value.int .i64 s.ve] 23)
      have HT := Lib.hid (hT.alloc (.cells #[Value.int .i64 s.st, Value.int .i64 s.ow, Value.int .i64 s.sr, Value.bool s.br, Value.bool s.ma, Value.int .i64 s.us, Value.int .i64 s.ge, Value.int .i64 s.ep, Value.int .i64 s.ve] 23))
      clear hT
      go_enter Tryd.func6, Tryd.ntmps6
      go_wp2_with fail
      refine (awake_any _ HT.out).mono ?_
      rintro e w1 ⟨rfl, hb⟩
      replace r0 := r0.below hb r0.lt
      replace hB := hB.trans (hb.mono hB.size)
      replace HT := Lib.hid (HT.out.below hb HT.out.lt)
      clear hb
      obtain ⟨B1, e1⟩ : ∃ B1, B1 = w.heap.size := ⟨_, rfl⟩
      have hle : w.heap.size ≤ B1 := by omega
      rw [← e1] at r0 ⊢
      clear e1
      have l0 := r0.lt
      have c0 : w1.cell? ⟨B1, 0, none⟩ = some (Value.int .i64 s.st) := r0.cell 0 rfl
      have c1 : w1.cell? ⟨B1, 1, none⟩ = some (Value.int .i64 s.ow) := r0.cell 1 rfl
      have c2 : w1.cell? ⟨B1, 2, none⟩ = some (Value.int .i64 s.sr) := r0.cell 2 rfl
      have c3 : w1.cell? ⟨B1, 3, none⟩ = some (Value.bool s.br) := r0.cell 3 rfl
      have c4 : w1.cell? ⟨B1, 4, none⟩ = some (Value.bool s.ma) := r0.cell 4 rfl
      have c5 : w1.cell? ⟨B1, 5, none⟩ = some (Value.int .i64 s.us) := r0.cell 5 rfl
      have c6 : w1.cell? ⟨B1, 6, none⟩ = some (Value.int .i64 s.ge) := r0.cell 6 rfl
      have c7 : w1.cell? ⟨B1, 7, none⟩ = some (Value.int .i64 s.ep) := r0.cell 7 rfl
      have c8 : w1.cell? ⟨B1, 8, none⟩ = some (Value.int .i64 s.ve) := r0.cell 8 rfl
      go_wp2_with fail
      refine (CN _ HT.out).mono ?_
      rintro e w2 ⟨rfl, hb⟩
      replace r0 := (r0.below hb r0.lt).alloc (.cells #[Value.int .i64 t.st, Value.int .i64 t.ow, Value.int .i64 t.sr, Value.bool t.br, Value.bool t.ma, Value.int .i64 t.us, Value.int .i64 t.ge, Value.int .i64 t.ep, Value.int .i64 t.ve] 23)
      replace hB := (hB.trans (hb.mono hB.size)).alloc (hB.trans (hb.mono hB.size)).size (.cells #[Value.int .i64 t.st, Value.int .i64 t.ow, Value.int .i64 t.sr, Value.bool t.br, Value.bool t.ma, Value.int .i64 t.us, Value.int .i64 t.ge, Value.int .i64 t.ep, Value.int .i64 t.ve] 23)
      clear hb l0
      have l0 := r0.lt
      clear c0 c1 c2 c3 c4 c5 c6 c7 c8
      have k0 : (w2.alloc (.cells #[Value.int .i64 t.st, Value.int .i64 t.ow, Value.int .i64 t.sr, Value.bool t.br, Value.bool t.ma, Value.int .i64 t.us, Value.int .i64 t.ge, Value.int .i64 t.ep, Value.int .i64 t.ve] 23)).cell? ⟨B1, 0, none⟩ = some (Value.int .i64 s.st) := r0.cell 0 rfl
      have k1 : (w2.alloc (.cells #[Value.int .i64 t.st, Value.int .i64 t.ow, Value.int .i64 t.sr, Value.bool t.br, Value.bool t.ma, Value.int .i64 t.us, Value.int .i64 t.ge, Value.int .i64 t.ep, Value.int .i64 t.ve] 23)).cell? ⟨B1, 1, none⟩ = some (Value.int .i64 s.ow) := r0.cell 1 rfl
      go_wp2
      go_ret
      exact ⟨rfl, hB⟩
    · have M := Lib.hid (own_math hs hn ha)
      clear hn
      have r0 := RowAt.new w 23 #[Value.int .i64 s.st, Value.int .i64 s.ow, Value.int .i64 s.sr, Value.bool s.br, Value.bool s.ma, Value.int .i64 s.us, Value.int .i64 s.ge, Value.int .i64 s.ep, Value.int .i64 s.ve]
      have hB := (Below.refl w.heap.size w).alloc (Nat.le_refl _) (.cells #[Value.int .i64 s.st, Value.int .i64 s.ow, Value.int .i64 s.sr, Value.bool s.br, Value.bool s.ma, Value.int .i64 s.us, Value.int .i64 s.ge, Value.int .i64 s.ep, Value.int .i64 s.ve] 23)
      have HT := Lib.hid (hT.alloc (.cells #[Value.int .i64 s.st, Value.int .i64 s.ow, Value.int .i64 s.sr, Value.bool s.br, Value.bool s.ma, Value.int .i64 s.us, Value.int .i64 s.ge, Value.int .i64 s.ep, Value.int .i64 s.ve] 23))
      clear hT
      go_enter Tryd.func6, Tryd.ntmps6
      go_wp2_with fail
      refine (awake_any _ HT.out).mono ?_
      rintro e w1 ⟨rfl, hb⟩
      replace r0 := r0.below hb r0.lt
      replace hB := hB.trans (hb.mono hB.size)
      replace HT := Lib.hid (HT.out.below hb HT.out.lt)
      clear hb
      obtain ⟨B1, e1⟩ : ∃ B1, B1 = w.heap.size := ⟨_, rfl⟩
      have hle : w.heap.size ≤ B1 := by omega
      rw [← e1] at r0 ⊢
      clear e1
      have l0 := r0.lt
      have c0 : w1.cell? ⟨B1, 0, none⟩ = some (Value.int .i64 s.st) := r0.cell 0 rfl
      have c1 : w1.cell? ⟨B1, 1, none⟩ = some (Value.int .i64 s.ow) := r0.cell 1 rfl
      have c2 : w1.cell? ⟨B1, 2, none⟩ = some (Value.int .i64 s.sr) := r0.cell 2 rfl
      have c3 : w1.cell? ⟨B1, 3, none⟩ = some (Value.bool s.br) := r0.cell 3 rfl
      have c4 : w1.cell? ⟨B1, 4, none⟩ = some (Value.bool s.ma) := r0.cell 4 rfl
      have c5 : w1.cell? ⟨B1, 5, none⟩ = some (Value.int .i64 s.us) := r0.cell 5 rfl
      have c6 : w1.cell? ⟨B1, 6, none⟩ = some (Value.int .i64 s.ge) := r0.cell 6 rfl
      have c7 : w1.cell? ⟨B1, 7, none⟩ = some (Value.int .i64 s.ep) := r0.cell 7 rfl
      have c8 : w1.cell? ⟨B1, 8, none⟩ = some (Value.int .i64 s.ve) := r0.cell 8 rfl
      go_wp2_with fail
      refine (CN _ HT.out).mono ?_
      rintro e w2 ⟨rfl, hb⟩
      replace r0 := (r0.below hb r0.lt).alloc (.cells #[Value.int .i64 t.st, Value.int .i64 t.ow, Value.int .i64 t.sr, Value.bool t.br, Value.bool t.ma, Value.int .i64 t.us, Value.int .i64 t.ge, Value.int .i64 t.ep, Value.int .i64 t.ve] 23)
      replace hB := (hB.trans (hb.mono hB.size)).alloc (hB.trans (hb.mono hB.size)).size (.cells #[Value.int .i64 t.st, Value.int .i64 t.ow, Value.int .i64 t.sr, Value.bool t.br, Value.bool t.ma, Value.int .i64 t.us, Value.int .i64 t.ge, Value.int .i64 t.ep, Value.int .i64 t.ve] 23)
      clear hb l0
      have l0 := r0.lt
      clear c0 c1 c2 c3 c4 c5 c6 c7 c8
      have k0 : (w2.alloc (.cells #[Value.int .i64 t.st, Value.int .i64 t.ow, Value.int .i64 t.sr, Value.bool t.br, Value.bool t.ma, Value.int .i64 t.us, Value.int .i64 t.ge, Value.int .i64 t.ep, Value.int .i64 t.ve] 23)).cell? ⟨B1, 0, none⟩ = some (Value.int .i64 s.st) := r0.cell 0 rfl
      have k1 : (w2.alloc (.cells #[Value.int .i64 t.st, Value.int .i64 t.ow, Value.int .i64 t.sr, Value.bool t.br, Value.bool t.ma, Value.int .i64 t.us, Value.int .i64 t.ge, Value.int .i64 t.ep, Value.int .i64 t.ve] 23)).cell? ⟨B1, 1, none⟩ = some (Value.int .i64 s.ow) := r0.cell 1 rfl
      go_wp2
      all_goals go_ret
      all_goals (have m := M.out; clear M CN; refine ⟨ret_bool ?_, hB⟩)
      all_goals (clear hB HT r0 k0 k1)
      all_goals first
        | rfl
        | (simp only [Bool.or_eq_true, beq_iff_eq, beq_eq_false_iff_ne, ne_eq] at *; omega)
        | (exfalso; simp only [Bool.or_eq_true, beq_iff_eq, beq_eq_false_iff_ne, ne_eq] at *; omega)
end Go.Proofs.YtdiipmejkanhfaaDoor
