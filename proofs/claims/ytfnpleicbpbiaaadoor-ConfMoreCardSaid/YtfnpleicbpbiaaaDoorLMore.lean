/- The law ConfMore, walked. -/
import Derived.Test.YtfnpleicbpbiaaaDoorAwake
namespace Go.Proofs.YtfnpleicbpbiaaaDoor
open Go.RowKit
attribute [local go_sem ↓] Go.wp_at_zero Go.wp_at_succ

/-- a conf by small numbers -/
structure Few (c : Cf) : Prop where
  wo : 1 ≤ c.wo ∧ c.wo ≤ 4
  sl : 1 ≤ c.sl ∧ c.sl ≤ 5
  st : 0 ≤ c.st ∧ c.st ≤ 3
  wa : 0 ≤ c.wa ∧ c.wa ≤ 3
  us : 1 ≤ c.us ∧ c.us ≤ 4
theorem Few.rc {c : Cf} (h : Few c) : Rc c := by
  obtain ⟨h1, h2, h3, h4, h5⟩ := h
  exact ⟨by omega, by omega, by omega, by omega, by omega⟩
def RetConf (w : World) (e : Ending) (w' : World) : Prop := ∃ c, Few c ∧ e = .returned (Value.agg #[Value.int .i64 c.wo, Value.int .i64 c.sl, Value.int .i64 c.st, Value.int .i64 c.wa, Value.int .i64 c.us]) ∧ Below w.heap.size w w'
set_option maxRecDepth 100000 in
set_option maxHeartbeats 2000000 in
theorem conf_any (a1 a2 a3 a4 a5 : Int) (w : World) (h1 : 0 ≤ a1 ∧ a1 ≤ 255) (h2 : 0 ≤ a2 ∧ a2 ≤ 255) (h3 : 0 ≤ a3 ∧ a3 ≤ 255) (h4 : 0 ≤ a4 ∧ a4 ≤ 255) (h5 : 0 ≤ a5 ∧ a5 ≤ 255) :
    Calls Tryd.prog 26 #[Value.agg #[Value.int .u8 a1, Value.int .u8 a2, Value.int .u8 a3, Value.int .u8 a4, Value.int .u8 a5]] w (RetConf w) := by
  have hB : Below w.heap.size w ((w.alloc (.cells #[Value.int .u8 a1, Value.int .u8 a2, Value.int .u8 a3, Value.int .u8 a4, Value.int .u8 a5] 42)).alloc (.cells #[Value.int .i64 0, Value.int .i64 0, Value.int .i64 0, Value.int .i64 0, Value.int .i64 0] 23)) := ((Below.refl _ _).alloc (Nat.le_refl _) _).alloc (by simp) _
  have r1 := new2 w (.cells #[Value.int .u8 a1, Value.int .u8 a2, Value.int .u8 a3, Value.int .u8 a4, Value.int .u8 a5] 42) 23 #[Value.int .i64 0, Value.int .i64 0, Value.int .i64 0, Value.int .i64 0, Value.int .i64 0]
  go_enter Tryd.func26, Tryd.ntmps26
  go_wp2_with (refine wpList_store_row rfl 23 _ _ rfl _ #[.int .i64 (1 + a1 % 4), .int .i64 (1 + a2 % 5), .int .i64 (a3 % 4), .int .i64 (a4 % 4), .int .i64 (1 + a5 % 4)] rfl rfl 23 _ r1 (by kernel_rfl) rfl (by simp [Value.oneCell']) ?_)
  refine bodyPost_ret (results_cell_row (p := 2) (ty := 23) rfl _ _ (w.heap.size + 1) 23 _ (0, 0) _ rfl (r1.set _) Tryd.underlying23 rfl (by kernel_rfl)) rfl ?_
  exact ⟨⟨1 + a1 % 4, 1 + a2 % 5, a3 % 4, a4 % 4, 1 + a5 % 4⟩, ⟨by simp only; omega, by simp only; omega, by simp only; omega, by simp only; omega, by simp only; omega⟩, rfl, below_setRow hB (by simp) _⟩
def cD (c : Cf) : Cf := ⟨c.wo + 1, c.sl, c.st, c.wa, c.us⟩
def cF (c : Cf) : Cf := ⟨c.wo, c.sl + 1, c.st, c.wa, c.us⟩
theorem Few.rcD {c : Cf} (h : Few c) : Rc (cD c) := by
  obtain ⟨h1, h2, h3, h4, h5⟩ := h
  exact ⟨by simp only [cD]; omega, by simp only [cD]; omega, by simp only [cD]; omega, by simp only [cD]; omega, by simp only [cD]; omega⟩
theorem Few.rcF {c : Cf} (h : Few c) : Rc (cF c) := by
  obtain ⟨h1, h2, h3, h4, h5⟩ := h
  exact ⟨by simp only [cF]; omega, by simp only [cF]; omega, by simp only [cF]; omega, by simp only [cF]; omega, by simp only [cF]; omega⟩
theorem cell_in {f m i : Int} (h : 0 ≤ i ∧ i < m) : cellI f m i = f + i := by
  unfold cellI wiB
  rw [if_pos (by simp; omega)]
set_option maxRecDepth 100000 in
set_option maxHeartbeats 2000000 in
theorem lmore_any (a1 a2 a3 a4 a5 i x : Int) (w : World) (hT : Tab w) (h1 : 0 ≤ a1 ∧ a1 ≤ 255) (h2 : 0 ≤ a2 ∧ a2 ≤ 255) (h3 : 0 ≤ a3 ∧ a3 ≤ 255) (h4 : 0 ≤ a4 ∧ a4 ≤ 255) (h5 : 0 ≤ a5 ∧ a5 ≤ 255) (hi : 0 ≤ i ∧ i ≤ 255) (hx : 0 ≤ x ∧ x ≤ 255) :
    Calls Tryd.prog 6 #[Value.agg #[Value.int .u8 a1, Value.int .u8 a2, Value.int .u8 a3, Value.int .u8 a4, Value.int .u8 a5], .int .u8 i, .int .u8 x] w fun e w' => e = .returned (.bool true) ∧ Below w.heap.size w w' := by
  have hB : Below w.heap.size w (w.alloc (.cells #[Value.int .u8 a1, Value.int .u8 a2, Value.int .u8 a3, Value.int .u8 a4, Value.int .u8 a5] 42)) := (Below.refl _ _).alloc (Nat.le_refl _) _
  have r0 := RowAt.new w 42 #[Value.int .u8 a1, Value.int .u8 a2, Value.int .u8 a3, Value.int .u8 a4, Value.int .u8 a5]
  have HT := Lib.hid (hT.below hB hT.lt)
  clear hT
  go_enter Tryd.func6, Tryd.ntmps6
  go_wp2_with fail
  refine (awake_any _ HT.out).mono ?_
  rintro e w1 ⟨rfl, hb⟩
  replace r0 := r0.below hb r0.lt
  replace hB := hB.trans (hb.mono hB.size)
  clear hb HT
  go_wp2_with (refine wpList_load_row rfl 42 _ rfl _ rfl 42 _ (0, 0) _ r0 Tryd.underlying42 rfl (by kernel_rfl) ?_)
  refine (conf_any a1 a2 a3 a4 a5 _ h1 h2 h3 h4 h5).mono ?_
  rintro e w2 ⟨c, hc, rfl, hb⟩
  replace hB := hB.trans (hb.mono hB.size)
  have Hc := Lib.hid hc
  have q1 := hc.wo
  have q2 := hc.sl
  clear hb r0 hc
  go_wp2_with fail
  obtain ⟨k, ek⟩ : ∃ k, k = i % c.sl := ⟨_, rfl⟩
  obtain ⟨y, ey⟩ : ∃ y, y = x % c.wo := ⟨_, rfl⟩
  have hk : 0 ≤ k ∧ k < c.sl := by rw [ek]; exact ⟨Int.emod_nonneg _ (by omega), Int.emod_lt_of_pos _ (by omega)⟩
  have hy : 0 ≤ y ∧ y < c.wo := by rw [ey]; exact ⟨Int.emod_nonneg _ (by omega), Int.emod_lt_of_pos _ (by omega)⟩
  rw [← ek, ← ey]
  clear ek ey
  obtain ⟨A, eA⟩ : ∃ A, A = 3 + c.wo + c.wo + k := ⟨_, rfl⟩
  obtain ⟨G, eG⟩ : ∃ G, G = 3 + c.wo + y := ⟨_, rfl⟩
  obtain ⟨X, eX⟩ : ∃ X, X = 3 + y := ⟨_, rfl⟩
  obtain ⟨M, eM⟩ : ∃ M, M = 3 + c.wo + c.wo + c.sl := ⟨_, rfl⟩
  have z1 : IntKind.i64.wrap (A + 2) = A + 2 := IntWalk.i64_in _ (by omega)
  have z2 : IntKind.i64.wrap (G + 1) = G + 1 := IntWalk.i64_in _ (by omega)
  have z3 : IntKind.i64.wrap (M + 1) = M + 1 := IntWalk.i64_in _ (by omega)
  have z4 : IntKind.i64.wrap (M + 2) = M + 2 := IntWalk.i64_in _ (by omega)
  have KSd := Lib.hid (fun w : World => (show slotI (cD c) k = A + 2 by rw [eA]; unfold slotI; rw [cell_in (by simp only [cD]; omega)]; simp only [cD]; omega) ▸ slot_any (cD c) k w Hc.out.rcD)
  have KSc := Lib.hid (fun w : World => (show slotI c k = A by rw [eA]; unfold slotI; rw [cell_in (by omega)]) ▸ slot_any c k w Hc.out.rc)
  have KPd := Lib.hid (fun w : World => (show pinI (cD c) y = X by rw [eX]; unfold pinI; rw [cell_in (by simp only [cD]; omega)]) ▸ pin_any (cD c) y w Hc.out.rcD)
  have KPc := Lib.hid (fun w : World => (show pinI c y = X by rw [eX]; unfold pinI; rw [cell_in (by omega)]) ▸ pin_any c y w Hc.out.rc)
  have KGd := Lib.hid (fun w : World => (show grantI (cD c) y = G + 1 by rw [eG]; unfold grantI; rw [cell_in (by simp only [cD]; omega)]; simp only [cD]; omega) ▸ grant_any (cD c) y w Hc.out.rcD)
  have KGc := Lib.hid (fun w : World => (show grantI c y = G by rw [eG]; unfold grantI; rw [cell_in (by omega)]) ▸ grant_any c y w Hc.out.rc)
  have KSf := Lib.hid (fun w : World => (show slotI (cF c) k = A by rw [eA]; unfold slotI; rw [cell_in (by simp only [cF]; omega)]; simp only [cF]) ▸ slot_any (cF c) k w Hc.out.rcF)
  have KSl := Lib.hid (fun w : World => (show slotI (cF c) c.sl = M by rw [eM]; unfold slotI; rw [cell_in (by simp only [cF]; omega)]; simp only [cF]) ▸ slot_any (cF c) c.sl w Hc.out.rcF)
  have KMf := Lib.hid (fun w : World => (show cellsI (cF c) = M + 1 by rw [eM]; simp only [cellsI, cF]; omega) ▸ cells_any (cF c) w Hc.out.rcF)
  have KMc := Lib.hid (fun w : World => (show cellsI c = M by rw [eM]; rfl) ▸ cells_any c w Hc.out.rc)
  have KMd := Lib.hid (fun w : World => (show cellsI (cD c) = M + 2 by rw [eM]; simp only [cellsI, cD]; omega) ▸ cells_any (cD c) w Hc.out.rcD)
  clear eA eG eX eM hk hy q1 q2
  have rc := (((RowAt.new w2 23 #[Value.int .i64 c.wo, Value.int .i64 c.sl, Value.int .i64 c.st, Value.int .i64 c.wa, Value.int .i64 c.us]).alloc (.cells #[Value.int .i64 (c.wo + 1), Value.int .i64 c.sl, Value.int .i64 c.st, Value.int .i64 c.wa, Value.int .i64 c.us] 23)).alloc (.cells #[Value.int .i64 c.wo, Value.int .i64 (c.sl + 1), Value.int .i64 c.st, Value.int .i64 c.wa, Value.int .i64 c.us] 23)).drew
  have rd := ((new2 w2 (.cells #[Value.int .i64 c.wo, Value.int .i64 c.sl, Value.int .i64 c.st, Value.int .i64 c.wa, Value.int .i64 c.us] 23) 23 #[Value.int .i64 (c.wo + 1), Value.int .i64 c.sl, Value.int .i64 c.st, Value.int .i64 c.wa, Value.int .i64 c.us]).alloc (.cells #[Value.int .i64 c.wo, Value.int .i64 (c.sl + 1), Value.int .i64 c.st, Value.int .i64 c.wa, Value.int .i64 c.us] 23)).drew
  have rf := (new3 w2 (.cells #[Value.int .i64 c.wo, Value.int .i64 c.sl, Value.int .i64 c.st, Value.int .i64 c.wa, Value.int .i64 c.us] 23) (.cells #[Value.int .i64 (c.wo + 1), Value.int .i64 c.sl, Value.int .i64 c.st, Value.int .i64 c.wa, Value.int .i64 c.us] 23) 23 #[Value.int .i64 c.wo, Value.int .i64 (c.sl + 1), Value.int .i64 c.st, Value.int .i64 c.wa, Value.int .i64 c.us]).drew
  replace hB := (((hB.alloc hB.size (.cells #[Value.int .i64 c.wo, Value.int .i64 c.sl, Value.int .i64 c.st, Value.int .i64 c.wa, Value.int .i64 c.us] 23)).alloc (by have := hB.size; simp; omega) (.cells #[Value.int .i64 (c.wo + 1), Value.int .i64 c.sl, Value.int .i64 c.st, Value.int .i64 c.wa, Value.int .i64 c.us] 23)).alloc (by have := hB.size; simp; omega) (.cells #[Value.int .i64 c.wo, Value.int .i64 (c.sl + 1), Value.int .i64 c.st, Value.int .i64 c.wa, Value.int .i64 c.us] 23)).drew
  obtain ⟨Bf, e3⟩ : ∃ Bf, Bf = w2.heap.size + 1 + 1 := ⟨_, rfl⟩
  obtain ⟨Bd, e2⟩ : ∃ Bd, Bd = w2.heap.size + 1 := ⟨_, rfl⟩
  obtain ⟨Bc, e1⟩ : ∃ Bc, Bc = w2.heap.size := ⟨_, rfl⟩
  rw [← e3] at rf ⊢
  rw [← e2] at rd ⊢
  rw [← e1] at rc ⊢
  clear e1 e2 e3
  have c0_0 : (((w2.alloc (.cells #[Value.int .i64 c.wo, Value.int .i64 c.sl, Value.int .i64 c.st, Value.int .i64 c.wa, Value.int .i64 c.us] 23)).alloc (.cells #[Value.int .i64 (c.wo + 1), Value.int .i64 c.sl, Value.int .i64 c.st, Value.int .i64 c.wa, Value.int .i64 c.us] 23)).alloc (.cells #[Value.int .i64 c.wo, Value.int .i64 (c.sl + 1), Value.int .i64 c.st, Value.int .i64 c.wa, Value.int .i64 c.us] 23)).drew.cell? ⟨Bc, 0, none⟩ = some (Value.int .i64 c.wo) := rc.cell 0 rfl
  have c0_1 : (((w2.alloc (.cells #[Value.int .i64 c.wo, Value.int .i64 c.sl, Value.int .i64 c.st, Value.int .i64 c.wa, Value.int .i64 c.us] 23)).alloc (.cells #[Value.int .i64 (c.wo + 1), Value.int .i64 c.sl, Value.int .i64 c.st, Value.int .i64 c.wa, Value.int .i64 c.us] 23)).alloc (.cells #[Value.int .i64 c.wo, Value.int .i64 (c.sl + 1), Value.int .i64 c.st, Value.int .i64 c.wa, Value.int .i64 c.us] 23)).drew.cell? ⟨Bc, 1, none⟩ = some (Value.int .i64 c.sl) := rc.cell 1 rfl
  have c0_2 : (((w2.alloc (.cells #[Value.int .i64 c.wo, Value.int .i64 c.sl, Value.int .i64 c.st, Value.int .i64 c.wa, Value.int .i64 c.us] 23)).alloc (.cells #[Value.int .i64 (c.wo + 1), Value.int .i64 c.sl, Value.int .i64 c.st, Value.int .i64 c.wa, Value.int .i64 c.us] 23)).alloc (.cells #[Value.int .i64 c.wo, Value.int .i64 (c.sl + 1), Value.int .i64 c.st, Value.int .i64 c.wa, Value.int .i64 c.us] 23)).drew.cell? ⟨Bc, 2, none⟩ = some (Value.int .i64 c.st) := rc.cell 2 rfl
  have c0_3 : (((w2.alloc (.cells #[Value.int .i64 c.wo, Value.int .i64 c.sl, Value.int .i64 c.st, Value.int .i64 c.wa, Value.int .i64 c.us] 23)).alloc (.cells #[Value.int .i64 (c.wo + 1), Value.int .i64 c.sl, Value.int .i64 c.st, Value.int .i64 c.wa, Value.int .i64 c.us] 23)).alloc (.cells #[Value.int .i64 c.wo, Value.int .i64 (c.sl + 1), Value.int .i64 c.st, Value.int .i64 c.wa, Value.int .i64 c.us] 23)).drew.cell? ⟨Bc, 3, none⟩ = some (Value.int .i64 c.wa) := rc.cell 3 rfl
  have c0_4 : (((w2.alloc (.cells #[Value.int .i64 c.wo, Value.int .i64 c.sl, Value.int .i64 c.st, Value.int .i64 c.wa, Value.int .i64 c.us] 23)).alloc (.cells #[Value.int .i64 (c.wo + 1), Value.int .i64 c.sl, Value.int .i64 c.st, Value.int .i64 c.wa, Value.int .i64 c.us] 23)).alloc (.cells #[Value.int .i64 c.wo, Value.int .i64 (c.sl + 1), Value.int .i64 c.st, Value.int .i64 c.wa, Value.int .i64 c.us] 23)).drew.cell? ⟨Bc, 4, none⟩ = some (Value.int .i64 c.us) := rc.cell 4 rfl
  have d0_0 : (((w2.alloc (.cells #[Value.int .i64 c.wo, Value.int .i64 c.sl, Value.int .i64 c.st, Value.int .i64 c.wa, Value.int .i64 c.us] 23)).alloc (.cells #[Value.int .i64 (c.wo + 1), Value.int .i64 c.sl, Value.int .i64 c.st, Value.int .i64 c.wa, Value.int .i64 c.us] 23)).alloc (.cells #[Value.int .i64 c.wo, Value.int .i64 (c.sl + 1), Value.int .i64 c.st, Value.int .i64 c.wa, Value.int .i64 c.us] 23)).drew.cell? ⟨Bd, 0, none⟩ = some (Value.int .i64 (c.wo + 1)) := rd.cell 0 rfl
  have d0_1 : (((w2.alloc (.cells #[Value.int .i64 c.wo, Value.int .i64 c.sl, Value.int .i64 c.st, Value.int .i64 c.wa, Value.int .i64 c.us] 23)).alloc (.cells #[Value.int .i64 (c.wo + 1), Value.int .i64 c.sl, Value.int .i64 c.st, Value.int .i64 c.wa, Value.int .i64 c.us] 23)).alloc (.cells #[Value.int .i64 c.wo, Value.int .i64 (c.sl + 1), Value.int .i64 c.st, Value.int .i64 c.wa, Value.int .i64 c.us] 23)).drew.cell? ⟨Bd, 1, none⟩ = some (Value.int .i64 c.sl) := rd.cell 1 rfl
  have d0_2 : (((w2.alloc (.cells #[Value.int .i64 c.wo, Value.int .i64 c.sl, Value.int .i64 c.st, Value.int .i64 c.wa, Value.int .i64 c.us] 23)).alloc (.cells #[Value.int .i64 (c.wo + 1), Value.int .i64 c.sl, Value.int .i64 c.st, Value.int .i64 c.wa, Value.int .i64 c.us] 23)).alloc (.cells #[Value.int .i64 c.wo, Value.int .i64 (c.sl + 1), Value.int .i64 c.st, Value.int .i64 c.wa, Value.int .i64 c.us] 23)).drew.cell? ⟨Bd, 2, none⟩ = some (Value.int .i64 c.st) := rd.cell 2 rfl
  have d0_3 : (((w2.alloc (.cells #[Value.int .i64 c.wo, Value.int .i64 c.sl, Value.int .i64 c.st, Value.int .i64 c.wa, Value.int .i64 c.us] 23)).alloc (.cells #[Value.int .i64 (c.wo + 1), Value.int .i64 c.sl, Value.int .i64 c.st, Value.int .i64 c.wa, Value.int .i64 c.us] 23)).alloc (.cells #[Value.int .i64 c.wo, Value.int .i64 (c.sl + 1), Value.int .i64 c.st, Value.int .i64 c.wa, Value.int .i64 c.us] 23)).drew.cell? ⟨Bd, 3, none⟩ = some (Value.int .i64 c.wa) := rd.cell 3 rfl
  have d0_4 : (((w2.alloc (.cells #[Value.int .i64 c.wo, Value.int .i64 c.sl, Value.int .i64 c.st, Value.int .i64 c.wa, Value.int .i64 c.us] 23)).alloc (.cells #[Value.int .i64 (c.wo + 1), Value.int .i64 c.sl, Value.int .i64 c.st, Value.int .i64 c.wa, Value.int .i64 c.us] 23)).alloc (.cells #[Value.int .i64 c.wo, Value.int .i64 (c.sl + 1), Value.int .i64 c.st, Value.int .i64 c.wa, Value.int .i64 c.us] 23)).drew.cell? ⟨Bd, 4, none⟩ = some (Value.int .i64 c.us) := rd.cell 4 rfl
  have f0_0 : (((w2.alloc (.cells #[Value.int .i64 c.wo, Value.int .i64 c.sl, Value.int .i64 c.st, Value.int .i64 c.wa, Value.int .i64 c.us] 23)).alloc (.cells #[Value.int .i64 (c.wo + 1), Value.int .i64 c.sl, Value.int .i64 c.st, Value.int .i64 c.wa, Value.int .i64 c.us] 23)).alloc (.cells #[Value.int .i64 c.wo, Value.int .i64 (c.sl + 1), Value.int .i64 c.st, Value.int .i64 c.wa, Value.int .i64 c.us] 23)).drew.cell? ⟨Bf, 0, none⟩ = some (Value.int .i64 c.wo) := rf.cell 0 rfl
  have f0_1 : (((w2.alloc (.cells #[Value.int .i64 c.wo, Value.int .i64 c.sl, Value.int .i64 c.st, Value.int .i64 c.wa, Value.int .i64 c.us] 23)).alloc (.cells #[Value.int .i64 (c.wo + 1), Value.int .i64 c.sl, Value.int .i64 c.st, Value.int .i64 c.wa, Value.int .i64 c.us] 23)).alloc (.cells #[Value.int .i64 c.wo, Value.int .i64 (c.sl + 1), Value.int .i64 c.st, Value.int .i64 c.wa, Value.int .i64 c.us] 23)).drew.cell? ⟨Bf, 1, none⟩ = some (Value.int .i64 (c.sl + 1)) := rf.cell 1 rfl
  have f0_2 : (((w2.alloc (.cells #[Value.int .i64 c.wo, Value.int .i64 c.sl, Value.int .i64 c.st, Value.int .i64 c.wa, Value.int .i64 c.us] 23)).alloc (.cells #[Value.int .i64 (c.wo + 1), Value.int .i64 c.sl, Value.int .i64 c.st, Value.int .i64 c.wa, Value.int .i64 c.us] 23)).alloc (.cells #[Value.int .i64 c.wo, Value.int .i64 (c.sl + 1), Value.int .i64 c.st, Value.int .i64 c.wa, Value.int .i64 c.us] 23)).drew.cell? ⟨Bf, 2, none⟩ = some (Value.int .i64 c.st) := rf.cell 2 rfl
  have f0_3 : (((w2.alloc (.cells #[Value.int .i64 c.wo, Value.int .i64 c.sl, Value.int .i64 c.st, Value.int .i64 c.wa, Value.int .i64 c.us] 23)).alloc (.cells #[Value.int .i64 (c.wo + 1), Value.int .i64 c.sl, Value.int .i64 c.st, Value.int .i64 c.wa, Value.int .i64 c.us] 23)).alloc (.cells #[Value.int .i64 c.wo, Value.int .i64 (c.sl + 1), Value.int .i64 c.st, Value.int .i64 c.wa, Value.int .i64 c.us] 23)).drew.cell? ⟨Bf, 3, none⟩ = some (Value.int .i64 c.wa) := rf.cell 3 rfl
  have f0_4 : (((w2.alloc (.cells #[Value.int .i64 c.wo, Value.int .i64 c.sl, Value.int .i64 c.st, Value.int .i64 c.wa, Value.int .i64 c.us] 23)).alloc (.cells #[Value.int .i64 (c.wo + 1), Value.int .i64 c.sl, Value.int .i64 c.st, Value.int .i64 c.wa, Value.int .i64 c.us] 23)).alloc (.cells #[Value.int .i64 c.wo, Value.int .i64 (c.sl + 1), Value.int .i64 c.st, Value.int .i64 c.wa, Value.int .i64 c.us] 23)).drew.cell? ⟨Bf, 4, none⟩ = some (Value.int .i64 c.us) := rf.cell 4 rfl
  refine wp_region_held_drew (S := (fun w' => w'.cell? ⟨Bc, 0, none⟩ = some (Value.int .i64 c.wo) ∧ w'.cell? ⟨Bc, 1, none⟩ = some (Value.int .i64 c.sl) ∧ w'.cell? ⟨Bc, 2, none⟩ = some (Value.int .i64 c.st) ∧ w'.cell? ⟨Bc, 3, none⟩ = some (Value.int .i64 c.wa) ∧ w'.cell? ⟨Bc, 4, none⟩ = some (Value.int .i64 c.us) ∧ w'.cell? ⟨Bd, 0, none⟩ = some (Value.int .i64 (c.wo + 1)) ∧ w'.cell? ⟨Bd, 1, none⟩ = some (Value.int .i64 c.sl) ∧ w'.cell? ⟨Bd, 2, none⟩ = some (Value.int .i64 c.st) ∧ w'.cell? ⟨Bd, 3, none⟩ = some (Value.int .i64 c.wa) ∧ w'.cell? ⟨Bd, 4, none⟩ = some (Value.int .i64 c.us) ∧ w'.cell? ⟨Bf, 0, none⟩ = some (Value.int .i64 c.wo) ∧ w'.cell? ⟨Bf, 1, none⟩ = some (Value.int .i64 (c.sl + 1)) ∧ w'.cell? ⟨Bf, 2, none⟩ = some (Value.int .i64 c.st) ∧ w'.cell? ⟨Bf, 3, none⟩ = some (Value.int .i64 c.wa) ∧ w'.cell? ⟨Bf, 4, none⟩ = some (Value.int .i64 c.us))) (by kernel_rfl) ⟨c0_0, c0_1, c0_2, c0_3, c0_4, d0_0, d0_1, d0_2, d0_3, d0_4, f0_0, f0_1, f0_2, f0_3, f0_4⟩ (fun hS => ?_)
  generalize (((w2.alloc (.cells #[Value.int .i64 c.wo, Value.int .i64 c.sl, Value.int .i64 c.st, Value.int .i64 c.wa, Value.int .i64 c.us] 23)).alloc (.cells #[Value.int .i64 (c.wo + 1), Value.int .i64 c.sl, Value.int .i64 c.st, Value.int .i64 c.wa, Value.int .i64 c.us] 23)).alloc (.cells #[Value.int .i64 c.wo, Value.int .i64 (c.sl + 1), Value.int .i64 c.st, Value.int .i64 c.wa, Value.int .i64 c.us] 23)).drew = WD at *
  refine wpAnyH_take (i := 0) (oi := { dst := some 36, op := Op.move (Operand.tmp 7), type := 4, pos := "law.go:91", after := #[], guard := none }) (v := ?v0_31) rfl (by kernel_rfl) (by kernel_rfl) (by kernel_rfl) (fun _ _ _ h => h) (Or.inl ⟨by rfl, ?hy0_31⟩) hS ?rest0_31
  case hy0_31 =>
    intro w hSw
    (try dsimp only at hSw)
    go_simp
    try with_reducible rfl
  try simp only [Act.put, List.setIfInBounds_toArray, List.set_cons_zero, List.set_cons_succ]
  refine wpAnyH_take (i := 1) (oi := { dst := some 37, op := Op.move (Operand.tmp 36), type := 4, pos := "law.go:91", after := #[{ on := 0, ground := Ground.data }], guard := none }) (v := ?v1_32) rfl (by kernel_rfl) (by kernel_rfl) (by kernel_rfl) (fun _ _ _ h => h) (Or.inl ⟨by rfl, ?hy1_32⟩) hS ?rest1_32
  case hy1_32 =>
    intro w hSw
    (try dsimp only at hSw)
    go_simp
    try with_reducible rfl
  try simp only [Act.put, List.setIfInBounds_toArray, List.set_cons_zero, List.set_cons_succ]
  refine wpAnyH_take (i := 2) (oi := { dst := some 38, op := Op.load 23 (Operand.tmp 11), type := 23, pos := "law.go:91", after := #[{ on := 1, ground := Ground.guard }], guard := some (1, true) }) (v := ?v2_33) rfl (by kernel_rfl) (by kernel_rfl) (by kernel_rfl) (fun _ _ _ h => h) (Or.inl ⟨by rfl, ?hy2_33⟩) hS ?rest2_33
  case hy2_33 =>
    intro w hSw
    (try dsimp only at hSw)
    go_simp
    try with_reducible rfl
  try simp only [Act.put, List.setIfInBounds_toArray, List.set_cons_zero, List.set_cons_succ]
  refine wpAnyH_take (i := 3) (oi := { dst := some 39, op := Op.move (Operand.tmp 9), type := 3, pos := "law.go:91", after := #[{ on := 1, ground := Ground.guard }], guard := some (1, true) }) (v := ?v3_34) rfl (by kernel_rfl) (by kernel_rfl) (by kernel_rfl) (fun _ _ _ h => h) (Or.inl ⟨by rfl, ?hy3_34⟩) hS ?rest3_34
  case hy3_34 =>
    intro w hSw
    (try dsimp only at hSw)
    go_simp
    try with_reducible rfl
  try simp only [Act.put, List.setIfInBounds_toArray, List.set_cons_zero, List.set_cons_succ]
  refine wpAnyH_take (i := 5) (oi := { dst := some 41, op := Op.load 23 (Operand.tmp 8), type := 23, pos := "law.go:91", after := #[{ on := 1, ground := Ground.guard }], guard := some (1, true) }) (v := ?v5_35) rfl (by kernel_rfl) (by kernel_rfl) (by kernel_rfl) (fun _ _ _ h => h) (Or.inl ⟨by rfl, ?hy5_35⟩) hS ?rest5_35
  case hy5_35 =>
    intro w hSw
    (try dsimp only at hSw)
    go_simp
    try with_reducible rfl
  try simp only [Act.put, List.setIfInBounds_toArray, List.set_cons_zero, List.set_cons_succ]
  refine wpAnyH_take (i := 6) (oi := { dst := some 42, op := Op.move (Operand.tmp 9), type := 3, pos := "law.go:91", after := #[{ on := 1, ground := Ground.guard }], guard := some (1, true) }) (v := ?v6_36) rfl (by kernel_rfl) (by kernel_rfl) (by kernel_rfl) (fun _ _ _ h => h) (Or.inl ⟨by rfl, ?hy6_36⟩) hS ?rest6_36
  case hy6_36 =>
    intro w hSw
    (try dsimp only at hSw)
    go_simp
    try with_reducible rfl
  try simp only [Act.put, List.setIfInBounds_toArray, List.set_cons_zero, List.set_cons_succ]
  refine wpAnyH_ready (rs := [4]) (by kernel_rfl) (by simp) ?_
  refine AllReadyH.cons (o := { dst := some 40, op := Op.call { callee := Callee.value (Operand.func 17), args := #[Operand.tmp 38, Operand.tmp 39], argTypes := #[23, 3] }, type := 3, pos := "law.go:91", after := #[{ on := 2, ground := Ground.data }, { on := 3, ground := Ground.data }, { on := 1, ground := Ground.chain }, { on := 1, ground := Ground.guard }], guard := some (1, true) }) rfl (fun K hK => ?_) AllReadyH.nil
  go_simp
  refine (KSd.out _).mono ?_
  rintro e u1 ⟨rfl, hb⟩
  have rc1 := rc.below hb rc.lt
  have rd1 := rd.below hb rd.lt
  have rf1 := rf.below hb rf.lt
  have hB1 := hB.trans (hb.mono hB.size)
  clear hb
  have c1_0 : u1.cell? ⟨Bc, 0, none⟩ = some (Value.int .i64 c.wo) := rc1.cell 0 rfl
  have c1_1 : u1.cell? ⟨Bc, 1, none⟩ = some (Value.int .i64 c.sl) := rc1.cell 1 rfl
  have c1_2 : u1.cell? ⟨Bc, 2, none⟩ = some (Value.int .i64 c.st) := rc1.cell 2 rfl
  have c1_3 : u1.cell? ⟨Bc, 3, none⟩ = some (Value.int .i64 c.wa) := rc1.cell 3 rfl
  have c1_4 : u1.cell? ⟨Bc, 4, none⟩ = some (Value.int .i64 c.us) := rc1.cell 4 rfl
  have d1_0 : u1.cell? ⟨Bd, 0, none⟩ = some (Value.int .i64 (c.wo + 1)) := rd1.cell 0 rfl
  have d1_1 : u1.cell? ⟨Bd, 1, none⟩ = some (Value.int .i64 c.sl) := rd1.cell 1 rfl
  have d1_2 : u1.cell? ⟨Bd, 2, none⟩ = some (Value.int .i64 c.st) := rd1.cell 2 rfl
  have d1_3 : u1.cell? ⟨Bd, 3, none⟩ = some (Value.int .i64 c.wa) := rd1.cell 3 rfl
  have d1_4 : u1.cell? ⟨Bd, 4, none⟩ = some (Value.int .i64 c.us) := rd1.cell 4 rfl
  have f1_0 : u1.cell? ⟨Bf, 0, none⟩ = some (Value.int .i64 c.wo) := rf1.cell 0 rfl
  have f1_1 : u1.cell? ⟨Bf, 1, none⟩ = some (Value.int .i64 (c.sl + 1)) := rf1.cell 1 rfl
  have f1_2 : u1.cell? ⟨Bf, 2, none⟩ = some (Value.int .i64 c.st) := rf1.cell 2 rfl
  have f1_3 : u1.cell? ⟨Bf, 3, none⟩ = some (Value.int .i64 c.wa) := rf1.cell 3 rfl
  have f1_4 : u1.cell? ⟨Bf, 4, none⟩ = some (Value.int .i64 c.us) := rf1.cell 4 rfl
  refine hK.out _ _ ⟨c1_0, c1_1, c1_2, c1_3, c1_4, d1_0, d1_1, d1_2, d1_3, d1_4, f1_0, f1_1, f1_2, f1_3, f1_4⟩ (fun hS => ?_)
  clear hK K
  try simp only [Act.put, List.setIfInBounds_toArray, List.set_cons_zero, List.set_cons_succ]
  refine wpAnyH_ready (rs := [7]) (by kernel_rfl) (by simp) ?_
  refine AllReadyH.cons (o := { dst := some 43, op := Op.call { callee := Callee.value (Operand.func 17), args := #[Operand.tmp 41, Operand.tmp 42], argTypes := #[23, 3] }, type := 3, pos := "law.go:91", after := #[{ on := 5, ground := Ground.data }, { on := 6, ground := Ground.data }, { on := 4, ground := Ground.chain }, { on := 1, ground := Ground.guard }], guard := some (1, true) }) rfl (fun K hK => ?_) AllReadyH.nil
  go_simp
  refine (KSc.out _).mono ?_
  rintro e u2 ⟨rfl, hb⟩
  have rc2 := rc1.below hb rc1.lt
  have rd2 := rd1.below hb rd1.lt
  have rf2 := rf1.below hb rf1.lt
  have hB2 := hB1.trans (hb.mono hB1.size)
  clear hb
  have c2_0 : u2.cell? ⟨Bc, 0, none⟩ = some (Value.int .i64 c.wo) := rc2.cell 0 rfl
  have c2_1 : u2.cell? ⟨Bc, 1, none⟩ = some (Value.int .i64 c.sl) := rc2.cell 1 rfl
  have c2_2 : u2.cell? ⟨Bc, 2, none⟩ = some (Value.int .i64 c.st) := rc2.cell 2 rfl
  have c2_3 : u2.cell? ⟨Bc, 3, none⟩ = some (Value.int .i64 c.wa) := rc2.cell 3 rfl
  have c2_4 : u2.cell? ⟨Bc, 4, none⟩ = some (Value.int .i64 c.us) := rc2.cell 4 rfl
  have d2_0 : u2.cell? ⟨Bd, 0, none⟩ = some (Value.int .i64 (c.wo + 1)) := rd2.cell 0 rfl
  have d2_1 : u2.cell? ⟨Bd, 1, none⟩ = some (Value.int .i64 c.sl) := rd2.cell 1 rfl
  have d2_2 : u2.cell? ⟨Bd, 2, none⟩ = some (Value.int .i64 c.st) := rd2.cell 2 rfl
  have d2_3 : u2.cell? ⟨Bd, 3, none⟩ = some (Value.int .i64 c.wa) := rd2.cell 3 rfl
  have d2_4 : u2.cell? ⟨Bd, 4, none⟩ = some (Value.int .i64 c.us) := rd2.cell 4 rfl
  have f2_0 : u2.cell? ⟨Bf, 0, none⟩ = some (Value.int .i64 c.wo) := rf2.cell 0 rfl
  have f2_1 : u2.cell? ⟨Bf, 1, none⟩ = some (Value.int .i64 (c.sl + 1)) := rf2.cell 1 rfl
  have f2_2 : u2.cell? ⟨Bf, 2, none⟩ = some (Value.int .i64 c.st) := rf2.cell 2 rfl
  have f2_3 : u2.cell? ⟨Bf, 3, none⟩ = some (Value.int .i64 c.wa) := rf2.cell 3 rfl
  have f2_4 : u2.cell? ⟨Bf, 4, none⟩ = some (Value.int .i64 c.us) := rf2.cell 4 rfl
  clear rc1 rd1 rf1 hB1 c1_0 c1_1 c1_2 c1_3 c1_4 d1_0 d1_1 d1_2 d1_3 d1_4 f1_0 f1_1 f1_2 f1_3 f1_4
  refine hK.out _ _ ⟨c2_0, c2_1, c2_2, c2_3, c2_4, d2_0, d2_1, d2_2, d2_3, d2_4, f2_0, f2_1, f2_2, f2_3, f2_4⟩ (fun hS => ?_)
  clear hK K
  try simp only [Act.put, List.setIfInBounds_toArray, List.set_cons_zero, List.set_cons_succ]
  refine wpAnyH_take (i := 8) (oi := { dst := some 44, op := Op.binOp BinOp.add 3 (Operand.tmp 43) (Operand.const (Value.int IntKind.i64 2)) 3, type := 3, pos := "law.go:91", after := #[{ on := 7, ground := Ground.data }, { on := 1, ground := Ground.guard }], guard := some (1, true) }) (v := ?v8_37) rfl (by kernel_rfl) (by kernel_rfl) (by kernel_rfl) (fun _ _ _ h => h) (Or.inl ⟨by rfl, ?hy8_37⟩) hS ?rest8_37
  case hy8_37 =>
    intro w hSw
    (try dsimp only at hSw)
    go_simp
    try with_reducible rfl
  try simp only [Act.put, List.setIfInBounds_toArray, List.set_cons_zero, List.set_cons_succ]
  refine wpAnyH_take (i := 9) (oi := { dst := some 45, op := Op.binOp BinOp.eql 3 (Operand.tmp 40) (Operand.tmp 44) 3, type := 4, pos := "law.go:91", after := #[{ on := 4, ground := Ground.data }, { on := 8, ground := Ground.data }, { on := 1, ground := Ground.guard }], guard := some (1, true) }) (v := ?v9_38) rfl (by kernel_rfl) (by kernel_rfl) (by kernel_rfl) (fun _ _ _ h => h) (Or.inl ⟨by rfl, ?hy9_38⟩) hS ?rest9_38
  case hy9_38 =>
    intro w hSw
    (try dsimp only at hSw)
    go_simp
    try with_reducible rfl
  try simp only [Act.put, List.setIfInBounds_toArray, List.set_cons_zero, List.set_cons_succ]
  refine wpAnyH_take (i := 10) (oi := { dst := some 46, op := Op.pick (Operand.tmp 37) (Operand.tmp 45) (Operand.const (Value.bool false)), type := 4, pos := "law.go:91", after := #[{ on := 1, ground := Ground.data }, { on := 9, ground := Ground.data }], guard := none }) (v := ?v10_39) rfl (by kernel_rfl) (by kernel_rfl) (by kernel_rfl) (fun _ _ _ h => h) (Or.inl ⟨by rfl, ?hy10_39⟩) hS ?rest10_39
  case hy10_39 =>
    intro w hSw
    (try dsimp only at hSw)
    go_simp
    try with_reducible rfl
  try simp only [Act.put, List.setIfInBounds_toArray, List.set_cons_zero, List.set_cons_succ]
  refine wpAnyH_take (i := 11) (oi := { dst := some 47, op := Op.move (Operand.tmp 46), type := 4, pos := "law.go:91", after := #[{ on := 10, ground := Ground.data }, { on := 7, ground := Ground.chain }], guard := none }) (v := ?v11_40) rfl (by kernel_rfl) (by kernel_rfl) (by kernel_rfl) (fun _ _ _ h => h) (Or.inl ⟨by rfl, ?hy11_40⟩) hS ?rest11_40
  case hy11_40 =>
    intro w hSw
    (try dsimp only at hSw)
    go_simp
    try with_reducible rfl
  try simp only [Act.put, List.setIfInBounds_toArray, List.set_cons_zero, List.set_cons_succ]
  refine wpAnyH_take (i := 12) (oi := { dst := some 48, op := Op.load 23 (Operand.tmp 11), type := 23, pos := "law.go:91", after := #[{ on := 11, ground := Ground.guard }], guard := some (11, true) }) (v := ?v12_41) rfl (by kernel_rfl) (by kernel_rfl) (by kernel_rfl) (fun _ _ _ h => h) (Or.inl ⟨by rfl, ?hy12_41⟩) hS ?rest12_41
  case hy12_41 =>
    intro w hSw
    (try dsimp only at hSw)
    go_simp
    try with_reducible rfl
  try simp only [Act.put, List.setIfInBounds_toArray, List.set_cons_zero, List.set_cons_succ]
  refine wpAnyH_take (i := 13) (oi := { dst := some 49, op := Op.move (Operand.tmp 10), type := 3, pos := "law.go:91", after := #[{ on := 11, ground := Ground.guard }], guard := some (11, true) }) (v := ?v13_42) rfl (by kernel_rfl) (by kernel_rfl) (by kernel_rfl) (fun _ _ _ h => h) (Or.inl ⟨by rfl, ?hy13_42⟩) hS ?rest13_42
  case hy13_42 =>
    intro w hSw
    (try dsimp only at hSw)
    go_simp
    try with_reducible rfl
  try simp only [Act.put, List.setIfInBounds_toArray, List.set_cons_zero, List.set_cons_succ]
  refine wpAnyH_take (i := 15) (oi := { dst := some 51, op := Op.load 23 (Operand.tmp 8), type := 23, pos := "law.go:91", after := #[{ on := 11, ground := Ground.guard }], guard := some (11, true) }) (v := ?v15_43) rfl (by kernel_rfl) (by kernel_rfl) (by kernel_rfl) (fun _ _ _ h => h) (Or.inl ⟨by rfl, ?hy15_43⟩) hS ?rest15_43
  case hy15_43 =>
    intro w hSw
    (try dsimp only at hSw)
    go_simp
    try with_reducible rfl
  try simp only [Act.put, List.setIfInBounds_toArray, List.set_cons_zero, List.set_cons_succ]
  refine wpAnyH_take (i := 16) (oi := { dst := some 52, op := Op.move (Operand.tmp 10), type := 3, pos := "law.go:91", after := #[{ on := 11, ground := Ground.guard }], guard := some (11, true) }) (v := ?v16_44) rfl (by kernel_rfl) (by kernel_rfl) (by kernel_rfl) (fun _ _ _ h => h) (Or.inl ⟨by rfl, ?hy16_44⟩) hS ?rest16_44
  case hy16_44 =>
    intro w hSw
    (try dsimp only at hSw)
    go_simp
    try with_reducible rfl
  try simp only [Act.put, List.setIfInBounds_toArray, List.set_cons_zero, List.set_cons_succ]
  refine wpAnyH_ready (rs := [14]) (by kernel_rfl) (by simp) ?_
  refine AllReadyH.cons (o := { dst := some 50, op := Op.call { callee := Callee.value (Operand.func 13), args := #[Operand.tmp 48, Operand.tmp 49], argTypes := #[23, 3] }, type := 3, pos := "law.go:91", after := #[{ on := 12, ground := Ground.data }, { on := 13, ground := Ground.data }, { on := 11, ground := Ground.chain }, { on := 11, ground := Ground.guard }], guard := some (11, true) }) rfl (fun K hK => ?_) AllReadyH.nil
  go_simp
  refine (KPd.out _).mono ?_
  rintro e u3 ⟨rfl, hb⟩
  have rc3 := rc2.below hb rc2.lt
  have rd3 := rd2.below hb rd2.lt
  have rf3 := rf2.below hb rf2.lt
  have hB3 := hB2.trans (hb.mono hB2.size)
  clear hb
  have c3_0 : u3.cell? ⟨Bc, 0, none⟩ = some (Value.int .i64 c.wo) := rc3.cell 0 rfl
  have c3_1 : u3.cell? ⟨Bc, 1, none⟩ = some (Value.int .i64 c.sl) := rc3.cell 1 rfl
  have c3_2 : u3.cell? ⟨Bc, 2, none⟩ = some (Value.int .i64 c.st) := rc3.cell 2 rfl
  have c3_3 : u3.cell? ⟨Bc, 3, none⟩ = some (Value.int .i64 c.wa) := rc3.cell 3 rfl
  have c3_4 : u3.cell? ⟨Bc, 4, none⟩ = some (Value.int .i64 c.us) := rc3.cell 4 rfl
  have d3_0 : u3.cell? ⟨Bd, 0, none⟩ = some (Value.int .i64 (c.wo + 1)) := rd3.cell 0 rfl
  have d3_1 : u3.cell? ⟨Bd, 1, none⟩ = some (Value.int .i64 c.sl) := rd3.cell 1 rfl
  have d3_2 : u3.cell? ⟨Bd, 2, none⟩ = some (Value.int .i64 c.st) := rd3.cell 2 rfl
  have d3_3 : u3.cell? ⟨Bd, 3, none⟩ = some (Value.int .i64 c.wa) := rd3.cell 3 rfl
  have d3_4 : u3.cell? ⟨Bd, 4, none⟩ = some (Value.int .i64 c.us) := rd3.cell 4 rfl
  have f3_0 : u3.cell? ⟨Bf, 0, none⟩ = some (Value.int .i64 c.wo) := rf3.cell 0 rfl
  have f3_1 : u3.cell? ⟨Bf, 1, none⟩ = some (Value.int .i64 (c.sl + 1)) := rf3.cell 1 rfl
  have f3_2 : u3.cell? ⟨Bf, 2, none⟩ = some (Value.int .i64 c.st) := rf3.cell 2 rfl
  have f3_3 : u3.cell? ⟨Bf, 3, none⟩ = some (Value.int .i64 c.wa) := rf3.cell 3 rfl
  have f3_4 : u3.cell? ⟨Bf, 4, none⟩ = some (Value.int .i64 c.us) := rf3.cell 4 rfl
  clear rc2 rd2 rf2 hB2 c2_0 c2_1 c2_2 c2_3 c2_4 d2_0 d2_1 d2_2 d2_3 d2_4 f2_0 f2_1 f2_2 f2_3 f2_4
  refine hK.out _ _ ⟨c3_0, c3_1, c3_2, c3_3, c3_4, d3_0, d3_1, d3_2, d3_3, d3_4, f3_0, f3_1, f3_2, f3_3, f3_4⟩ (fun hS => ?_)
  clear hK K
  try simp only [Act.put, List.setIfInBounds_toArray, List.set_cons_zero, List.set_cons_succ]
  refine wpAnyH_ready (rs := [17]) (by kernel_rfl) (by simp) ?_
  refine AllReadyH.cons (o := { dst := some 53, op := Op.call { callee := Callee.value (Operand.func 13), args := #[Operand.tmp 51, Operand.tmp 52], argTypes := #[23, 3] }, type := 3, pos := "law.go:91", after := #[{ on := 15, ground := Ground.data }, { on := 16, ground := Ground.data }, { on := 14, ground := Ground.chain }, { on := 11, ground := Ground.guard }], guard := some (11, true) }) rfl (fun K hK => ?_) AllReadyH.nil
  go_simp
  refine (KPc.out _).mono ?_
  rintro e u4 ⟨rfl, hb⟩
  have rc4 := rc3.below hb rc3.lt
  have rd4 := rd3.below hb rd3.lt
  have rf4 := rf3.below hb rf3.lt
  have hB4 := hB3.trans (hb.mono hB3.size)
  clear hb
  have c4_0 : u4.cell? ⟨Bc, 0, none⟩ = some (Value.int .i64 c.wo) := rc4.cell 0 rfl
  have c4_1 : u4.cell? ⟨Bc, 1, none⟩ = some (Value.int .i64 c.sl) := rc4.cell 1 rfl
  have c4_2 : u4.cell? ⟨Bc, 2, none⟩ = some (Value.int .i64 c.st) := rc4.cell 2 rfl
  have c4_3 : u4.cell? ⟨Bc, 3, none⟩ = some (Value.int .i64 c.wa) := rc4.cell 3 rfl
  have c4_4 : u4.cell? ⟨Bc, 4, none⟩ = some (Value.int .i64 c.us) := rc4.cell 4 rfl
  have d4_0 : u4.cell? ⟨Bd, 0, none⟩ = some (Value.int .i64 (c.wo + 1)) := rd4.cell 0 rfl
  have d4_1 : u4.cell? ⟨Bd, 1, none⟩ = some (Value.int .i64 c.sl) := rd4.cell 1 rfl
  have d4_2 : u4.cell? ⟨Bd, 2, none⟩ = some (Value.int .i64 c.st) := rd4.cell 2 rfl
  have d4_3 : u4.cell? ⟨Bd, 3, none⟩ = some (Value.int .i64 c.wa) := rd4.cell 3 rfl
  have d4_4 : u4.cell? ⟨Bd, 4, none⟩ = some (Value.int .i64 c.us) := rd4.cell 4 rfl
  have f4_0 : u4.cell? ⟨Bf, 0, none⟩ = some (Value.int .i64 c.wo) := rf4.cell 0 rfl
  have f4_1 : u4.cell? ⟨Bf, 1, none⟩ = some (Value.int .i64 (c.sl + 1)) := rf4.cell 1 rfl
  have f4_2 : u4.cell? ⟨Bf, 2, none⟩ = some (Value.int .i64 c.st) := rf4.cell 2 rfl
  have f4_3 : u4.cell? ⟨Bf, 3, none⟩ = some (Value.int .i64 c.wa) := rf4.cell 3 rfl
  have f4_4 : u4.cell? ⟨Bf, 4, none⟩ = some (Value.int .i64 c.us) := rf4.cell 4 rfl
  clear rc3 rd3 rf3 hB3 c3_0 c3_1 c3_2 c3_3 c3_4 d3_0 d3_1 d3_2 d3_3 d3_4 f3_0 f3_1 f3_2 f3_3 f3_4
  refine hK.out _ _ ⟨c4_0, c4_1, c4_2, c4_3, c4_4, d4_0, d4_1, d4_2, d4_3, d4_4, f4_0, f4_1, f4_2, f4_3, f4_4⟩ (fun hS => ?_)
  clear hK K
  try simp only [Act.put, List.setIfInBounds_toArray, List.set_cons_zero, List.set_cons_succ]
  refine wpAnyH_take (i := 18) (oi := { dst := some 54, op := Op.binOp BinOp.eql 3 (Operand.tmp 50) (Operand.tmp 53) 3, type := 4, pos := "law.go:91", after := #[{ on := 14, ground := Ground.data }, { on := 17, ground := Ground.data }, { on := 11, ground := Ground.guard }], guard := some (11, true) }) (v := ?v18_45) rfl (by kernel_rfl) (by kernel_rfl) (by kernel_rfl) (fun _ _ _ h => h) (Or.inl ⟨by rfl, ?hy18_45⟩) hS ?rest18_45
  case hy18_45 =>
    intro w hSw
    (try dsimp only at hSw)
    go_simp
    try with_reducible rfl
  try simp only [Act.put, List.setIfInBounds_toArray, List.set_cons_zero, List.set_cons_succ]
  refine wpAnyH_take (i := 19) (oi := { dst := some 55, op := Op.pick (Operand.tmp 47) (Operand.tmp 54) (Operand.const (Value.bool false)), type := 4, pos := "law.go:91", after := #[{ on := 11, ground := Ground.data }, { on := 18, ground := Ground.data }], guard := none }) (v := ?v19_46) rfl (by kernel_rfl) (by kernel_rfl) (by kernel_rfl) (fun _ _ _ h => h) (Or.inl ⟨by rfl, ?hy19_46⟩) hS ?rest19_46
  case hy19_46 =>
    intro w hSw
    (try dsimp only at hSw)
    go_simp
    try with_reducible rfl
  try simp only [Act.put, List.setIfInBounds_toArray, List.set_cons_zero, List.set_cons_succ]
  refine wpAnyH_take (i := 20) (oi := { dst := some 56, op := Op.move (Operand.tmp 55), type := 4, pos := "law.go:91", after := #[{ on := 19, ground := Ground.data }, { on := 17, ground := Ground.chain }], guard := none }) (v := ?v20_47) rfl (by kernel_rfl) (by kernel_rfl) (by kernel_rfl) (fun _ _ _ h => h) (Or.inl ⟨by rfl, ?hy20_47⟩) hS ?rest20_47
  case hy20_47 =>
    intro w hSw
    (try dsimp only at hSw)
    go_simp
    try with_reducible rfl
  try simp only [Act.put, List.setIfInBounds_toArray, List.set_cons_zero, List.set_cons_succ]
  refine wpAnyH_take (i := 21) (oi := { dst := some 57, op := Op.load 23 (Operand.tmp 11), type := 23, pos := "law.go:91", after := #[{ on := 20, ground := Ground.guard }], guard := some (20, true) }) (v := ?v21_48) rfl (by kernel_rfl) (by kernel_rfl) (by kernel_rfl) (fun _ _ _ h => h) (Or.inl ⟨by rfl, ?hy21_48⟩) hS ?rest21_48
  case hy21_48 =>
    intro w hSw
    (try dsimp only at hSw)
    go_simp
    try with_reducible rfl
  try simp only [Act.put, List.setIfInBounds_toArray, List.set_cons_zero, List.set_cons_succ]
  refine wpAnyH_take (i := 22) (oi := { dst := some 58, op := Op.move (Operand.tmp 10), type := 3, pos := "law.go:91", after := #[{ on := 20, ground := Ground.guard }], guard := some (20, true) }) (v := ?v22_49) rfl (by kernel_rfl) (by kernel_rfl) (by kernel_rfl) (fun _ _ _ h => h) (Or.inl ⟨by rfl, ?hy22_49⟩) hS ?rest22_49
  case hy22_49 =>
    intro w hSw
    (try dsimp only at hSw)
    go_simp
    try with_reducible rfl
  try simp only [Act.put, List.setIfInBounds_toArray, List.set_cons_zero, List.set_cons_succ]
  refine wpAnyH_take (i := 24) (oi := { dst := some 60, op := Op.load 23 (Operand.tmp 8), type := 23, pos := "law.go:91", after := #[{ on := 20, ground := Ground.guard }], guard := some (20, true) }) (v := ?v24_50) rfl (by kernel_rfl) (by kernel_rfl) (by kernel_rfl) (fun _ _ _ h => h) (Or.inl ⟨by rfl, ?hy24_50⟩) hS ?rest24_50
  case hy24_50 =>
    intro w hSw
    (try dsimp only at hSw)
    go_simp
    try with_reducible rfl
  try simp only [Act.put, List.setIfInBounds_toArray, List.set_cons_zero, List.set_cons_succ]
  refine wpAnyH_take (i := 25) (oi := { dst := some 61, op := Op.move (Operand.tmp 10), type := 3, pos := "law.go:91", after := #[{ on := 20, ground := Ground.guard }], guard := some (20, true) }) (v := ?v25_51) rfl (by kernel_rfl) (by kernel_rfl) (by kernel_rfl) (fun _ _ _ h => h) (Or.inl ⟨by rfl, ?hy25_51⟩) hS ?rest25_51
  case hy25_51 =>
    intro w hSw
    (try dsimp only at hSw)
    go_simp
    try with_reducible rfl
  try simp only [Act.put, List.setIfInBounds_toArray, List.set_cons_zero, List.set_cons_succ]
  refine wpAnyH_ready (rs := [23]) (by kernel_rfl) (by simp) ?_
  refine AllReadyH.cons (o := { dst := some 59, op := Op.call { callee := Callee.value (Operand.func 15), args := #[Operand.tmp 57, Operand.tmp 58], argTypes := #[23, 3] }, type := 3, pos := "law.go:91", after := #[{ on := 21, ground := Ground.data }, { on := 22, ground := Ground.data }, { on := 20, ground := Ground.chain }, { on := 20, ground := Ground.guard }], guard := some (20, true) }) rfl (fun K hK => ?_) AllReadyH.nil
  go_simp
  refine (KGd.out _).mono ?_
  rintro e u5 ⟨rfl, hb⟩
  have rc5 := rc4.below hb rc4.lt
  have rd5 := rd4.below hb rd4.lt
  have rf5 := rf4.below hb rf4.lt
  have hB5 := hB4.trans (hb.mono hB4.size)
  clear hb
  have c5_0 : u5.cell? ⟨Bc, 0, none⟩ = some (Value.int .i64 c.wo) := rc5.cell 0 rfl
  have c5_1 : u5.cell? ⟨Bc, 1, none⟩ = some (Value.int .i64 c.sl) := rc5.cell 1 rfl
  have c5_2 : u5.cell? ⟨Bc, 2, none⟩ = some (Value.int .i64 c.st) := rc5.cell 2 rfl
  have c5_3 : u5.cell? ⟨Bc, 3, none⟩ = some (Value.int .i64 c.wa) := rc5.cell 3 rfl
  have c5_4 : u5.cell? ⟨Bc, 4, none⟩ = some (Value.int .i64 c.us) := rc5.cell 4 rfl
  have d5_0 : u5.cell? ⟨Bd, 0, none⟩ = some (Value.int .i64 (c.wo + 1)) := rd5.cell 0 rfl
  have d5_1 : u5.cell? ⟨Bd, 1, none⟩ = some (Value.int .i64 c.sl) := rd5.cell 1 rfl
  have d5_2 : u5.cell? ⟨Bd, 2, none⟩ = some (Value.int .i64 c.st) := rd5.cell 2 rfl
  have d5_3 : u5.cell? ⟨Bd, 3, none⟩ = some (Value.int .i64 c.wa) := rd5.cell 3 rfl
  have d5_4 : u5.cell? ⟨Bd, 4, none⟩ = some (Value.int .i64 c.us) := rd5.cell 4 rfl
  have f5_0 : u5.cell? ⟨Bf, 0, none⟩ = some (Value.int .i64 c.wo) := rf5.cell 0 rfl
  have f5_1 : u5.cell? ⟨Bf, 1, none⟩ = some (Value.int .i64 (c.sl + 1)) := rf5.cell 1 rfl
  have f5_2 : u5.cell? ⟨Bf, 2, none⟩ = some (Value.int .i64 c.st) := rf5.cell 2 rfl
  have f5_3 : u5.cell? ⟨Bf, 3, none⟩ = some (Value.int .i64 c.wa) := rf5.cell 3 rfl
  have f5_4 : u5.cell? ⟨Bf, 4, none⟩ = some (Value.int .i64 c.us) := rf5.cell 4 rfl
  clear rc4 rd4 rf4 hB4 c4_0 c4_1 c4_2 c4_3 c4_4 d4_0 d4_1 d4_2 d4_3 d4_4 f4_0 f4_1 f4_2 f4_3 f4_4
  refine hK.out _ _ ⟨c5_0, c5_1, c5_2, c5_3, c5_4, d5_0, d5_1, d5_2, d5_3, d5_4, f5_0, f5_1, f5_2, f5_3, f5_4⟩ (fun hS => ?_)
  clear hK K
  try simp only [Act.put, List.setIfInBounds_toArray, List.set_cons_zero, List.set_cons_succ]
  refine wpAnyH_ready (rs := [26]) (by kernel_rfl) (by simp) ?_
  refine AllReadyH.cons (o := { dst := some 62, op := Op.call { callee := Callee.value (Operand.func 15), args := #[Operand.tmp 60, Operand.tmp 61], argTypes := #[23, 3] }, type := 3, pos := "law.go:91", after := #[{ on := 24, ground := Ground.data }, { on := 25, ground := Ground.data }, { on := 23, ground := Ground.chain }, { on := 20, ground := Ground.guard }], guard := some (20, true) }) rfl (fun K hK => ?_) AllReadyH.nil
  go_simp
  refine (KGc.out _).mono ?_
  rintro e u6 ⟨rfl, hb⟩
  have rc6 := rc5.below hb rc5.lt
  have rd6 := rd5.below hb rd5.lt
  have rf6 := rf5.below hb rf5.lt
  have hB6 := hB5.trans (hb.mono hB5.size)
  clear hb
  have c6_0 : u6.cell? ⟨Bc, 0, none⟩ = some (Value.int .i64 c.wo) := rc6.cell 0 rfl
  have c6_1 : u6.cell? ⟨Bc, 1, none⟩ = some (Value.int .i64 c.sl) := rc6.cell 1 rfl
  have c6_2 : u6.cell? ⟨Bc, 2, none⟩ = some (Value.int .i64 c.st) := rc6.cell 2 rfl
  have c6_3 : u6.cell? ⟨Bc, 3, none⟩ = some (Value.int .i64 c.wa) := rc6.cell 3 rfl
  have c6_4 : u6.cell? ⟨Bc, 4, none⟩ = some (Value.int .i64 c.us) := rc6.cell 4 rfl
  have d6_0 : u6.cell? ⟨Bd, 0, none⟩ = some (Value.int .i64 (c.wo + 1)) := rd6.cell 0 rfl
  have d6_1 : u6.cell? ⟨Bd, 1, none⟩ = some (Value.int .i64 c.sl) := rd6.cell 1 rfl
  have d6_2 : u6.cell? ⟨Bd, 2, none⟩ = some (Value.int .i64 c.st) := rd6.cell 2 rfl
  have d6_3 : u6.cell? ⟨Bd, 3, none⟩ = some (Value.int .i64 c.wa) := rd6.cell 3 rfl
  have d6_4 : u6.cell? ⟨Bd, 4, none⟩ = some (Value.int .i64 c.us) := rd6.cell 4 rfl
  have f6_0 : u6.cell? ⟨Bf, 0, none⟩ = some (Value.int .i64 c.wo) := rf6.cell 0 rfl
  have f6_1 : u6.cell? ⟨Bf, 1, none⟩ = some (Value.int .i64 (c.sl + 1)) := rf6.cell 1 rfl
  have f6_2 : u6.cell? ⟨Bf, 2, none⟩ = some (Value.int .i64 c.st) := rf6.cell 2 rfl
  have f6_3 : u6.cell? ⟨Bf, 3, none⟩ = some (Value.int .i64 c.wa) := rf6.cell 3 rfl
  have f6_4 : u6.cell? ⟨Bf, 4, none⟩ = some (Value.int .i64 c.us) := rf6.cell 4 rfl
  clear rc5 rd5 rf5 hB5 c5_0 c5_1 c5_2 c5_3 c5_4 d5_0 d5_1 d5_2 d5_3 d5_4 f5_0 f5_1 f5_2 f5_3 f5_4
  refine hK.out _ _ ⟨c6_0, c6_1, c6_2, c6_3, c6_4, d6_0, d6_1, d6_2, d6_3, d6_4, f6_0, f6_1, f6_2, f6_3, f6_4⟩ (fun hS => ?_)
  clear hK K
  try simp only [Act.put, List.setIfInBounds_toArray, List.set_cons_zero, List.set_cons_succ]
  refine wpAnyH_take (i := 27) (oi := { dst := some 63, op := Op.binOp BinOp.add 3 (Operand.tmp 62) (Operand.const (Value.int IntKind.i64 1)) 3, type := 3, pos := "law.go:91", after := #[{ on := 26, ground := Ground.data }, { on := 20, ground := Ground.guard }], guard := some (20, true) }) (v := ?v27_52) rfl (by kernel_rfl) (by kernel_rfl) (by kernel_rfl) (fun _ _ _ h => h) (Or.inl ⟨by rfl, ?hy27_52⟩) hS ?rest27_52
  case hy27_52 =>
    intro w hSw
    (try dsimp only at hSw)
    go_simp
    try with_reducible rfl
  try simp only [Act.put, List.setIfInBounds_toArray, List.set_cons_zero, List.set_cons_succ]
  refine wpAnyH_take (i := 28) (oi := { dst := some 64, op := Op.binOp BinOp.eql 3 (Operand.tmp 59) (Operand.tmp 63) 3, type := 4, pos := "law.go:91", after := #[{ on := 23, ground := Ground.data }, { on := 27, ground := Ground.data }, { on := 20, ground := Ground.guard }], guard := some (20, true) }) (v := ?v28_53) rfl (by kernel_rfl) (by kernel_rfl) (by kernel_rfl) (fun _ _ _ h => h) (Or.inl ⟨by rfl, ?hy28_53⟩) hS ?rest28_53
  case hy28_53 =>
    intro w hSw
    (try dsimp only at hSw)
    go_simp
    try with_reducible rfl
  try simp only [Act.put, List.setIfInBounds_toArray, List.set_cons_zero, List.set_cons_succ]
  refine wpAnyH_take (i := 29) (oi := { dst := some 65, op := Op.pick (Operand.tmp 56) (Operand.tmp 64) (Operand.const (Value.bool false)), type := 4, pos := "law.go:91", after := #[{ on := 20, ground := Ground.data }, { on := 28, ground := Ground.data }], guard := none }) (v := ?v29_54) rfl (by kernel_rfl) (by kernel_rfl) (by kernel_rfl) (fun _ _ _ h => h) (Or.inl ⟨by rfl, ?hy29_54⟩) hS ?rest29_54
  case hy29_54 =>
    intro w hSw
    (try dsimp only at hSw)
    go_simp
    try with_reducible rfl
  try simp only [Act.put, List.setIfInBounds_toArray, List.set_cons_zero, List.set_cons_succ]
  refine wpAnyH_take (i := 30) (oi := { dst := some 66, op := Op.move (Operand.tmp 65), type := 4, pos := "law.go:91", after := #[{ on := 29, ground := Ground.data }, { on := 26, ground := Ground.chain }], guard := none }) (v := ?v30_55) rfl (by kernel_rfl) (by kernel_rfl) (by kernel_rfl) (fun _ _ _ h => h) (Or.inl ⟨by rfl, ?hy30_55⟩) hS ?rest30_55
  case hy30_55 =>
    intro w hSw
    (try dsimp only at hSw)
    go_simp
    try with_reducible rfl
  try simp only [Act.put, List.setIfInBounds_toArray, List.set_cons_zero, List.set_cons_succ]
  refine wpAnyH_take (i := 31) (oi := { dst := some 67, op := Op.load 23 (Operand.tmp 12), type := 23, pos := "law.go:91", after := #[{ on := 30, ground := Ground.guard }], guard := some (30, true) }) (v := ?v31_56) rfl (by kernel_rfl) (by kernel_rfl) (by kernel_rfl) (fun _ _ _ h => h) (Or.inl ⟨by rfl, ?hy31_56⟩) hS ?rest31_56
  case hy31_56 =>
    intro w hSw
    (try dsimp only at hSw)
    go_simp
    try with_reducible rfl
  try simp only [Act.put, List.setIfInBounds_toArray, List.set_cons_zero, List.set_cons_succ]
  refine wpAnyH_take (i := 32) (oi := { dst := some 68, op := Op.move (Operand.tmp 9), type := 3, pos := "law.go:91", after := #[{ on := 30, ground := Ground.guard }], guard := some (30, true) }) (v := ?v32_57) rfl (by kernel_rfl) (by kernel_rfl) (by kernel_rfl) (fun _ _ _ h => h) (Or.inl ⟨by rfl, ?hy32_57⟩) hS ?rest32_57
  case hy32_57 =>
    intro w hSw
    (try dsimp only at hSw)
    go_simp
    try with_reducible rfl
  try simp only [Act.put, List.setIfInBounds_toArray, List.set_cons_zero, List.set_cons_succ]
  refine wpAnyH_take (i := 34) (oi := { dst := some 70, op := Op.load 23 (Operand.tmp 8), type := 23, pos := "law.go:91", after := #[{ on := 30, ground := Ground.guard }], guard := some (30, true) }) (v := ?v34_58) rfl (by kernel_rfl) (by kernel_rfl) (by kernel_rfl) (fun _ _ _ h => h) (Or.inl ⟨by rfl, ?hy34_58⟩) hS ?rest34_58
  case hy34_58 =>
    intro w hSw
    (try dsimp only at hSw)
    go_simp
    try with_reducible rfl
  try simp only [Act.put, List.setIfInBounds_toArray, List.set_cons_zero, List.set_cons_succ]
  refine wpAnyH_take (i := 35) (oi := { dst := some 71, op := Op.move (Operand.tmp 9), type := 3, pos := "law.go:91", after := #[{ on := 30, ground := Ground.guard }], guard := some (30, true) }) (v := ?v35_59) rfl (by kernel_rfl) (by kernel_rfl) (by kernel_rfl) (fun _ _ _ h => h) (Or.inl ⟨by rfl, ?hy35_59⟩) hS ?rest35_59
  case hy35_59 =>
    intro w hSw
    (try dsimp only at hSw)
    go_simp
    try with_reducible rfl
  try simp only [Act.put, List.setIfInBounds_toArray, List.set_cons_zero, List.set_cons_succ]
  refine wpAnyH_ready (rs := [33]) (by kernel_rfl) (by simp) ?_
  refine AllReadyH.cons (o := { dst := some 69, op := Op.call { callee := Callee.value (Operand.func 17), args := #[Operand.tmp 67, Operand.tmp 68], argTypes := #[23, 3] }, type := 3, pos := "law.go:91", after := #[{ on := 31, ground := Ground.data }, { on := 32, ground := Ground.data }, { on := 30, ground := Ground.chain }, { on := 30, ground := Ground.guard }], guard := some (30, true) }) rfl (fun K hK => ?_) AllReadyH.nil
  go_simp
  refine (KSf.out _).mono ?_
  rintro e u7 ⟨rfl, hb⟩
  have rc7 := rc6.below hb rc6.lt
  have rd7 := rd6.below hb rd6.lt
  have rf7 := rf6.below hb rf6.lt
  have hB7 := hB6.trans (hb.mono hB6.size)
  clear hb
  have c7_0 : u7.cell? ⟨Bc, 0, none⟩ = some (Value.int .i64 c.wo) := rc7.cell 0 rfl
  have c7_1 : u7.cell? ⟨Bc, 1, none⟩ = some (Value.int .i64 c.sl) := rc7.cell 1 rfl
  have c7_2 : u7.cell? ⟨Bc, 2, none⟩ = some (Value.int .i64 c.st) := rc7.cell 2 rfl
  have c7_3 : u7.cell? ⟨Bc, 3, none⟩ = some (Value.int .i64 c.wa) := rc7.cell 3 rfl
  have c7_4 : u7.cell? ⟨Bc, 4, none⟩ = some (Value.int .i64 c.us) := rc7.cell 4 rfl
  have d7_0 : u7.cell? ⟨Bd, 0, none⟩ = some (Value.int .i64 (c.wo + 1)) := rd7.cell 0 rfl
  have d7_1 : u7.cell? ⟨Bd, 1, none⟩ = some (Value.int .i64 c.sl) := rd7.cell 1 rfl
  have d7_2 : u7.cell? ⟨Bd, 2, none⟩ = some (Value.int .i64 c.st) := rd7.cell 2 rfl
  have d7_3 : u7.cell? ⟨Bd, 3, none⟩ = some (Value.int .i64 c.wa) := rd7.cell 3 rfl
  have d7_4 : u7.cell? ⟨Bd, 4, none⟩ = some (Value.int .i64 c.us) := rd7.cell 4 rfl
  have f7_0 : u7.cell? ⟨Bf, 0, none⟩ = some (Value.int .i64 c.wo) := rf7.cell 0 rfl
  have f7_1 : u7.cell? ⟨Bf, 1, none⟩ = some (Value.int .i64 (c.sl + 1)) := rf7.cell 1 rfl
  have f7_2 : u7.cell? ⟨Bf, 2, none⟩ = some (Value.int .i64 c.st) := rf7.cell 2 rfl
  have f7_3 : u7.cell? ⟨Bf, 3, none⟩ = some (Value.int .i64 c.wa) := rf7.cell 3 rfl
  have f7_4 : u7.cell? ⟨Bf, 4, none⟩ = some (Value.int .i64 c.us) := rf7.cell 4 rfl
  clear rc6 rd6 rf6 hB6 c6_0 c6_1 c6_2 c6_3 c6_4 d6_0 d6_1 d6_2 d6_3 d6_4 f6_0 f6_1 f6_2 f6_3 f6_4
  refine hK.out _ _ ⟨c7_0, c7_1, c7_2, c7_3, c7_4, d7_0, d7_1, d7_2, d7_3, d7_4, f7_0, f7_1, f7_2, f7_3, f7_4⟩ (fun hS => ?_)
  clear hK K
  try simp only [Act.put, List.setIfInBounds_toArray, List.set_cons_zero, List.set_cons_succ]
  refine wpAnyH_ready (rs := [36]) (by kernel_rfl) (by simp) ?_
  refine AllReadyH.cons (o := { dst := some 72, op := Op.call { callee := Callee.value (Operand.func 17), args := #[Operand.tmp 70, Operand.tmp 71], argTypes := #[23, 3] }, type := 3, pos := "law.go:91", after := #[{ on := 34, ground := Ground.data }, { on := 35, ground := Ground.data }, { on := 33, ground := Ground.chain }, { on := 30, ground := Ground.guard }], guard := some (30, true) }) rfl (fun K hK => ?_) AllReadyH.nil
  go_simp
  refine (KSc.out _).mono ?_
  rintro e u8 ⟨rfl, hb⟩
  have rc8 := rc7.below hb rc7.lt
  have rd8 := rd7.below hb rd7.lt
  have rf8 := rf7.below hb rf7.lt
  have hB8 := hB7.trans (hb.mono hB7.size)
  clear hb
  have c8_0 : u8.cell? ⟨Bc, 0, none⟩ = some (Value.int .i64 c.wo) := rc8.cell 0 rfl
  have c8_1 : u8.cell? ⟨Bc, 1, none⟩ = some (Value.int .i64 c.sl) := rc8.cell 1 rfl
  have c8_2 : u8.cell? ⟨Bc, 2, none⟩ = some (Value.int .i64 c.st) := rc8.cell 2 rfl
  have c8_3 : u8.cell? ⟨Bc, 3, none⟩ = some (Value.int .i64 c.wa) := rc8.cell 3 rfl
  have c8_4 : u8.cell? ⟨Bc, 4, none⟩ = some (Value.int .i64 c.us) := rc8.cell 4 rfl
  have d8_0 : u8.cell? ⟨Bd, 0, none⟩ = some (Value.int .i64 (c.wo + 1)) := rd8.cell 0 rfl
  have d8_1 : u8.cell? ⟨Bd, 1, none⟩ = some (Value.int .i64 c.sl) := rd8.cell 1 rfl
  have d8_2 : u8.cell? ⟨Bd, 2, none⟩ = some (Value.int .i64 c.st) := rd8.cell 2 rfl
  have d8_3 : u8.cell? ⟨Bd, 3, none⟩ = some (Value.int .i64 c.wa) := rd8.cell 3 rfl
  have d8_4 : u8.cell? ⟨Bd, 4, none⟩ = some (Value.int .i64 c.us) := rd8.cell 4 rfl
  have f8_0 : u8.cell? ⟨Bf, 0, none⟩ = some (Value.int .i64 c.wo) := rf8.cell 0 rfl
  have f8_1 : u8.cell? ⟨Bf, 1, none⟩ = some (Value.int .i64 (c.sl + 1)) := rf8.cell 1 rfl
  have f8_2 : u8.cell? ⟨Bf, 2, none⟩ = some (Value.int .i64 c.st) := rf8.cell 2 rfl
  have f8_3 : u8.cell? ⟨Bf, 3, none⟩ = some (Value.int .i64 c.wa) := rf8.cell 3 rfl
  have f8_4 : u8.cell? ⟨Bf, 4, none⟩ = some (Value.int .i64 c.us) := rf8.cell 4 rfl
  clear rc7 rd7 rf7 hB7 c7_0 c7_1 c7_2 c7_3 c7_4 d7_0 d7_1 d7_2 d7_3 d7_4 f7_0 f7_1 f7_2 f7_3 f7_4
  refine hK.out _ _ ⟨c8_0, c8_1, c8_2, c8_3, c8_4, d8_0, d8_1, d8_2, d8_3, d8_4, f8_0, f8_1, f8_2, f8_3, f8_4⟩ (fun hS => ?_)
  clear hK K
  try simp only [Act.put, List.setIfInBounds_toArray, List.set_cons_zero, List.set_cons_succ]
  refine wpAnyH_take (i := 37) (oi := { dst := some 73, op := Op.binOp BinOp.eql 3 (Operand.tmp 69) (Operand.tmp 72) 3, type := 4, pos := "law.go:91", after := #[{ on := 33, ground := Ground.data }, { on := 36, ground := Ground.data }, { on := 30, ground := Ground.guard }], guard := some (30, true) }) (v := ?v37_60) rfl (by kernel_rfl) (by kernel_rfl) (by kernel_rfl) (fun _ _ _ h => h) (Or.inl ⟨by rfl, ?hy37_60⟩) hS ?rest37_60
  case hy37_60 =>
    intro w hSw
    (try dsimp only at hSw)
    go_simp
    try with_reducible rfl
  try simp only [Act.put, List.setIfInBounds_toArray, List.set_cons_zero, List.set_cons_succ]
  refine wpAnyH_take (i := 38) (oi := { dst := some 74, op := Op.pick (Operand.tmp 66) (Operand.tmp 73) (Operand.const (Value.bool false)), type := 4, pos := "law.go:91", after := #[{ on := 30, ground := Ground.data }, { on := 37, ground := Ground.data }], guard := none }) (v := ?v38_61) rfl (by kernel_rfl) (by kernel_rfl) (by kernel_rfl) (fun _ _ _ h => h) (Or.inl ⟨by rfl, ?hy38_61⟩) hS ?rest38_61
  case hy38_61 =>
    intro w hSw
    (try dsimp only at hSw)
    go_simp
    try with_reducible rfl
  try simp only [Act.put, List.setIfInBounds_toArray, List.set_cons_zero, List.set_cons_succ]
  refine wpAnyH_take (i := 39) (oi := { dst := some 75, op := Op.move (Operand.tmp 74), type := 4, pos := "law.go:91", after := #[{ on := 38, ground := Ground.data }, { on := 36, ground := Ground.chain }], guard := none }) (v := ?v39_62) rfl (by kernel_rfl) (by kernel_rfl) (by kernel_rfl) (fun _ _ _ h => h) (Or.inl ⟨by rfl, ?hy39_62⟩) hS ?rest39_62
  case hy39_62 =>
    intro w hSw
    (try dsimp only at hSw)
    go_simp
    try with_reducible rfl
  try simp only [Act.put, List.setIfInBounds_toArray, List.set_cons_zero, List.set_cons_succ]
  refine wpAnyH_take (i := 40) (oi := { dst := some 76, op := Op.load 23 (Operand.tmp 12), type := 23, pos := "law.go:91", after := #[{ on := 39, ground := Ground.guard }], guard := some (39, true) }) (v := ?v40_63) rfl (by kernel_rfl) (by kernel_rfl) (by kernel_rfl) (fun _ _ _ h => h) (Or.inl ⟨by rfl, ?hy40_63⟩) hS ?rest40_63
  case hy40_63 =>
    intro w hSw
    (try dsimp only at hSw)
    go_simp
    try with_reducible rfl
  try simp only [Act.put, List.setIfInBounds_toArray, List.set_cons_zero, List.set_cons_succ]
  refine wpAnyH_take (i := 42) (oi := { dst := some 78, op := Op.load 23 (Operand.tmp 8), type := 23, pos := "law.go:91", after := #[{ on := 39, ground := Ground.guard }], guard := some (39, true) }) (v := ?v42_64) rfl (by kernel_rfl) (by kernel_rfl) (by kernel_rfl) (fun _ _ _ h => h) (Or.inl ⟨by rfl, ?hy42_64⟩) hS ?rest42_64
  case hy42_64 =>
    intro w hSw
    (try dsimp only at hSw)
    go_simp
    try with_reducible rfl
  try simp only [Act.put, List.setIfInBounds_toArray, List.set_cons_zero, List.set_cons_succ]
  refine wpAnyH_ready (rs := [41]) (by kernel_rfl) (by simp) ?_
  refine AllReadyH.cons (o := { dst := some 77, op := Op.call { callee := Callee.value (Operand.func 11), args := #[Operand.tmp 76], argTypes := #[23] }, type := 3, pos := "law.go:91", after := #[{ on := 40, ground := Ground.data }, { on := 39, ground := Ground.chain }, { on := 39, ground := Ground.guard }], guard := some (39, true) }) rfl (fun K hK => ?_) AllReadyH.nil
  go_simp
  refine (KMf.out _).mono ?_
  rintro e u9 ⟨rfl, hb⟩
  have rc9 := rc8.below hb rc8.lt
  have rd9 := rd8.below hb rd8.lt
  have rf9 := rf8.below hb rf8.lt
  have hB9 := hB8.trans (hb.mono hB8.size)
  clear hb
  have c9_0 : u9.cell? ⟨Bc, 0, none⟩ = some (Value.int .i64 c.wo) := rc9.cell 0 rfl
  have c9_1 : u9.cell? ⟨Bc, 1, none⟩ = some (Value.int .i64 c.sl) := rc9.cell 1 rfl
  have c9_2 : u9.cell? ⟨Bc, 2, none⟩ = some (Value.int .i64 c.st) := rc9.cell 2 rfl
  have c9_3 : u9.cell? ⟨Bc, 3, none⟩ = some (Value.int .i64 c.wa) := rc9.cell 3 rfl
  have c9_4 : u9.cell? ⟨Bc, 4, none⟩ = some (Value.int .i64 c.us) := rc9.cell 4 rfl
  have d9_0 : u9.cell? ⟨Bd, 0, none⟩ = some (Value.int .i64 (c.wo + 1)) := rd9.cell 0 rfl
  have d9_1 : u9.cell? ⟨Bd, 1, none⟩ = some (Value.int .i64 c.sl) := rd9.cell 1 rfl
  have d9_2 : u9.cell? ⟨Bd, 2, none⟩ = some (Value.int .i64 c.st) := rd9.cell 2 rfl
  have d9_3 : u9.cell? ⟨Bd, 3, none⟩ = some (Value.int .i64 c.wa) := rd9.cell 3 rfl
  have d9_4 : u9.cell? ⟨Bd, 4, none⟩ = some (Value.int .i64 c.us) := rd9.cell 4 rfl
  have f9_0 : u9.cell? ⟨Bf, 0, none⟩ = some (Value.int .i64 c.wo) := rf9.cell 0 rfl
  have f9_1 : u9.cell? ⟨Bf, 1, none⟩ = some (Value.int .i64 (c.sl + 1)) := rf9.cell 1 rfl
  have f9_2 : u9.cell? ⟨Bf, 2, none⟩ = some (Value.int .i64 c.st) := rf9.cell 2 rfl
  have f9_3 : u9.cell? ⟨Bf, 3, none⟩ = some (Value.int .i64 c.wa) := rf9.cell 3 rfl
  have f9_4 : u9.cell? ⟨Bf, 4, none⟩ = some (Value.int .i64 c.us) := rf9.cell 4 rfl
  clear rc8 rd8 rf8 hB8 c8_0 c8_1 c8_2 c8_3 c8_4 d8_0 d8_1 d8_2 d8_3 d8_4 f8_0 f8_1 f8_2 f8_3 f8_4
  refine hK.out _ _ ⟨c9_0, c9_1, c9_2, c9_3, c9_4, d9_0, d9_1, d9_2, d9_3, d9_4, f9_0, f9_1, f9_2, f9_3, f9_4⟩ (fun hS => ?_)
  clear hK K
  try simp only [Act.put, List.setIfInBounds_toArray, List.set_cons_zero, List.set_cons_succ]
  refine wpAnyH_ready (rs := [43]) (by kernel_rfl) (by simp) ?_
  refine AllReadyH.cons (o := { dst := some 79, op := Op.call { callee := Callee.value (Operand.func 11), args := #[Operand.tmp 78], argTypes := #[23] }, type := 3, pos := "law.go:91", after := #[{ on := 42, ground := Ground.data }, { on := 41, ground := Ground.chain }, { on := 39, ground := Ground.guard }], guard := some (39, true) }) rfl (fun K hK => ?_) AllReadyH.nil
  go_simp
  refine (KMc.out _).mono ?_
  rintro e u10 ⟨rfl, hb⟩
  have rc10 := rc9.below hb rc9.lt
  have rd10 := rd9.below hb rd9.lt
  have rf10 := rf9.below hb rf9.lt
  have hB10 := hB9.trans (hb.mono hB9.size)
  clear hb
  have c10_0 : u10.cell? ⟨Bc, 0, none⟩ = some (Value.int .i64 c.wo) := rc10.cell 0 rfl
  have c10_1 : u10.cell? ⟨Bc, 1, none⟩ = some (Value.int .i64 c.sl) := rc10.cell 1 rfl
  have c10_2 : u10.cell? ⟨Bc, 2, none⟩ = some (Value.int .i64 c.st) := rc10.cell 2 rfl
  have c10_3 : u10.cell? ⟨Bc, 3, none⟩ = some (Value.int .i64 c.wa) := rc10.cell 3 rfl
  have c10_4 : u10.cell? ⟨Bc, 4, none⟩ = some (Value.int .i64 c.us) := rc10.cell 4 rfl
  have d10_0 : u10.cell? ⟨Bd, 0, none⟩ = some (Value.int .i64 (c.wo + 1)) := rd10.cell 0 rfl
  have d10_1 : u10.cell? ⟨Bd, 1, none⟩ = some (Value.int .i64 c.sl) := rd10.cell 1 rfl
  have d10_2 : u10.cell? ⟨Bd, 2, none⟩ = some (Value.int .i64 c.st) := rd10.cell 2 rfl
  have d10_3 : u10.cell? ⟨Bd, 3, none⟩ = some (Value.int .i64 c.wa) := rd10.cell 3 rfl
  have d10_4 : u10.cell? ⟨Bd, 4, none⟩ = some (Value.int .i64 c.us) := rd10.cell 4 rfl
  have f10_0 : u10.cell? ⟨Bf, 0, none⟩ = some (Value.int .i64 c.wo) := rf10.cell 0 rfl
  have f10_1 : u10.cell? ⟨Bf, 1, none⟩ = some (Value.int .i64 (c.sl + 1)) := rf10.cell 1 rfl
  have f10_2 : u10.cell? ⟨Bf, 2, none⟩ = some (Value.int .i64 c.st) := rf10.cell 2 rfl
  have f10_3 : u10.cell? ⟨Bf, 3, none⟩ = some (Value.int .i64 c.wa) := rf10.cell 3 rfl
  have f10_4 : u10.cell? ⟨Bf, 4, none⟩ = some (Value.int .i64 c.us) := rf10.cell 4 rfl
  clear rc9 rd9 rf9 hB9 c9_0 c9_1 c9_2 c9_3 c9_4 d9_0 d9_1 d9_2 d9_3 d9_4 f9_0 f9_1 f9_2 f9_3 f9_4
  refine hK.out _ _ ⟨c10_0, c10_1, c10_2, c10_3, c10_4, d10_0, d10_1, d10_2, d10_3, d10_4, f10_0, f10_1, f10_2, f10_3, f10_4⟩ (fun hS => ?_)
  clear hK K
  try simp only [Act.put, List.setIfInBounds_toArray, List.set_cons_zero, List.set_cons_succ]
  refine wpAnyH_take (i := 44) (oi := { dst := some 80, op := Op.binOp BinOp.add 3 (Operand.tmp 79) (Operand.const (Value.int IntKind.i64 1)) 3, type := 3, pos := "law.go:91", after := #[{ on := 43, ground := Ground.data }, { on := 39, ground := Ground.guard }], guard := some (39, true) }) (v := ?v44_65) rfl (by kernel_rfl) (by kernel_rfl) (by kernel_rfl) (fun _ _ _ h => h) (Or.inl ⟨by rfl, ?hy44_65⟩) hS ?rest44_65
  case hy44_65 =>
    intro w hSw
    (try dsimp only at hSw)
    go_simp
    try with_reducible rfl
  try simp only [Act.put, List.setIfInBounds_toArray, List.set_cons_zero, List.set_cons_succ]
  refine wpAnyH_take (i := 45) (oi := { dst := some 81, op := Op.binOp BinOp.eql 3 (Operand.tmp 77) (Operand.tmp 80) 3, type := 4, pos := "law.go:91", after := #[{ on := 41, ground := Ground.data }, { on := 44, ground := Ground.data }, { on := 39, ground := Ground.guard }], guard := some (39, true) }) (v := ?v45_66) rfl (by kernel_rfl) (by kernel_rfl) (by kernel_rfl) (fun _ _ _ h => h) (Or.inl ⟨by rfl, ?hy45_66⟩) hS ?rest45_66
  case hy45_66 =>
    intro w hSw
    (try dsimp only at hSw)
    go_simp
    try with_reducible rfl
  try simp only [Act.put, List.setIfInBounds_toArray, List.set_cons_zero, List.set_cons_succ]
  refine wpAnyH_take (i := 46) (oi := { dst := some 82, op := Op.pick (Operand.tmp 75) (Operand.tmp 81) (Operand.const (Value.bool false)), type := 4, pos := "law.go:91", after := #[{ on := 39, ground := Ground.data }, { on := 45, ground := Ground.data }], guard := none }) (v := ?v46_67) rfl (by kernel_rfl) (by kernel_rfl) (by kernel_rfl) (fun _ _ _ h => h) (Or.inl ⟨by rfl, ?hy46_67⟩) hS ?rest46_67
  case hy46_67 =>
    intro w hSw
    (try dsimp only at hSw)
    go_simp
    try with_reducible rfl
  try simp only [Act.put, List.setIfInBounds_toArray, List.set_cons_zero, List.set_cons_succ]
  refine wpAnyH_take (i := 47) (oi := { dst := some 83, op := Op.move (Operand.tmp 82), type := 4, pos := "law.go:91", after := #[{ on := 46, ground := Ground.data }, { on := 43, ground := Ground.chain }], guard := none }) (v := ?v47_68) rfl (by kernel_rfl) (by kernel_rfl) (by kernel_rfl) (fun _ _ _ h => h) (Or.inl ⟨by rfl, ?hy47_68⟩) hS ?rest47_68
  case hy47_68 =>
    intro w hSw
    (try dsimp only at hSw)
    go_simp
    try with_reducible rfl
  try simp only [Act.put, List.setIfInBounds_toArray, List.set_cons_zero, List.set_cons_succ]
  refine wpAnyH_take (i := 48) (oi := { dst := some 84, op := Op.load 23 (Operand.tmp 11), type := 23, pos := "law.go:91", after := #[{ on := 47, ground := Ground.guard }], guard := some (47, true) }) (v := ?v48_69) rfl (by kernel_rfl) (by kernel_rfl) (by kernel_rfl) (fun _ _ _ h => h) (Or.inl ⟨by rfl, ?hy48_69⟩) hS ?rest48_69
  case hy48_69 =>
    intro w hSw
    (try dsimp only at hSw)
    go_simp
    try with_reducible rfl
  try simp only [Act.put, List.setIfInBounds_toArray, List.set_cons_zero, List.set_cons_succ]
  refine wpAnyH_take (i := 50) (oi := { dst := some 86, op := Op.load 23 (Operand.tmp 8), type := 23, pos := "law.go:91", after := #[{ on := 47, ground := Ground.guard }], guard := some (47, true) }) (v := ?v50_70) rfl (by kernel_rfl) (by kernel_rfl) (by kernel_rfl) (fun _ _ _ h => h) (Or.inl ⟨by rfl, ?hy50_70⟩) hS ?rest50_70
  case hy50_70 =>
    intro w hSw
    (try dsimp only at hSw)
    go_simp
    try with_reducible rfl
  try simp only [Act.put, List.setIfInBounds_toArray, List.set_cons_zero, List.set_cons_succ]
  refine wpAnyH_ready (rs := [49]) (by kernel_rfl) (by simp) ?_
  refine AllReadyH.cons (o := { dst := some 85, op := Op.call { callee := Callee.value (Operand.func 11), args := #[Operand.tmp 84], argTypes := #[23] }, type := 3, pos := "law.go:91", after := #[{ on := 48, ground := Ground.data }, { on := 47, ground := Ground.chain }, { on := 47, ground := Ground.guard }], guard := some (47, true) }) rfl (fun K hK => ?_) AllReadyH.nil
  go_simp
  refine (KMd.out _).mono ?_
  rintro e u11 ⟨rfl, hb⟩
  have rc11 := rc10.below hb rc10.lt
  have rd11 := rd10.below hb rd10.lt
  have rf11 := rf10.below hb rf10.lt
  have hB11 := hB10.trans (hb.mono hB10.size)
  clear hb
  have c11_0 : u11.cell? ⟨Bc, 0, none⟩ = some (Value.int .i64 c.wo) := rc11.cell 0 rfl
  have c11_1 : u11.cell? ⟨Bc, 1, none⟩ = some (Value.int .i64 c.sl) := rc11.cell 1 rfl
  have c11_2 : u11.cell? ⟨Bc, 2, none⟩ = some (Value.int .i64 c.st) := rc11.cell 2 rfl
  have c11_3 : u11.cell? ⟨Bc, 3, none⟩ = some (Value.int .i64 c.wa) := rc11.cell 3 rfl
  have c11_4 : u11.cell? ⟨Bc, 4, none⟩ = some (Value.int .i64 c.us) := rc11.cell 4 rfl
  have d11_0 : u11.cell? ⟨Bd, 0, none⟩ = some (Value.int .i64 (c.wo + 1)) := rd11.cell 0 rfl
  have d11_1 : u11.cell? ⟨Bd, 1, none⟩ = some (Value.int .i64 c.sl) := rd11.cell 1 rfl
  have d11_2 : u11.cell? ⟨Bd, 2, none⟩ = some (Value.int .i64 c.st) := rd11.cell 2 rfl
  have d11_3 : u11.cell? ⟨Bd, 3, none⟩ = some (Value.int .i64 c.wa) := rd11.cell 3 rfl
  have d11_4 : u11.cell? ⟨Bd, 4, none⟩ = some (Value.int .i64 c.us) := rd11.cell 4 rfl
  have f11_0 : u11.cell? ⟨Bf, 0, none⟩ = some (Value.int .i64 c.wo) := rf11.cell 0 rfl
  have f11_1 : u11.cell? ⟨Bf, 1, none⟩ = some (Value.int .i64 (c.sl + 1)) := rf11.cell 1 rfl
  have f11_2 : u11.cell? ⟨Bf, 2, none⟩ = some (Value.int .i64 c.st) := rf11.cell 2 rfl
  have f11_3 : u11.cell? ⟨Bf, 3, none⟩ = some (Value.int .i64 c.wa) := rf11.cell 3 rfl
  have f11_4 : u11.cell? ⟨Bf, 4, none⟩ = some (Value.int .i64 c.us) := rf11.cell 4 rfl
  clear rc10 rd10 rf10 hB10 c10_0 c10_1 c10_2 c10_3 c10_4 d10_0 d10_1 d10_2 d10_3 d10_4 f10_0 f10_1 f10_2 f10_3 f10_4
  refine hK.out _ _ ⟨c11_0, c11_1, c11_2, c11_3, c11_4, d11_0, d11_1, d11_2, d11_3, d11_4, f11_0, f11_1, f11_2, f11_3, f11_4⟩ (fun hS => ?_)
  clear hK K
  try simp only [Act.put, List.setIfInBounds_toArray, List.set_cons_zero, List.set_cons_succ]
  refine wpAnyH_ready (rs := [51]) (by kernel_rfl) (by simp) ?_
  refine AllReadyH.cons (o := { dst := some 87, op := Op.call { callee := Callee.value (Operand.func 11), args := #[Operand.tmp 86], argTypes := #[23] }, type := 3, pos := "law.go:91", after := #[{ on := 50, ground := Ground.data }, { on := 49, ground := Ground.chain }, { on := 47, ground := Ground.guard }], guard := some (47, true) }) rfl (fun K hK => ?_) AllReadyH.nil
  go_simp
  refine (KMc.out _).mono ?_
  rintro e u12 ⟨rfl, hb⟩
  have rc12 := rc11.below hb rc11.lt
  have rd12 := rd11.below hb rd11.lt
  have rf12 := rf11.below hb rf11.lt
  have hB12 := hB11.trans (hb.mono hB11.size)
  clear hb
  have c12_0 : u12.cell? ⟨Bc, 0, none⟩ = some (Value.int .i64 c.wo) := rc12.cell 0 rfl
  have c12_1 : u12.cell? ⟨Bc, 1, none⟩ = some (Value.int .i64 c.sl) := rc12.cell 1 rfl
  have c12_2 : u12.cell? ⟨Bc, 2, none⟩ = some (Value.int .i64 c.st) := rc12.cell 2 rfl
  have c12_3 : u12.cell? ⟨Bc, 3, none⟩ = some (Value.int .i64 c.wa) := rc12.cell 3 rfl
  have c12_4 : u12.cell? ⟨Bc, 4, none⟩ = some (Value.int .i64 c.us) := rc12.cell 4 rfl
  have d12_0 : u12.cell? ⟨Bd, 0, none⟩ = some (Value.int .i64 (c.wo + 1)) := rd12.cell 0 rfl
  have d12_1 : u12.cell? ⟨Bd, 1, none⟩ = some (Value.int .i64 c.sl) := rd12.cell 1 rfl
  have d12_2 : u12.cell? ⟨Bd, 2, none⟩ = some (Value.int .i64 c.st) := rd12.cell 2 rfl
  have d12_3 : u12.cell? ⟨Bd, 3, none⟩ = some (Value.int .i64 c.wa) := rd12.cell 3 rfl
  have d12_4 : u12.cell? ⟨Bd, 4, none⟩ = some (Value.int .i64 c.us) := rd12.cell 4 rfl
  have f12_0 : u12.cell? ⟨Bf, 0, none⟩ = some (Value.int .i64 c.wo) := rf12.cell 0 rfl
  have f12_1 : u12.cell? ⟨Bf, 1, none⟩ = some (Value.int .i64 (c.sl + 1)) := rf12.cell 1 rfl
  have f12_2 : u12.cell? ⟨Bf, 2, none⟩ = some (Value.int .i64 c.st) := rf12.cell 2 rfl
  have f12_3 : u12.cell? ⟨Bf, 3, none⟩ = some (Value.int .i64 c.wa) := rf12.cell 3 rfl
  have f12_4 : u12.cell? ⟨Bf, 4, none⟩ = some (Value.int .i64 c.us) := rf12.cell 4 rfl
  clear rc11 rd11 rf11 hB11 c11_0 c11_1 c11_2 c11_3 c11_4 d11_0 d11_1 d11_2 d11_3 d11_4 f11_0 f11_1 f11_2 f11_3 f11_4
  refine hK.out _ _ ⟨c12_0, c12_1, c12_2, c12_3, c12_4, d12_0, d12_1, d12_2, d12_3, d12_4, f12_0, f12_1, f12_2, f12_3, f12_4⟩ (fun hS => ?_)
  clear hK K
  try simp only [Act.put, List.setIfInBounds_toArray, List.set_cons_zero, List.set_cons_succ]
  refine wpAnyH_take (i := 52) (oi := { dst := some 88, op := Op.binOp BinOp.add 3 (Operand.tmp 87) (Operand.const (Value.int IntKind.i64 2)) 3, type := 3, pos := "law.go:91", after := #[{ on := 51, ground := Ground.data }, { on := 47, ground := Ground.guard }], guard := some (47, true) }) (v := ?v52_71) rfl (by kernel_rfl) (by kernel_rfl) (by kernel_rfl) (fun _ _ _ h => h) (Or.inl ⟨by rfl, ?hy52_71⟩) hS ?rest52_71
  case hy52_71 =>
    intro w hSw
    (try dsimp only at hSw)
    go_simp
    try with_reducible rfl
  try simp only [Act.put, List.setIfInBounds_toArray, List.set_cons_zero, List.set_cons_succ]
  refine wpAnyH_take (i := 53) (oi := { dst := some 89, op := Op.binOp BinOp.eql 3 (Operand.tmp 85) (Operand.tmp 88) 3, type := 4, pos := "law.go:91", after := #[{ on := 49, ground := Ground.data }, { on := 52, ground := Ground.data }, { on := 47, ground := Ground.guard }], guard := some (47, true) }) (v := ?v53_72) rfl (by kernel_rfl) (by kernel_rfl) (by kernel_rfl) (fun _ _ _ h => h) (Or.inl ⟨by rfl, ?hy53_72⟩) hS ?rest53_72
  case hy53_72 =>
    intro w hSw
    (try dsimp only at hSw)
    go_simp
    try with_reducible rfl
  try simp only [Act.put, List.setIfInBounds_toArray, List.set_cons_zero, List.set_cons_succ]
  refine wpAnyH_take (i := 54) (oi := { dst := some 90, op := Op.pick (Operand.tmp 83) (Operand.tmp 89) (Operand.const (Value.bool false)), type := 4, pos := "law.go:91", after := #[{ on := 47, ground := Ground.data }, { on := 53, ground := Ground.data }], guard := none }) (v := ?v54_73) rfl (by kernel_rfl) (by kernel_rfl) (by kernel_rfl) (fun _ _ _ h => h) (Or.inl ⟨by rfl, ?hy54_73⟩) hS ?rest54_73
  case hy54_73 =>
    intro w hSw
    (try dsimp only at hSw)
    go_simp
    try with_reducible rfl
  try simp only [Act.put, List.setIfInBounds_toArray, List.set_cons_zero, List.set_cons_succ]
  refine wpAnyH_take (i := 55) (oi := { dst := some 91, op := Op.move (Operand.tmp 90), type := 4, pos := "law.go:91", after := #[{ on := 54, ground := Ground.data }, { on := 51, ground := Ground.chain }], guard := none }) (v := ?v55_74) rfl (by kernel_rfl) (by kernel_rfl) (by kernel_rfl) (fun _ _ _ h => h) (Or.inl ⟨by rfl, ?hy55_74⟩) hS ?rest55_74
  case hy55_74 =>
    intro w hSw
    (try dsimp only at hSw)
    go_simp
    try with_reducible rfl
  try simp only [Act.put, List.setIfInBounds_toArray, List.set_cons_zero, List.set_cons_succ]
  refine wpAnyH_take (i := 56) (oi := { dst := some 92, op := Op.load 23 (Operand.tmp 12), type := 23, pos := "law.go:91", after := #[{ on := 55, ground := Ground.guard }], guard := some (55, true) }) (v := ?v56_75) rfl (by kernel_rfl) (by kernel_rfl) (by kernel_rfl) (fun _ _ _ h => h) (Or.inl ⟨by rfl, ?hy56_75⟩) hS ?rest56_75
  case hy56_75 =>
    intro w hSw
    (try dsimp only at hSw)
    go_simp
    try with_reducible rfl
  try simp only [Act.put, List.setIfInBounds_toArray, List.set_cons_zero, List.set_cons_succ]
  refine wpAnyH_take (i := 57) (oi := { dst := some 93, op := Op.fieldAddr 23 (Operand.tmp 8) 1, type := 0, pos := "law.go:91", after := #[{ on := 55, ground := Ground.guard }], guard := some (55, true) }) (v := ?v57_76) rfl (by kernel_rfl) (by kernel_rfl) (by kernel_rfl) (fun _ _ _ h => h) (Or.inl ⟨by rfl, ?hy57_76⟩) hS ?rest57_76
  case hy57_76 =>
    intro w hSw
    (try dsimp only at hSw)
    go_simp
    try with_reducible rfl
  try simp only [Act.put, List.setIfInBounds_toArray, List.set_cons_zero, List.set_cons_succ]
  refine wpAnyH_take (i := 58) (oi := { dst := some 94, op := Op.load 3 (Operand.tmp 93), type := 3, pos := "law.go:91", after := #[{ on := 57, ground := Ground.data }, { on := 55, ground := Ground.guard }], guard := some (55, true) }) (v := ?v58_77) rfl (by kernel_rfl) (by kernel_rfl) (by kernel_rfl) (fun _ _ _ h => h) (Or.inl ⟨by rfl, ?hy58_77⟩) hS ?rest58_77
  case hy58_77 =>
    intro w hSw
    (try dsimp only at hSw)
    go_simp
    try with_reducible rfl
  try simp only [Act.put, List.setIfInBounds_toArray, List.set_cons_zero, List.set_cons_succ]
  refine wpAnyH_take (i := 60) (oi := { dst := some 96, op := Op.load 23 (Operand.tmp 8), type := 23, pos := "law.go:91", after := #[{ on := 55, ground := Ground.guard }], guard := some (55, true) }) (v := ?v60_78) rfl (by kernel_rfl) (by kernel_rfl) (by kernel_rfl) (fun _ _ _ h => h) (Or.inl ⟨by rfl, ?hy60_78⟩) hS ?rest60_78
  case hy60_78 =>
    intro w hSw
    (try dsimp only at hSw)
    go_simp
    try with_reducible rfl
  try simp only [Act.put, List.setIfInBounds_toArray, List.set_cons_zero, List.set_cons_succ]
  refine wpAnyH_ready (rs := [59]) (by kernel_rfl) (by simp) ?_
  refine AllReadyH.cons (o := { dst := some 95, op := Op.call { callee := Callee.value (Operand.func 17), args := #[Operand.tmp 92, Operand.tmp 94], argTypes := #[23, 3] }, type := 3, pos := "law.go:91", after := #[{ on := 56, ground := Ground.data }, { on := 58, ground := Ground.data }, { on := 55, ground := Ground.chain }, { on := 55, ground := Ground.guard }], guard := some (55, true) }) rfl (fun K hK => ?_) AllReadyH.nil
  go_simp
  refine (KSl.out _).mono ?_
  rintro e u13 ⟨rfl, hb⟩
  have rc13 := rc12.below hb rc12.lt
  have rd13 := rd12.below hb rd12.lt
  have rf13 := rf12.below hb rf12.lt
  have hB13 := hB12.trans (hb.mono hB12.size)
  clear hb
  have c13_0 : u13.cell? ⟨Bc, 0, none⟩ = some (Value.int .i64 c.wo) := rc13.cell 0 rfl
  have c13_1 : u13.cell? ⟨Bc, 1, none⟩ = some (Value.int .i64 c.sl) := rc13.cell 1 rfl
  have c13_2 : u13.cell? ⟨Bc, 2, none⟩ = some (Value.int .i64 c.st) := rc13.cell 2 rfl
  have c13_3 : u13.cell? ⟨Bc, 3, none⟩ = some (Value.int .i64 c.wa) := rc13.cell 3 rfl
  have c13_4 : u13.cell? ⟨Bc, 4, none⟩ = some (Value.int .i64 c.us) := rc13.cell 4 rfl
  have d13_0 : u13.cell? ⟨Bd, 0, none⟩ = some (Value.int .i64 (c.wo + 1)) := rd13.cell 0 rfl
  have d13_1 : u13.cell? ⟨Bd, 1, none⟩ = some (Value.int .i64 c.sl) := rd13.cell 1 rfl
  have d13_2 : u13.cell? ⟨Bd, 2, none⟩ = some (Value.int .i64 c.st) := rd13.cell 2 rfl
  have d13_3 : u13.cell? ⟨Bd, 3, none⟩ = some (Value.int .i64 c.wa) := rd13.cell 3 rfl
  have d13_4 : u13.cell? ⟨Bd, 4, none⟩ = some (Value.int .i64 c.us) := rd13.cell 4 rfl
  have f13_0 : u13.cell? ⟨Bf, 0, none⟩ = some (Value.int .i64 c.wo) := rf13.cell 0 rfl
  have f13_1 : u13.cell? ⟨Bf, 1, none⟩ = some (Value.int .i64 (c.sl + 1)) := rf13.cell 1 rfl
  have f13_2 : u13.cell? ⟨Bf, 2, none⟩ = some (Value.int .i64 c.st) := rf13.cell 2 rfl
  have f13_3 : u13.cell? ⟨Bf, 3, none⟩ = some (Value.int .i64 c.wa) := rf13.cell 3 rfl
  have f13_4 : u13.cell? ⟨Bf, 4, none⟩ = some (Value.int .i64 c.us) := rf13.cell 4 rfl
  clear rc12 rd12 rf12 hB12 c12_0 c12_1 c12_2 c12_3 c12_4 d12_0 d12_1 d12_2 d12_3 d12_4 f12_0 f12_1 f12_2 f12_3 f12_4
  refine hK.out _ _ ⟨c13_0, c13_1, c13_2, c13_3, c13_4, d13_0, d13_1, d13_2, d13_3, d13_4, f13_0, f13_1, f13_2, f13_3, f13_4⟩ (fun hS => ?_)
  clear hK K
  try simp only [Act.put, List.setIfInBounds_toArray, List.set_cons_zero, List.set_cons_succ]
  refine wpAnyH_ready (rs := [61]) (by kernel_rfl) (by simp) ?_
  refine AllReadyH.cons (o := { dst := some 97, op := Op.call { callee := Callee.value (Operand.func 11), args := #[Operand.tmp 96], argTypes := #[23] }, type := 3, pos := "law.go:91", after := #[{ on := 60, ground := Ground.data }, { on := 59, ground := Ground.chain }, { on := 55, ground := Ground.guard }], guard := some (55, true) }) rfl (fun K hK => ?_) AllReadyH.nil
  go_simp
  refine (KMc.out _).mono ?_
  rintro e u14 ⟨rfl, hb⟩
  have rc14 := rc13.below hb rc13.lt
  have rd14 := rd13.below hb rd13.lt
  have rf14 := rf13.below hb rf13.lt
  have hB14 := hB13.trans (hb.mono hB13.size)
  clear hb
  have c14_0 : u14.cell? ⟨Bc, 0, none⟩ = some (Value.int .i64 c.wo) := rc14.cell 0 rfl
  have c14_1 : u14.cell? ⟨Bc, 1, none⟩ = some (Value.int .i64 c.sl) := rc14.cell 1 rfl
  have c14_2 : u14.cell? ⟨Bc, 2, none⟩ = some (Value.int .i64 c.st) := rc14.cell 2 rfl
  have c14_3 : u14.cell? ⟨Bc, 3, none⟩ = some (Value.int .i64 c.wa) := rc14.cell 3 rfl
  have c14_4 : u14.cell? ⟨Bc, 4, none⟩ = some (Value.int .i64 c.us) := rc14.cell 4 rfl
  have d14_0 : u14.cell? ⟨Bd, 0, none⟩ = some (Value.int .i64 (c.wo + 1)) := rd14.cell 0 rfl
  have d14_1 : u14.cell? ⟨Bd, 1, none⟩ = some (Value.int .i64 c.sl) := rd14.cell 1 rfl
  have d14_2 : u14.cell? ⟨Bd, 2, none⟩ = some (Value.int .i64 c.st) := rd14.cell 2 rfl
  have d14_3 : u14.cell? ⟨Bd, 3, none⟩ = some (Value.int .i64 c.wa) := rd14.cell 3 rfl
  have d14_4 : u14.cell? ⟨Bd, 4, none⟩ = some (Value.int .i64 c.us) := rd14.cell 4 rfl
  have f14_0 : u14.cell? ⟨Bf, 0, none⟩ = some (Value.int .i64 c.wo) := rf14.cell 0 rfl
  have f14_1 : u14.cell? ⟨Bf, 1, none⟩ = some (Value.int .i64 (c.sl + 1)) := rf14.cell 1 rfl
  have f14_2 : u14.cell? ⟨Bf, 2, none⟩ = some (Value.int .i64 c.st) := rf14.cell 2 rfl
  have f14_3 : u14.cell? ⟨Bf, 3, none⟩ = some (Value.int .i64 c.wa) := rf14.cell 3 rfl
  have f14_4 : u14.cell? ⟨Bf, 4, none⟩ = some (Value.int .i64 c.us) := rf14.cell 4 rfl
  clear rc13 rd13 rf13 hB13 c13_0 c13_1 c13_2 c13_3 c13_4 d13_0 d13_1 d13_2 d13_3 d13_4 f13_0 f13_1 f13_2 f13_3 f13_4
  refine hK.out _ _ ⟨c14_0, c14_1, c14_2, c14_3, c14_4, d14_0, d14_1, d14_2, d14_3, d14_4, f14_0, f14_1, f14_2, f14_3, f14_4⟩ (fun hS => ?_)
  clear hK K
  try simp only [Act.put, List.setIfInBounds_toArray, List.set_cons_zero, List.set_cons_succ]
  refine wpAnyH_take (i := 62) (oi := { dst := some 98, op := Op.binOp BinOp.eql 3 (Operand.tmp 95) (Operand.tmp 97) 3, type := 4, pos := "law.go:91", after := #[{ on := 59, ground := Ground.data }, { on := 61, ground := Ground.data }, { on := 55, ground := Ground.guard }], guard := some (55, true) }) (v := ?v62_79) rfl (by kernel_rfl) (by kernel_rfl) (by kernel_rfl) (fun _ _ _ h => h) (Or.inl ⟨by rfl, ?hy62_79⟩) hS ?rest62_79
  case hy62_79 =>
    intro w hSw
    (try dsimp only at hSw)
    go_simp
    try with_reducible rfl
  try simp only [Act.put, List.setIfInBounds_toArray, List.set_cons_zero, List.set_cons_succ]
  refine wpAnyH_take (i := 63) (oi := { dst := some 99, op := Op.pick (Operand.tmp 91) (Operand.tmp 98) (Operand.const (Value.bool false)), type := 4, pos := "law.go:91", after := #[{ on := 55, ground := Ground.data }, { on := 62, ground := Ground.data }], guard := none }) (v := ?v63_80) rfl (by kernel_rfl) (by kernel_rfl) (by kernel_rfl) (fun _ _ _ h => h) (Or.inl ⟨by rfl, ?hy63_80⟩) hS ?rest63_80
  case hy63_80 =>
    intro w hSw
    (try dsimp only at hSw)
    go_simp
    try with_reducible rfl
  try simp only [Act.put, List.setIfInBounds_toArray, List.set_cons_zero, List.set_cons_succ]
  refine wpAnyH_take (i := 64) (oi := { dst := some 6, op := Op.assign (Operand.tmp 99), type := 4, pos := "law.go:91", after := ([{ on := 63, ground := Ground.data }, { on := 61, ground := Ground.chain }, { on := 0, ground := Ground.phase }, { on := 1, ground := Ground.phase }, { on := 2, ground := Ground.phase }, { on := 3, ground := Ground.phase }, { on := 4, ground := Ground.phase }, { on := 5, ground := Ground.phase }, { on := 6, ground := Ground.phase }, { on := 7, ground := Ground.phase }, { on := 8, ground := Ground.phase }, { on := 9, ground := Ground.phase }, { on := 10, ground := Ground.phase }, { on := 11, ground := Ground.phase }, { on := 12, ground := Ground.phase }, { on := 13, ground := Ground.phase }, { on := 14, ground := Ground.phase }, { on := 15, ground := Ground.phase }, { on := 16, ground := Ground.phase }, { on := 17, ground := Ground.phase }, { on := 18, ground := Ground.phase }, { on := 19, ground := Ground.phase }, { on := 20, ground := Ground.phase }, { on := 21, ground := Ground.phase }, { on := 22, ground := Ground.phase }, { on := 23, ground := Ground.phase }, { on := 24, ground := Ground.phase }, { on := 25, ground := Ground.phase }, { on := 26, ground := Ground.phase }, { on := 27, ground := Ground.phase }, { on := 28, ground := Ground.phase }, { on := 29, ground := Ground.phase }, { on := 30, ground := Ground.phase }].append [{ on := 31, ground := Ground.phase }, { on := 32, ground := Ground.phase }, { on := 33, ground := Ground.phase }, { on := 34, ground := Ground.phase }, { on := 35, ground := Ground.phase }, { on := 36, ground := Ground.phase }, { on := 37, ground := Ground.phase }, { on := 38, ground := Ground.phase }, { on := 39, ground := Ground.phase }, { on := 40, ground := Ground.phase }, { on := 41, ground := Ground.phase }, { on := 42, ground := Ground.phase }, { on := 43, ground := Ground.phase }, { on := 44, ground := Ground.phase }, { on := 45, ground := Ground.phase }, { on := 46, ground := Ground.phase }, { on := 47, ground := Ground.phase }, { on := 48, ground := Ground.phase }, { on := 49, ground := Ground.phase }, { on := 50, ground := Ground.phase }, { on := 51, ground := Ground.phase }, { on := 52, ground := Ground.phase }, { on := 53, ground := Ground.phase }, { on := 54, ground := Ground.phase }, { on := 55, ground := Ground.phase }, { on := 56, ground := Ground.phase }, { on := 57, ground := Ground.phase }, { on := 58, ground := Ground.phase }, { on := 59, ground := Ground.phase }, { on := 60, ground := Ground.phase }, { on := 61, ground := Ground.phase }, { on := 62, ground := Ground.phase }, { on := 63, ground := Ground.phase }]).toArray, guard := none }) (v := ?v64_81) rfl (by kernel_rfl) (by kernel_rfl) (by kernel_rfl) (fun _ _ _ h => h) (Or.inl ⟨by rfl, ?hy64_81⟩) hS ?rest64_81
  case hy64_81 =>
    intro w hSw
    (try dsimp only at hSw)
    go_simp
    try with_reducible rfl
  try simp only [Act.put, List.setIfInBounds_toArray, List.set_cons_zero, List.set_cons_succ]
  refine wpAnyH_done (by kernel_rfl) ?_ _
  go_wp2_with fail
  go_ret
  exact ⟨rfl, hB14⟩
end Go.Proofs.YtfnpleicbpbiaaaDoor
