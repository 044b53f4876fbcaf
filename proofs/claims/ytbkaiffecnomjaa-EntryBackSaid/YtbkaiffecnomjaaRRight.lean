/- Whether an entry is right, as the document's own function tells; nothing that was there changes. -/
import Derived.Test.YtbkaiffecnomjaaKit
namespace Go.Proofs.Ytbkaiffecnomjaa
open Go.RowKit
attribute [local go_sem ↓] Go.wp_at_zero Go.wp_at_succ

theorem no_w {x : En} (h : x.w < 0 ∨ 255 < x.w) : rtB x = false := rtB_no fun e => by have := e.w; omega
theorem no_sl {x : En} (h : x.sl < 0 ∨ 255 < x.sl) : rtB x = false := rtB_no fun e => by have := e.sl; omega
theorem no_st {x : En} (h : x.st < 0 ∨ 255 < x.st) : rtB x = false := rtB_no fun e => by have := e.st; omega
theorem no_ge {x : En} (h : x.ge < 0 ∨ 65535 < x.ge) : rtB x = false := rtB_no fun e => by have := e.ge; omega
theorem no_dl {x : En} (h : x.dl < 0 ∨ 65535 < x.dl) : rtB x = false := rtB_no fun e => by have := e.dl; omega
theorem no_n {x : En} (h : x.n < 0 ∨ 65535 < x.n) : rtB x = false := rtB_no fun e => by have := e.n; omega
/-- the first k are right -/
def okK (x : En) (k : Nat) : Prop := (0 < k → (0 ≤ x.w ∧ x.w ≤ 255) ∧ (0 ≤ x.ge ∧ x.ge ≤ 65535)) ∧ (1 < k → (0 ≤ x.sl ∧ x.sl ≤ 255) ∧ (0 ≤ x.dl ∧ x.dl ≤ 65535)) ∧ (2 < k → (0 ≤ x.st ∧ x.st ≤ 255) ∧ (0 ≤ x.n ∧ x.n ≤ 65535))
theorem okK_all {x : En} (h : okK x 3) : rtB x = (decide (0 ≤ x.k) && decide (x.k ≤ 4) && decide (0 ≤ x.op) && decide (x.op ≤ 7)) := by
  obtain ⟨h0, h1, h2⟩ := h
  obtain ⟨⟨a1, a2⟩, ⟨a3, a4⟩⟩ := h0 (by omega)
  obtain ⟨⟨b1, b2⟩, ⟨b3, b4⟩⟩ := h1 (by omega)
  obtain ⟨⟨c1, c2⟩, ⟨c3, c4⟩⟩ := h2 (by omega)
  simp [rtB, inB, *, Bool.and_assoc]
set_option maxRecDepth 100000 in
set_option maxHeartbeats 2000000 in
theorem refRight_any (x : En) (w : World) :
    Calls Try.prog 13 #[Value.agg #[Value.int .i64 x.k, Value.int .i64 x.w, Value.int .i64 x.op, Value.int .i64 x.dl, Value.bool x.wa, Value.bool x.fo, Value.int .i64 x.sl, Value.int .i64 x.ge, Value.int .i64 x.st, Value.int .i64 x.n, Value.bool x.gd]] w fun e w' => e = .returned (.bool (rtB x)) ∧ Below w.heap.size w w' := by
  go_enter Try.func13, Try.ntmps13
  go_wp2_with fail
  have hB : Below w.heap.size w (((w.alloc (.cells #[Value.int .i64 x.k, Value.int .i64 x.w, Value.int .i64 x.op, Value.int .i64 x.dl, Value.bool x.wa, Value.bool x.fo, Value.int .i64 x.sl, Value.int .i64 x.ge, Value.int .i64 x.st, Value.int .i64 x.n, Value.bool x.gd] 32)).alloc (.cells #[vI x.w, vI x.sl, vI x.st] 3)).alloc (.cells #[vI x.ge, vI x.dl, vI x.n] 3)) := bstep (bstep (bnew _ _) (bnew _ _)) (bnew _ _)
  have r1 := ((RowAt.new w 32 #[Value.int .i64 x.k, Value.int .i64 x.w, Value.int .i64 x.op, Value.int .i64 x.dl, Value.bool x.wa, Value.bool x.fo, Value.int .i64 x.sl, Value.int .i64 x.ge, Value.int .i64 x.st, Value.int .i64 x.n, Value.bool x.gd]).alloc (.cells #[vI x.w, vI x.sl, vI x.st] 3)).alloc (.cells #[vI x.ge, vI x.dl, vI x.n] 3)
  have r2 := (RowAt.new (w.alloc (.cells #[Value.int .i64 x.k, Value.int .i64 x.w, Value.int .i64 x.op, Value.int .i64 x.dl, Value.bool x.wa, Value.bool x.fo, Value.int .i64 x.sl, Value.int .i64 x.ge, Value.int .i64 x.st, Value.int .i64 x.n, Value.bool x.gd] 32)) 3 #[vI x.w, vI x.sl, vI x.st]).alloc (.cells #[vI x.ge, vI x.dl, vI x.n] 3)
  have r3 := RowAt.new ((w.alloc (.cells #[Value.int .i64 x.k, Value.int .i64 x.w, Value.int .i64 x.op, Value.int .i64 x.dl, Value.bool x.wa, Value.bool x.fo, Value.int .i64 x.sl, Value.int .i64 x.ge, Value.int .i64 x.st, Value.int .i64 x.n, Value.bool x.gd] 32)).alloc (.cells #[vI x.w, vI x.sl, vI x.st] 3)) 3 #[vI x.ge, vI x.dl, vI x.n]
  simp only [World.size_alloc] at r2 r3
  obtain ⟨W, hW⟩ : ∃ W, W = ((w.alloc (.cells #[Value.int .i64 x.k, Value.int .i64 x.w, Value.int .i64 x.op, Value.int .i64 x.dl, Value.bool x.wa, Value.bool x.fo, Value.int .i64 x.sl, Value.int .i64 x.ge, Value.int .i64 x.st, Value.int .i64 x.n, Value.bool x.gd] 32)).alloc (.cells #[vI x.w, vI x.sl, vI x.st] 3)).alloc (.cells #[vI x.ge, vI x.dl, vI x.n] 3) := ⟨_, rfl⟩
  obtain ⟨B1, e1⟩ : ∃ B1, B1 = w.heap.size := ⟨_, rfl⟩
  obtain ⟨B3, e3⟩ : ∃ B3, B3 = B1 + 1 + 1 := ⟨_, rfl⟩
  obtain ⟨B2, e2⟩ : ∃ B2, B2 = B1 + 1 := ⟨_, rfl⟩
  rw [← hW] at r1 r2 r3 hB ⊢
  rw [← e1] at r1 r2 r3 ⊢
  rw [← e3] at r3 ⊢
  rw [← e2] at r2 ⊢
  clear hW e1 e2 e3
  have k0 : W.cell? ⟨B1, 0, none⟩ = some (vI x.k) := r1.cell 0 rfl
  have k2 : W.cell? ⟨B1, 2, none⟩ = some (vI x.op) := r1.cell 2 rfl
  have a0 : W.cell? ⟨B2, 0, none⟩ = some (vI x.w) := r2.cell 0 rfl
  have a1 : W.cell? ⟨B2, 1, none⟩ = some (vI x.sl) := r2.cell 1 rfl
  have a2 : W.cell? ⟨B2, 2, none⟩ = some (vI x.st) := r2.cell 2 rfl
  have b0 : W.cell? ⟨B3, 0, none⟩ = some (vI x.ge) := r3.cell 0 rfl
  have b1 : W.cell? ⟨B3, 1, none⟩ = some (vI x.dl) := r3.cell 1 rfl
  have b2 : W.cell? ⟨B3, 2, none⟩ = some (vI x.n) := r3.cell 2 rfl
  go_loopw [5] (fun i wr => ∃ k : Nat, k ≤ 3 ∧ i = .int .i64 k ∧ Hid (okK x k) ∧ wr = W) (fun i _ => 3 - (intOf i).toNat)
  case atStart => exact ⟨0, by omega, rfl, Lib.hid ⟨fun h => by omega, fun h => by omega, fun h => by omega⟩, rfl⟩
  case round =>
    obtain ⟨k, hk, rfl, HK, rfl⟩ := hrel
    have hk3 : k = 0 ∨ k = 1 ∨ k = 2 ∨ k = 3 := by omega
    rcases hk3 with rfl | rfl | rfl | rfl
    · go_wp2
      all_goals first
        | (go_ret; exact ⟨ret_bool (no_w (by omega)).symm, hB⟩)
        | (go_ret; exact ⟨ret_bool (no_ge (by omega)).symm, hB⟩)
        | exact ⟨⟨1, by omega, rfl, Lib.hid ⟨fun _ => ⟨⟨by omega, by omega⟩, ⟨by omega, by omega⟩⟩, fun h => by omega, fun h => by omega⟩, trivial⟩, by simp [intOf]⟩
    · go_wp2
      all_goals first
        | (go_ret; exact ⟨ret_bool (no_sl (by omega)).symm, hB⟩)
        | (go_ret; exact ⟨ret_bool (no_dl (by omega)).symm, hB⟩)
        | exact ⟨⟨2, by omega, rfl, Lib.hid ⟨fun _ => HK.out.1 (by omega), fun _ => ⟨⟨by omega, by omega⟩, ⟨by omega, by omega⟩⟩, fun h => by omega⟩, trivial⟩, by simp [intOf]⟩
    · go_wp2
      all_goals first
        | (go_ret; exact ⟨ret_bool (no_st (by omega)).symm, hB⟩)
        | (go_ret; exact ⟨ret_bool (no_n (by omega)).symm, hB⟩)
        | exact ⟨⟨3, by omega, rfl, Lib.hid ⟨fun _ => HK.out.1 (by omega), fun _ => HK.out.2.1 (by omega), fun _ => ⟨⟨by omega, by omega⟩, ⟨by omega, by omega⟩⟩⟩, trivial⟩, by simp [intOf]⟩
    · have He := Lib.hid (okK_all HK.out)
      go_wp2
      all_goals (go_ret; exact ⟨ret_bool (by rw [He.out]; simp [*]; try omega), hB⟩)
end Go.Proofs.Ytbkaiffecnomjaa
