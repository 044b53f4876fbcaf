/- A right entry's bytes, as the document's own function tells; nothing that was there changes. -/
import Derived.Test.YtbkaiffecnomjaaKit
namespace Go.Proofs.Ytbkaiffecnomjaa
open Go.RowKit
attribute [local go_sem ↓] Go.wp_at_zero Go.wp_at_succ

def RetForm (w : World) (p : Pc) (e : Ending) (w' : World) : Prop := ∃ b, e = .returned (.slice (some ⟨b, 0, none⟩) 12 12) ∧ RowAt w' b 5 #[Value.int .u8 p.b0, Value.int .u8 p.b1, Value.int .u8 p.b2, Value.int .u8 p.b3, Value.int .u8 p.b4, Value.int .u8 p.b5, Value.int .u8 p.b6, Value.int .u8 p.b7, Value.int .u8 p.b8, Value.int .u8 p.b9, Value.int .u8 p.b10, Value.int .u8 p.b11] ∧ w.heap.size ≤ b ∧ Below w.heap.size w w'
theorem wrE_right {x : En} (h : Rt x) (c : Int) (hc : sumE x = c) : wrE x = ⟨x.k, x.w, x.op, c, x.sl, x.st, x.ge % 256, x.ge / 256, x.dl % 256, x.dl / 256, x.n % 256, x.n / 256⟩ := by
  obtain ⟨h1, h2, h3, h4, h5, h6, h7, h8⟩ := h
  refine Pc.ext' ?_ ?_ ?_ ?_ ?_ ?_ ?_ ?_ ?_ ?_ ?_ ?_
  all_goals simp only [wrE]
  all_goals first
    | exact hc
    | omega
theorem ret_form {w : World} {o1 o2 : Obj} {x : En} (h : Rt x) (c : Int) (hc : sumE x = c) :
    RetForm w (wrE x) (.returned (.slice (some ⟨w.heap.size + 1 + 1, 0, none⟩) 12 12)) (((w.alloc o1).alloc o2).alloc (.cells #[vB x.k, vB x.w, vB x.op, vB c, vB x.sl, vB x.st, vB (x.ge % 256), vB (x.ge / 256), vB (x.dl % 256), vB (x.dl / 256), vB (x.n % 256), vB (x.n / 256)] 5)) := by
  rw [wrE_right h c hc]
  have r := RowAt.new ((w.alloc o1).alloc o2) 5 #[vB x.k, vB x.w, vB x.op, vB c, vB x.sl, vB x.st, vB (x.ge % 256), vB (x.ge / 256), vB (x.dl % 256), vB (x.dl / 256), vB (x.n % 256), vB (x.n / 256)]
  simp only [World.size_alloc] at r
  exact ⟨_, rfl, r, by omega, bstep (bstep (bnew _ _) (bnew _ _)) (bnew _ _)⟩
set_option maxRecDepth 100000 in
set_option maxHeartbeats 2000000 in
theorem form_any (x : En) (w : World) (hx : Rt x) :
    Calls Try.prog 18 #[Value.agg #[Value.int .i64 x.k, Value.int .i64 x.w, Value.int .i64 x.op, Value.int .i64 x.dl, Value.bool x.wa, Value.bool x.fo, Value.int .i64 x.sl, Value.int .i64 x.ge, Value.int .i64 x.st, Value.int .i64 x.n, Value.bool x.gd]] w (RetForm w (wrE x)) := by
  have h1 := hx.k
  have h2 := hx.w
  have h3 := hx.op
  have h4 := hx.sl
  have h5 := hx.st
  have h6 := hx.ge
  have h7 := hx.dl
  have h8 := hx.n
  have Hx := Lib.hid hx
  clear hx
  obtain ⟨k, ww, op, dl, wa, fo, sl, ge, st, n, gd⟩ := x
  dsimp only at h1 h2 h3 h4 h5 h6 h7 h8 ⊢
  go_enter Try.func18, Try.ntmps18
  cases wa <;> cases fo <;> cases gd
  all_goals go_wp2
  all_goals go_ret
  all_goals exact ret_form Hx.out _ rfl
end Go.Proofs.Ytbkaiffecnomjaa
