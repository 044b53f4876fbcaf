/- What a node's calls tell and make (of numbers by numbers): compare, height, a node of two sides, part of the higher side gone over. -/
import Derived.Test.YtogeifnkjckaiaaTree
import Derived.IntWalk
namespace Go.Proofs.Ytogeifnkjckaiaa
open Go.RowKit
attribute [local go_sem ↓] Go.wp_at_zero Go.wp_at_succ

theorem nanI_any (a : Int) (w : World) : Calls Try.prog 56 #[vI a] w fun e w' => e = .returned (.bool false) ∧ w = w' := by
  go_enter Try.func56, Try.ntmps56
  go_wp2
  go_ret
  exact ⟨ret_bool (by simp), rfl⟩
theorem cmpK_int (a b : Int) : cmpK a b = if a < b then -1 else if b < a then 1 else 0 := by simp [cmpK, Key.lt]
theorem compareI_any (a b : Int) (w : World) : Calls Try.prog 47 #[vI a, vI b] w fun e w' => e = .returned (.int .i64 (cmpK a b)) ∧ w = w' := by
  rw [cmpK_int]
  by_cases h1 : a < b
  · go_enter Try.func47, Try.ntmps47
    go_wp2_with (first | (go_at_call 56; refine (nanI_any _ _).mono ?_; rintro e w1 ⟨rfl, rfl⟩))
    go_ret
    exact ⟨ret_int (by simp), rfl⟩
  · by_cases h2 : b < a
    · go_enter Try.func47, Try.ntmps47
      go_wp2_with (first | (go_at_call 56; refine (nanI_any _ _).mono ?_; rintro e w1 ⟨rfl, rfl⟩))
      go_ret
      exact ⟨ret_int (by simp), rfl⟩
    · go_enter Try.func47, Try.ntmps47
      go_wp2_with (first | (go_at_call 56; refine (nanI_any _ _).mono ?_; rintro e w1 ⟨rfl, rfl⟩))
      go_ret
      exact ⟨ret_int (by simp), rfl⟩

theorem high1_any {E : Set'} (A : Option Addr) (t : Tr Int Int) (w : World) (h : TreeAt vI vI E w A t) : Calls Try.prog 57 #[.pointer A] w fun e w' => e = .returned (.int .i64 t.ht) ∧ w = w' := by
  cases t with
  | nil =>
    obtain rfl := h
    go_enter Try.func57, Try.ntmps57
    go_wp2
    go_ret
    exact ⟨rfl, rfl⟩
  | node l k v r =>
    obtain ⟨b, p, A1, A2, rfl, h, h1, h2⟩ := h
    have c3 := h.c3
    go_enter Try.func57, Try.ntmps57
    go_wp2
    go_ret
    exact ⟨rfl, rfl⟩

theorem between1_any {E : Set'} {b p : Nat} {A1 A2 : Option Addr} {l r : Tr Int Int} {k : Int} {v : Int} {w : World} (hE : ∀ k, w.heap.size ≤ k → E k)
    (hp : PairAt E w b p (vI k) (vI v)) (h1 : TreeAt vI vI E w A1 l) (h2 : TreeAt vI vI E w A2 r) (hl : l.ht ≤ 1000000) (hr : r.ht ≤ 1000000) :
    Calls Try.prog 58 #[.pointer (some ⟨b, 0, none⟩), .pointer A1, .pointer A2] w (RetTree vI vI E w (.node l k v r)) := by
  have c0 := hp.c0
  have e1 := high1_any A1 l w.drew (h1.drew)
  have e2 := high1_any A2 r w.drew (h2.drew)
  obtain ⟨a, ea⟩ : ∃ a, a = l.ht := ⟨_, rfl⟩
  obtain ⟨c, ec⟩ : ∃ c, c = r.ht := ⟨_, rfl⟩
  rw [← ea] at e1 hl
  rw [← ec] at e2 hr
  obtain ⟨m, hm⟩ : ∃ m : Int, max (a : Int) (c : Int) = m := ⟨_, rfl⟩
  have hm0 : 0 ≤ m := by omega
  have hm1 : m ≤ 1000000 := by omega
  have hm2 : m + 1 = ((max l.ht r.ht + 1 : Nat) : Int) := by omega
  have hm3 : IntKind.i64.wrap (m + 1) = ((max l.ht r.ht + 1 : Nat) : Int) := by rw [← hm2]; exact IntWalk.i64_in _ (by omega)
  have Ea := Lib.hid ea
  have Ec := Lib.hid ec
  have Hm := Lib.hid hm3
  clear ea ec hm2 hm3
  go_enter Try.func58, Try.ntmps58
  go_wp2_with fail
  go_region_held3 (fun w' => w'.cell? ⟨b, 0, none⟩ = some (ptr p)) (first | exact c0 | go_keep)
    (first
    | (go_at_call_of 57 (Value.pointer A1); refine e1.mono ?_; rintro e w1 ⟨rfl, rfl⟩)
    | (go_at_call_of 57 (Value.pointer A2); refine e2.mono ?_; rintro e w1 ⟨rfl, rfl⟩))
  go_wp2
  go_ret
  exact ⟨_, rfl, (TreeAt.made hp h1 h2 hE _ _ Hm.out).drew, bdrew1 (bnew _ _)⟩

section
variable {E : Set'} {b p : Nat} {A1 A2 : Option Addr} {l r : Tr Int Int} {k : Int} {v : Int} {w : World}
theorem level1_even (hE : ∀ k, w.heap.size ≤ k → E k) (hp : PairAt E w b p (vI k) (vI v)) (h1 : TreeAt vI vI E w A1 l) (h2 : TreeAt vI vI E w A2 r) (hl : l.ht ≤ 1000000) (hr : r.ht ≤ 1000000)
    (hc1 : l.ht ≤ r.ht + 1) (hc2 : r.ht ≤ l.ht + 1) : Calls Try.prog 48 #[.pointer (some ⟨b, 0, none⟩), .pointer A1, .pointer A2] w (RetTree vI vI E w (.node l k v r)) := by
  have e1 := high1_any A1 l w h1
  have e2 := high1_any A2 r w h2
  have e3 := between1_any hE hp h1 h2 hl hr
  obtain ⟨a, ea⟩ : ∃ a, a = l.ht := ⟨_, rfl⟩
  obtain ⟨c, ec⟩ : ∃ c, c = r.ht := ⟨_, rfl⟩
  rw [← ea] at e1 hl hc1 hc2
  rw [← ec] at e2 hr hc1 hc2
  clear ea ec
  go_enter Try.func48, Try.ntmps48
  go_wp2_with (first
    | (go_at_call_of 57 (Value.pointer A1); refine e1.mono ?_; rintro e w1 ⟨rfl, rfl⟩)
    | (go_at_call_of 57 (Value.pointer A2); refine e2.mono ?_; rintro e w1 ⟨rfl, rfl⟩)
    | (go_at_call 58; refine e3.mono ?_; rintro e w1 ⟨A3, rfl, hT3, hB3⟩))
  go_ret
  exact ⟨_, rfl, hT3, hB3⟩
/-- the left side is higher by two, and its own left side is no lower than its right one -/
theorem level1_l {ll lr : Tr Int Int} {lk : Int} {lv : Int} (hE : ∀ k, w.heap.size ≤ k → E k) (hp : PairAt E w b p (vI k) (vI v)) (h1 : TreeAt vI vI E w A1 (.node ll lk lv lr)) (h2 : TreeAt vI vI E w A2 r) (hl : max ll.ht lr.ht + 1 ≤ 1000000) (hr : r.ht ≤ 1000000)
    (hc1 : r.ht + 1 < max ll.ht lr.ht + 1) (hc2 : lr.ht ≤ ll.ht) : Calls Try.prog 48 #[.pointer (some ⟨b, 0, none⟩), .pointer A1, .pointer A2] w (RetTree vI vI E w (.node ll lk lv (.node lr k v r))) := by
  have e1 : Calls Try.prog 57 #[.pointer A1] w fun e w' => e = .returned (.int .i64 (max ll.ht lr.ht + 1 : Nat)) ∧ w = w' := high1_any A1 _ w h1
  have e2 := high1_any A2 r w h2
  obtain ⟨bl, pl, B1, B2, rfl, n1, t1, t2⟩ := h1
  have e3 := high1_any B1 ll w t1
  have e4 := high1_any B2 lr w t2
  have f1 := fun (W : World) (hB : Below w.heap.size w W) => between1_any (fun k hk => hE k (Nat.le_trans hB.size hk)) (hp.below hB) (t2.below hB) (h2.below hB) (by omega) hr
  have f2 := fun (W : World) (hB : Below w.heap.size w W) (A : Option Addr) (hA : TreeAt vI vI E W A (.node lr k v r)) =>
    between1_any (fun k hk => hE k (Nat.le_trans hB.size hk)) (n1.toPairAt.below hB) (t1.below hB) hA (by omega) (by simp only [Tr.ht]; omega)
  have c1 := n1.c1
  have c2 := n1.c2
  have lb := n1.lb
  obtain ⟨m, em⟩ : ∃ m, m = max ll.ht lr.ht + 1 := ⟨_, rfl⟩
  obtain ⟨a1, ea1⟩ : ∃ a, a = ll.ht := ⟨_, rfl⟩
  obtain ⟨a2, ea2⟩ : ∃ a, a = lr.ht := ⟨_, rfl⟩
  obtain ⟨c, ec⟩ : ∃ c, c = r.ht := ⟨_, rfl⟩
  rw [← em] at e1 hl hc1
  rw [← ea1] at e3 hc2
  rw [← ea2] at e4 hc2
  rw [← ec] at e2 hr hc1
  have a1l : a1 ≤ 1000000 := by omega
  have a2l : a2 ≤ 1000000 := by omega
  clear em ea1 ea2 ec n1
  go_enter Try.func48, Try.ntmps48
  go_wp2_with (first
    | (go_at_call_of 57 (Value.pointer (some ⟨bl, 0, none⟩)); refine e1.mono ?_; rintro e w1 ⟨rfl, rfl⟩)
    | (go_at_call_of 57 (Value.pointer A2); refine e2.mono ?_; rintro e w1 ⟨rfl, rfl⟩)
    | (go_at_call_of 57 (Value.pointer B1); refine e3.mono ?_; rintro e w1 ⟨rfl, rfl⟩)
    | (go_at_call_of 57 (Value.pointer B2); refine e4.mono ?_; rintro e w1 ⟨rfl, rfl⟩))
  go_region_held3 (fun w' => w'.cell? ⟨bl, 1, none⟩ = some (.pointer B1)) (first | exact c1 | go_keep)
    (first
    | (go_at_call_of 58 (Value.pointer (some ⟨b, 0, none⟩)); refine (f1 w.drew (bdrew1 (Below.refl _ w))).mono ?_; rintro e w3 ⟨A3, rfl, hT3, hB3⟩; have hB4 : Below w.heap.size w w3 := bstep (b := w.drew) (bdrew1 (Below.refl _ w)) hB3; have x1 := (hB4.cell (p := ⟨bl, 1, none⟩) lb).trans c1)
    | (go_at_call_of 58 (Value.pointer (some ⟨bl, 0, none⟩)); refine (f2 w3 hB4 A3 hT3).mono ?_; rintro e w5 ⟨A5, rfl, hT5, hB5⟩; have hB6 := bstep hB4 hB5; have y1 := (hB6.cell (p := ⟨bl, 1, none⟩) lb).trans c1))
  go_wp2
  go_ret
  exact ⟨_, rfl, hT5, hB6⟩
/-- the left side is higher by two, and its own right side is the higher one -/
theorem level1_lr {ll a2 b2 : Tr Int Int} {lk x : Int} {lv u : Int} (hE : ∀ k, w.heap.size ≤ k → E k) (hp : PairAt E w b p (vI k) (vI v)) (h1 : TreeAt vI vI E w A1 (.node ll lk lv (.node a2 x u b2))) (h2 : TreeAt vI vI E w A2 r)
    (hl : max ll.ht (max a2.ht b2.ht + 1) + 1 ≤ 1000000) (hr : r.ht ≤ 1000000)
    (hc1 : r.ht + 1 < max ll.ht (max a2.ht b2.ht + 1) + 1) (hc2 : ll.ht < max a2.ht b2.ht + 1) : Calls Try.prog 48 #[.pointer (some ⟨b, 0, none⟩), .pointer A1, .pointer A2] w (RetTree vI vI E w (.node (.node ll lk lv a2) x u (.node b2 k v r))) := by
  have e1 : Calls Try.prog 57 #[.pointer A1] w fun e w' => e = .returned (.int .i64 (max ll.ht (max a2.ht b2.ht + 1) + 1 : Nat)) ∧ w = w' := high1_any A1 _ w h1
  have e2 := high1_any A2 r w h2
  obtain ⟨bl, pl, B1, B2, rfl, n1, t1, t2⟩ := h1
  have e3 := high1_any B1 ll w t1
  have e4 : Calls Try.prog 57 #[.pointer B2] w fun e w' => e = .returned (.int .i64 (max a2.ht b2.ht + 1 : Nat)) ∧ w = w' := high1_any B2 _ w t2
  obtain ⟨bi, pi, C1, C2, rfl, n2, t3, t4⟩ := t2
  have f1 := fun (W : World) (hB : Below w.heap.size w W) => between1_any (fun k hk => hE k (Nat.le_trans hB.size hk)) (n1.toPairAt.below hB) (t1.below hB) (t3.below hB) (by omega) (by omega)
  have f2 := fun (W : World) (hB : Below w.heap.size w W) => between1_any (fun k hk => hE k (Nat.le_trans hB.size hk)) (hp.below hB) (t4.below hB) (h2.below hB) (by omega) hr
  have f3 := fun (W : World) (hB : Below w.heap.size w W) (A A' : Option Addr) (hA : TreeAt vI vI E W A (.node ll lk lv a2)) (hA' : TreeAt vI vI E W A' (.node b2 k v r)) =>
    between1_any (fun k hk => hE k (Nat.le_trans hB.size hk)) (n2.toPairAt.below hB) hA hA' (by simp only [Tr.ht]; omega) (by simp only [Tr.ht]; omega)
  have c1 := n1.c1
  have c2 := n1.c2
  have d1 := n2.c1
  have d2 := n2.c2
  have lb := n1.lb
  have lb2 := n2.lb
  obtain ⟨m, em⟩ : ∃ m, m = max ll.ht (max a2.ht b2.ht + 1) + 1 := ⟨_, rfl⟩
  obtain ⟨a1, ea1⟩ : ∃ a, a = ll.ht := ⟨_, rfl⟩
  obtain ⟨a3, ea3⟩ : ∃ a, a = max a2.ht b2.ht + 1 := ⟨_, rfl⟩
  obtain ⟨c, ec⟩ : ∃ c, c = r.ht := ⟨_, rfl⟩
  rw [← em] at e1 hl hc1
  rw [← ea1] at e3 hc2
  rw [← ea3] at e4 hc2
  rw [← ec] at e2 hr hc1
  have a1l : a1 ≤ 1000000 := by omega
  have a2l : a3 ≤ 1000000 := by omega
  clear em ea1 ea3 ec n1 n2
  go_enter Try.func48, Try.ntmps48
  go_wp2_with (first
    | (go_at_call_of 57 (Value.pointer (some ⟨bl, 0, none⟩)); refine e1.mono ?_; rintro e w1 ⟨rfl, rfl⟩)
    | (go_at_call_of 57 (Value.pointer A2); refine e2.mono ?_; rintro e w1 ⟨rfl, rfl⟩)
    | (go_at_call_of 57 (Value.pointer B1); refine e3.mono ?_; rintro e w1 ⟨rfl, rfl⟩)
    | (go_at_call_of 57 (Value.pointer (some ⟨bi, 0, none⟩)); refine e4.mono ?_; rintro e w1 ⟨rfl, rfl⟩))
  go_region_held3 (fun w' => w'.cell? ⟨bl, 1, none⟩ = some (.pointer B1) ∧ w'.cell? ⟨bi, 1, none⟩ = some (.pointer C1) ∧ w'.cell? ⟨bi, 2, none⟩ = some (.pointer C2)) (first | exact ⟨c1, d1, d2⟩ | go_keep)
    (first
    | (go_at_call_of 58 (Value.pointer (some ⟨bl, 0, none⟩)); refine (f1 w.drew (bdrew1 (Below.refl _ w))).mono ?_; rintro e w3 ⟨A3, rfl, hT3, hB3⟩; have hB4 : Below w.heap.size w w3 := bstep (b := w.drew) (bdrew1 (Below.refl _ w)) hB3; have x1 := (hB4.cell (p := ⟨bl, 1, none⟩) lb).trans c1; have x2 := (hB4.cell (p := ⟨bi, 1, none⟩) lb2).trans d1; have x3 := (hB4.cell (p := ⟨bi, 2, none⟩) lb2).trans d2)
    | (go_at_call_of 58 (Value.pointer (some ⟨b, 0, none⟩)); refine (f2 w3 hB4).mono ?_; rintro e w5 ⟨A5, rfl, hT5, hB5⟩; have hT4 := hT3.below hB5; have hB6 := bstep hB4 hB5; have y1 := (hB6.cell (p := ⟨bl, 1, none⟩) lb).trans c1; have y2 := (hB6.cell (p := ⟨bi, 1, none⟩) lb2).trans d1; have y3 := (hB6.cell (p := ⟨bi, 2, none⟩) lb2).trans d2)
    | (go_at_call_of 58 (Value.pointer (some ⟨bi, 0, none⟩)); refine (f3 w5 hB6 A3 A5 hT4 hT5).mono ?_; rintro e w7 ⟨A7, rfl, hT7, hB7⟩; have hB8 := bstep hB6 hB7; have z1 := (hB8.cell (p := ⟨bl, 1, none⟩) lb).trans c1; have z2 := (hB8.cell (p := ⟨bi, 1, none⟩) lb2).trans d1; have z3 := (hB8.cell (p := ⟨bi, 2, none⟩) lb2).trans d2))
  go_wp2
  go_ret
  exact ⟨_, rfl, hT7, hB8⟩
/-- the right side is higher by two, and its own right side is no lower than its left one -/
theorem level1_r {rl rr : Tr Int Int} {rk : Int} {rv : Int} (hE : ∀ k, w.heap.size ≤ k → E k) (hp : PairAt E w b p (vI k) (vI v)) (h1 : TreeAt vI vI E w A1 l) (h2 : TreeAt vI vI E w A2 (.node rl rk rv rr)) (hl : l.ht ≤ 1000000) (hr : max rl.ht rr.ht + 1 ≤ 1000000)
    (hc1 : l.ht + 1 < max rl.ht rr.ht + 1) (hc2 : rl.ht ≤ rr.ht) : Calls Try.prog 48 #[.pointer (some ⟨b, 0, none⟩), .pointer A1, .pointer A2] w (RetTree vI vI E w (.node (.node l k v rl) rk rv rr)) := by
  have e1 : Calls Try.prog 57 #[.pointer A2] w fun e w' => e = .returned (.int .i64 (max rl.ht rr.ht + 1 : Nat)) ∧ w = w' := high1_any A2 _ w h2
  have e2 := high1_any A1 l w h1
  obtain ⟨bl, pl, B1, B2, rfl, n1, t1, t2⟩ := h2
  have e3 := high1_any B1 rl w t1
  have e4 := high1_any B2 rr w t2
  have f1 := fun (W : World) (hB : Below w.heap.size w W) => between1_any (fun k hk => hE k (Nat.le_trans hB.size hk)) (hp.below hB) (h1.below hB) (t1.below hB) hl (by omega)
  have f2 := fun (W : World) (hB : Below w.heap.size w W) (A : Option Addr) (hA : TreeAt vI vI E W A (.node l k v rl)) =>
    between1_any (fun k hk => hE k (Nat.le_trans hB.size hk)) (n1.toPairAt.below hB) hA (t2.below hB) (by simp only [Tr.ht]; omega) (by omega)
  have c1 := n1.c1
  have c2 := n1.c2
  have lb := n1.lb
  obtain ⟨m, em⟩ : ∃ m, m = max rl.ht rr.ht + 1 := ⟨_, rfl⟩
  obtain ⟨a1, ea1⟩ : ∃ a, a = rl.ht := ⟨_, rfl⟩
  obtain ⟨a2, ea2⟩ : ∃ a, a = rr.ht := ⟨_, rfl⟩
  obtain ⟨c, ec⟩ : ∃ c, c = l.ht := ⟨_, rfl⟩
  rw [← em] at e1 hr hc1
  rw [← ea1] at e3 hc2
  rw [← ea2] at e4 hc2
  rw [← ec] at e2 hl hc1
  have a1l : a1 ≤ 1000000 := by omega
  have a2l : a2 ≤ 1000000 := by omega
  clear em ea1 ea2 ec n1
  go_enter Try.func48, Try.ntmps48
  go_wp2_with (first
    | (go_at_call_of 57 (Value.pointer (some ⟨bl, 0, none⟩)); refine e1.mono ?_; rintro e w1 ⟨rfl, rfl⟩)
    | (go_at_call_of 57 (Value.pointer A1); refine e2.mono ?_; rintro e w1 ⟨rfl, rfl⟩)
    | (go_at_call_of 57 (Value.pointer B1); refine e3.mono ?_; rintro e w1 ⟨rfl, rfl⟩)
    | (go_at_call_of 57 (Value.pointer B2); refine e4.mono ?_; rintro e w1 ⟨rfl, rfl⟩))
  go_region_held3 (fun w' => w'.cell? ⟨bl, 2, none⟩ = some (.pointer B2)) (first | exact c2 | go_keep)
    (first
    | (go_at_call_of 58 (Value.pointer (some ⟨b, 0, none⟩)); refine (f1 w.drew (bdrew1 (Below.refl _ w))).mono ?_; rintro e w3 ⟨A3, rfl, hT3, hB3⟩; have hB4 : Below w.heap.size w w3 := bstep (b := w.drew) (bdrew1 (Below.refl _ w)) hB3; have x1 := (hB4.cell (p := ⟨bl, 2, none⟩) lb).trans c2)
    | (go_at_call_of 58 (Value.pointer (some ⟨bl, 0, none⟩)); refine (f2 w3 hB4 A3 hT3).mono ?_; rintro e w5 ⟨A5, rfl, hT5, hB5⟩; have hB6 := bstep hB4 hB5; have y1 := (hB6.cell (p := ⟨bl, 2, none⟩) lb).trans c2))
  go_wp2
  go_ret
  exact ⟨_, rfl, hT5, hB6⟩
/-- the right side is higher by two, and its own left side is the higher one -/
theorem level1_rl {a2 b2 rr : Tr Int Int} {rk x : Int} {rv u : Int} (hE : ∀ k, w.heap.size ≤ k → E k) (hp : PairAt E w b p (vI k) (vI v)) (h1 : TreeAt vI vI E w A1 l) (h2 : TreeAt vI vI E w A2 (.node (.node a2 x u b2) rk rv rr))
    (hl : l.ht ≤ 1000000) (hr : max (max a2.ht b2.ht + 1) rr.ht + 1 ≤ 1000000)
    (hc1 : l.ht + 1 < max (max a2.ht b2.ht + 1) rr.ht + 1) (hc2 : rr.ht < max a2.ht b2.ht + 1) : Calls Try.prog 48 #[.pointer (some ⟨b, 0, none⟩), .pointer A1, .pointer A2] w (RetTree vI vI E w (.node (.node l k v a2) x u (.node b2 rk rv rr))) := by
  have e1 : Calls Try.prog 57 #[.pointer A2] w fun e w' => e = .returned (.int .i64 (max (max a2.ht b2.ht + 1) rr.ht + 1 : Nat)) ∧ w = w' := high1_any A2 _ w h2
  have e2 := high1_any A1 l w h1
  obtain ⟨bl, pl, B1, B2, rfl, n1, t1, t2⟩ := h2
  have e3 : Calls Try.prog 57 #[.pointer B1] w fun e w' => e = .returned (.int .i64 (max a2.ht b2.ht + 1 : Nat)) ∧ w = w' := high1_any B1 _ w t1
  have e4 := high1_any B2 rr w t2
  obtain ⟨bi, pi, C1, C2, rfl, n2, t3, t4⟩ := t1
  have f1 := fun (W : World) (hB : Below w.heap.size w W) => between1_any (fun k hk => hE k (Nat.le_trans hB.size hk)) (hp.below hB) (h1.below hB) (t3.below hB) hl (by omega)
  have f2 := fun (W : World) (hB : Below w.heap.size w W) => between1_any (fun k hk => hE k (Nat.le_trans hB.size hk)) (n1.toPairAt.below hB) (t4.below hB) (t2.below hB) (by omega) (by omega)
  have f3 := fun (W : World) (hB : Below w.heap.size w W) (A A' : Option Addr) (hA : TreeAt vI vI E W A (.node l k v a2)) (hA' : TreeAt vI vI E W A' (.node b2 rk rv rr)) =>
    between1_any (fun k hk => hE k (Nat.le_trans hB.size hk)) (n2.toPairAt.below hB) hA hA' (by simp only [Tr.ht]; omega) (by simp only [Tr.ht]; omega)
  have c1 := n1.c1
  have c2 := n1.c2
  have d1 := n2.c1
  have d2 := n2.c2
  have lb := n1.lb
  have lb2 := n2.lb
  obtain ⟨m, em⟩ : ∃ m, m = max (max a2.ht b2.ht + 1) rr.ht + 1 := ⟨_, rfl⟩
  obtain ⟨a1, ea1⟩ : ∃ a, a = rr.ht := ⟨_, rfl⟩
  obtain ⟨a3, ea3⟩ : ∃ a, a = max a2.ht b2.ht + 1 := ⟨_, rfl⟩
  obtain ⟨c, ec⟩ : ∃ c, c = l.ht := ⟨_, rfl⟩
  rw [← em] at e1 hr hc1
  rw [← ea1] at e4 hc2
  rw [← ea3] at e3 hc2
  rw [← ec] at e2 hl hc1
  have a1l : a1 ≤ 1000000 := by omega
  have a2l : a3 ≤ 1000000 := by omega
  clear em ea1 ea3 ec n1 n2
  go_enter Try.func48, Try.ntmps48
  go_wp2_with (first
    | (go_at_call_of 57 (Value.pointer (some ⟨bl, 0, none⟩)); refine e1.mono ?_; rintro e w1 ⟨rfl, rfl⟩)
    | (go_at_call_of 57 (Value.pointer A1); refine e2.mono ?_; rintro e w1 ⟨rfl, rfl⟩)
    | (go_at_call_of 57 (Value.pointer (some ⟨bi, 0, none⟩)); refine e3.mono ?_; rintro e w1 ⟨rfl, rfl⟩)
    | (go_at_call_of 57 (Value.pointer B2); refine e4.mono ?_; rintro e w1 ⟨rfl, rfl⟩))
  go_region_held3 (fun w' => w'.cell? ⟨bl, 2, none⟩ = some (.pointer B2) ∧ w'.cell? ⟨bi, 1, none⟩ = some (.pointer C1) ∧ w'.cell? ⟨bi, 2, none⟩ = some (.pointer C2)) (first | exact ⟨c2, d1, d2⟩ | go_keep)
    (first
    | (go_at_call_of 58 (Value.pointer (some ⟨b, 0, none⟩)); refine (f1 w.drew (bdrew1 (Below.refl _ w))).mono ?_; rintro e w3 ⟨A3, rfl, hT3, hB3⟩; have hB4 : Below w.heap.size w w3 := bstep (b := w.drew) (bdrew1 (Below.refl _ w)) hB3; have x1 := (hB4.cell (p := ⟨bl, 2, none⟩) lb).trans c2; have x2 := (hB4.cell (p := ⟨bi, 1, none⟩) lb2).trans d1; have x3 := (hB4.cell (p := ⟨bi, 2, none⟩) lb2).trans d2)
    | (go_at_call_of 58 (Value.pointer (some ⟨bl, 0, none⟩)); refine (f2 w3 hB4).mono ?_; rintro e w5 ⟨A5, rfl, hT5, hB5⟩; have hT4 := hT3.below hB5; have hB6 := bstep hB4 hB5; have y1 := (hB6.cell (p := ⟨bl, 2, none⟩) lb).trans c2; have y2 := (hB6.cell (p := ⟨bi, 1, none⟩) lb2).trans d1; have y3 := (hB6.cell (p := ⟨bi, 2, none⟩) lb2).trans d2)
    | (go_at_call_of 58 (Value.pointer (some ⟨bi, 0, none⟩)); refine (f3 w5 hB6 A3 A5 hT4 hT5).mono ?_; rintro e w7 ⟨A7, rfl, hT7, hB7⟩; have hB8 := bstep hB6 hB7; have z1 := (hB8.cell (p := ⟨bl, 2, none⟩) lb).trans c2; have z2 := (hB8.cell (p := ⟨bi, 1, none⟩) lb2).trans d1; have z3 := (hB8.cell (p := ⟨bi, 2, none⟩) lb2).trans d2))
  go_wp2
  go_ret
  exact ⟨_, rfl, hT7, hB8⟩
theorem level1_any (hE : ∀ k, w.heap.size ≤ k → E k) (hp : PairAt E w b p (vI k) (vI v)) (h1 : TreeAt vI vI E w A1 l) (h2 : TreeAt vI vI E w A2 r) (hl : l.ht ≤ 1000000) (hr : r.ht ≤ 1000000) :
    Calls Try.prog 48 #[.pointer (some ⟨b, 0, none⟩), .pointer A1, .pointer A2] w (RetTree vI vI E w (bal l k v r)) := by
  unfold bal
  by_cases c1 : r.ht + 1 < l.ht
  · rw [if_pos c1]
    cases l with
    | nil => simp [Tr.ht] at c1
    | node ll lk lv lr =>
      dsimp only
      by_cases c2 : lr.ht ≤ ll.ht
      · rw [if_pos c2]
        exact level1_l hE hp h1 h2 hl hr c1 c2
      · rw [if_neg c2]
        cases lr with
        | nil => simp [Tr.ht] at c2
        | node a x y b => exact level1_lr hE hp h1 h2 hl hr c1 (by simp only [Tr.ht] at c2; omega)
  · rw [if_neg c1]
    by_cases c2 : l.ht + 1 < r.ht
    · rw [if_pos c2]
      cases r with
      | nil => simp [Tr.ht] at c2
      | node rl rk rv rr =>
        dsimp only
        by_cases c3 : rl.ht ≤ rr.ht
        · rw [if_pos c3]
          exact level1_r hE hp h1 h2 hl hr c2 c3
        · rw [if_neg c3]
          cases rl with
          | nil => simp [Tr.ht] at c3
          | node a x y b => exact level1_rl hE hp h1 h2 hl hr c2 (by simp only [Tr.ht] at c3; omega)
    · rw [if_neg c2]
      exact level1_even hE hp h1 h2 hl hr (by omega) (by omega)
end
end Go.Proofs.Ytogeifnkjckaiaa
