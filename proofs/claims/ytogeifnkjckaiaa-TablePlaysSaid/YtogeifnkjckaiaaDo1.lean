/- What is found, put and dropped in a tree (of numbers by numbers). -/
import Derived.Test.YtogeifnkjckaiaaNode1
namespace Go.Proofs.Ytogeifnkjckaiaa
open Go.RowKit
attribute [local go_sem ↓] Go.wp_at_zero Go.wp_at_succ

def RetFound1 (E : Set') (w : World) (k : Int) (o : Option Int) (e : Ending) (w' : World) : Prop := ∃ A, e = .returned (.pointer A) ∧ Found vI vI E w k o A ∧ w = w'
set_option maxHeartbeats 400000 in
theorem find1_any {E : Set'} (A : Option Addr) (t : Tr Int Int) (k : Int) (w : World) (h : TreeAt vI vI E w A t) :
    Calls Try.prog 33 #[.pointer A, vI k] w (RetFound1 E w k (t.look k)) := by
  obtain ⟨o, eo⟩ : ∃ o, t.look k = o := ⟨_, rfl⟩
  rw [eo]
  have Eo := Lib.hid eo
  clear eo
  go_enter Try.func33, Try.ntmps33
  go_wp2_with fail
  go_loop [0] (fun n => ∃ A1 t1, n = .pointer A1 ∧ TreeAt vI vI E w A1 t1 ∧ RowKit.Hid (t1.look k = o)) (fun n => htOf w n)
  case atStart => exact ⟨A, t, rfl, h, Eo⟩
  case round =>
    obtain ⟨A1, t1, rfl, h1, ho⟩ := hrel
    cases t1 with
    | nil =>
      obtain rfl := h1
      go_wp2
      go_ret
      exact ⟨none, rfl, by rw [← ho.out]; rfl, rfl⟩
    | node l x u r =>
      have hm := htOf_tree h1
      obtain ⟨b, p, B1, B2, rfl, n1, s1, s2⟩ := h1
      have hc := compareI_any k x w
      have c0 := n1.c0
      have c1 := n1.c1
      have c2 := n1.c2
      have k0 := n1.k0
      by_cases a1 : Key.lt k x = true
      · rw [cmp_lt a1] at hc
        have ho1 := ho.out
        simp only [Tr.look, if_pos a1] at ho1
        have ho2 := Lib.hid ho1
        clear ho1
        have hm1 := htOf_tree s1
        have Hm := Lib.hid (And.intro hm hm1)
        clear a1 ho n1 hm hm1
        go_wp2_with (first | (go_at_call 47; refine hc.mono ?_; rintro e w1 ⟨rfl, rfl⟩))
        go_round
        case rel => exact ⟨B1, l, rfl, s1, ho2⟩
        case measure => have h1 := Hm.out.1; have h2 := Hm.out.2; simp only [Tr.ht] at h1; omega
      · by_cases a2 : Key.lt x k = true
        · rw [cmp_gt a2] at hc
          have ho1 := ho.out
          simp only [Tr.look, if_neg a1, if_pos a2] at ho1
          have ho2 := Lib.hid ho1
          clear ho1
          have hm1 := htOf_tree s2
          have Hm := Lib.hid (And.intro hm hm1)
          clear a1 a2 ho n1 hm hm1
          go_wp2_with (first | (go_at_call 47; refine hc.mono ?_; rintro e w1 ⟨rfl, rfl⟩))
          go_round
          case rel => exact ⟨B2, r, rfl, s2, ho2⟩
          case measure => have h1 := Hm.out.1; have h2 := Hm.out.2; simp only [Tr.ht] at h1; omega
        · obtain rfl := Key.tri k x (by simpa using a1) (by simpa using a2)
          rw [cmp_eq] at hc
          have ho1 := ho.out
          simp only [Tr.look, if_neg a1] at ho1
          have ho2 := Lib.hid ho1
          clear ho1
          have HP := n1.toPairAt
          clear a1 a2 ho n1 hm
          go_wp2_with (first | (go_at_call 47; refine hc.mono ?_; rintro e w1 ⟨rfl, rfl⟩))
          go_ret
          exact ⟨some ⟨b, 0, none⟩, rfl, by rw [← ho2.out]; exact ⟨b, p, rfl, HP⟩, rfl⟩

section
variable {E : Set'}
set_option maxHeartbeats 400000 in
theorem put1_any (t : Tr Int Int) (k : Int) (v : Int) : ∀ (A : Option Addr) (w : World), (∀ j, w.heap.size ≤ j → E j) → TreeAt vI vI E w A t → t.toL.length ≤ 100000 →
    Calls Try.prog 34 #[.pointer A, vI k, vI v] w (RetTree vI vI E w (t.put k v)) := by
  induction t with
  | nil =>
    intro A w hE h hl
    obtain rfl := h
    go_enter Try.func34, Try.ntmps34
    go_wp2
    go_ret
    exact ⟨_, rfl, TreeAt.fresh (l := .nil) (r := .nil) k v rfl rfl hE _ _ _ rfl, bstep (bnew _ _) (bnew _ _)⟩
  | node l x u r ihl ihr =>
    intro A w hE h hl
    obtain ⟨b, p, B1, B2, rfl, n1, s1, s2⟩ := h
    have hll : l.toL.length ≤ 100000 := by simp [Tr.toL] at hl; omega
    have hlr : r.toL.length ≤ 100000 := by simp [Tr.toL] at hl; omega
    have q1 := put_len l k v
    have q2 := put_len r k v
    have q3 := (l.put k v).ht_le
    have q4 := (r.put k v).ht_le
    have q5 := l.ht_le
    have q6 := r.ht_le
    have hc := compareI_any k x w
    have c0 := n1.c0
    have c1 := n1.c1
    have c2 := n1.c2
    have c3 := n1.c3
    have k0 := n1.k0
    have lb := n1.lb
    by_cases a1 : Key.lt k x = true
    · rw [cmp_lt a1] at hc
      simp only [Tr.put, if_pos a1]
      have f1 := fun (W : World) (hB : Below w.heap.size w W) => ihl B1 W (fun j hj => hE j (Nat.le_trans hB.size hj)) (s1.below hB) hll
      have f2 := fun (W : World) (hB : Below w.heap.size w W) (A : Option Addr) (hA : TreeAt vI vI E W A (l.put k v)) => level1_any (fun j hj => hE j (Nat.le_trans hB.size hj)) (n1.toPairAt.below hB) hA (s2.below hB) (by omega) (by omega)
      clear a1 n1 hl q1 q2 q3 q4 q5 q6 hll hlr ihl ihr
      go_enter Try.func34, Try.ntmps34
      go_wp2_with (first | (go_at_call 47; refine hc.mono ?_; rintro e w1 ⟨rfl, rfl⟩))
      go_region_held3 (fun w' => w'.cell? ⟨b, 1, none⟩ = some (.pointer B1) ∧ w'.cell? ⟨b, 2, none⟩ = some (.pointer B2)) (first | exact ⟨c1, c2⟩ | go_keep)
        (first
        | (go_at_call 34; refine (f1 w.drew (bdrew1 (Below.refl _ w))).mono ?_; rintro e w3 ⟨A3, rfl, hT3, hB3⟩; have hB4 : Below w.heap.size w w3 := bstep (b := w.drew) (bdrew1 (Below.refl _ w)) hB3; have x1 := (hB4.cell (p := ⟨b, 1, none⟩) lb).trans c1; have x2 := (hB4.cell (p := ⟨b, 2, none⟩) lb).trans c2)
        | (go_at_call 48; refine (f2 w3 hB4 A3 hT3).mono ?_; rintro e w5 ⟨A5, rfl, hT5, hB5⟩; have hB6 := bstep hB4 hB5; have y1 := (hB6.cell (p := ⟨b, 1, none⟩) lb).trans c1; have y2 := (hB6.cell (p := ⟨b, 2, none⟩) lb).trans c2))
      all_goals
        go_wp2
        go_ret
        exact ⟨_, rfl, hT5, hB6⟩
    · by_cases a2 : Key.lt x k = true
      · rw [cmp_gt a2] at hc
        simp only [Tr.put, if_neg a1, if_pos a2]
        have f1 := fun (W : World) (hB : Below w.heap.size w W) => ihr B2 W (fun j hj => hE j (Nat.le_trans hB.size hj)) (s2.below hB) hlr
        have f2 := fun (W : World) (hB : Below w.heap.size w W) (A : Option Addr) (hA : TreeAt vI vI E W A (r.put k v)) => level1_any (fun j hj => hE j (Nat.le_trans hB.size hj)) (n1.toPairAt.below hB) (s1.below hB) hA (by omega) (by omega)
        clear a1 a2 n1 hl q1 q2 q3 q4 q5 q6 hll hlr ihl ihr
        go_enter Try.func34, Try.ntmps34
        go_wp2_with (first | (go_at_call 47; refine hc.mono ?_; rintro e w1 ⟨rfl, rfl⟩))
        go_region_held3 (fun w' => w'.cell? ⟨b, 1, none⟩ = some (.pointer B1) ∧ w'.cell? ⟨b, 2, none⟩ = some (.pointer B2)) (first | exact ⟨c1, c2⟩ | go_keep)
          (first
          | (go_at_call 34; refine (f1 w.drew (bdrew1 (Below.refl _ w))).mono ?_; rintro e w3 ⟨A3, rfl, hT3, hB3⟩; have hB4 : Below w.heap.size w w3 := bstep (b := w.drew) (bdrew1 (Below.refl _ w)) hB3; have x1 := (hB4.cell (p := ⟨b, 1, none⟩) lb).trans c1; have x2 := (hB4.cell (p := ⟨b, 2, none⟩) lb).trans c2)
          | (go_at_call 48; refine (f2 w3 hB4 A3 hT3).mono ?_; rintro e w5 ⟨A5, rfl, hT5, hB5⟩; have hB6 := bstep hB4 hB5; have y1 := (hB6.cell (p := ⟨b, 1, none⟩) lb).trans c1; have y2 := (hB6.cell (p := ⟨b, 2, none⟩) lb).trans c2))
        all_goals
          go_wp2
          go_ret
          exact ⟨_, rfl, hT5, hB6⟩
      · obtain rfl := Key.tri k x (by simpa using a1) (by simpa using a2)
        rw [cmp_eq] at hc
        simp only [Tr.put, if_neg a1]
        clear a1 a2 n1 hl q1 q2 q3 q4 q5 q6 hll hlr ihl ihr
        go_enter Try.func34, Try.ntmps34
        go_wp2_with (first | (go_at_call 47; refine hc.mono ?_; rintro e w1 ⟨rfl, rfl⟩))
        go_region_held3 (fun w' => w'.cell? ⟨b, 0, none⟩ = some (ptr p) ∧ w'.cell? ⟨p, 0, none⟩ = some (vI k) ∧ w'.cell? ⟨b, 1, none⟩ = some (.pointer B1) ∧ w'.cell? ⟨b, 2, none⟩ = some (.pointer B2) ∧ w'.cell? ⟨b, 3, none⟩ = some (.int .i64 (max l.ht r.ht + 1 : Nat))) (first | exact ⟨c0, k0, c1, c2, c3⟩ | go_keep) (fail)
        all_goals
          go_wp2
          go_ret
          exact ⟨_, rfl, (TreeAt.fresh (l := l) (r := r) k v s1 s2 hE _ _ _ (by omega)).drew, bdrew1 (bstep (bnew _ _) (bnew _ _))⟩
/-DROP-/
/-- what dropping a key that is there makes -/
def Drops1 (E : Set') (t : Tr Int Int) : Prop := ∀ (k : Int) (A : Option Addr) (w : World), (∀ j, w.heap.size ≤ j → E j) → TreeAt vI vI E w A t → Rises t.toL → t.toL.length ≤ 100000 → t.look k ≠ none →
  Calls Try.prog 36 #[.pointer A, vI k] w (RetTree vI vI E w (t.drop k))
theorem join1_any {l r : Tr Int Int} (hD : Drops1 E r) {A1 A2 : Option Addr} {w : World} (hE : ∀ j, w.heap.size ≤ j → E j) (h1 : TreeAt vI vI E w A1 l) (h2 : TreeAt vI vI E w A2 r)
    (hr : Rises r.toL) (hl1 : l.toL.length ≤ 100000) (hl2 : r.toL.length ≤ 100000) : Calls Try.prog 49 #[.pointer A1, .pointer A2] w (RetTree vI vI E w (join l r)) := by
  cases r with
  | nil =>
    obtain rfl := h2
    go_enter Try.func49, Try.ntmps49
    go_wp2
    go_ret
    exact ⟨_, rfl, h1, Below.refl _ _⟩
  | node rl rk rv rr =>
    obtain ⟨m, rest, em⟩ : ∃ m rest, (Tr.node rl rk rv rr).toL = m :: rest := by
      cases e : (Tr.node rl rk rv rr).toL with
      | nil => simp [Tr.toL] at e
      | cons m rest => exact ⟨m, rest, rfl⟩
    have hk := look_first _ m rest hr em
    have q1 := drop_len (Tr.node rl rk rv rr) m.1
    have q2 := ((Tr.node rl rk rv rr).drop m.1).ht_le
    have q3 := l.ht_le
    have f1 := hD m.1 A2 w hE h2 hr hl2 (by rw [hk]; simp)
    have hj : join l (.node rl rk rv rr) = bal l m.1 m.2 ((Tr.node rl rk rv rr).drop m.1) := by unfold join; rw [em]
    rw [hj]
    obtain ⟨m1, m2⟩ := m
    have em0 := Lib.hid em
    obtain ⟨t, et⟩ : ∃ t, t = Tr.node rl rk rv rr := ⟨_, rfl⟩
    rw [← et] at q1 q2 f1 hl2 ⊢
    dsimp only at q1 q2 f1 ⊢
    have hl3 : l.ht ≤ 1000000 := by omega
    have hl4 : (t.drop m1).ht ≤ 1000000 := by omega
    clear et q1 q2 q3 hk hj em hl1 hl2 hD
    have f2 := fun (W : World) (hB : Below w.heap.size w W) (b p : Nat) (hp : PairAt E w b p (vI m1) (vI m2)) (A : Option Addr) (hA : TreeAt vI vI E W A (t.drop m1)) =>
      level1_any (fun j hj => hE j (Nat.le_trans hB.size hj)) (hp.below hB) (h1.below hB) hA hl3 hl4
    obtain ⟨bb, pp, B1, B2, rfl, hn, hn1, hn2⟩ := h2
    go_enter Try.func49, Try.ntmps49
    go_wp2_with fail
    go_loop [5] (fun n => ∃ b p C1 C2 l1 k1 v1 r1 rest1, n = .pointer (some ⟨b, 0, none⟩) ∧ NodeAt E w b p C1 C2 (max l1.ht r1.ht + 1) (vI k1) (vI v1) ∧ TreeAt vI vI E w C1 l1 ∧ RowKit.Hid ((Tr.node l1 k1 v1 r1).toL = (m1, m2) :: rest1)) (fun n => htOf w n)
    case atStart => exact ⟨bb, pp, B1, B2, rl, rk, rv, rr, rest, rfl, hn, hn1, em0⟩
    case round =>
      obtain ⟨b, p, C1, C2, l1, k1, v1, r1, rest1, rfl, n1, s1, ht⟩ := hrel
      have c0 := n1.c0
      have c1 := n1.c1
      have k0 := n1.k0
      cases l1 with
      | nil =>
        obtain rfl := s1
        have ht1 := ht.out
        simp only [Tr.toL, List.nil_append, List.cons.injEq, Prod.mk.injEq] at ht1
        obtain ⟨⟨rfl, rfl⟩, -⟩ := ht1
        have hp := n1.toPairAt
        clear ht n1 em0 hn
        go_wp2_with (first
          | (go_at_call 36; refine f1.mono ?_; rintro e w3 ⟨A3, rfl, hT3, hB3⟩)
          | (go_at_call 48; refine (f2 w3 hB3 b p hp A3 hT3).mono ?_; rintro e w5 ⟨A5, rfl, hT5, hB5⟩))
        go_ret
        exact ⟨_, rfl, hT5, bstep hB3 hB5⟩
      | node l2 k2 v2 r2 =>
        have hm1 := n1.c3
        obtain ⟨b2, p2, D1, D2, rfl, n2, s2, _⟩ := s1
        have hm2 := n2.c3
        obtain ⟨rest2, ht2⟩ : ∃ rest2, (Tr.node l2 k2 v2 r2).toL = (m1, m2) :: rest2 := by
          have h1 := ht.out
          cases e : (Tr.node l2 k2 v2 r2).toL with
          | nil => simp [Tr.toL] at e
          | cons q rest2 =>
            rw [Tr.toL, e] at h1
            simp only [List.cons_append, List.cons.injEq] at h1
            exact ⟨rest2, by rw [h1.1]⟩
        have Ht2 := Lib.hid ht2
        have Hm := Lib.hid (And.intro hm1 hm2)
        clear hm1 hm2 ht2 ht hn
        go_wp2_with fail
        go_round
        case rel => exact ⟨b2, p2, D1, D2, l2, k2, v2, r2, rest2, rfl, n2, s2, Ht2⟩
        case measure =>
          simp only [htOf, Hm.out.1, Hm.out.2]
          simp only [Tr.ht]
          omega
theorem drop1_any (t : Tr Int Int) : Drops1 E t := by
  induction t with
  | nil => exact fun k A w hE h hr hl hk => absurd rfl hk
  | node l x u r ihl ihr =>
    intro k A w hE h hr hl hk
    obtain ⟨b, p, B1, B2, rfl, n1, s1, s2⟩ := h
    obtain ⟨r1, r2, r3⟩ := rises_mid hr
    have hll : l.toL.length ≤ 100000 := by simp [Tr.toL] at hl; omega
    have hlr : r.toL.length ≤ 100000 := by simp [Tr.toL] at hl; omega
    have q1 := drop_len l k
    have q2 := drop_len r k
    have q3 := (l.drop k).ht_le
    have q4 := (r.drop k).ht_le
    have q5 := l.ht_le
    have q6 := r.ht_le
    have hc := compareI_any k x w
    have c0 := n1.c0
    have c1 := n1.c1
    have c2 := n1.c2
    have k0 := n1.k0
    have lb := n1.lb
    by_cases a1 : Key.lt k x = true
    · rw [cmp_lt a1] at hc
      simp only [Tr.look, if_pos a1] at hk
      simp only [Tr.drop, if_pos a1]
      have f1 := fun (W : World) (hB : Below w.heap.size w W) => ihl k B1 W (fun j hj => hE j (Nat.le_trans hB.size hj)) (s1.below hB) r1 hll hk
      have f2 := fun (W : World) (hB : Below w.heap.size w W) (A : Option Addr) (hA : TreeAt vI vI E W A (l.drop k)) => level1_any (fun j hj => hE j (Nat.le_trans hB.size hj)) (n1.toPairAt.below hB) hA (s2.below hB) (by omega) (by omega)
      clear a1 n1 hl q1 q2 q3 q4 q5 q6 hll hlr ihl ihr r1 r2 r3 hr hk
      go_enter Try.func36, Try.ntmps36
      go_wp2_with (first | (go_at_call 47; refine hc.mono ?_; rintro e w1 ⟨rfl, rfl⟩))
      go_region_held3 (fun w' => w'.cell? ⟨b, 1, none⟩ = some (.pointer B1) ∧ w'.cell? ⟨b, 2, none⟩ = some (.pointer B2)) (first | exact ⟨c1, c2⟩ | go_keep)
        (first
        | (go_at_call 36; refine (f1 w.drew (bdrew1 (Below.refl _ w))).mono ?_; rintro e w3 ⟨A3, rfl, hT3, hB3⟩; have hB4 : Below w.heap.size w w3 := bstep (b := w.drew) (bdrew1 (Below.refl _ w)) hB3; have x1 := (hB4.cell (p := ⟨b, 1, none⟩) lb).trans c1; have x2 := (hB4.cell (p := ⟨b, 2, none⟩) lb).trans c2)
        | (go_at_call 48; refine (f2 w3 hB4 A3 hT3).mono ?_; rintro e w5 ⟨A5, rfl, hT5, hB5⟩; have hB6 := bstep hB4 hB5; have y1 := (hB6.cell (p := ⟨b, 1, none⟩) lb).trans c1; have y2 := (hB6.cell (p := ⟨b, 2, none⟩) lb).trans c2))
      all_goals
        go_wp2
        go_ret
        exact ⟨_, rfl, hT5, hB6⟩
    · by_cases a2 : Key.lt x k = true
      · rw [cmp_gt a2] at hc
        simp only [Tr.look, if_neg a1, if_pos a2] at hk
        simp only [Tr.drop, if_neg a1, if_pos a2]
        have f1 := fun (W : World) (hB : Below w.heap.size w W) => ihr k B2 W (fun j hj => hE j (Nat.le_trans hB.size hj)) (s2.below hB) r2 hlr hk
        have f2 := fun (W : World) (hB : Below w.heap.size w W) (A : Option Addr) (hA : TreeAt vI vI E W A (r.drop k)) => level1_any (fun j hj => hE j (Nat.le_trans hB.size hj)) (n1.toPairAt.below hB) (s1.below hB) hA (by omega) (by omega)
        clear a1 a2 n1 hl q1 q2 q3 q4 q5 q6 hll hlr ihl ihr r1 r2 r3 hr hk
        go_enter Try.func36, Try.ntmps36
        go_wp2_with (first | (go_at_call 47; refine hc.mono ?_; rintro e w1 ⟨rfl, rfl⟩))
        go_region_held3 (fun w' => w'.cell? ⟨b, 1, none⟩ = some (.pointer B1) ∧ w'.cell? ⟨b, 2, none⟩ = some (.pointer B2)) (first | exact ⟨c1, c2⟩ | go_keep)
          (first
          | (go_at_call 36; refine (f1 w.drew (bdrew1 (Below.refl _ w))).mono ?_; rintro e w3 ⟨A3, rfl, hT3, hB3⟩; have hB4 : Below w.heap.size w w3 := bstep (b := w.drew) (bdrew1 (Below.refl _ w)) hB3; have x1 := (hB4.cell (p := ⟨b, 1, none⟩) lb).trans c1; have x2 := (hB4.cell (p := ⟨b, 2, none⟩) lb).trans c2)
          | (go_at_call 48; refine (f2 w3 hB4 A3 hT3).mono ?_; rintro e w5 ⟨A5, rfl, hT5, hB5⟩; have hB6 := bstep hB4 hB5; have y1 := (hB6.cell (p := ⟨b, 1, none⟩) lb).trans c1; have y2 := (hB6.cell (p := ⟨b, 2, none⟩) lb).trans c2))
        all_goals
          go_wp2
          go_ret
          exact ⟨_, rfl, hT5, hB6⟩
      · obtain rfl := Key.tri k x (by simpa using a1) (by simpa using a2)
        rw [cmp_eq] at hc
        simp only [Tr.drop, if_neg a1]
        have f1 := join1_any ihr (w := w.drew) hE s1.drew s2.drew r2 hll hlr
        change Calls Try.prog 36 #[.pointer (some ⟨b, 0, none⟩), vI k] w (RetTree vI vI E w (join l r))
        obtain ⟨tj, ej⟩ : ∃ tj, tj = join l r := ⟨_, rfl⟩
        rw [← ej] at f1 ⊢
        clear ej
        clear a1 a2 n1 hl q1 q2 q3 q4 q5 q6 hll hlr ihl ihr r1 r2 r3 hr hk
        go_enter Try.func36, Try.ntmps36
        go_wp2_with (first | (go_at_call 47; refine hc.mono ?_; rintro e w1 ⟨rfl, rfl⟩))
        go_region_held3 (fun w' => w'.cell? ⟨b, 1, none⟩ = some (.pointer B1) ∧ w'.cell? ⟨b, 2, none⟩ = some (.pointer B2)) (first | exact ⟨c1, c2⟩ | go_keep)
          (first
          | (go_at_call 49; refine f1.mono ?_; rintro e w3 ⟨A3, rfl, hT3, hB3⟩; have hB4 : Below w.heap.size w w3 := bstep (b := w.drew) (bdrew1 (Below.refl _ w)) hB3; have x1 := (hB4.cell (p := ⟨b, 1, none⟩) lb).trans c1; have x2 := (hB4.cell (p := ⟨b, 2, none⟩) lb).trans c2))
        all_goals
          go_wp2
          go_ret
          exact ⟨_, rfl, hT3, hB4⟩
/-END-/
end
end Go.Proofs.Ytogeifnkjckaiaa
