/- What is found, put and dropped in a tree (of texts by numbers). -/
import Derived.Test.YtogeifnkjckaiaaNode3
namespace Go.Proofs.Ytogeifnkjckaiaa
open Go.RowKit
attribute [local go_sem ↓] Go.wp_at_zero Go.wp_at_succ

def RetFound3 (E : Set') (w : World) (k : Int) (o : Option ByteArray) (e : Ending) (w' : World) : Prop := ∃ A, e = .returned (.pointer A) ∧ Found vI vS E w k o A ∧ w = w'
set_option maxHeartbeats 400000 in
theorem find3_any {E : Set'} (A : Option Addr) (t : Tr Int ByteArray) (k : Int) (w : World) (h : TreeAt vI vS E w A t) :
    Calls Try.prog 44 #[.pointer A, vI k] w (RetFound3 E w k (t.look k)) := by
  obtain ⟨o, eo⟩ : ∃ o, t.look k = o := ⟨_, rfl⟩
  rw [eo]
  have Eo := Lib.hid eo
  clear eo
  go_enter Try.func44, Try.ntmps44
  go_wp2_with fail
  go_loop [0] (fun n => ∃ A1 t1, n = .pointer A1 ∧ TreeAt vI vS E w A1 t1 ∧ RowKit.Hid (t1.look k = o)) (fun n => htOf w n)
  case atStart => exact ⟨A, t, rfl, h, Eo⟩
  case round =>
    obtain ⟨A1, t1, rfl, h1, ho⟩ := hrel
    cases t1 with
    | nil =>
      obtain rfl := h1
      go_wp2
      go_ret
      exact ⟨none, rfl, by rw [← ho.out]; rfl, rfl⟩
    | node l x u r =>
      have hm := htOf_tree h1
      obtain ⟨b, p, B1, B2, rfl, n1, s1, s2⟩ := h1
      have hc := compareJ_any k x w
      have c0 := n1.c0
      have c1 := n1.c1
      have c2 := n1.c2
      have k0 := n1.k0
      by_cases a1 : Key.lt k x = true
      · rw [cmp_lt a1] at hc
        have ho1 := ho.out
        simp only [Tr.look, if_pos a1] at ho1
        have ho2 := Lib.hid ho1
        clear ho1
        have hm1 := htOf_tree s1
        have Hm := Lib.hid (And.intro hm hm1)
        clear a1 ho n1 hm hm1
        go_wp2_with (first | (go_at_call 47; refine hc.mono ?_; rintro e w1 ⟨rfl, rfl⟩))
        go_round
        case rel => exact ⟨B1, l, rfl, s1, ho2⟩
        case measure => have h1 := Hm.out.1; have h2 := Hm.out.2; simp only [Tr.ht] at h1; omega
      · by_cases a2 : Key.lt x k = true
        · rw [cmp_gt a2] at hc
          have ho1 := ho.out
          simp only [Tr.look, if_neg a1, if_pos a2] at ho1
          have ho2 := Lib.hid ho1
          clear ho1
          have hm1 := htOf_tree s2
          have Hm := Lib.hid (And.intro hm hm1)
          clear a1 a2 ho n1 hm hm1
          go_wp2_with (first | (go_at_call 47; refine hc.mono ?_; rintro e w1 ⟨rfl, rfl⟩))
          go_round
          case rel => exact ⟨B2, r, rfl, s2, ho2⟩
          case measure => have h1 := Hm.out.1; have h2 := Hm.out.2; simp only [Tr.ht] at h1; omega
        · obtain rfl := Key.tri k x (by simpa using a1) (by simpa using a2)
          rw [cmp_eq] at hc
          have ho1 := ho.out
          simp only [Tr.look, if_neg a1] at ho1
          have ho2 := Lib.hid ho1
          clear ho1
          have HP := n1.toPairAt
          clear a1 a2 ho n1 hm
          go_wp2_with (first | (go_at_call 47; refine hc.mono ?_; rintro e w1 ⟨rfl, rfl⟩))
          go_ret
          exact ⟨some ⟨b, 0, none⟩, rfl, by rw [← ho2.out]; exact ⟨b, p, rfl, HP⟩, rfl⟩

section
variable {E : Set'}
set_option maxHeartbeats 400000 in
theorem put3_any (t : Tr Int ByteArray) (k : Int) (v : ByteArray) : ∀ (A : Option Addr) (w : World), (∀ j, w.heap.size ≤ j → E j) → TreeAt vI vS E w A t → t.toL.length ≤ 100000 →
    Calls Try.prog 45 #[.pointer A, vI k, vS v] w (RetTree vI vS E w (t.put k v)) := by
  induction t with
  | nil =>
    intro A w hE h hl
    obtain rfl := h
    go_enter Try.func45, Try.ntmps45
    go_wp2
    go_ret
    exact ⟨_, rfl, TreeAt.fresh (l := .nil) (r := .nil) k v rfl rfl hE _ _ _ rfl, bstep (bnew _ _) (bnew _ _)⟩
  | node l x u r ihl ihr =>
    intro A w hE h hl
    obtain ⟨b, p, B1, B2, rfl, n1, s1, s2⟩ := h
    have hll : l.toL.length ≤ 100000 := by simp [Tr.toL] at hl; omega
    have hlr : r.toL.length ≤ 100000 := by simp [Tr.toL] at hl; omega
    have q1 := put_len l k v
    have q2 := put_len r k v
    have q3 := (l.put k v).ht_le
    have q4 := (r.put k v).ht_le
    have q5 := l.ht_le
    have q6 := r.ht_le
    have hc := compareJ_any k x w
    have c0 := n1.c0
    have c1 := n1.c1
    have c2 := n1.c2
    have c3 := n1.c3
    have k0 := n1.k0
    have lb := n1.lb
    by_cases a1 : Key.lt k x = true
    · rw [cmp_lt a1] at hc
      simp only [Tr.put, if_pos a1]
      have f1 := fun (W : World) (hB : Below w.heap.size w W) => ihl B1 W (fun j hj => hE j (Nat.le_trans hB.size hj)) (s1.below hB) hll
      have f2 := fun (W : World) (hB : Below w.heap.size w W) (A : Option Addr) (hA : TreeAt vI vS E W A (l.put k v)) => level3_any (fun j hj => hE j (Nat.le_trans hB.size hj)) (n1.toPairAt.below hB) hA (s2.below hB) (by omega) (by omega)
      clear a1 n1 hl q1 q2 q3 q4 q5 q6 hll hlr ihl ihr
      go_enter Try.func45, Try.ntmps45
      go_wp2_with (first | (go_at_call 47; refine hc.mono ?_; rintro e w1 ⟨rfl, rfl⟩))
      go_region_held3 (fun w' => w'.cell? ⟨b, 1, none⟩ = some (.pointer B1) ∧ w'.cell? ⟨b, 2, none⟩ = some (.pointer B2)) (first | exact ⟨c1, c2⟩ | go_keep)
        (first
        | (go_at_call 45; refine (f1 w.drew (bdrew1 (Below.refl _ w))).mono ?_; rintro e w3 ⟨A3, rfl, hT3, hB3⟩; have hB4 : Below w.heap.size w w3 := bstep (b := w.drew) (bdrew1 (Below.refl _ w)) hB3; have x1 := (hB4.cell (p := ⟨b, 1, none⟩) lb).trans c1; have x2 := (hB4.cell (p := ⟨b, 2, none⟩) lb).trans c2)
        | (go_at_call 53; refine (f2 w3 hB4 A3 hT3).mono ?_; rintro e w5 ⟨A5, rfl, hT5, hB5⟩; have hB6 := bstep hB4 hB5; have y1 := (hB6.cell (p := ⟨b, 1, none⟩) lb).trans c1; have y2 := (hB6.cell (p := ⟨b, 2, none⟩) lb).trans c2))
      all_goals
        go_wp2
        go_ret
        exact ⟨_, rfl, hT5, hB6⟩
    · by_cases a2 : Key.lt x k = true
      · rw [cmp_gt a2] at hc
        simp only [Tr.put, if_neg a1, if_pos a2]
        have f1 := fun (W : World) (hB : Below w.heap.size w W) => ihr B2 W (fun j hj => hE j (Nat.le_trans hB.size hj)) (s2.below hB) hlr
        have f2 := fun (W : World) (hB : Below w.heap.size w W) (A : Option Addr) (hA : TreeAt vI vS E W A (r.put k v)) => level3_any (fun j hj => hE j (Nat.le_trans hB.size hj)) (n1.toPairAt.below hB) (s1.below hB) hA (by omega) (by omega)
        clear a1 a2 n1 hl q1 q2 q3 q4 q5 q6 hll hlr ihl ihr
        go_enter Try.func45, Try.ntmps45
        go_wp2_with (first | (go_at_call 47; refine hc.mono ?_; rintro e w1 ⟨rfl, rfl⟩))
        go_region_held3 (fun w' => w'.cell? ⟨b, 1, none⟩ = some (.pointer B1) ∧ w'.cell? ⟨b, 2, none⟩ = some (.pointer B2)) (first | exact ⟨c1, c2⟩ | go_keep)
          (first
          | (go_at_call 45; refine (f1 w.drew (bdrew1 (Below.refl _ w))).mono ?_; rintro e w3 ⟨A3, rfl, hT3, hB3⟩; have hB4 : Below w.heap.size w w3 := bstep (b := w.drew) (bdrew1 (Below.refl _ w)) hB3; have x1 := (hB4.cell (p := ⟨b, 1, none⟩) lb).trans c1; have x2 := (hB4.cell (p := ⟨b, 2, none⟩) lb).trans c2)
          | (go_at_call 53; refine (f2 w3 hB4 A3 hT3).mono ?_; rintro e w5 ⟨A5, rfl, hT5, hB5⟩; have hB6 := bstep hB4 hB5; have y1 := (hB6.cell (p := ⟨b, 1, none⟩) lb).trans c1; have y2 := (hB6.cell (p := ⟨b, 2, none⟩) lb).trans c2))
        all_goals
          go_wp2
          go_ret
          exact ⟨_, rfl, hT5, hB6⟩
      · obtain rfl := Key.tri k x (by simpa using a1) (by simpa using a2)
        rw [cmp_eq] at hc
        simp only [Tr.put, if_neg a1]
        clear a1 a2 n1 hl q1 q2 q3 q4 q5 q6 hll hlr ihl ihr
        go_enter Try.func45, Try.ntmps45
        go_wp2_with (first | (go_at_call 47; refine hc.mono ?_; rintro e w1 ⟨rfl, rfl⟩))
        go_region_held3 (fun w' => w'.cell? ⟨b, 0, none⟩ = some (ptr p) ∧ w'.cell? ⟨p, 0, none⟩ = some (vI k) ∧ w'.cell? ⟨b, 1, none⟩ = some (.pointer B1) ∧ w'.cell? ⟨b, 2, none⟩ = some (.pointer B2) ∧ w'.cell? ⟨b, 3, none⟩ = some (.int .i64 (max l.ht r.ht + 1 : Nat))) (first | exact ⟨c0, k0, c1, c2, c3⟩ | go_keep) (fail)
        all_goals
          go_wp2
          go_ret
          exact ⟨_, rfl, (TreeAt.fresh (l := l) (r := r) k v s1 s2 hE _ _ _ (by omega)).drew, bdrew1 (bstep (bnew _ _) (bnew _ _))⟩
end
end Go.Proofs.Ytogeifnkjckaiaa
