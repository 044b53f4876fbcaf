/- TableMany's walk. -/
import Derived.Test.YtogeifnkjckaiaaSmall
import Derived.Test.YtogeifnkjckaiaaLaw
namespace Go.Proofs.Ytogeifnkjckaiaa
open Go.RowKit
attribute [local go_sem ↓] Go.wp_at_zero Go.wp_at_succ

theorem ne_true {a b : Nat} (h : a = b) : ((a : Int) == (b : Int)) = true := by rw [h]; simp
theorem got_same {K V : Type} [Key K] (l : List (K × V)) (k : K) (v : V) : got (ins l k v) k = some v := by rw [got_ins]; simp [Key.irr]
theorem del_none {K V : Type} [Key K] {l : List (K × V)} {k : K} (h : got l k = none) : del l k = l := by
  have := del_len (l := l) k
  rw [h] at this
  exact (del_sub l k).eq_of_length (by simpa using this)

set_option maxRecDepth 100000 in
set_option maxHeartbeats 2000000 in
theorem many_any (A : Option Addr) (n c : Nat) (l : IP) (k v : Int) (w : World) (hl : l.length = n) (hc : n ≤ c) (hs : PS w w.heap.size A l) :
    Calls Try.prog 8 #[.slice A n c, vI k, vI v] w (fun e w' => e = .returned (.bool true) ∧ Below w.heap.size w w') := by
  by_cases hn : n ≤ 60
  · subst hl
    go_enter Try.func8, Try.ntmps8
    go_wp2_with fail
    refine (awake_any w).mono ?_
    rintro e w1 ⟨rfl, hB1⟩
    go_wp2_with fail
    refine (filled_any A c l w1 hn (hs.on hB1)).mono ?_
    obtain ⟨xs, ex⟩ : ∃ xs, xs = fillT l := ⟨_, rfl⟩
    have hxl : xs.length ≤ 60 := by rw [ex]; have := fillT_len l; omega
    rw [← ex]
    clear ex
    rintro e w2 ⟨g, rfl, hg, hT2, hB2⟩
    have hN := hB1.size
    have hgw : w.heap.size ≤ g := Nat.le_trans hB1.size hg
    replace hB2 := bstep hB1 hB2
    clear hB1 hg
    go_wp2_with fail
    refine (len1_any hT2).mono ?_
    rintro e w3 ⟨rfl, rfl⟩
    have e1 := get1_any hT2 k
    have e2 := tput1_any hT2 k v (by omega)
    obtain ⟨xs1, ex1⟩ : ∃ xs1, xs1 = ins xs k v := ⟨_, rfl⟩
    have g1 : got xs1 k = some v := by rw [ex1]; exact got_same _ _ _
    have hr := hT2.rs
    rw [← ex1] at e2
    cases eh : got xs k with
    | none =>
      rw [eh] at e1 e2
      have l1 : xs1.length = xs.length + 1 := by rw [ex1, ins_len, eh]; rfl
      have hpos : 0 ≤ xs.length := by
        omega
      have g3 : got (del (ins xs1 k (wrap64 (v + 1))) k) k = none := by rw [got_del (by rw [ex1]; exact ins_rises _ _ (ins_rises _ _ hr))]; simp [Key.irr]
      have Ex1 := Lib.hid ex1
      have G1 := Lib.hid g1
      have hb1 : xs1.length ≤ 61 := by omega
      have L1 := Lib.hid l1
      clear ex1 eh g1 hr l1
      go_wp2_with fail
      refine e1.mono ?_
      rintro e w4 ⟨rfl, rfl⟩
      go_wp2_with fail
      refine e2.mono ?_
      rintro e w5 ⟨rfl, hT5, hS5⟩
      have hB5 := Sp.below hB2 hS5 hB2.size hgw
      clear e1 e2 hT2 hS5
      go_wp2_with fail
      refine (len1_any hT5).mono ?_
      rintro e w6 ⟨rfl, rfl⟩
      go_wp2_with fail
      obtain ⟨v2, ev2⟩ : ∃ v2, wrap64 (v + 1) = v2 := ⟨_, rfl⟩
      rw [ev2] at g3 ⊢
      have e3 := tput1_any hT5 k v2 (by omega)
      rw [G1.out] at e3
      obtain ⟨xs2, ex2⟩ : ∃ xs2, xs2 = ins xs1 k v2 := ⟨_, rfl⟩
      have g2 : got xs2 k = some v2 := by rw [ex2]; exact got_same _ _ _
      have l2 : xs2.length = xs1.length := by rw [ex2, ins_len, G1.out]; rfl
      rw [← ex2] at e3 g3
      have hb2 : xs2.length ≤ 61 := by omega
      have L12 := Lib.hid (And.intro L1.out l2)
      have G3 := Lib.hid g3
      have G2 := Lib.hid g2
      clear ex2 g2 g3 l2 ev2
      refine e3.mono ?_
      rintro e w7 ⟨rfl, hT7, hS7⟩
      have hB7 := Sp.below hB5 hS7 hB5.size hgw
      clear e3 hT5 hS7
      go_wp2_with fail
      refine (len1_any hT7).mono ?_
      rintro e w8 ⟨rfl, rfl⟩
      have e4 := tdrop1_any hT7 k (by omega)
      rw [G2.out] at e4
      obtain ⟨xs3, ex3⟩ : ∃ xs3, xs3 = del xs2 k := ⟨_, rfl⟩
      have l3 : xs3.length = xs2.length - 1 := by rw [ex3, del_len, G2.out]; rfl
      have g3 := G3.out
      rw [← ex3] at e4 g3
      have hb3 : xs3.length ≤ 60 := by omega
      have L3 := Lib.hid l3
      have H3 := Lib.hid g3
      clear l3 ex3 g3 G3
      go_wp2_with fail
      refine e4.mono ?_
      rintro e w9 ⟨rfl, hT9, hS9⟩
      have hB9 := Sp.below hB7 hS9 hB7.size hgw
      clear e4 hT7 hS9
      go_wp2_with fail
      refine (len1_any hT9).mono ?_
      rintro e w10 ⟨rfl, rfl⟩
      have e5 := tdrop1_any hT9 k (by omega)
      rw [H3.out, del_none H3.out] at e5
      go_wp2_with fail
      refine e5.mono ?_
      rintro e w11 ⟨rfl, hT11, hS11⟩
      have hB11 := Sp.below hB9 hS11 hB9.size hgw
      clear e5 hT9 hS11
      have q1 : (xs1.length : Int) = (xs2.length : Int) := by have := L12.out; omega
      have p1 : ((xs1.length : Int) != (xs2.length : Int)) = false := by rw [q1]; simp
      have p2 : (xs1.length != xs2.length) = false := by have := L12.out; simp; omega
      have p3 : ((xs3.length : Int) != (xs3.length : Int)) = false := by simp
      clear q1
      go_wp2_with (first | (go_at_call 19; refine (all_any hT11 hb3).mono ?_; rintro e w12 ⟨A12, c12, rfl, hc12, hP12, hA12, hB12⟩))
      · go_ret
        refine ⟨ret_bool ?_, bthen hB11 hB12 hB11.size⟩
        have h1 := L12.out
        have h2 := L3.out
        simp
        omega
      · have h1 := L12.out
        omega
    | some u =>
      rw [eh] at e1 e2
      have l1 : xs1.length = xs.length := by rw [ex1, ins_len, eh]; rfl
      have hpos : 0 < xs.length := by
        cases xs with
        | nil => simp [got] at eh
        | cons _ _ => simp
      have g3 : got (del (ins xs1 k (wrap64 (v + 1))) k) k = none := by rw [got_del (by rw [ex1]; exact ins_rises _ _ (ins_rises _ _ hr))]; simp [Key.irr]
      have Ex1 := Lib.hid ex1
      have G1 := Lib.hid g1
      have hb1 : xs1.length ≤ 61 := by omega
      have L1 := Lib.hid l1
      clear ex1 eh g1 hr l1
      go_wp2_with fail
      refine e1.mono ?_
      rintro e w4 ⟨rfl, rfl⟩
      go_wp2_with fail
      refine e2.mono ?_
      rintro e w5 ⟨rfl, hT5, hS5⟩
      have hB5 := Sp.below hB2 hS5 hB2.size hgw
      clear e1 e2 hT2 hS5
      go_wp2_with fail
      refine (len1_any hT5).mono ?_
      rintro e w6 ⟨rfl, rfl⟩
      go_wp2_with fail
      obtain ⟨v2, ev2⟩ : ∃ v2, wrap64 (v + 1) = v2 := ⟨_, rfl⟩
      rw [ev2] at g3 ⊢
      have e3 := tput1_any hT5 k v2 (by omega)
      rw [G1.out] at e3
      obtain ⟨xs2, ex2⟩ : ∃ xs2, xs2 = ins xs1 k v2 := ⟨_, rfl⟩
      have g2 : got xs2 k = some v2 := by rw [ex2]; exact got_same _ _ _
      have l2 : xs2.length = xs1.length := by rw [ex2, ins_len, G1.out]; rfl
      rw [← ex2] at e3 g3
      have hb2 : xs2.length ≤ 61 := by omega
      have L12 := Lib.hid (And.intro L1.out l2)
      have G3 := Lib.hid g3
      have G2 := Lib.hid g2
      clear ex2 g2 g3 l2 ev2
      refine e3.mono ?_
      rintro e w7 ⟨rfl, hT7, hS7⟩
      have hB7 := Sp.below hB5 hS7 hB5.size hgw
      clear e3 hT5 hS7
      go_wp2_with fail
      refine (len1_any hT7).mono ?_
      rintro e w8 ⟨rfl, rfl⟩
      have e4 := tdrop1_any hT7 k (by omega)
      rw [G2.out] at e4
      obtain ⟨xs3, ex3⟩ : ∃ xs3, xs3 = del xs2 k := ⟨_, rfl⟩
      have l3 : xs3.length = xs2.length - 1 := by rw [ex3, del_len, G2.out]; rfl
      have g3 := G3.out
      rw [← ex3] at e4 g3
      have hb3 : xs3.length ≤ 60 := by omega
      have L3 := Lib.hid l3
      have H3 := Lib.hid g3
      clear l3 ex3 g3 G3
      go_wp2_with fail
      refine e4.mono ?_
      rintro e w9 ⟨rfl, hT9, hS9⟩
      have hB9 := Sp.below hB7 hS9 hB7.size hgw
      clear e4 hT7 hS9
      go_wp2_with fail
      refine (len1_any hT9).mono ?_
      rintro e w10 ⟨rfl, rfl⟩
      have e5 := tdrop1_any hT9 k (by omega)
      rw [H3.out, del_none H3.out] at e5
      go_wp2_with fail
      refine e5.mono ?_
      rintro e w11 ⟨rfl, hT11, hS11⟩
      have hB11 := Sp.below hB9 hS11 hB9.size hgw
      clear e5 hT9 hS11
      have q1 : (xs1.length : Int) = (xs2.length : Int) := by have := L12.out; omega
      have p1 : ((xs1.length : Int) != (xs2.length : Int)) = false := by rw [q1]; simp
      have p2 : (xs1.length != xs2.length) = false := by have := L12.out; simp; omega
      have p3 : ((xs3.length : Int) != (xs3.length : Int)) = false := by simp
      clear q1
      go_wp2_with (first | (go_at_call 19; refine (all_any hT11 hb3).mono ?_; rintro e w12 ⟨A12, c12, rfl, hc12, hP12, hA12, hB12⟩))
      · go_ret
        refine ⟨ret_bool ?_, bthen hB11 hB12 hB11.size⟩
        have h1 := L12.out
        have h2 := L3.out
        simp
        omega
      · have h1 := L12.out
        omega
  · have hn2 : (60 : Int) < (n : Int) := by omega
    go_enter Try.func8, Try.ntmps8
    go_wp2_with fail
    refine (awake_any w).mono ?_
    rintro e w1 ⟨rfl, hB1⟩
    go_wp2_with fail
    go_ret
    exact ⟨rfl, hB1⟩
end Go.Proofs.Ytogeifnkjckaiaa
