/- Two lists of numbers compared; the law's own 'awake' answers true. -/
import Derived.Test.YthjhjjpgchmmfaaDo
namespace Go.Proofs.Ythjhjjpgchmmfaa
open Go.RowKit
attribute [local go_sem ↓] Go.wp_at_zero Go.wp_at_succ

theorem bdrew {N : Nat} {a w : World} (h : Below N a w) (n : Nat) : Below N a (w.drewN n) := ⟨h.os, h.tape, h.output, h.size, h.block⟩
theorem num_some {xs : List Int} {k : Nat} (h : k < xs.length) : xs[k]? = some (xs.getD k 0) := by simp [h]
theorem take_eq {xs ys : List Int} {k : Nat} {x y : Int} (h : xs.take k = ys.take k) (h1 : xs[k]? = some x) (h2 : ys[k]? = some y) (h3 : x = y) : xs.take (k + 1) = ys.take (k + 1) := by
  rw [List.take_add_one, List.take_add_one, h, h1, h2, h3]
set_option maxHeartbeats 400000 in
theorem ints_any (b c b2 c2 : Nat) (xs ys : List Int) (w : World) (h : Nums w b xs) (h2 : Nums w b2 ys) (hl : xs.length ≤ 1000000) :
    Calls Try.prog 15 #[.slice (some ⟨b, 0, none⟩) xs.length c, .slice (some ⟨b2, 0, none⟩) ys.length c2] w (fun e w' => e = .returned (.bool (decide (xs = ys))) ∧ Below w.heap.size w w') := by
  by_cases he : xs.length = ys.length
  · have He := Lib.hid he
    rw [← he]
    clear he
    go_enter Try.func15, Try.ntmps15
    go_wp2
    go_loopw [5] (fun i wr => ∃ k : Nat, k ≤ xs.length ∧ i = .int .i64 k ∧ xs.take k = ys.take k ∧ Below w.heap.size w wr) (fun i _ => xs.length - (intOf i).toNat)
    case atStart => exact ⟨0, Nat.zero_le _, rfl, rfl, Below.refl _ _⟩
    case round =>
      obtain ⟨k, hk, rfl, hr, hB⟩ := hrel
      have Hr := Lib.hid hr
      clear hr
      by_cases hlt : k < xs.length
      · have hx := num_some hlt
        have hy := num_some (xs := ys) (k := k) (by rw [← He.out]; exact hlt)
        have hd1 := (h.below hB h.lt).ic k _ hx
        have hd2 := (h2.below hB h2.lt).ic k _ hy
        have Hx := Lib.hid hx
        have Hy := Lib.hid hy
        obtain ⟨x, ex⟩ : ∃ x, x = xs.getD k 0 := ⟨_, rfl⟩
        obtain ⟨y, ey⟩ : ∃ y, y = ys.getD k 0 := ⟨_, rfl⟩
        rw [← ex] at hd1 Hx
        rw [← ey] at hd2 Hy
        clear hx hy ex ey
        have hk1 : (k : Int) < (xs.length : Int) := by omega
        by_cases hq : x = y
        · have hq2 : (x != y) = false := by simpa using hq
          have Hq := Lib.hid hq
          clear hq
          go_wp2
          go_quiet (fail)
          go_wp2
          go_roundw
          case rel => exact ⟨k + 1, by omega, by go_num, take_eq Hr.out Hx.out Hy.out Hq.out, bdrew hB _⟩
          case measure => simp [intOf]; omega
        · have hq2 : (x != y) = true := by simpa using hq
          have Hq := Lib.hid hq
          clear hq
          go_wp2
          go_quiet (fail)
          go_wp2
          go_ret
          refine ⟨ret_bool (decide_eq_false ?_).symm, bdrew hB _⟩
          intro e
          have h3 := Hx.out
          rw [e, Hy.out] at h3
          injection h3 with h3
          exact Hq.out h3.symm
      · obtain rfl : k = xs.length := by omega
        go_wp2
        go_ret
        refine ⟨ret_bool (decide_eq_true ?_).symm, hB⟩
        have h3 := Hr.out
        rwa [List.take_length, He.out, List.take_length] at h3
  · have hn : ((xs.length : Int) != (ys.length : Int)) = true := by rw [bne_iff_ne]; omega
    have hn2 : (xs.length != ys.length) = true := by rw [bne_iff_ne]; omega
    have Hf := Lib.hid (decide_eq_false (show ¬ xs = ys from fun e => he (by rw [e])))
    clear he
    go_enter Try.func15, Try.ntmps15
    go_wp2
    go_ret
    exact ⟨ret_bool Hf.out.symm, Below.refl _ _⟩

def St.new (n : Nat) : St := ⟨List.replicate n 0, 0⟩
set_option maxRecDepth 100000 in
set_option maxHeartbeats 1000000 in
theorem awake_any (w : World) : Calls Try.prog 10 #[] w (fun e w' => e = .returned (.bool true) ∧ Below w.heap.size w w') := by
  go_enter Try.func10, Try.ntmps10
  go_wp2_with fail
  refine (new_in 2 w (by omega) (by omega)).mono ?_
  rintro e w1 ⟨g, gw, rfl, hg, hgw, hm, hB⟩
  go_wp2_with fail
  refine (add_any g gw _ _ 1 5 _ hm (by decide)).mono ?_
  rw [show (⟨List.replicate 2 0, 0⟩ : St).addS 1 5 = ⟨[0, 5], 1⟩ from by simp [St.addS, St.has, St.put, St.at, wrap64], show (⟨List.replicate 2 0, 0⟩ : St).loadA 1 = 0 from rfl]
  rintro e w2 ⟨rfl, hm2, hs2⟩
  have hB2 := Sp.below hB hs2 hB.size hg hgw
  clear hm hs2 hB
  go_wp2_with fail
  refine (cas_any g gw _ _ 1 5 7 _ hm2 (by decide)).mono ?_
  rw [show (⟨[0, 5], 1⟩ : St).casS 1 5 7 = ⟨[0, 7], 2⟩ from rfl, show (⟨[0, 5], 1⟩ : St).casA 1 5 = true from rfl]
  rintro e w3 ⟨rfl, hm3, hs3⟩
  have hB3 := Sp.below hB2 hs3 hB2.size hg hgw
  clear hm2 hs3 hB2
  go_wp2_with fail
  refine (cas_any g gw _ _ 2 0 1 _ hm3 (by decide)).mono ?_
  rw [show (⟨[0, 7], 2⟩ : St).casS 2 0 1 = ⟨[0, 7], 2⟩ from rfl, show (⟨[0, 7], 2⟩ : St).casA 2 0 = false from rfl]
  rintro e w4 ⟨rfl, hm4, hs4⟩
  have hB4 := Sp.below hB3 hs4 hB3.size hg hgw
  clear hm3 hs4 hB3
  go_wp2_with fail
  refine (load_any g gw _ _ 1 _ hm4 (by decide)).mono ?_
  rw [show (⟨[0, 7], 2⟩ : St).loadS 1 = ⟨[0, 7], 3⟩ from rfl, show (⟨[0, 7], 2⟩ : St).loadA 1 = 7 from rfl]
  rintro e w5 ⟨rfl, hm5, hs5⟩
  have hB5 := Sp.below hB4 hs5 hB4.size hg hgw
  clear hm4 hs5 hB4
  go_wp2_with fail
  refine (touched_any g gw _ _ _ hm5).mono ?_
  rintro e w6 ⟨rfl, rfl⟩
  go_wp2_with fail
  refine (many_any g gw _ _ _ hm5).mono ?_
  rintro e w7 ⟨rfl, rfl⟩
  go_wp2_with fail
  refine (words_any g gw _ _ _ hm5 (by decide) (by decide)).mono ?_
  rintro e w8 ⟨b, c8, rfl, hb, hn, hB8⟩
  have hn9 := hn.on ((Below.refl _ _).alloc (Nat.le_refl _) (.cells #[.int .i64 0, .int .i64 7] 3))
  have hn10 : Nums (w8.alloc (.cells #[.int .i64 0, .int .i64 7] 3)) w8.heap.size [0, 7] := nums_block (cap := 2) (heap_alloc_new _ _) rfl (by decide)
  have hB9 : Below w.heap.size w (w8.alloc (.cells #[.int .i64 0, .int .i64 7] 3)) := (hB5.trans (hB8.mono hB5.size)).alloc (by have := hB5.size; have := hB8.size; omega) _
  go_wp2_with fail
  refine (ints_any b _ _ _ _ [0, 7] _ hn9 hn10 (by decide)).mono ?_
  rw [show decide (([0, 7] : List Int) = [0, 7]) = true from rfl]
  rintro e w11 ⟨rfl, hB11⟩
  go_wp2_with fail
  go_ret
  exact ⟨rfl, hB9.trans (hB11.mono hB9.size)⟩
end Go.Proofs.Ythjhjjpgchmmfaa
