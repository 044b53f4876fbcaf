/- The law CellsAdds, walked. -/
import Derived.Test.YthjhjjpgchmmfaaSome
namespace Go.Proofs.Ythjhjjpgchmmfaa
open Go.RowKit
attribute [local go_sem ↓] Go.wp_at_zero Go.wp_at_succ

/-- the slice value '.slice A n c' holds the numbers xs, in blocks below n0 -/
def IS (W : World) (n0 : Nat) (A : Option Addr) (xs : List Int) : Prop :=
  ∀ (k : Nat) x, xs[k]? = some x → ∃ b off, A = some ⟨b, off, none⟩ ∧ b < n0 ∧ W.cell? ⟨b, off + k, none⟩ = some (.int .i64 x)
theorem IS.below {W W1 : World} {n0 : Nat} {A : Option Addr} {xs : List Int} (h : IS W n0 A xs) (hb : Below n0 W W1) : IS W1 n0 A xs := fun k o hk => by
  obtain ⟨b, off, h1, h2, h3⟩ := h k o hk
  exact ⟨b, off, h1, h2, (hb.cell (p := ⟨b, _, none⟩) h2).trans h3⟩
def sumI (l : List Int) : Int := l.foldl (fun a x => wrap64 (a + x)) 0
theorem sumI_take {l : List Int} {k : Nat} {x : Int} (h : l[k]? = some x) : sumI (l.take (k + 1)) = wrap64 (sumI (l.take k) + x) := by
  rw [sumI, List.take_add_one, h]; simp [sumI]
theorem one_load (a : Int) (t : Nat) : (⟨[a], t⟩ : St).loadA 0 = a := by simp [St.loadA, St.has, St.at]
theorem one_add (a d : Int) (t : Nat) : (⟨[a], t⟩ : St).addS 0 d = ⟨[wrap64 (a + d)], t + 1⟩ := by simp [St.addS, St.has, St.put, St.at]

set_option maxRecDepth 100000 in
set_option maxHeartbeats 1000000 in
theorem adds_any (A : Option Addr) (n c : Nat) (l : List Int) (w : World) (hn : l.length = n) (_hc : n ≤ c) (hI : IS w w.heap.size A l) :
    Calls Try.prog 7 #[.slice A n c] w (fun e w' => e = .returned (.bool true) ∧ Below w.heap.size w w') := by
  subst hn
  have h60 : ∀ w1 : World, True := fun _ => trivial
  by_cases hl : 60 < l.length
  · go_enter Try.func7, Try.ntmps7
    go_wp2_with fail
    refine (awake_any _).mono ?_
    rintro e w1 ⟨rfl, hB1⟩
    go_wp2_with fail
    refine (new_in 1 _ (by decide) (by decide)).mono ?_
    rintro e w2 ⟨g, gw, rfl, hg, hgw, hM, hB2⟩
    go_wp2_with fail
    go_ret
    exact ⟨rfl, hB1.trans (hB2.mono hB1.size)⟩
  · go_enter Try.func7, Try.ntmps7
    go_wp2_with fail
    refine (awake_any _).mono ?_
    rintro e w1 ⟨rfl, hB1⟩
    go_wp2_with fail
    refine (new_in 1 _ (by decide) (by decide)).mono ?_
    rintro e w2 ⟨g, gw, rfl, hg1, hgw1, hM, hB2⟩
    have hg : w.heap.size ≤ g := Nat.le_trans hB1.size hg1
    have hgw : w.heap.size ≤ gw := Nat.le_trans hB1.size hgw1
    have hB := hB1.trans (hB2.mono hB1.size)
    clear hg1 hgw1 hB1 hB2
    go_wp2_with fail
    go_loopw [6, 7] (fun sm i wr => ∃ k : Nat, k ≤ l.length ∧ i = .int .i64 k ∧ sm = .int .i64 (sumI (l.take k)) ∧ MemAt wr g gw 1 ⟨[sumI (l.take k)], k⟩ ∧ Below w.heap.size w wr) (fun _ i _ => l.length - (intOf i).toNat)
    case atStart => exact ⟨0, Nat.zero_le _, rfl, rfl, hM, hB⟩
    case round =>
      obtain ⟨k, hk, rfl, rfl, hM2, hB2⟩ := hrel
      clear hM hB
      by_cases hlt : k < l.length
      · obtain ⟨x, hx⟩ : ∃ x, l[k]? = some x := ⟨l[k], by simp [hlt]⟩
        have Hx := Lib.hid hx
        obtain ⟨b, off, rfl, hbl, d1⟩ := (hI.below hB2) k x hx
        clear hx
        have hk1 : (k : Int) < (l.length : Int) := by omega
        have hk0 : (0 : Int) ≤ (k : Int) := Int.natCast_nonneg _
        go_wp2_with fail
        refine (add_any g gw 1 _ 0 x _ hM2 (by simp only; omega)).mono ?_
        rw [one_load, one_add]
        rintro e w3 ⟨rfl, hM3, hs3⟩
        have hB3 := Sp.below hB2 hs3 hB2.size hg hgw
        obtain ⟨b', off', hA', _, d2⟩ := (hI.below hB3) k x Hx.out
        injection hA' with hA'
        injection hA' with hA1 hA2
        subst hA1 hA2
        go_wp2_with fail
        go_roundw
        case rel => exact ⟨k + 1, by omega, by go_num, by rw [sumI_take Hx.out], by rw [sumI_take Hx.out]; exact hM3, hB3⟩
        case measure => simp [intOf]; omega
      · obtain rfl : k = l.length := by omega
        rw [List.take_length] at hM2 ⊢
        go_wp2_with fail
        refine (load_any g gw 1 _ 0 _ hM2 (by simp only; omega)).mono ?_
        rw [one_load]
        rintro e w3 ⟨rfl, hM3, hs3⟩
        go_wp2_with fail
        go_ret
        exact ⟨ret_bool (by simp), Sp.below hB2 hs3 hB2.size hg hgw⟩
end Go.Proofs.Ythjhjjpgchmmfaa
