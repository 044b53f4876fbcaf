/- Memory with words; how many writes there are; nothing that was there changes. -/
import Derived.Test.YtalmadeibnekoaaWr
namespace Go.Proofs.Ytalmadeibnekoaa
open Go.RowKit
attribute [local go_sem ↓] Go.wp_at_zero Go.wp_at_succ

theorem put_take {xs : List Int} {n k : Nat} {x : Int} (hl : xs.length = n) (h : xs[k]? = some x) : (xs.take k ++ List.replicate (n - k) 0).set k x = xs.take (k + 1) ++ List.replicate (n - (k + 1)) 0 := by
  have hk : k < xs.length := (List.getElem?_eq_some_iff.1 h).1
  have e : List.replicate (n - k) (0 : Int) = 0 :: List.replicate (n - (k + 1)) 0 := by
    rw [show n - k = (n - (k + 1)) + 1 by omega, List.replicate_succ]
  rw [e, List.set_append_right _ _ (by simp; omega), List.take_add_one, h]
  have : k - (xs.take k).length = 0 := by simp; omega
  rw [this]
  simp
set_option maxRecDepth 100000 in
set_option maxHeartbeats 2000000 in
theorem laid_any (c : Cf) (A : Option Addr) (n c1 M : Nat) (xs : List Int) (w : World) (hc : Rc c) (hn : xs.length = n) (hN : n = cellsN c) (hI : IS w M A xs) (hM : M ≤ w.heap.size) :
    Calls Try.prog 10 #[Value.agg #[Value.int .i64 c.wo, Value.int .i64 c.sl, Value.int .i64 c.st, Value.int .i64 c.wa, Value.int .i64 c.us], .slice A n c1] w fun e w' => ∃ g gw, e = .returned (.pointer (some ⟨g, 0, none⟩)) ∧ TellsMem w ⟨xs, n⟩ g gw n w' := by
  have hB : Below w.heap.size w (w.alloc (.cells #[Value.int .i64 c.wo, Value.int .i64 c.sl, Value.int .i64 c.st, Value.int .i64 c.wa, Value.int .i64 c.us] 31)) := bnew _ _
  have r0 := RowAt.new w 31 #[Value.int .i64 c.wo, Value.int .i64 c.sl, Value.int .i64 c.st, Value.int .i64 c.wa, Value.int .i64 c.us]
  have Hc := Lib.hid hc
  have Hn := Lib.hid hn
  have HI := Lib.hid hI
  have h9 := (cellsN_eq hc).2
  rw [← hN] at h9
  have HN := Lib.hid hN
  clear hc hn hI hN
  go_enter Try.func10, Try.ntmps10
  go_wp2_with (refine wpList_load_row rfl 31 _ rfl _ rfl 31 _ (0, 0) _ r0 Try.underlying31 rfl (by kernel_rfl) ?_)
  refine (memS_yes c _ Hc.out).mono ?_
  rw [← HN.out]
  rintro e w1 ⟨g, gw, rfl, h1, h2, hm, hb⟩
  have hg : w.heap.size ≤ g := by have := hB.size; omega
  have hgw : w.heap.size ≤ gw := by have := hB.size; omega
  replace hB := hB.trans (hb.mono hB.size)
  clear hb h1 h2 r0
  go_wp2_with fail
  go_loopw [7] (fun j wr => ∃ (k : Nat), k ≤ n ∧ j = .int .i64 k ∧ MemAt wr g gw n ⟨xs.take k ++ List.replicate (n - k) 0, k⟩ ∧ Below w.heap.size w wr) (fun j _ => n - (intOf j).toNat)
  case atStart => exact ⟨0, Nat.zero_le _, rfl, by simpa using hm, hB⟩
  case round =>
    obtain ⟨k, hk, rfl, hM2, hB2⟩ := hrel
    clear hm hB
    by_cases hlt : k < n
    · obtain ⟨x, hx⟩ := num_some (xs := xs) (k := k) (by rw [Hn.out]; exact hlt)
      have HP := Lib.hid (put_take Hn.out hx)
      have hlen : (xs.take k ++ List.replicate (n - k) 0).length = n := by simp [Hn.out]; omega
      obtain ⟨b, off, eA, hb, d0⟩ := ((HI.out.more hM).below hB2) k x hx
      subst eA
      clear hx
      obtain ⟨ys, ey⟩ : ∃ ys, ys = xs.take k ++ List.replicate (n - k) 0 := ⟨_, rfl⟩
      rw [← ey] at hM2 HP hlen
      clear ey
      have HL := Lib.hid hlen
      have HM := Lib.hid hM2
      clear hlen hM2
      go_wp2_with fail
      refine (store_in g gw n ⟨ys, k⟩ k x _ HM.out (by rw [HL.out]; exact hlt) (by simp only; omega)).mono ?_
      rintro e w2 ⟨rfl, hm, hs⟩
      have hB3 := hs.below hB2 hB2.size (by simp <;> omega)
      go_wp2_with fail
      go_roundw
      case rel => exact ⟨k + 1, by omega, by go_num, by rw [← HP.out]; exact hm, hB3⟩
      case measure => simp [intOf]; omega
    · obtain rfl : k = n := by omega
      go_wp2_with fail
      go_ret
      rw [List.take_of_length_le (by rw [Hn.out]; exact Nat.le_refl _), Nat.sub_self, List.replicate_zero, List.append_nil] at hM2
      exact ⟨g, gw, rfl, hg, hgw, hM2, hB2⟩
end Go.Proofs.Ytalmadeibnekoaa
