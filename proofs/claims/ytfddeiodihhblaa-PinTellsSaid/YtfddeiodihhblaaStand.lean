/- The program's iterator over those who are pinned: their words, each with its place, in order. -/
import Derived.Test.YtfddeiodihhblaaSmall
namespace Go.Proofs.Ytfddeiodihhblaa
open Go.RowKit Go.Shelf
attribute [local go_sem] Oper.semAt_some

set_option maxHeartbeats 1000000 in
theorem pinned_in (n : Nat) (A : Option Addr) (k c : Nat) (w : World) :
    CallsIn Fence.wide n Try.prog 17 #[.slice A k c] w fun e w' => e = .returned (.func (.func 18) #[] #[ptr w.heap.size]) ∧ w' = w.alloc (.cells #[.slice A k c] 22) := by
  refine callsIn_of_wp Try.func17 rfl trivial ?_ rfl
  simp only [Try.ntmps17, List.size_toArray, List.length_cons, List.length_nil, Nat.reduceAdd, Nat.reduceSub, Array.replicate_succ, Array.replicate_zero, List.push_toArray, List.append_toArray, List.nil_append, List.cons_append]
  gi_wp2
  go_ret
  exact ⟨rfl, rfl⟩

abbrev enP (y : Int × Int) : Array Value := #[vI y.1, vI y.2]
/-- the box B holds a slice of the numbers l -/
structure StP (A : Option Addr) (c : Nat) (l : List Int) (B : Nat) (W : World) : Prop where
  cell : W.cell? ⟨B, 0, none⟩ = some (.slice A l.length c)
  is : IS W W.heap.size A l
/-- the blocks that are read: the box, and that of the numbers -/
def EP (A : Option Addr) (l : List Int) (B : Nat) : Set' := fun k => k = B ∨ ∃ (i : Nat) (x : Int) (off : Nat), l[i]? = some x ∧ A = some ⟨k, off, none⟩
theorem EP.is {A : Option Addr} {l : List Int} {B : Nat} {X : Set'} {W W' : World} (h : IS W W.heap.size A l) (hk : Kept (EP A l B) X W W') : IS W' W'.heap.size A l := by
  intro k x hx
  obtain ⟨b, off, rfl, h1, h2⟩ := h k x hx
  have h3 := hk b (.inl (.inr ⟨k, x, off, hx, rfl⟩))
  exact ⟨b, off, rfl, heap_lt h3 h1, (World.cell?_of_block (a := ⟨b, off + k, none⟩) h3).trans h2⟩
set_option maxRecDepth 100000 in
set_option maxHeartbeats 2000000 in
theorem pinned_tells (A : Option Addr) (c : Nat) (xs : List Int) (B : Nat) (hlen : xs.length ≤ 1000000) (l : Nat) (J Jx : Set' → PL → World → Prop) (W : World) (hS : StP A c xs B W) (hY : Rounds (EP A xs B) enP l (pn xs) J Jx) (h0 : J (fun _ => False) [] W) :
    Calls Try.prog 18 #[yv l, ptr B] W fun e W' => (∃ v, e = .returned v) ∧ ((J (fun _ => False) (pn xs) W') ∨ (∃ pre, pre <+: pn xs ∧ Jx (fun _ => False) pre W')) := by
  obtain ⟨hc, hI⟩ := hS
  refine (callsIn_wide (n := 6)).1 ?_
  refine callsIn_of_wp Try.func18 rfl trivial ?_ rfl
  simp only [Try.ntmps18, List.size_toArray, List.length_cons, List.length_nil, Nat.reduceAdd, Nat.reduceSub, Array.replicate_succ, Array.replicate_zero, List.push_toArray, List.append_toArray, List.nil_append, List.cons_append]
  gi_wp2
  gi_loopw [7] (fun i wr => ∃ (k : Nat), k ≤ xs.length ∧ i = .int .i64 k ∧ J (fun _ => False) (((pl xs).take k).filter isP) wr ∧ Kept (EP A xs B) (fun _ => False) W wr)
    (fun i _ => (xs.length - intOf i).toNat)
  case atStart => exact ⟨0, Nat.zero_le _, rfl, h0, Kept.refl _ _ _⟩
  case round =>
    obtain ⟨k, hk, rfl, hJs, hB⟩ := hrel
    by_cases hlt : k < xs.length
    · have hc1 : (k : Int) < xs.length := by omega
      obtain ⟨x, hx⟩ := num_some hlt
      obtain ⟨b, off, rfl, _, hd1⟩ := (EP.is hI hB) k _ hx
      by_cases hz : x = 0
      · subst hz
        have hp := pn_take0 hx
        rw [← hp] at hJs
        have Hj := Lib.hid hJs
        clear hJs hp hx
        gi_wp2
        refine ⟨(fun _ h => by cases h), ?_⟩
        gi_wp2
        go_roundw
        case rel => exact ⟨k + 1, by omega, by go_num, Hj.out, hB⟩
        case measure => simp [intOf]; omega
      · have hz2 : (x != 0) = true := by simpa using hz
        have hpt := pn_take hx hz
        have hpre := pn_pre xs (k + 1)
        rw [hpt] at hpre
        obtain ⟨fn, tmps, assign, body, hy, hR⟩ := hY 5 _ _ _ wr hJs hpre
        have Ht := Lib.hid hpt
        have Hpre := Lib.hid hpre
        clear hx hz hpre hpt
        gi_wp2
        refine hR.mono ?_
        rintro e W3 (⟨rfl, hJ4, hk4⟩ | ⟨rfl, hJx4, hk4⟩)
        · gi_wp2
          go_roundw
          case rel => exact ⟨k + 1, by omega, by go_num, by rw [Ht.out]; exact hJ4, hB.trans hk4⟩
          case measure => simp [intOf]; omega
        · gi_wp2
          refine bodyPost_ret (results_none rfl _ _ _) rfl ?_
          exact ⟨⟨_, rfl⟩, .inr ⟨_, Hpre.out, hJx4⟩⟩
    · obtain rfl : k = xs.length := by omega
      rw [pn_all] at hJs
      clear hlt
      gi_wp2
      go_end0
      exact ⟨⟨_, rfl⟩, .inl hJs⟩
theorem pinned_it (A : Option Addr) (c : Nat) (l : List Int) (B : Nat) (hlen : l.length ≤ 1000000) : It (StP A c l B) (EP A l B) enP 18 #[] #[ptr B] (pn l) where
  lt W h k hk := by
    rcases hk with rfl | ⟨i, x, off, hi, rfl⟩
    · exact World.block_lt_of_cell? W _ h.cell
    · obtain ⟨b, off2, e, h1, _⟩ := h.is i x hi
      injection e with e
      injection e with e
      subst e
      exact h1
  on W W' h hb := ⟨(hb.cell (p := ⟨B, 0, none⟩) (World.block_lt_of_cell? W _ h.cell)).trans h.cell, h.is.on hb⟩
  tells l J Jx W hW _ _ hY h0 := by
    refine (pinned_tells A c _ B hlen l J Jx W hW hY h0).mono ?_
    rintro e W' ⟨hv, h | ⟨pre, h1, h2⟩⟩
    · exact ⟨hv, _, .inl h⟩
    · exact ⟨hv, _, .inr ⟨pre, h1, h2⟩⟩
end Go.Proofs.Ytfddeiodihhblaa
