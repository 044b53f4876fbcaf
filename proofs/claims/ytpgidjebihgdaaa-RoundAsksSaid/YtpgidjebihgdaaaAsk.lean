/- The law's own iterator, which counts what it is asked for: what it tells; the first ones of it. -/
import Derived.Test.YtpgidjebihgdaaaFits
namespace Go.Proofs.Ytpgidjebihgdaaa
open Go.RowKit Go.Shelf
attribute [local go_sem] Oper.semAt_some

abbrev one (b : Nat) : Set' := fun k => k = b
set_option maxRecDepth 100000 in
set_option maxHeartbeats 2000000 in
theorem asks_tells (n : Nat) (a0 : Int) (Bn Ba : Nat) (w : World) (hn : n ≤ 100) (ha : 0 ≤ a0 ∧ a0 ≤ 1000) (hBn : w.cell? ⟨Bn, 0, none⟩ = some (vI n)) (hBa : Boxed w Ba 3 (vI a0))
    (l : Nat) (J Jx : Set' → List Int → World → Prop) (W : World) (hK : Kept (one Bn) (one Ba) w W) (hJ : Ab J) (hY : Rounds (one Bn) l 100000 J Jx) (h0 : J (one Ba) [] W) (hne : Bn ≠ Ba) :
    Calls Try.prog 19 #[yv l, ptr Bn, ptr Ba] W fun e W' => (∃ v, e = .returned v) ∧ ((Boxed W' Ba 3 (vI (a0 + n)) ∧ J (one Ba) (upto 0 n) W') ∨ (∃ pre, (pre <+: upto 0 n ∧ Boxed W' Ba 3 (vI (a0 + pre.length))) ∧ Jx (one Ba) pre W')) := by
  obtain ⟨ha0, ha1⟩ := ha
  have hne' : Ba ≠ Bn := fun e => hne e.symm
  refine (callsIn_wide (n := 6)).1 ?_
  refine callsIn_of_wp Try.func19 rfl trivial ?_ rfl
  simp only [Try.ntmps19, List.size_toArray, List.length_cons, List.length_nil, Nat.reduceAdd, Nat.reduceSub, Array.replicate_succ, Array.replicate_zero, List.push_toArray, List.append_toArray, List.nil_append, List.cons_append]
  gi_wp2
  gi_loopw [4] (fun i wr => ∃ (k : Nat), k ≤ n ∧ i = .int .i64 k ∧ J (one Ba) ((upto 0 n).take k) wr ∧ Kept (one Bn) no w wr ∧ Boxed wr Ba 3 (vI (a0 + k)))
    (fun i _ => n - (intOf i).toNat)
  case atStart => exact ⟨0, Nat.zero_le _, rfl, h0, hK.less fun k h => h.imp id False.elim, by simpa using boxed_kept hBa hK (.inr rfl)⟩
  case round =>
    obtain ⟨k, hk, rfl, hJs, hB, bA⟩ := hrel
    have hS := hB.cell hBn (.inl rfl)
    by_cases hlt : k < n
    · have hc : (k : Int) < (n : Int) := by omega
      have hx := upto_at 0 n k (by omega)
      rw [Int.zero_add] at hx
      have cA := bA.cell
      have fA := bA.frozen
      have hJ2 : J (one Ba) ((upto 0 n).take k) (wr.setCell ⟨Ba, 0, none⟩ (vI (a0 + k + 1))) := hJ _ _ _ _ _ hJs (Grow.setCell _ _ _ rfl)
      have bA2 := bA.set (vI (a0 + k + 1))
      have hB2 : Kept (one Bn) no w (wr.setCell ⟨Ba, 0, none⟩ (vI (a0 + k + 1))) := hB.trans (kept_set _ _ _ (fun e => hne' e) (fun e => e))
      obtain ⟨fn, tmps, assign, body, hy, hR⟩ := hY 5 (one Ba) ((upto 0 n).take k) k _ hJ2 (by simp [upto_len]; omega)
      have Hx := Lib.hid hx
      clear hx
      gi_wp2
      refine hR.mono ?_
      rintro e W3 (⟨rfl, hJ4, hk4⟩ | ⟨rfl, hJx4, hk4⟩)
      · gi_wp2
        go_roundw
        case rel => exact ⟨k + 1, by omega, by go_num, by rw [take_snoc Hx.out]; exact hJ4, hB2.trans (hk4.less fun k h => h.imp id False.elim), by have := boxed_kept bA2 hk4 (.inr rfl); rw [show a0 + ((k + 1 : Nat) : Int) = a0 + k + 1 by omega]; exact this⟩
        case measure => simp [intOf]; omega
      · gi_wp2
        refine bodyPost_ret (results_none rfl _ _ _) rfl ?_
        refine ⟨⟨_, rfl⟩, .inr ⟨(upto 0 n).take k ++ [(k : Int)], ⟨by rw [← take_snoc Hx.out]; exact List.take_prefix _ _, ?_⟩, hJx4⟩⟩
        have := boxed_kept bA2 hk4 (.inr rfl)
        have e : ((((upto 0 n).take k ++ [(k : Int)]).length : Nat) : Int) = k + 1 := by simp [upto_len]; omega
        rw [e, ← Int.add_assoc]
        exact this
    · obtain rfl : k = n := by omega
      gi_wp2
      go_end0
      exact ⟨⟨_, rfl⟩, .inl ⟨bA, by rw [List.take_of_length_le (by rw [upto_len]; omega)] at hJs; exact hJs⟩⟩

theorem asks_it (n : Nat) (a0 : Int) (Bn Ba : Nat) (w : World) (hn : n ≤ 100) (ha : 0 ≤ a0 ∧ a0 ≤ 1000) (hBn : w.cell? ⟨Bn, 0, none⟩ = some (vI n)) (hBa : Boxed w Ba 3 (vI a0)) (hne : Bn ≠ Ba) :
    It (one Bn) (one Ba) 19 #[ptr Bn, ptr Ba] (fun ys W => ys = upto 0 n ∧ Boxed W Ba 3 (vI (a0 + n))) (fun ys W => ys <+: upto 0 n ∧ Boxed W Ba 3 (vI (a0 + ys.length))) 100000 w where
  lt k h := by
    rcases h with rfl | rfl
    · exact World.block_lt_of_cell? w _ hBn
    · exact hBa.lt
  apart k h h' := hne (h.symm.trans h')
  st _ _ _ hk h := ⟨h.1, boxed_kept h.2 hk (.inl rfl)⟩
  stp _ _ _ hk h := ⟨h.1, boxed_kept h.2 hk (.inl rfl)⟩
  tells l J Jx W _ hK hJ _ hY h0 := by
    refine (asks_tells n a0 Bn Ba w hn ha hBn hBa l J Jx W hK hJ hY h0 hne).mono ?_
    rintro e W' ⟨hv, ⟨h1, h2⟩ | ⟨pre, h1, h2⟩⟩
    · exact ⟨hv, one Ba, fun _ h => h, .inl ⟨_, ⟨rfl, h1⟩, h2⟩⟩
    · exact ⟨hv, one Ba, fun _ h => h, .inr ⟨pre, h1, h2⟩⟩

/-- the first ones of it -/
theorem asks_list (n k : Nat) (a0 : Int) (Bn Ba : Nat) (w w1 : World) (hn : n ≤ 100) (ha : 0 ≤ a0 ∧ a0 ≤ 1000) (hBn : w.cell? ⟨Bn, 0, none⟩ = some (vI n)) (hBa : Boxed w Ba 3 (vI a0)) (hne : Bn ≠ Ba)
    (ew : w1 = (w.alloc (.cells #[fv 19 #[ptr Bn, ptr Ba]] 26)).alloc (.cells #[vI k] 3)) :
    Calls Try.prog 14 #[fv 30 #[ptr (w.heap.size + 1), ptr w.heap.size]] w1 fun e w' => ∃ A c, e = .returned (.slice A (min k n) c) ∧ min k n ≤ c ∧ IS w' w'.heap.size A ((upto 0 n).take k) ∧ Boxed w' Ba 3 (vI (a0 + (min k n : Nat))) ∧ (∀ a, A = some a → w.heap.size ≤ a.block) ∧ ∃ Y, Grow (one Ba) w Y w' := by
  subst ew
  have hb : Below w.heap.size w ((w.alloc (.cells #[fv 19 #[ptr Bn, ptr Ba]] 26)).alloc (.cells #[vI k] 3)) := ((Below.refl _ w).alloc (Nat.le_refl _) _).alloc (by simp) _
  have h := first_it (asks_it n a0 Bn Ba w hn ha hBn hBa hne) (enters_of Try.func19 (by kernel_rfl) rfl) (by omega) k
  refine (list_any h (enters_of Try.func30 (by kernel_rfl) rfl) (by omega)).mono ?_
  rintro e w' ⟨xs, A, c, rfl, hS, hc, hI, hlo, Y, hG⟩
  have key : xs = (upto 0 n).take k ∧ Boxed w' Ba 3 (vI (a0 + (min k n : Nat))) := by
    rcases hS with ⟨h1, rfl, h3⟩ | ⟨h1, ⟨rfl, h3⟩, h4⟩ | ⟨h1, ⟨h2, h3⟩, h4⟩
    · have hk0 : k = 0 := by omega
      subst hk0
      refine ⟨by simp, ?_⟩
      have := boxed_kept hBa h3 (.inl rfl)
      simpa using this
    · rw [upto_len] at h4
      have : min k n = n := by omega
      rw [this]
      exact ⟨by rw [List.take_of_length_le (by rw [upto_len]; omega)], h3⟩
    · have h5 := List.prefix_iff_eq_take.1 h2
      have h6 : xs.length = k := by omega
      have h7 : xs.length ≤ n := by have := h2.length_le; rw [upto_len] at this; omega
      have : min k n = k := by omega
      rw [this, ← h6]
      exact ⟨h5, h3⟩
  obtain ⟨rfl, hbx⟩ := key
  have hlen : ((upto 0 n).take k).length = min k n := by rw [List.length_take, upto_len]; omega
  rw [hlen] at hc ⊢
  exact ⟨A, c, rfl, hc, hI, hbx, fun a ha => Nat.le_trans hb.size (hlo a ha), Y, ⟨hG.os.trans hb.os, hG.tape.trans hb.tape, hG.output.trans hb.output, Nat.le_trans hb.size hG.size, fun i hi hx => (hG.block i (Nat.lt_of_lt_of_le hi hb.size) hx).trans (hb.block i hi), hG.sub, fun i hi => (hG.new i hi).imp id (fun e => ⟨Nat.le_trans hb.size e.1, e.2⟩)⟩⟩
theorem IS.grow {X Y : Set'} {A B : World} {M : Nat} {p : Option Addr} {xs : List Int} (h : IS A M p xs) (hG : Grow X A Y B) (hM : M ≤ A.heap.size) (hx : ∀ a, p = some a → a.block < M → ¬ X a.block) : IS B B.heap.size p xs := by
  intro k x hk
  obtain ⟨b, off, rfl, h1, h2⟩ := h k x hk
  exact ⟨b, off, rfl, Nat.lt_of_lt_of_le h1 (Nat.le_trans hM hG.size), hG.cell h2 (hx ⟨b, off, none⟩ rfl h1)⟩
theorem grow_low {X Y : Set'} {A B : World} {n0 : Nat} (h : Grow X A Y B) (hx : ∀ k, X k → n0 ≤ k) (h0 : n0 ≤ A.heap.size) : Below n0 A B :=
  ⟨h.os, h.tape, h.output, h.size, fun k hk => h.block k (Nat.lt_of_lt_of_le hk h0) (fun e => by have := hx k e; omega)⟩
end Go.Proofs.Ytpgidjebihgdaaa
