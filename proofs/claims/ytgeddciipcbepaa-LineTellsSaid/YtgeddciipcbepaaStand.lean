/- The program's iterator over a word's digits: who stands at which place, in order. -/
import Derived.Test.YtgeddciipcbepaaMath
namespace Go.Proofs.Ytgeddciipcbepaa
open Go.RowKit Go.Shelf
attribute [local go_sem] Oper.semAt_some

set_option maxHeartbeats 1000000 in
theorem stand_in (n : Nat) (q : Int) (w : World) :
    CallsIn Fence.wide n Try.prog 27 #[vI q] w fun e w' => e = .returned (.func (.func 29) #[] #[ptr w.heap.size]) ∧ w' = w.alloc (.cells #[vI q] 3) := by
  refine callsIn_of_wp Try.func27 rfl trivial ?_ rfl
  simp only [Try.ntmps27, List.size_toArray, List.length_cons, List.length_nil, Nat.reduceAdd, Nat.reduceSub, Array.replicate_succ, Array.replicate_zero, List.push_toArray, List.append_toArray, List.nil_append, List.cons_append]
  gi_wp2
  go_ret
  exact ⟨rfl, rfl⟩

/-- who stands at which place -/
abbrev PL := List (Int × Int)
def pl (l : List Int) : PL := l.mapIdx fun i x => ((i : Int), x)
theorem pl_len (l : List Int) : (pl l).length = l.length := by simp [pl]
theorem pl_at {l : List Int} {k : Nat} {x : Int} (h : l[k]? = some x) : (pl l)[k]? = some ((k : Int), x) := by simp [pl, h]
theorem take_snoc {α : Type} {l : List α} {k : Nat} {x : α} (h : l[k]? = some x) : l.take (k + 1) = l.take k ++ [x] := by rw [List.take_add_one, h]; rfl
abbrev enP (y : Int × Int) : Array Value := #[vI y.1, vI y.2]
abbrev St1 (B : Nat) (q : Int) (W : World) : Prop := W.cell? ⟨B, 0, none⟩ = some (vI q)

theorem dg_walk (q : Int) (k : Nat) : bits .and .i64 (q / 2 ^ (k * 4)) 15 = dg q k := by
  have := and_low (x := q / 2 ^ (k * 4)) (k := 4) (by omega)
  rw [show (2 : Int) ^ 4 - 1 = 15 from rfl, show (2 : Int) ^ 4 = 16 from rfl] at this
  rw [this, dg, p16_eq, Nat.mul_comm]
theorem dg_rng (q : Int) (k : Nat) : 0 ≤ dg q k ∧ dg q k ≤ 15 := by unfold dg; omega
set_option maxRecDepth 100000 in
set_option maxHeartbeats 2000000 in
theorem stand_tells (q : Int) (B : Nat) (l : Nat) (J Jx : Set' → PL → World → Prop) (W : World) (hS : St1 B q W) (hY : Rounds (fun k => k = B) enP l (pl (lst q)) J Jx) (h0 : J (fun _ => False) [] W) :
    Calls Try.prog 29 #[yv l, ptr B] W fun e W' => (∃ v, e = .returned v) ∧ ((J (fun _ => False) (pl (lst q)) W') ∨ (∃ pre, pre <+: pl (lst q) ∧ Jx (fun _ => False) pre W')) := by
  refine (callsIn_wide (n := 6)).1 ?_
  refine callsIn_of_wp Try.func29 rfl trivial ?_ rfl
  simp only [Try.ntmps29, List.size_toArray, List.length_cons, List.length_nil, Nat.reduceAdd, Nat.reduceSub, Array.replicate_succ, Array.replicate_zero, List.push_toArray, List.append_toArray, List.nil_append, List.cons_append]
  gi_wp2
  gi_loopw [5] (fun i wr => ∃ (k : Nat), k ≤ (lst q).length ∧ i = .int .i64 k ∧ J (fun _ => False) ((pl (lst q)).take k) wr ∧ Kept (fun k => k = B) (fun _ => False) W wr)
    (fun i _ => (15 - intOf i).toNat)
  case atStart => exact ⟨0, Nat.zero_le _, rfl, h0, Kept.refl _ _ _⟩
  case round =>
    obtain ⟨k, hk, rfl, hJs, hB⟩ := hrel
    have hS2 := hB.cell hS (.inl rfl)
    have hk15 := Nat.le_trans hk (lst_len q)
    by_cases hlt : k < 15
    · have hc : (k : Int) < 15 := by omega
      have hd := dg_walk q k
      obtain ⟨d0, d1⟩ := dg_rng q k
      have He := Lib.hid (fun (h : dg q k = 0) => lst_end hk h)
      have Ha := Lib.hid (fun (h : dg q k ≠ 0) => lst_at hk hlt h)
      obtain ⟨d, ed⟩ : ∃ d, d = dg q k := ⟨_, rfl⟩
      rw [← ed] at hd d0 d1 He Ha
      clear ed
      by_cases hz : d = 0
      · subst hz
        have hk2 := He.out rfl
        clear He Ha
        gi_wp2
        refine ⟨(fun _ h => by cases h), ?_⟩
        gi_wp2
        refine bodyPost_ret (results_none rfl _ _ _) rfl ?_
        exact ⟨⟨_, rfl⟩, .inl (by rw [← hk2, ← pl_len, List.take_length] at hJs; exact hJs)⟩
      · have hx := pl_at (Ha.out hz)
        have hz2 : (d == 0) = false := by simpa using hz
        have hpre : (pl (lst q)).take k ++ [((k : Int), d - 1)] <+: pl (lst q) := by rw [← take_snoc hx]; exact List.take_prefix _ _
        obtain ⟨fn, tmps, assign, body, hy, hR⟩ := hY 5 _ _ _ wr hJs hpre
        have Hx := Lib.hid hx
        have Hpre := Lib.hid hpre
        have Hz := Lib.hid hz
        clear hx hz hpre He Ha
        gi_wp2
        refine hR.mono ?_
        rintro e W3 (⟨rfl, hJ4, hk4⟩ | ⟨rfl, hJx4, hk4⟩)
        · gi_wp2
          go_roundw
          case rel => exact ⟨k + 1, by have := (List.getElem?_eq_some_iff.1 Hx.out).1; rw [pl_len] at this; omega, by go_num, by rw [take_snoc Hx.out]; exact hJ4, hB.trans hk4⟩
          case measure => simp [intOf]; omega
        · gi_wp2
          refine bodyPost_ret (results_none rfl _ _ _) rfl ?_
          exact ⟨⟨_, rfl⟩, .inr ⟨_, Hpre.out, hJx4⟩⟩
    · obtain rfl : k = 15 := by omega
      have h15 : (lst q).length = 15 := by have := lst_len q; omega
      clear hlt
      gi_wp2
      go_end0
      exact ⟨⟨_, rfl⟩, .inl (by rw [← h15, ← pl_len, List.take_length] at hJs; exact hJs)⟩
theorem stand_it (q : Int) (B : Nat) : It (St1 B q) (fun k => k = B) enP 29 #[] #[ptr B] (pl (lst q)) where
  lt W h k hk := by
    subst hk
    exact World.block_lt_of_cell? W _ h
  on W W' h hb := (hb.cell (p := ⟨B, 0, none⟩) (World.block_lt_of_cell? W _ h)).trans h
  tells l J Jx W hW _ _ hY h0 := by
    refine (stand_tells q B l J Jx W hW hY h0).mono ?_
    rintro e W' ⟨hv, h | ⟨pre, h1, h2⟩⟩
    · exact ⟨hv, _, .inl h⟩
    · exact ⟨hv, _, .inr ⟨pre, h1, h2⟩⟩
end Go.Proofs.Ytgeddciipcbepaa
