/- The program's numbers from one on: what is told, whatever is done with it. -/
import Derived.Test.YtpgidjebihgdaaaBase
namespace Go.Proofs.Ytpgidjebihgdaaa
open Go.RowKit Go.Shelf
attribute [local go_sem] Oper.semAt_some

/-- the numbers from a on that are below b -/
def upto (a b : Int) : List Int := (List.range (b - a).toNat).map fun (i : Nat) => a + i
theorem upto_len (a b : Int) : (upto a b).length = (b - a).toNat := by simp [upto]
theorem upto_at (a b : Int) (k : Nat) (h : k < (b - a).toNat) : (upto a b)[k]? = some (a + k) := by
  rw [upto, List.getElem?_map, List.getElem?_range h]; rfl
theorem take_snoc {α : Type} {l : List α} {k : Nat} {x : α} (h : l[k]? = some x) : l.take (k + 1) = l.take k ++ [x] := by rw [List.take_add_one, h]; rfl
abbrev no : Set' := fun _ => False
/-- one of two blocks -/
abbrev two (a b : Nat) : Set' := fun k => k = a ∨ k = b
abbrev ptr (b : Nat) : Value := .pointer (some ⟨b, 0, none⟩)

set_option maxHeartbeats 1000000 in
theorem numbers_any (a b : Int) (w : World) :
    Calls Try.prog 27 #[vI a, vI b] w fun e w' => e = .returned (.func (.func 32) #[] #[ptr w.heap.size, ptr (w.heap.size + 1)]) ∧ w' = (w.alloc (.cells #[vI a] 3)).alloc (.cells #[vI b] 3) := by
  refine (callsIn_wide (n := 6)).1 ?_
  refine callsIn_of_wp Try.func27 rfl trivial ?_ rfl
  simp only [Try.ntmps27, List.size_toArray, List.length_cons, List.length_nil, Nat.reduceAdd, Nat.reduceSub, Array.replicate_succ, Array.replicate_zero, List.push_toArray, List.append_toArray, List.nil_append, List.cons_append]
  gi_wp2
  go_ret
  exact ⟨rfl, rfl⟩

set_option maxRecDepth 100000 in
set_option maxHeartbeats 2000000 in
theorem numbers_tells (a b : Int) (Ba Bb : Nat) (w : World) (ha : 0 ≤ a) (hb : b ≤ 100000) (hBa : w.cell? ⟨Ba, 0, none⟩ = some (vI a)) (hBb : w.cell? ⟨Bb, 0, none⟩ = some (vI b))
    (l : Nat) (J Jx : Set' → List Int → World → Prop) (W : World) (hK : Kept (two Ba Bb) no w W) (hY : Rounds (two Ba Bb) l 100000 J Jx) (h0 : J no [] W) :
    Calls Try.prog 32 #[.func (.yield l) #[] #[], ptr Ba, ptr Bb] W fun e W' => (∃ v, e = .returned v) ∧ ((J no (upto a b) W') ∨ (∃ pre, pre <+: upto a b ∧ Jx no pre W')) := by
  have hA1 := hK.cell hBa (.inl (.inl rfl))
  refine (callsIn_wide (n := 6)).1 ?_
  refine callsIn_of_wp Try.func32 rfl trivial ?_ rfl
  simp only [Try.ntmps32, List.size_toArray, List.length_cons, List.length_nil, Nat.reduceAdd, Nat.reduceSub, Array.replicate_succ, Array.replicate_zero, List.push_toArray, List.append_toArray, List.nil_append, List.cons_append]
  gi_wp2
  gi_loopw [4] (fun i wr => ∃ (k : Nat), k ≤ (b - a).toNat ∧ i = .int .i64 (a + k) ∧ J no ((upto a b).take k) wr ∧ Kept (two Ba Bb) no w wr)
    (fun i _ => (b - intOf i).toNat)
  case atStart => exact ⟨0, Nat.zero_le _, by simp, h0, hK⟩
  case round =>
    obtain ⟨k, hk, rfl, hJs, hB⟩ := hrel
    have hS := hB.cell hBb (.inl (.inr rfl))
    by_cases hlt : k < (b - a).toNat
    · have hc : a + (k : Int) < b := by omega
      have hx := upto_at a b k hlt
      obtain ⟨fn, tmps, assign, body, hy, hR⟩ := hY 5 no ((upto a b).take k) (a + k) wr hJs (by simp [upto_len]; omega)
      have Hx := Lib.hid hx
      clear hx
      gi_wp2
      refine hR.mono ?_
      rintro e W3 (⟨rfl, hJ4, hk4⟩ | ⟨rfl, hJx4, hk4⟩)
      · gi_wp2
        go_roundw
        case rel => exact ⟨k + 1, by omega, by go_num, by rw [take_snoc Hx.out]; exact hJ4, hB.trans hk4⟩
        case measure => simp [intOf]; omega
      · gi_wp2
        refine bodyPost_ret (results_none rfl _ _ _) rfl ?_
        exact ⟨⟨_, rfl⟩, .inr ⟨(upto a b).take k ++ [a + k], by rw [← take_snoc Hx.out]; exact List.take_prefix _ _, hJx4⟩⟩
    · have hc : ¬ a + (k : Int) < b := by omega
      gi_wp2
      go_end0
      exact ⟨⟨_, rfl⟩, .inl (by rw [List.take_of_length_le (by rw [upto_len]; omega)] at hJs; exact hJs)⟩

theorem numbers_it (a b : Int) (Ba Bb : Nat) (w : World) (ha : 0 ≤ a) (hb : b ≤ 100000) (hBa : w.cell? ⟨Ba, 0, none⟩ = some (vI a)) (hBb : w.cell? ⟨Bb, 0, none⟩ = some (vI b)) :
    It (two Ba Bb) no 32 #[ptr Ba, ptr Bb] (fun ys _ => ys = upto a b) (fun ys _ => ys <+: upto a b) 100000 w where
  lt k h := by
    rcases h with (rfl | rfl) | h
    · exact World.block_lt_of_cell? w _ hBa
    · exact World.block_lt_of_cell? w _ hBb
    · exact h.elim
  apart _ _ h := h
  st _ _ _ _ h := h
  stp _ _ _ _ h := h
  tells l J Jx W _ hK _ _ hY h0 := by
    refine (numbers_tells a b Ba Bb w ha hb hBa hBb l J Jx W hK hY h0).mono ?_
    rintro e W' ⟨hv, h | ⟨pre, h1, h2⟩⟩
    · exact ⟨hv, no, fun _ h => h, .inl ⟨_, rfl, h⟩⟩
    · exact ⟨hv, no, fun _ h => h, .inr ⟨pre, h1, h2⟩⟩
end Go.Proofs.Ytpgidjebihgdaaa
