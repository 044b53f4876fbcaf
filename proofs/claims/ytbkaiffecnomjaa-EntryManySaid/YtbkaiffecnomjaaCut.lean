/- The pieces of bytes, told by the program's iterator, in order. -/
import Derived.Test.YtbkaiffecnomjaaEnc
namespace Go.Proofs.Ytbkaiffecnomjaa
open Go.RowKit Go.Shelf
attribute [local go_sem] Oper.semAt_some

set_option maxHeartbeats 1000000 in
theorem cut_in (n : Nat) (A : Option Addr) (k c : Nat) (w : World) :
    CallsIn Fence.wide n Try.prog 20 #[.slice A k c] w fun e w' => e = .returned (.func (.func 24) #[] #[ptr w.heap.size]) ∧ w' = w.alloc (.cells #[.slice A k c] 24) := by
  refine callsIn_of_wp Try.func20 rfl trivial ?_ rfl
  simp only [Try.ntmps20, List.size_toArray, List.length_cons, List.length_nil, Nat.reduceAdd, Nat.reduceSub, Array.replicate_succ, Array.replicate_zero, List.push_toArray, List.append_toArray, List.nil_append, List.cons_append]
  gi_wp2
  go_ret
  exact ⟨rfl, rfl⟩

abbrev enP (p : Pc) : Array Value := #[Value.agg #[Value.int .u8 p.b0, Value.int .u8 p.b1, Value.int .u8 p.b2, Value.int .u8 p.b3, Value.int .u8 p.b4, Value.int .u8 p.b5, Value.int .u8 p.b6, Value.int .u8 p.b7, Value.int .u8 p.b8, Value.int .u8 p.b9, Value.int .u8 p.b10, Value.int .u8 p.b11]]
/-- the box B holds a slice of the bytes l -/
structure StP (A : Option Addr) (c : Nat) (l : List Int) (B : Nat) (W : World) : Prop where
  cell : W.cell? ⟨B, 0, none⟩ = some (.slice A l.length c)
  is : BS W W.heap.size A l
/-- the blocks that are read: the box, and that of the bytes -/
def EP (A : Option Addr) (l : List Int) (B : Nat) : Set' := fun k => k = B ∨ ∃ (i : Nat) (x : Int) (off : Nat), l[i]? = some x ∧ A = some ⟨k, off, none⟩
theorem EP.is {A : Option Addr} {l : List Int} {B : Nat} {X : Set'} {W W' : World} (h : BS W W.heap.size A l) (hk : Kept (EP A l B) X W W') : BS W' W'.heap.size A l := by
  intro k x hx
  obtain ⟨b, off, rfl, h1, h2⟩ := h k x hx
  have h3 := hk b (.inl (.inr ⟨k, x, off, hx, rfl⟩))
  exact ⟨b, off, rfl, heap_lt h3 h1, (World.cell?_of_block (a := ⟨b, off + k, none⟩) h3).trans h2⟩
theorem run_part {b off n c j : Nat} (h1 : j + 12 ≤ n) (h2 : n ≤ c) (W : World) :
    (Instr.slice 24 (.slice (some ⟨b, off, none⟩) n c) (some (.int .i64 (j : Int))) (some (.int .i64 ((j : Int) + 12))) none).run Try.prog W = .ok (.slice (some ⟨b, off + j, none⟩) 12 (c - j)) W := by
  have hu : Try.prog.underlying 24 = some (.slice (Try.prog.elem 24)) := by kernel_rfl
  have e3 : Try.prog.elem 24 = 5 := by kernel_rfl
  obtain ⟨i0, hi, hz0, hz1, hz2⟩ := info_parts infoB
  have e1 : ((j : Int) + 12).toNat = j + 12 := by omega
  have e2 : ¬ c = j := by omega
  rw [run_slice_lh W 24 (some ⟨b, off, none⟩) n c hu .i64 .i64 _ _ (by omega) (by omega) (by omega), e3]
  simp [sizeOf, typeInfo, hi, hz1, Result.andThen, sliced, e1, e2, Addr.add]
theorem run_array {b off c : Nat} (W : World) : (Instr.arrayAt 43 (.slice (some ⟨b, off, none⟩) 12 c)).run Try.prog W = .ok (.pointer (some ⟨b, off, none⟩)) W := by
  simp [Instr.arrayAt, run_underlying Try.underlying43, go_sem]
set_option maxRecDepth 100000 in
set_option maxHeartbeats 2000000 in
theorem cut_tells (A : Option Addr) (c : Nat) (xs : List Int) (B : Nat) (hlen : xs.length ≤ 100000) (hcap : xs.length ≤ c) (l : Nat) (J Jx : Set' → List Pc → World → Prop) (W : World) (hS : StP A c xs B W) (hY : Rounds (EP A xs B) enP l (pcs xs) J Jx) (h0 : J (fun _ => False) [] W) :
    Calls Try.prog 24 #[yv l, ptr B] W fun e W' => (∃ v, e = .returned v) ∧ ((J (fun _ => False) (pcs xs) W') ∨ (∃ pre, pre <+: pcs xs ∧ Jx (fun _ => False) pre W')) := by
  obtain ⟨hc, hI⟩ := hS
  have HI := Lib.hid hI
  clear hI
  obtain ⟨n, hn⟩ : ∃ n, n = xs.length := ⟨_, rfl⟩
  obtain ⟨m, hm⟩ : ∃ m, m = n / 12 := ⟨_, rfl⟩
  have hpl : (pcs xs).length = m := by rw [pcs_len, ← hn, ← hm]
  rw [← hn] at hc hlen hcap
  have Hn := Lib.hid hn
  have Hm := Lib.hid (show 12 * m ≤ n ∧ n < 12 * m + 12 by omega)
  have Hp := Lib.hid hpl
  clear hm hn hpl
  refine (callsIn_wide (n := 6)).1 ?_
  refine callsIn_of_wp Try.func24 rfl trivial ?_ rfl
  simp only [Try.ntmps24, List.size_toArray, List.length_cons, List.length_nil, Nat.reduceAdd, Nat.reduceSub, Array.replicate_succ, Array.replicate_zero, List.push_toArray, List.append_toArray, List.nil_append, List.cons_append]
  gi_wp2
  gi_loopw [3] (fun i wr => ∃ (k j : Nat), k ≤ m ∧ i = .int .i64 j ∧ Hid (j = 12 * k) ∧ J (fun _ => False) ((pcs xs).take k) wr ∧ Kept (EP A xs B) (fun _ => False) W wr)
    (fun i _ => (n - intOf i).toNat)
  case atStart => exact ⟨0, 0, Nat.zero_le _, rfl, Lib.hid rfl, h0, Kept.refl _ _ _⟩
  case round =>
    obtain ⟨k, j, hk, rfl, Hj, hJs, hB⟩ := hrel
    have hc2 := hB.cell hc (.inl (.inl rfl))
    by_cases hlt : k < m
    · have hj12 : j + 12 ≤ n := by have := Hj.out; have := Hm.out; omega
      have hc1 : (j : Int) + 12 ≤ (n : Int) := by omega
      obtain ⟨p, hp⟩ := pcs_some (l := xs) (k := k) (by have := Hm.out; have := Hn.out; omega)
      have hne : xs ≠ [] := fun e => by have h9 := Hn.out; rw [e] at h9; simp at h9; omega
      obtain ⟨b, off, rfl, _, _⟩ := (EP.is HI.out hB).addr hne
      have hpc := (EP.is HI.out hB).piece hp
      rw [show off + k * 12 = off + j by have := Hj.out; omega] at hpc
      have hs1 := fun W => run_part (b := b) (off := off) hj12 hcap W
      have hs2 := fun W => run_array (b := b) (off := off + j) (c := c - j) W
      obtain ⟨d0, d1, d2, d3, d4, d5, d6, d7, d8, d9, d10, d11⟩ := piece_cells hpc
      have htk : (pcs xs).take (k + 1) = (pcs xs).take k ++ [p] := by rw [List.take_add_one, hp]; rfl
      have hpre : (pcs xs).take k ++ [p] <+: pcs xs := by rw [← htk]; exact List.take_prefix _ _
      obtain ⟨fn, tmps, assign, body, hy, hR⟩ := hY 5 _ _ _ wr hJs hpre
      have Ht := Lib.hid htk
      have Hpre := Lib.hid hpre
      clear hpc hp htk hpre hne
      gi_wp2
      refine hR.mono ?_
      rintro e W3 (⟨rfl, hJ4, hk4⟩ | ⟨rfl, hJx4, hk4⟩)
      · gi_wp2
        go_roundw
        case rel => exact ⟨k + 1, j + 12, by omega, by go_num, Lib.hid (by have := Hj.out; omega), by rw [Ht.out]; exact hJ4, hB.trans hk4⟩
        case measure => simp [intOf]; omega
      · gi_wp2
        refine bodyPost_ret (results_none rfl _ _ _) rfl ?_
        exact ⟨⟨_, rfl⟩, .inr ⟨_, Hpre.out, hJx4⟩⟩
    · obtain rfl : k = m := by omega
      have hj9 : j ≤ 100000 := by have := Hj.out; have := Hm.out; omega
      have hc1 : ¬ (j : Int) + 12 ≤ (n : Int) := by have := Hj.out; have := Hm.out; omega
      rw [List.take_of_length_le (by rw [Hp.out]; exact Nat.le_refl _)] at hJs
      clear hlt
      gi_wp2
      go_end0
      exact ⟨⟨_, rfl⟩, .inl hJs⟩
theorem cut_it (A : Option Addr) (c : Nat) (l : List Int) (B : Nat) (hlen : l.length ≤ 100000) (hcap : l.length ≤ c) : It (StP A c l B) (EP A l B) enP 24 #[] #[ptr B] (pcs l) where
  lt W h k hk := by
    rcases hk with rfl | ⟨i, x, off, hi, rfl⟩
    · exact World.block_lt_of_cell? W _ h.cell
    · obtain ⟨b, off2, e, h1, _⟩ := h.is i x hi
      injection e with e
      injection e with e
      subst e
      exact h1
  on W W' h hb := ⟨(hb.cell (p := ⟨B, 0, none⟩) (World.block_lt_of_cell? W _ h.cell)).trans h.cell, h.is.on hb⟩
  tells l J Jx W hW _ _ hY h0 := by
    refine (cut_tells A c _ B hlen hcap l J Jx W hW hY h0).mono ?_
    rintro e W' ⟨hv, h | ⟨pre, h1, h2⟩⟩
    · exact ⟨hv, _, .inl h⟩
    · exact ⟨hv, _, .inr ⟨pre, h1, h2⟩⟩
end Go.Proofs.Ytbkaiffecnomjaa
