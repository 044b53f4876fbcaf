/- All: what ranging over it tells, one by one, and what it leaves. -/
import Derived.RangeFuncNested
import Derived.RangeFuncBound
import Derived.RangeFuncCalls
import Derived.RangeFuncLeaves
import Derived.Shelf.Abstract
import Derived.Shelf.RegionOpen
import Derived.OwnWalkIn
import Derived.TacticsInMore
import Derived.LoopNIn
import Derived.LoopIn
import Derived.Test.YtdhdacpnlfojeaaBool
namespace Go.Proofs.Ytdhdacpnlfojeaa
open Go.RowKit Go.Shelf
attribute [local go_sem] Oper.semAt_some

/-- what a round of the loop keeps: all below n0 but block Bo -/
structure KB (n0 Bo : Nat) (A W : World) : Prop where
  os : W.os = A.os
  tape : W.tape = A.tape
  output : W.output = A.output
  size : A.heap.size ≤ W.heap.size
  block : ∀ k, k < n0 → k ≠ Bo → W.heap[k]? = A.heap[k]?
theorem KB.refl (n0 Bo : Nat) (A : World) : KB n0 Bo A A := ⟨rfl, rfl, rfl, Nat.le_refl _, fun _ _ _ => rfl⟩
theorem KB.trans {n0 Bo : Nat} {A W V : World} (h : KB n0 Bo A W) (k : KB n0 Bo W V) : KB n0 Bo A V :=
  ⟨k.os.trans h.os, k.tape.trans h.tape, k.output.trans h.output, Nat.le_trans h.size k.size, fun i hi hb => (k.block i hi hb).trans (h.block i hi hb)⟩
theorem KB.of_below {n0 Bo : Nat} {A W : World} (h : Below n0 A W) : KB n0 Bo A W := ⟨h.os, h.tape, h.output, h.size, fun k hk _ => h.block k hk⟩
theorem KB.putObj {n0 Bo : Nat} {w : World} (hn : n0 ≤ w.heap.size) (W : World) (l : Nat) (o o' : Obj) (hl : w.heap.size ≤ l) (h : W.heap[l]? = some o) (ho : o.isCells = false) (hw : o.isWalk = false) : KB n0 Bo W (W.putObj l o') :=
  .of_below (belowK_b hn W l o o' hl h ho hw)

theorem grown_drew (w : World) (q : Nat) : w.grownBy (w.drewN q) none := ⟨rfl, rfl, rfl, Nat.le_refl _, fun _ _ _ => rfl⟩
theorem take_snoc {α : Type} {l : List α} {k : Nat} {x : α} (h : l[k]? = some x) : l.take (k + 1) = l.take k ++ [x] := by rw [List.take_add_one, h]; rfl
theorem kb_drew (n0 Bo : Nat) (w : World) (q : Nat) : KB n0 Bo w (w.drewN q) := ⟨rfl, rfl, rfl, Nat.le_refl _, fun _ _ _ => rfl⟩
theorem one_way {e : Ending} {P Q : Prop} (h : (e = .returned (.bool true) ∧ P) ∨ (e = .returned (.bool false) ∧ Q)) : ∃ b : Bool, e = .returned (.bool b) ∧ ((b = true ∧ P) ∨ (b = false ∧ Q)) := by
  rcases h with ⟨rfl, h⟩ | ⟨rfl, h⟩
  · exact ⟨true, rfl, .inl ⟨rfl, h⟩⟩
  · exact ⟨false, rfl, .inr ⟨rfl, h⟩⟩
abbrev vB (x : Bool) : Value := .bool x
abbrev ptr (b : Nat) : Value := .pointer (some ⟨b, 0, none⟩)
theorem isB_map (l : List Bool) : ∀ x ∈ l.map vB, IsB x := by
  intro x hx
  obtain ⟨i, _, rfl⟩ := List.mem_map.1 hx
  exact ⟨i, rfl⟩

set_option maxRecDepth 100000 in
set_option maxHeartbeats 2000000 in
theorem seq_in (n : Nat) (hn : 1 ≤ n) (l Bs n0 Bo g gb m first room : Nat) (A : Option Addr) (xs : List Bool) (J Jx : List Bool → World → Prop)
    (hY : ∀ pre x W, J pre W → pre.length < xs.length → YieldAt Fence.wide (n - 1) Try.prog l #[vB x] W fun e W' =>
      (e = .returned (.bool true) ∧ J (pre ++ [x]) W' ∧ KB n0 Bo W W') ∨ (e = .returned (.bool false) ∧ Jx (pre ++ [x]) W'))
    (W : World) (hJ : AbidesFrom W.heap.size J) (hBs : W.cell? ⟨Bs, 0, none⟩ = some (.pointer (some ⟨g, 0, none⟩))) (hBn : Bs < n0) (hBo : Bs ≠ Bo)
    (hR : RingAt W g gb m first room A (xs.map vB)) (hg : g < n0 ∧ g ≠ Bo) (hgb : 0 < m → gb < n0 ∧ gb ≠ Bo) (h0 : J [] W) :
    CallsIn Fence.wide n Try.prog 27 #[.func (.yield l) #[] #[], .pointer (some ⟨Bs, 0, none⟩)] W fun e W' => (∃ v, e = .returned v) ∧
      ((∃ ys, ys = xs ∧ J ys W') ∨ (∃ pre, pre <+: xs ∧ Jx pre W')) := by
  refine callsIn_of_wp Try.func27 rfl trivial ?_ rfl
  simp only [Try.ntmps27, List.size_toArray, List.length_cons, List.length_nil, Nat.reduceAdd, Nat.reduceSub, Array.replicate_succ, Array.replicate_zero, List.push_toArray, List.append_toArray, List.nil_append, List.cons_append]
  have h2 := hR.c2
  rw [List.length_map] at h2
  have hxn := hR.xn
  rw [List.length_map] at hxn
  have hnr := hR.nr
  have hrm := hR.rm
  gi_wp2
  gi_loopw [8] (fun i wr => ∃ (k : Nat), k ≤ xs.length ∧ i = .int .i64 k ∧ J (xs.take k) wr ∧ KB n0 Bo W wr)
    (fun i _ => xs.length - (intOf i).toNat)
  case atStart => exact ⟨0, Nat.zero_le _, rfl, h0, KB.refl _ _ _⟩
  case round =>
    obtain ⟨k, hk, rfl, hJs, hB⟩ := hrel
    by_cases hlt : k < xs.length
    · have hR2 : RingAt wr g gb m first room A (xs.map vB) := hR.of_blocks hB.size (hB.block g hg.1 hg.2) fun hm => hB.block gb (hgb hm).1 (hgb hm).2
      obtain ⟨rfl, hf, hb3, hne, hz⟩ := hR2.pl (by omega)
      have hS : wr.cell? ⟨Bs, 0, none⟩ = some (.pointer (some ⟨g, 0, none⟩)) := (World.cell?_of_block (w := W) (a := ⟨Bs, 0, none⟩) (hB.block Bs hBn hBo)).trans hBs
      obtain ⟨x, hx⟩ : ∃ x, xs[k]? = some x := ⟨xs[k], by simp⟩
      have d0 := hR2.c0
      have d1 := hR2.c1
      have hc := hR2.ic k (vB x) (by simp [hx])
      obtain ⟨p, ep⟩ : ∃ p, p = (first + k) % m := ⟨_, rfl⟩
      have hp1 : p < m := by rw [ep]; exact Nat.mod_lt _ (by omega)
      have hp2 : (p : Int) < (m : Int) := by omega
      have hp0 : (0 : Int) ≤ (p : Int) := by omega
      rw [← ep] at hc
      have Ep := Lib.hid ep.symm
      have Hx := Lib.hid hx
      clear ep hx
      gi_wp2
      have hf25 : Fence.wide.fn 25 := trivial
      have hmx : Try.prog.follows .mixedOrders = true := by kernel_rfl
      gi_region_with_o (first | (gi_at_call 25; refine (callsIn_wide.2 (placeB_any g m first k p _ wr.drew d0 d1 (by omega) hf (by omega) (by omega) Ep.out)).mono ?_; rintro e w1 ⟨rfl, q, rfl⟩; obtain ⟨fn, tmps, assign, body, hy, hRo⟩ := hY (xs.take k) x (wr.drewN (1 + q)) (hJ _ _ _ none hJs (grown_drew wr (1 + q)) (fun r e => by cases e)) (by simp; omega)) | (refine hRo.mono ?_; intro e W3 hE; obtain ⟨bb, rfl, hE2⟩ := one_way hE; clear hE))
      all_goals
        rcases hE2 with ⟨rfl, hJ4, hk4⟩ | ⟨rfl, hJx4⟩
        · gi_wp2
          go_roundw
          case rel => exact ⟨k + 1, by omega, by go_num, by rw [take_snoc Hx.out]; exact hJ4, (hB.trans (kb_drew _ _ wr (1 + q))).trans hk4⟩
          case measure => simp [intOf]; omega
        · gi_wp2
          refine bodyPost_ret (results_none rfl _ _ _) rfl ?_
          exact ⟨⟨_, rfl⟩, .inr ⟨xs.take k ++ [x], by rw [← take_snoc Hx.out]; exact List.take_prefix _ _, hJx4⟩⟩
    · obtain rfl : k = xs.length := by omega
      gi_wp2
      go_end0
      exact ⟨⟨_, rfl⟩, .inl ⟨xs, rfl, by rw [List.take_length] at hJs; exact hJs⟩⟩
end Go.Proofs.Ytdhdacpnlfojeaa
