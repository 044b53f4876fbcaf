/- A memory of cells; its words; a conf's memory. -/
import Derived.Test.YtbkcniknbpgphaaDoorAcc
import Derived.Test.YtbkcniknbpgphaaDoorLst
import Derived.Shelf.Slices.Clone
import Derived.Ground.Names2Prog
namespace Go.Proofs.YtbkcniknbpgphaaDoor
open Go.RowKit
attribute [local go_sem ↓] Go.wp_at_zero Go.wp_at_succ

def laysClone_ren : Go.Shelf.Ren := ⟨fun | 15 => 44 | n => n, fun | 22 => 36 | 3 => 3 | 4 => 4 | n => n, fun | n => n⟩
theorem laysClone : Go.Proofs.Lays2.n15 Tryd.prog laysClone_ren := {
  mixed := by kernel_rfl
  f15 := Tryd.func44.trans (congrArg some (by kernel_rfl))
  t3 := Tryd.underlying3
  a3 := Tryd.isAgg3
  z3 := Tryd.sizeOf3
  v3 := Tryd.zeroValue3
  t4 := Tryd.underlying4
  a4 := Tryd.isAgg4
  z4 := Tryd.sizeOf4
  v4 := Tryd.zeroValue4
  t22 := Tryd.underlying36
  a22 := Tryd.isAgg36
  z22 := Tryd.sizeOf36
  v22 := Tryd.zeroValue36
  i3 := by kernel_rfl }
open Go.Lib in
theorem clone_is (A : Option Addr) (c : Nat) (xs : List Int) (w : World) (h : IS w w.heap.size A xs) (h1 : 0 < xs.length) (h2 : xs.length ≤ 1000000) :
    Calls Tryd.prog 44 #[.slice A xs.length c] w fun e w' => ∃ g c', e = .returned (.slice (some ⟨g, 0, none⟩) xs.length c') ∧ xs.length ≤ c' ∧ IS w' w'.heap.size (some ⟨g, 0, none⟩) xs ∧ Below w.heap.size w w' := by
  obtain ⟨x0, hx0⟩ := num_some (xs := xs) (k := 0) h1
  obtain ⟨b, off, rfl, hb, _⟩ := h 0 x0 hx0
  refine (Any.slices_Clone_int laysClone b off xs.length c xs w (Nat.le_refl _) (by omega) fun j hj => ?_).mono ?_
  · obtain ⟨x, hx⟩ := num_some hj
    obtain ⟨b2, off2, e, _, hc⟩ := h j x hx
    injection e with e
    injection e with e1 e2
    subst e1 e2
    rw [hc, List.getD_eq_getElem?_getD, hx]
    rfl
  · rintro e w' ⟨v, rfl, hown, hne, hb2⟩
    rw [List.take_length] at hown
    obtain ⟨A2, c2, rfl⟩ := own_form hown
    obtain ⟨k1, k2, k3⟩ := own_is hown
    obtain ⟨g, off2, e2, _⟩ := k1 0 x0 hx0
    rcases hown.2 with ⟨e3, _⟩ | ⟨g', cap, cur, e3, _⟩
    · exact absurd e3 hne
    · injection e3 with e3 e4 e5
      subst e3
      exact ⟨g', c2, rfl, k3, k1, hb2⟩
theorem info3 : (Tryd.prog.info? 3).map (fun i => (i.zero, i.size, i.bytes)) = some (some (.int .i64 0), 1, 8) := by kernel_rfl
theorem make_run (n : Nat) (h2 : n ≤ 4096) (W : World) : (Instr.makeSlice 36 (.int .i64 n) (.int .i64 n)).run Tryd.prog W = .ok (.slice (some ⟨W.heap.size, 0, none⟩) n n) (W.alloc (.cells (madeCells #[.int .i64 0] n) 3)) := by
  obtain ⟨i0, hi, hz0, hz1, hz2⟩ := info_parts info3
  have h := run_make (P := Tryd.prog) W 36 3 i0 (.int .i64 0) Tryd.underlying36 hi hz0 .i64 .i64 n n (by omega) (by omega) (by rw [hz2]; omega) (by omega)
  rw [hz1, Nat.mul_one, Int.toNat_natCast, show (Value.int .i64 0).cells = #[.int .i64 0] from rfl] at h
  exact h
theorem zeros_at (n k : Nat) (h : k < n) : (madeCells #[Value.int .i64 0] n)[k]? = some (.int .i64 0) := by
  simp [madeCells, h, Nat.mod_one]
theorem rep_at {n k : Nat} {x : Int} (h : (List.replicate n (0 : Int))[k]? = some x) : k < n ∧ x = 0 := by
  obtain ⟨h1, h2⟩ := List.getElem?_eq_some_iff.1 h
  simp at h1 h2
  exact ⟨h1, h2.symm⟩
theorem zeros_is (w : World) (n : Nat) : IS (w.alloc (.cells (madeCells #[.int .i64 0] n) 3)) (w.heap.size + 1) (some ⟨w.heap.size, 0, none⟩) (List.replicate n 0) := by
  intro k x hx
  obtain ⟨h1, rfl⟩ := rep_at hx
  refine ⟨w.heap.size, 0, rfl, by omega, ?_⟩
  rw [Nat.zero_add]
  exact (RowAt.new w 3 (madeCells #[.int .i64 0] n)).cell k (zeros_at n k h1)
/-- a memory of n cells, all nought, behind block g -/
structure MemZ (w : World) (g gw n : Nat) : Prop where
  row : ∃ c, RowAt w g 81 #[.slice (some ⟨gw, 0, none⟩) n c, .int .i64 0]
  ws : IS w w.heap.size (some ⟨gw, 0, none⟩) (List.replicate n 0)
theorem MemZ.on {w w' : World} {g gw n : Nat} (h : MemZ w g gw n) (hb : Below w.heap.size w w') : MemZ w' g gw n := by
  obtain ⟨⟨c, hr⟩, hi⟩ := h
  exact ⟨⟨c, hr.below hb hr.lt⟩, hi.on hb⟩
theorem MemZ.drew {w : World} {g gw n : Nat} (h : MemZ w g gw n) : MemZ w.drew g gw n := ⟨h.row, h.ws⟩
theorem MemZ.alloc {w : World} {g gw n : Nat} (h : MemZ w g gw n) (o : Obj) : MemZ (w.alloc o) g gw n := h.on ((Below.refl _ _).alloc (Nat.le_refl _) _)
set_option maxRecDepth 100000 in
set_option maxHeartbeats 2000000 in
theorem new_any (n : Nat) (w : World) (h1 : 1 ≤ n) (h2 : n ≤ 4096) :
    Calls Tryd.prog 50 #[.int .i64 n] w (fun e w' => ∃ g gw, e = .returned (.tuple #[.pointer (some ⟨g, 0, none⟩), .int .i64 0]) ∧ MemZ w' g gw n ∧ Below w.heap.size w w') := by
  have hm := make_run n h2
  have hn := zeros_is w n
  have hr := new2 w (.cells (madeCells #[.int .i64 0] n) 3) 81 #[.slice (some ⟨w.heap.size, 0, none⟩) n n, .int .i64 0]
  have hB1 : Below w.heap.size w (w.alloc (.cells (madeCells #[.int .i64 0] n) 3)) := (Below.refl _ _).alloc (Nat.le_refl _) _
  have hB2 : Below (w.heap.size + 1) (w.alloc (.cells (madeCells #[.int .i64 0] n) 3)) ((w.alloc (.cells (madeCells #[.int .i64 0] n) 3)).alloc (.cells #[.slice (some ⟨w.heap.size, 0, none⟩) n n, .int .i64 0] 81)) := (Below.refl _ _).alloc (by simp) _
  go_enter Tryd.func50, Tryd.ntmps50
  go_wp2
  go_ret2
  exact ⟨w.heap.size + 1, w.heap.size, rfl, ⟨⟨n, hr⟩, (hn.below hB2).more (by simp)⟩, hB1.trans (hB2.mono (by omega))⟩
theorem many_any (g gw n : Nat) (w : World) (h : MemZ w g gw n) :
    Calls Tryd.prog 39 #[.pointer (some ⟨g, 0, none⟩)] w (fun e w' => e = .returned (.int .i64 (n : Int)) ∧ w = w') := by
  obtain ⟨⟨c, hr⟩, _⟩ := h
  have h0 := hr.cell 0 rfl
  go_enter Tryd.func39, Tryd.ntmps39
  go_wp2
  go_ret
  exact ⟨rfl, rfl⟩
theorem words_any (g gw n : Nat) (w : World) (h : MemZ w g gw n) (h1 : 1 ≤ n) (h2 : n ≤ 4096) :
    Calls Tryd.prog 28 #[.pointer (some ⟨g, 0, none⟩)] w (fun e w' => ∃ b c', e = .returned (.slice (some ⟨b, 0, none⟩) n c') ∧ n ≤ c' ∧ IS w' w'.heap.size (some ⟨b, 0, none⟩) (List.replicate n 0) ∧ Below w.heap.size w w') := by
  obtain ⟨⟨c, hr⟩, hi⟩ := h
  have h0 := hr.cell 0 rfl
  have hc := clone_is (some ⟨gw, 0, none⟩) c (List.replicate n 0) w hi (by simp; omega) (by simp; omega)
  rw [List.length_replicate] at hc
  go_enter Tryd.func28, Tryd.ntmps28
  go_wp2_with fail
  refine hc.mono ?_
  rintro e w1 ⟨b, c1, rfl, hc1, hb2, hb3⟩
  go_wp2_with fail
  go_ret
  exact ⟨b, c1, rfl, hc1, hb2, hb3⟩
set_option maxRecDepth 100000 in
set_option maxHeartbeats 2000000 in
theorem mem_no (c : Cf) (w : World) (hr : rcB c = false) :
    Calls Tryd.prog 37 #[Value.agg #[Value.int .i64 c.wo, Value.int .i64 c.sl, Value.int .i64 c.st, Value.int .i64 c.wa, Value.int .i64 c.us]] w (fun e w' => e = .returned (.tuple #[.pointer none, .int .i64 1]) ∧ Below w.heap.size w w') := by
  have hB : Below w.heap.size w (w.alloc (.cells #[Value.int .i64 c.wo, Value.int .i64 c.sl, Value.int .i64 c.st, Value.int .i64 c.wa, Value.int .i64 c.us] 35)) := (Below.refl _ _).alloc (Nat.le_refl _) _
  have Hr := Lib.hid hr
  clear hr
  go_enter Tryd.func37, Tryd.ntmps37
  go_wp2_with fail
  refine (cright_any c _).mono ?_
  rintro e w1 ⟨rfl, hb⟩
  rw [Hr.out]
  replace hB := hB.trans (hb.mono hB.size)
  clear hb
  go_wp2_with fail
  go_ret2
  exact ⟨rfl, hB⟩
/-- how many cells there are, as a count -/
def cellsN (c : Cf) : Nat := (cellsI c).toNat
theorem cellsN_eq {c : Cf} (hc : Rc c) : ((cellsN c : Nat) : Int) = cellsI c ∧ 6 ≤ cellsN c ∧ cellsN c ≤ 35 := by
  have q1 := hc.wo
  have q2 := hc.sl
  unfold cellsN cellsI
  omega
set_option maxRecDepth 100000 in
set_option maxHeartbeats 2000000 in
theorem mem_yes (c : Cf) (w : World) (hc : Rc c) :
    Calls Tryd.prog 37 #[Value.agg #[Value.int .i64 c.wo, Value.int .i64 c.sl, Value.int .i64 c.st, Value.int .i64 c.wa, Value.int .i64 c.us]] w (fun e w' => ∃ g gw, e = .returned (.tuple #[.pointer (some ⟨g, 0, none⟩), .int .i64 0]) ∧ MemZ w' g gw (cellsN c) ∧ Below w.heap.size w w') := by
  have hB : Below w.heap.size w (w.alloc (.cells #[Value.int .i64 c.wo, Value.int .i64 c.sl, Value.int .i64 c.st, Value.int .i64 c.wa, Value.int .i64 c.us] 35)) := (Below.refl _ _).alloc (Nat.le_refl _) _
  have r0 := RowAt.new w 35 #[Value.int .i64 c.wo, Value.int .i64 c.sl, Value.int .i64 c.st, Value.int .i64 c.wa, Value.int .i64 c.us]
  have Hr := Lib.hid (rcB_iff.2 hc)
  have Hc := Lib.hid hc
  have Hn := Lib.hid (cellsN_eq hc)
  clear hc
  go_enter Tryd.func37, Tryd.ntmps37
  go_wp2_with fail
  refine (cright_any c _).mono ?_
  rintro e w1 ⟨rfl, hb⟩
  rw [Hr.out]
  replace hB := hB.trans (hb.mono hB.size)
  replace r0 := r0.below hb r0.lt
  clear hb
  go_wp2_with (refine wpList_load_row rfl 35 _ rfl _ rfl 35 _ (0, 0) _ r0 Tryd.underlying35 rfl (by kernel_rfl) ?_)
  refine (cells_any c _ Hc.out).mono ?_
  rintro e w2 ⟨rfl, hb⟩
  replace hB := hB.trans (hb.mono hB.size)
  clear hb
  rw [← Hn.out.1]
  go_wp2_with fail
  refine (new_any (cellsN c) _ (by have := Hn.out.2; omega) (by have := Hn.out.2; omega)).mono ?_
  rintro e w3 ⟨g, gw, rfl, hm, hb⟩
  replace hB := hB.trans (hb.mono hB.size)
  clear hb
  go_wp2_with fail
  go_ret2
  exact ⟨g, gw, rfl, hm, hB⟩
end Go.Proofs.YtbkcniknbpgphaaDoor
