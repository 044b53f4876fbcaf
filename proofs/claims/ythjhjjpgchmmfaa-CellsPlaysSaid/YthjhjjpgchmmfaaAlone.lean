/- The law CellsAlone, walked. -/
import Derived.Test.YthjhjjpgchmmfaaCopies
namespace Go.Proofs.Ythjhjjpgchmmfaa
open Go.RowKit
attribute [local go_sem ↓] Go.wp_at_zero Go.wp_at_succ

/-- an operation in a block of its own -/
structure BoxO (W : World) (b : Nat) (o : OpT) : Prop where
  lt : b < W.heap.size
  c0 : W.cell? ⟨b, 0, none⟩ = some (.int .u8 o.k)
  c1 : W.cell? ⟨b, 1, none⟩ = some (.int .i64 o.i)
  c2 : W.cell? ⟨b, 2, none⟩ = some (.int .i64 o.v)
  c3 : W.cell? ⟨b, 3, none⟩ = some (.int .i64 o.u)
theorem BoxO.on {W X : World} {b : Nat} {o : OpT} (h : BoxO W b o) (hb : Below W.heap.size W X) : BoxO X b o :=
  ⟨Nat.lt_of_lt_of_le h.lt hb.size, (cell_far hb 0 h.lt).trans h.c0, (cell_far hb 1 h.lt).trans h.c1, (cell_far hb 2 h.lt).trans h.c2, (cell_far hb 3 h.lt).trans h.c3⟩
theorem BoxO.sp {W X : World} {b g gw : Nat} {o : OpT} (h : BoxO W b o) (hs : Sp g gw W X) (h1 : b ≠ g) (h2 : b ≠ gw) : BoxO X b o :=
  ⟨Nat.lt_of_lt_of_le h.lt hs.size, (hs.cell 0 h.lt h1 h2).trans h.c0, (hs.cell 1 h.lt h1 h2).trans h.c1, (hs.cell 2 h.lt h1 h2).trans h.c2, (hs.cell 3 h.lt h1 h2).trans h.c3⟩
theorem BoxO.new (W : World) (o : OpT) : BoxO (W.alloc (.cells #[.int .u8 o.k, .int .i64 o.i, .int .i64 o.v, .int .i64 o.u] 34)) W.heap.size o := by
  have hb := heap_alloc_new W (.cells #[.int .u8 o.k, .int .i64 o.i, .int .i64 o.v, .int .i64 o.u] 34)
  exact ⟨(Array.getElem?_eq_some_iff.1 hb).1, cell_of_row _ _ 0 _ 34 (0, 0) hb, cell_of_row _ _ 1 _ 34 (0, 0) hb, cell_of_row _ _ 2 _ 34 (0, 0) hb, cell_of_row _ _ 3 _ 34 (0, 0) hb⟩
theorem St.opS_load {s : St} {o : OpT} (h : o.k = 0) : (s.opS o).ws = s.ws := by
  rcases s.opS_cases o with h1 | h1 | ⟨_, h2, _⟩
  · rw [h1]
  · rw [h1]
  · exact absurd h h2
/-- what the law holds against each cell -/
theorem alone_cell {s : St} {o : OpT} {k : Nat} (h : o.i ≠ k ∨ o.k = 0) : (s.opS o).ws.getD k 0 = s.ws.getD k 0 := by
  rcases h with h | h
  · rw [List.getD_eq_getElem?_getD, List.getD_eq_getElem?_getD, St.opS_far h]
  · rw [St.opS_load h]

set_option maxRecDepth 100000 in
set_option maxHeartbeats 1000000 in
theorem alone_long (m : Int) (A : Option Addr) (n c : Nat) (o : OpT) (w : World) (hl : 60 < n) :
    Calls Try.prog 5 #[.int .u8 m, .slice A n c, o.val] w (fun e w' => e = .returned (.bool true) ∧ Below w.heap.size w w') := by
  obtain ⟨ok, oi, ov, ou⟩ := o
  unfold OpT.val
  go_enter Try.func5, Try.ntmps5
  go_wp2_with fail
  refine (awake_any _).mono ?_
  rintro e w1 ⟨rfl, hB1⟩
  go_wp2_with fail
  go_ret
  exact ⟨rfl, ((Below.refl _ _).alloc (Nat.le_refl _) _).trans (hB1.mono (by simp))⟩
set_option maxRecDepth 100000 in
set_option maxHeartbeats 4000000 in
theorem alone_go (m : Nat) (A : Option Addr) (c0 : Nat) (l : List OpT) (o : OpT) (w : World) (hm : m < 256) (hl : l.length ≤ 60) (hO : OS w w.heap.size A l) :
    Calls Try.prog 5 #[.int .u8 m, .slice A l.length c0, o.val] w (fun e w' => e = .returned (.bool true) ∧ Below w.heap.size w w') := by
  have hbo := BoxO.new w o
  have hB0 : Below w.heap.size w (w.alloc (.cells #[.int .u8 o.k, .int .i64 o.i, .int .i64 o.v, .int .i64 o.u] 34)) := (Below.refl _ _).alloc (Nat.le_refl _) _
  unfold OpT.val
  go_enter Try.func5, Try.ntmps5
  go_wp2_with fail
  refine (awake_any _).mono ?_
  rintro e w1 ⟨rfl, hB1⟩
  have hbo1 := hbo.on hB1
  have hB1' := hB0.trans (hB1.mono hB0.size)
  clear hbo
  obtain ⟨bo, ebo⟩ : ∃ bo, bo = w.heap.size := ⟨_, rfl⟩
  have Hbo := Lib.hid ebo
  rw [← ebo] at hbo1
  go_wp2_with fail
  rw [← ebo]
  clear ebo hB1 hB0
  refine (some_any m A _ c0 l _ hm rfl (by omega) ((hO.below hB1').more hB1'.size)).mono ?_
  rintro e w2 ⟨g, gw, c, rfl, hg1, hgw1, hM, hB2⟩
  have hD : RowKit.Hid (bo ≠ g ∧ bo ≠ gw ∧ w.heap.size ≤ g ∧ w.heap.size ≤ gw) := by
    have i1 := hbo1.lt
    have i2 := hB1'.size
    exact Lib.hid ⟨by omega, by omega, by omega, by omega⟩
  have hB := hB1'.trans (hB2.mono hB1'.size)
  have hbo2 := hbo1.on hB2
  clear hg1 hgw1 hB1' hB2 hO hbo1
  obtain ⟨s, es⟩ : ∃ s, s = (St.new (manyN m)).run l := ⟨_, rfl⟩
  have hlen : s.ws.length = manyN m := by rw [es]; exact newRun_len _ _
  have hst : s.t ≤ 60 := by rw [es]; exact newRun_t _ _ hl
  have hN1 : 0 < s.ws.length := by rw [hlen]; unfold manyN; omega
  have hN2 : s.ws.length ≤ 100 := by rw [hlen]; unfold manyN; omega
  rw [← es] at hM
  clear es hlen hm
  go_wp2_with fail
  refine (words_any g gw c s _ hM hN1 (by omega)).mono ?_
  rintro e w3 ⟨b3, c3, rfl, hb3, hn3, hB3⟩
  have hM3 := hM.on hB3
  have hbo3 := hbo2.on hB3
  have hB3' := hB.trans (hB3.mono hB.size)
  have hD3 : RowKit.Hid (b3 ≠ g ∧ b3 ≠ gw) := by
    have i1 := hM.lg
    have i2 := hM.lw
    exact Lib.hid ⟨by omega, by omega⟩
  clear hM hbo2 hB hB3 hb3
  go_wp2_with fail
  refine (touched_any g gw c s _ hM3).mono ?_
  rintro e w4 ⟨rfl, rfl⟩
  have d0 := hbo3.c0
  have d1 := hbo3.c1
  have d2 := hbo3.c2
  have d3 := hbo3.c3
  go_wp2_with fail
  refine (do_any g gw c s o _ hM3 (by omega)).mono ?_
  rintro e w5 ⟨rfl, hM5, hs5⟩
  have hbo5 := hbo3.sp hs5 hD.out.1 hD.out.2.1
  have hn5 := hn3.sp hs5 hD3.out.1 hD3.out.2
  have hB5 := Sp.below hB3' hs5 hB3'.size hD.out.2.2.1 hD.out.2.2.2
  have hL := s.opS_len o
  have HC := Lib.hid (fun (k : Nat) (h : o.i ≠ k ∨ o.k = 0) => alone_cell (s := s) (o := o) (k := k) h)
  obtain ⟨s5, es5⟩ : ∃ s5, s5 = s.opS o := ⟨_, rfl⟩
  rw [← es5] at hM5 hL HC
  have hl5 : s5.ws.length = s.ws.length := hL.1
  have ht1 : s.t ≤ s5.t := hL.2.1
  have ht2 : s5.t ≤ s.t + 1 := hL.2.2
  clear es5 hL hM3 hbo3 hn3 hB3' hs5 d0 d1 d2 d3
  go_wp2_with fail
  refine (words_any g gw c s5 _ hM5 (by omega) (by omega)).mono ?_
  rintro e w6 ⟨b6, c6, rfl, hb6, hn6, hB6⟩
  rw [hl5]
  have hbo6 := hbo5.on hB6
  have hv6 := hn5.on hB6
  have hM6 := hM5.on hB6
  have hB6' := hB5.trans (hB6.mono hB5.size)
  have HL := Lib.hid hl5
  clear hM5 hbo5 hn5 hB5 hB6 hb6 hl5
  go_wp2_with fail
  refine (touched_any g gw c s5 _ hM6).mono ?_
  rintro e w7 ⟨rfl, rfl⟩
  go_wp2_with fail
  refine (touched_any g gw c s5 _ hM6).mono ?_
  rintro e w7 ⟨rfl, rfl⟩
  go_wp2_with fail
  go_loopw [12] (fun j wr => ∃ (k : Nat), k ≤ s.ws.length ∧ j = .int .i64 k ∧ Below w7.heap.size w7 wr) (fun j _ => s.ws.length - (intOf j).toNat)
  case atStart => exact ⟨0, Nat.zero_le _, rfl, Below.refl _ _⟩
  case round =>
    obtain ⟨k, hk, rfl, hB8⟩ := hrel
    by_cases hlt : k < s.ws.length
    · have hbo8 := hbo6.on hB8
      have d0 := hbo8.c0
      have d1 := hbo8.c1
      have e1 := (hn6.on hB8).ic k _ (num_some (by rw [HL.out]; exact hlt))
      have e2 := (hv6.on hB8).ic k _ (num_some hlt)
      have hC := HC.out k
      obtain ⟨x, ex⟩ : ∃ x, x = s5.ws.getD k 0 := ⟨_, rfl⟩
      obtain ⟨y, ey⟩ : ∃ y, y = s.ws.getD k 0 := ⟨_, rfl⟩
      rw [← ex] at e1 hC
      rw [← ey] at e2 hC
      clear ex ey hbo8
      have hk1 : (k : Int) < (s.ws.length : Int) := by omega
      have hk0 : (0 : Int) ≤ (k : Int) := Int.natCast_nonneg _
      go_wp2_with fail
      by_cases hi : o.i = k
      · have hib : ((k : Int) != o.i) = false := by rw [hi]; simp
        by_cases hz : o.k = 0
        · obtain rfl := hC (.inr hz)
          clear hC hi
          go_quiet (fail)
          go_wp2_with fail
          go_roundw
          case rel => exact ⟨k + 1, by omega, by go_num, bdrew hB8 nq⟩
          case measure => simp [intOf]; omega
        · have hzb : (o.k == 0) = false := by simpa using hz
          have hzd : decide (o.k = 0) = false := by simpa using hz
          clear hC hi hz
          go_quiet (fail)
          go_wp2_with fail
          go_roundw
          case rel => exact ⟨k + 1, by omega, by go_num, bdrew hB8 nq⟩
          case measure => simp [intOf]; omega
      · have hib : ((k : Int) != o.i) = true := by rw [bne_iff_ne]; exact fun e => hi e.symm
        obtain rfl := hC (.inl hi)
        clear hC hi
        by_cases hz : o.k = 0
        · skip
          go_quiet (fail)
          go_wp2_with fail
          go_roundw
          case rel => exact ⟨k + 1, by omega, by go_num, bdrew hB8 nq⟩
          case measure => simp [intOf]; omega
        · have hzb : (o.k == 0) = false := by simpa using hz
          have hzd : decide (o.k = 0) = false := by simpa using hz
          clear hz
          go_quiet (fail)
          go_wp2_with fail
          go_roundw
          case rel => exact ⟨k + 1, by omega, by go_num, bdrew hB8 nq⟩
          case measure => simp [intOf]; omega
    · obtain rfl : k = s.ws.length := by omega
      go_wp2_with fail
      go_ret
      exact ⟨rfl, hB6'.trans (hB8.mono hB6'.size)⟩
theorem alone_any (m : Int) (A : Option Addr) (n c : Nat) (l : List OpT) (o : OpT) (w : World) (hn : l.length = n) (_hc : n ≤ c) (hO : OS w w.heap.size A l) (h1 : 0 ≤ m ∧ m ≤ 255) :
    Calls Try.prog 5 #[.int .u8 m, .slice A n c, o.val] w (fun e w' => e = .returned (.bool true) ∧ Below w.heap.size w w') := by
  subst hn
  by_cases hl : 60 < l.length
  · exact alone_long m A _ c o w hl
  · obtain ⟨m, rfl⟩ := Int.eq_ofNat_of_zero_le h1.1
    exact alone_go m A c l o w (by omega) (by omega) hO
end Go.Proofs.Ythjhjjpgchmmfaa
