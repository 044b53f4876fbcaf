/- The law CellsCopies, walked. -/
import Derived.Test.YthjhjjpgchmmfaaTouch
namespace Go.Proofs.Ythjhjjpgchmmfaa
open Go.RowKit
attribute [local go_sem ↓] Go.wp_at_zero Go.wp_at_succ

/-- a memory, two copies of it, and a list of words: all in blocks of their own -/
structure Dis (B g gw gx gwx gy gwy bw : Nat) : Prop where
  m1 : B ≤ g
  m2 : B ≤ gw
  x1 : B ≤ gx
  x2 : B ≤ gwx
  y1 : B ≤ gy
  y2 : B ≤ gwy
  ax : gy ≠ gx
  bx : gy ≠ gwx
  cx : gwy ≠ gx
  dx : gwy ≠ gwx
  ay : gx ≠ gy
  bby : gx ≠ gwy
  cy : gwx ≠ gy
  dy : gwx ≠ gwy
  ex : g ≠ gx
  fx : g ≠ gwx
  gx_ : gw ≠ gx
  hx : gw ≠ gwx
  ey : g ≠ gy
  fy : g ≠ gwy
  gy_ : gw ≠ gy
  hy : gw ≠ gwy
  ix : bw ≠ gx
  jx : bw ≠ gwx
  iy : bw ≠ gy
  jy : bw ≠ gwy
theorem Nums.drew {w : World} {b : Nat} {xs : List Int} (h : Nums w b xs) : Nums w.drew b xs := ⟨h.lt, h.ic, h.free⟩
theorem Nums.set {w : World} {b : Nat} {xs : List Int} (h : Nums w b xs) (k : Nat) (v : Int) : Nums (w.setCell ⟨b, k, none⟩ (.int .i64 v)) b (xs.set k v) := by
  refine ⟨by simpa [World.setCell] using h.lt, fun j x hj => ?_, fun j => by simpa using h.free j⟩
  have hl : j < xs.length := by have := (List.getElem?_eq_some_iff.1 hj).1; simpa using this
  by_cases e : k = j
  · subst e
    rw [List.getElem?_set_self hl] at hj
    injection hj with hj
    subst hj
    rw [World.cell?_setCell_same' _ _ _ (by rw [h.ic k _ (List.getElem?_eq_getElem hl)]; rfl)]
  · rw [List.getElem?_set_ne e] at hj
    rw [World.cell?_setCell_other _ _ _ _ (by intro h'; injection h' with _ h'; exact e h')]
    exact h.ic j x hj

set_option maxRecDepth 100000 in
set_option maxHeartbeats 1000000 in
theorem copies_long (m : Int) (A : Option Addr) (n c : Nat) (A2 : Option Addr) (n2 c2 : Nat) (w : World) (hl : 60 < n ∨ (n ≤ 60 ∧ 60 < n2)) :
    Calls Try.prog 6 #[.int .u8 m, .slice A n c, .slice A2 n2 c2] w (fun e w' => e = .returned (.bool true) ∧ Below w.heap.size w w') := by
  rcases hl with hl | ⟨hl, hl2⟩
  · go_enter Try.func6, Try.ntmps6
    go_wp2_with fail
    refine (awake_any _).mono ?_
    rintro e w1 ⟨rfl, hB1⟩
    go_wp2_with fail
    go_ret
    exact ⟨rfl, hB1⟩
  · go_enter Try.func6, Try.ntmps6
    go_wp2_with fail
    refine (awake_any _).mono ?_
    rintro e w1 ⟨rfl, hB1⟩
    go_wp2_with fail
    go_ret
    exact ⟨rfl, hB1⟩
set_option maxRecDepth 100000 in
set_option maxHeartbeats 4000000 in
theorem copies_go (m : Nat) (A : Option Addr) (c0 : Nat) (l : List OpT) (A2 : Option Addr) (c2 : Nat) (l2 : List OpT) (w : World) (hm : m < 256) (hl : l.length ≤ 60) (hO : OS w w.heap.size A l) (hl2 : l2.length ≤ 60) (hO2 : OS w w.heap.size A2 l2) :
    Calls Try.prog 6 #[.int .u8 m, .slice A l.length c0, .slice A2 l2.length c2] w (fun e w' => e = .returned (.bool true) ∧ Below w.heap.size w w') := by
  go_enter Try.func6, Try.ntmps6
  go_wp2_with fail
  refine (awake_any _).mono ?_
  rintro e w1 ⟨rfl, hB1⟩
  go_wp2_with fail
  refine (some_any m A _ c0 l _ hm rfl (by omega) (hO.on hB1)).mono ?_
  rintro e w2 ⟨g, gw, c, rfl, hg1, hgw1, hM, hB2⟩
  have hg : w.heap.size ≤ g := Nat.le_trans hB1.size hg1
  have hgw : w.heap.size ≤ gw := Nat.le_trans hB1.size hgw1
  have hB := hB1.trans (hB2.mono hB1.size)
  clear hg1 hgw1 hB1 hB2 hO
  obtain ⟨s, es⟩ : ∃ s, s = (St.new (manyN m)).run l := ⟨_, rfl⟩
  have hlen : s.ws.length = manyN m := by rw [es]; exact newRun_len _ _
  have hst : s.t ≤ 60 := by rw [es]; exact newRun_t _ _ hl
  have hN1 : 0 < s.ws.length := by rw [hlen]; unfold manyN; omega
  have hN2 : s.ws.length ≤ 100 := by rw [hlen]; unfold manyN; omega
  rw [← es] at hM
  clear es hlen hm
  go_wp2_with fail
  refine (copy_any g gw c s _ hM hN1 (by omega)).mono ?_
  rintro e w3 ⟨gx, gwx, cx, rfl, hx1, hx2, hX, hB3⟩
  go_wp2_with fail
  refine (copy_any g gw c s _ (hM.on hB3) hN1 (by omega)).mono ?_
  rintro e w4 ⟨gy, gwy, cy, rfl, hy1, hy2, hY, hB4⟩
  go_wp2_with fail
  refine (words_any g gw c s _ ((hM.on hB3).on hB4) hN1 (by omega)).mono ?_
  rintro e w5 ⟨bw, cw, rfl, hbw, hn, hB5⟩
  have hm5 := ((hM.on hB3).on hB4).on hB5
  go_wp2_with fail
  refine (touched_any g gw c s _ hm5).mono ?_
  rintro e w6 ⟨rfl, rfl⟩
  have hx5 := (hX.on hB4).on hB5
  have hy5 := hY.on hB5
  have hBa := hB.trans (hB3.mono hB.size)
  have hBb := hBa.trans (hB4.mono hBa.size)
  have hBc := hBb.trans (hB5.mono hBb.size)
  have hD : Dis w.heap.size g gw gx gwx gy gwy bw := by
    have i1 := hM.lg
    have i2 := hM.lw
    have i3 := hX.lg
    have i4 := hX.lw
    have i5 := hY.lg
    have i6 := hY.lw
    have i7 := hB.size
    have i8 := hB3.size
    have i9 := hB4.size
    constructor <;> omega
  clear hM hX hY hB hBa hBb hB3 hB4 hB5 hx1 hx2 hy1 hy2 hbw hg hgw
  go_wp2_with fail
  go_loopw [13] (fun j wr => ∃ (k : Nat), k ≤ l2.length ∧ j = .int .i64 k ∧ MemAt wr gx gwx cx (s.run (l2.take k)) ∧ MemAt wr gy gwy cy (s.run (l2.take k)) ∧ MemAt wr g gw c s ∧ Nums wr bw s.ws ∧ Below w.heap.size w wr) (fun j _ => l2.length - (intOf j).toNat)
  case atStart => exact ⟨0, Nat.zero_le _, rfl, hx5, hy5, hm5, hn, hBc⟩
  case round =>
    clear hx5 hy5 hm5 hn hBc
    obtain ⟨k, hk, rfl, hx5, hy5, hm5, hn5, hB5⟩ := hrel
    by_cases hlt : k < l2.length
    · have ht5 := St.run_t (s := s) (l := l2) (k := k) (by omega) (by omega)
      obtain ⟨o, ho⟩ := op_some hlt
      have HT := Lib.hid (St.run_take (s := s) ho)
      obtain ⟨s5, es5⟩ : ∃ s5, s5 = s.run (l2.take k) := ⟨_, rfl⟩
      rw [← es5] at hx5 hy5 HT ht5
      clear es5
      obtain ⟨b, off, rfl, hbl, d1, d2, d3, d4⟩ := hO2 k o ho
      clear ho
      have e1 := (hB5.cell (p := ⟨b, off + k * 4, none⟩) hbl).trans d1
      have e2 := (hB5.cell (p := ⟨b, off + k * 4 + 1, none⟩) hbl).trans d2
      have e3 := (hB5.cell (p := ⟨b, off + k * 4 + 2, none⟩) hbl).trans d3
      have e4 := (hB5.cell (p := ⟨b, off + k * 4 + 3, none⟩) hbl).trans d4
      have hk1 : (k : Int) < (l2.length : Int) := by omega
      have hk0 : (0 : Int) ≤ (k : Int) := Int.natCast_nonneg _
      go_wp2_with fail
      go_region_held3 (fun w' => w'.cell? ⟨b, off + k * 4, none⟩ = some (.int .u8 o.k) ∧ w'.cell? ⟨b, off + k * 4 + 1, none⟩ = some (.int .i64 o.i) ∧ w'.cell? ⟨b, off + k * 4 + 2, none⟩ = some (.int .i64 o.v) ∧ w'.cell? ⟨b, off + k * 4 + 3, none⟩ = some (.int .i64 o.u)) (go_keep)
        (first
          | (go_at_call_of 12 (Value.pointer (some ⟨gx, 0, none⟩)); (first | refine (do_any gx gwx cx s5 o _ hx5.drew ht5).mono ?_ | refine (do_any gx gwx cx s5 o _ hx6 ht5).mono ?_); rintro e wx ⟨rfl, hx7, hsx⟩; have hBx : Below w.heap.size w wx := (by first | exact Sp.below hB5.drew hsx hB5.size hD.x1 hD.x2 | exact Sp.below hBy hsx hBy.size hD.x1 hD.x2); have hy6 : MemAt wx gy gwy cy _ := (by first | exact (hy5.drew.sp hsx hD.ax hD.bx hD.cx hD.dx) | exact (hy7.sp hsx hD.ax hD.bx hD.cx hD.dx)); have hmx : MemAt wx g gw c s := (by first | exact (hm5.drew.sp hsx hD.ex hD.fx hD.gx_ hD.hx) | exact (hmy.sp hsx hD.ex hD.fx hD.gx_ hD.hx)); have hnx : Nums wx bw s.ws := (by first | exact (hn5.drew.sp hsx hD.ix hD.jx) | exact (hny.sp hsx hD.ix hD.jx)); have fx0 := (hBx.cell (p := ⟨b, off + k * 4, none⟩) hbl).trans d1; have fx1 := (hBx.cell (p := ⟨b, off + k * 4 + 1, none⟩) hbl).trans d2; have fx2 := (hBx.cell (p := ⟨b, off + k * 4 + 2, none⟩) hbl).trans d3; have fx3 := (hBx.cell (p := ⟨b, off + k * 4 + 3, none⟩) hbl).trans d4)
          | (go_at_call_of 12 (Value.pointer (some ⟨gy, 0, none⟩)); (first | refine (do_any gy gwy cy s5 o _ hy5.drew ht5).mono ?_ | refine (do_any gy gwy cy s5 o _ hy6 ht5).mono ?_); rintro e wy ⟨rfl, hy7, hsy⟩; have hBy : Below w.heap.size w wy := (by first | exact Sp.below hB5.drew hsy hB5.size hD.y1 hD.y2 | exact Sp.below hBx hsy hBx.size hD.y1 hD.y2); have hx6 : MemAt wy gx gwx cx _ := (by first | exact (hx5.drew.sp hsy hD.ay hD.bby hD.cy hD.dy) | exact (hx7.sp hsy hD.ay hD.bby hD.cy hD.dy)); have hmy : MemAt wy g gw c s := (by first | exact (hm5.drew.sp hsy hD.ey hD.fy hD.gy_ hD.hy) | exact (hmx.sp hsy hD.ey hD.fy hD.gy_ hD.hy)); have hny : Nums wy bw s.ws := (by first | exact (hn5.drew.sp hsy hD.iy hD.jy) | exact (hnx.sp hsy hD.iy hD.jy)); have fy0 := (hBy.cell (p := ⟨b, off + k * 4, none⟩) hbl).trans d1; have fy1 := (hBy.cell (p := ⟨b, off + k * 4 + 1, none⟩) hbl).trans d2; have fy2 := (hBy.cell (p := ⟨b, off + k * 4 + 2, none⟩) hbl).trans d3; have fy3 := (hBy.cell (p := ⟨b, off + k * 4 + 3, none⟩) hbl).trans d4))
      go_wp2_with fail
      go_roundw
      case rel => exact ⟨k + 1, by omega, by go_num, by rw [HT.out]; exact hx6, by rw [HT.out]; exact hy7, hmy, hny, hBy⟩
      case measure => simp [intOf]; omega
    · obtain rfl : k = l2.length := by omega
      have hlx : (s.run (l2.take l2.length)).ws.length = s.ws.length := (St.run_len _ _).1
      obtain ⟨s5, es5⟩ : ∃ s5, s5 = s.run (l2.take l2.length) := ⟨_, rfl⟩
      rw [← es5] at hx5 hy5 hlx
      have HLX := Lib.hid hlx
      clear es5 hlx
      go_wp2_with fail
      refine (words_any g gw c s _ hm5 hN1 (by omega)).mono ?_
      rintro e w7 ⟨b2, c7, rfl, hb2, hn7, hB7⟩
      have hx7 := hx5.on hB7
      have hy7 := hy5.on hB7
      have hm7 := hm5.on hB7
      have hv7 := hn5.on hB7
      have hB7' := hB5.trans (hB7.mono hB5.size)
      have HN : RowKit.Hid ((g ≠ b2 ∧ gw ≠ b2) ∧ (gx ≠ b2 ∧ gwx ≠ b2) ∧ (gy ≠ b2 ∧ gwy ≠ b2) ∧ bw ≠ b2 ∧ w.heap.size ≤ b2) := by
        have i1 := hm5.lg
        have i2 := hm5.lw
        have i3 := hx5.lg
        have i4 := hx5.lw
        have i5 := hy5.lg
        have i6 := hy5.lw
        have i7 := hn5.lt
        have i8 := hB5.size
        exact Lib.hid ⟨⟨by omega, by omega⟩, ⟨by omega, by omega⟩, ⟨by omega, by omega⟩, by omega, by omega⟩
      clear hx5 hy5 hm5 hn5 hB5 hB7 hb2 hO2
      go_wp2_with fail
      go_loopw [15] (fun j wr => ∃ (k : Nat) (ys : List Int), k ≤ s.ws.length ∧ j = .int .i64 k ∧ ys.length = s.ws.length ∧ Nums wr b2 ys ∧ MemAt wr gx gwx cx s5 ∧ MemAt wr gy gwy cy s5 ∧ MemAt wr g gw c s ∧ Nums wr bw s.ws ∧ Below w.heap.size w wr) (fun j _ => s.ws.length - (intOf j).toNat)
      case atStart => exact ⟨0, s.ws, Nat.zero_le _, rfl, rfl, hn7, hx7, hy7, hm7, hv7, hB7'⟩
      case round =>
        clear hn7 hx7 hy7 hm7 hv7 hB7'
        obtain ⟨k, ys, hk, rfl, hys, hn8, hx8, hy8, hm8, hv8, hB8⟩ := hrel
        by_cases hlt : k < s.ws.length
        · have d1 := hn8.ic k _ (num_some (by omega))
          have d2 := hn8.free k
          have hk1 : (k : Int) < (s.ws.length : Int) := by omega
          have hys' := Lib.hid hys
          clear hys
          go_wp2_with fail
          go_roundw
          case rel =>
            have hs := (Sp.refl b2 b2 wr).set1 k (.int .i64 (wrap64 (ys.getD k 0 + 1)))
            obtain ⟨⟨n1, n2⟩, ⟨n3, n4⟩, ⟨n5, n6⟩, n7, n8⟩ := HN.out
            exact ⟨k + 1, _, by omega, by go_num, by rw [List.length_set]; exact hys'.out, hn8.set k _, hx8.sp hs n3 n3 n4 n4, hy8.sp hs n5 n5 n6 n6, hm8.sp hs n1 n1 n2 n2, hv8.sp hs n7 n7, Sp.below hB8 hs hB8.size n8 n8⟩
          case measure => simp [intOf]; omega
        · obtain rfl : k = s.ws.length := by omega
          clear hn8 hys HN
          have hlx1 : 0 < s5.ws.length := by have := HLX.out; omega
          have hlx2 : s5.ws.length ≤ 1000000 := by have := HLX.out; omega
          go_wp2_with fail
          refine (words_any g gw c s _ hm8 hN1 (by omega)).mono ?_
          rintro e w9 ⟨b9, c9, rfl, hb9, hn9, hB9⟩
          go_wp2_with fail
          refine (ints_any b9 _ bw _ s.ws s.ws _ hn9 (hv8.on hB9) (by omega)).mono ?_
          rw [decide_eq_true (show s.ws = s.ws from rfl)]
          rintro e w10 ⟨rfl, hB10⟩
          have hB9' := hB8.trans (hB9.mono hB8.size)
          have hB10' := hB9'.trans (hB10.mono hB9'.size)
          go_wp2_with fail
          refine (touched_any g gw c s _ ((hm8.on hB9).on hB10)).mono ?_
          rintro e w11 ⟨rfl, rfl⟩
          go_wp2_with fail
          refine (words_any gx gwx cx s5 _ ((hx8.on hB9).on hB10) hlx1 hlx2).mono ?_
          rintro e w12 ⟨b12, c12, rfl, hb12, hn12, hB12⟩
          go_wp2_with fail
          refine (words_any gy gwy cy s5 _ (((hy8.on hB9).on hB10).on hB12) hlx1 hlx2).mono ?_
          rintro e w13 ⟨b13, c13, rfl, hb13, hn13, hB13⟩
          go_wp2_with fail
          refine (ints_any b12 _ b13 _ s5.ws s5.ws _ (hn12.on hB13) hn13 hlx2).mono ?_
          rw [decide_eq_true (show s5.ws = s5.ws from rfl)]
          rintro e w14 ⟨rfl, hB14⟩
          have hx14 := ((((hx8.on hB9).on hB10).on hB12).on hB13).on hB14
          have hy14 := ((((hy8.on hB9).on hB10).on hB12).on hB13).on hB14
          have hB12' := hB10'.trans (hB12.mono hB10'.size)
          have hB13' := hB12'.trans (hB13.mono hB12'.size)
          have hB14' := hB13'.trans (hB14.mono hB13'.size)
          go_wp2_with fail
          refine (touched_any gx gwx cx s5 _ hx14).mono ?_
          rintro e w15 ⟨rfl, rfl⟩
          go_wp2_with fail
          refine (touched_any gy gwy cy s5 _ hy14).mono ?_
          rintro e w16 ⟨rfl, rfl⟩
          go_wp2_with fail
          go_ret
          exact ⟨ret_bool (by simp), hB14'⟩
theorem copies_any (m : Int) (A : Option Addr) (n c : Nat) (l : List OpT) (A2 : Option Addr) (n2 c2 : Nat) (l2 : List OpT) (w : World) (hn : l.length = n) (_hc : n ≤ c) (hO : OS w w.heap.size A l) (hn2 : l2.length = n2) (_hc2 : n2 ≤ c2) (hO2 : OS w w.heap.size A2 l2) (h1 : 0 ≤ m ∧ m ≤ 255) :
    Calls Try.prog 6 #[.int .u8 m, .slice A n c, .slice A2 n2 c2] w (fun e w' => e = .returned (.bool true) ∧ Below w.heap.size w w') := by
  subst hn hn2
  by_cases hl : 60 < l.length ∨ (l.length ≤ 60 ∧ 60 < l2.length)
  · exact copies_long m A _ c A2 _ c2 w hl
  · obtain ⟨m, rfl⟩ := Int.eq_ofNat_of_zero_le h1.1
    exact copies_go m A c l A2 c2 l2 w (by omega) (by omega) hO (by omega) hO2
end Go.Proofs.Ythjhjjpgchmmfaa
