/- The law EntryMany, walked. -/
import Derived.Test.YtbkaiffecnomjaaAwake
namespace Go.Proofs.Ytbkaiffecnomjaa
open Go.RowKit
attribute [local go_sem ↓] Go.wp_at_zero Go.wp_at_succ

theorem made_at {z : Array Value} {m j : Nat} (h : j < m) : (madeCells z m)[j]? = some (z[j % z.size]!) := by
  unfold madeCells
  rw [Array.getElem?_map, Array.getElem?_range]
  simp [h]
theorem zero_entries (m : Nat) (hm : m ≤ 1000000) : ∃ Z : Array Value, (∀ W : World, (Instr.makeSlice 22 (.int .i64 (m : Int)) (.int .i64 (m : Int))).run Try.prog W = .ok (.slice (some ⟨W.heap.size, 0, none⟩) m m) (W.alloc (.cells Z 32))) ∧ ∀ W : World, LS (W.alloc (.cells Z 32)) (W.alloc (.cells Z 32)).heap.size (some ⟨W.heap.size, 0, none⟩) (List.replicate m en0) := by
  obtain ⟨i0, hi, hz0, hz1, hz2⟩ := info_parts infoE
  refine ⟨madeCells (eL en0).toArray (m * i0.size), fun W => ?_, fun W k x hk => ?_⟩
  · have h := run_make (P := Try.prog) W 22 32 i0 _ Try.underlying22 hi hz0 .i64 .i64 m m (by omega) (by omega) (by rw [hz2]; omega) (by omega)
    simpa [Value.cells] using h
  · have hkm : k < m := by have := (List.getElem?_eq_some_iff.1 hk).1; simpa using this
    have hx : x = en0 := by rw [List.getElem?_replicate, if_pos hkm] at hk; injection hk with hk; exact hk.symm
    subst hx
    refine ⟨W.heap.size, 0, rfl, by simp, fun j v hj => ?_⟩
    have hj11 : j < 11 := (List.getElem?_eq_some_iff.1 hj).1
    have r := RowAt.new W 32 (madeCells (eL en0).toArray (m * i0.size))
    refine r.cell (0 + k * 11 + j) ?_
    rw [made_at (by rw [hz1]; omega)]
    have hs : (eL en0).toArray.size = 11 := rfl
    rw [hs, show (0 + k * 11 + j) % 11 = j by omega]
    simp [hj]
theorem zero_bytes (m : Nat) (hm : m ≤ 1000000) : ∃ Z : Array Value, (∀ W : World, (Instr.makeSlice 24 (.int .i64 (m : Int)) (.int .i64 (m : Int))).run Try.prog W = .ok (.slice (some ⟨W.heap.size, 0, none⟩) m m) (W.alloc (.cells Z 5))) ∧ ∀ W : World, BS (W.alloc (.cells Z 5)) (W.alloc (.cells Z 5)).heap.size (some ⟨W.heap.size, 0, none⟩) (List.replicate m 0) := by
  obtain ⟨i0, hi, hz0, hz1, hz2⟩ := info_parts infoB
  refine ⟨madeCells #[vB 0] (m * i0.size), fun W => ?_, fun W k x hk => ?_⟩
  · have h := run_make (P := Try.prog) W 24 5 i0 _ Try.underlying24 hi hz0 .i64 .i64 m m (by omega) (by omega) (by rw [hz2]; omega) (by omega)
    simpa [Value.cells] using h
  · have hkm : k < m := by have := (List.getElem?_eq_some_iff.1 hk).1; simpa using this
    have hx : x = 0 := by rw [List.getElem?_replicate, if_pos hkm] at hk; injection hk with hk; exact hk.symm
    subst hx
    refine ⟨W.heap.size, 0, rfl, by simp, ?_⟩
    have r := RowAt.new W 5 (madeCells #[vB 0] (m * i0.size))
    refine r.cell (0 + k) ?_
    rw [made_at (by rw [hz1]; omega)]
    have hs : (#[vB 0] : Array Value).size = 1 := rfl
    rw [hs, show (0 + k) % 1 = 0 by omega]
    rfl
theorem bys_zero {m : Nat} : Bys (List.replicate m 0) := by
  intro k x hk
  have hx := List.eq_of_mem_replicate (List.mem_of_getElem? hk)
  omega
set_option maxRecDepth 100000 in
set_option maxHeartbeats 2000000 in
theorem lmany_any (y : Int) (w : World) (hy0 : 0 ≤ y) (hy1 : y ≤ 255) :
    Calls Try.prog 6 #[.int .u8 y] w fun e w' => e = .returned (.bool true) ∧ Below w.heap.size w w' := by
  obtain ⟨r, hr⟩ : ∃ r : Nat, y % 21 = (r : Int) := ⟨(y % 21).toNat, by omega⟩
  have hr2 : r < 21 := by omega
  obtain ⟨n, hn⟩ : ∃ n, n = 990 + r := ⟨_, rfl⟩
  have hn1 : 990 + (r : Int) = (n : Int) := by omega
  have hn9 : n ≤ 1010 := by omega
  obtain ⟨m, hm⟩ : ∃ m, m = 12 * n := ⟨_, rfl⟩
  have hm1 : 12 * (n : Int) = (m : Int) := by omega
  have hm9 : m ≤ 12120 := by omega
  have Hm := Lib.hid hm
  clear hn hm
  obtain ⟨Z, hZ, hLS⟩ := zero_entries n (by omega)
  obtain ⟨Z2, hZ2, hBS⟩ := zero_bytes m (by omega)
  have HLS := Lib.hid hLS
  have HBS := Lib.hid hBS
  clear hLS hBS
  have HN := Lib.hid (List.length_replicate (n := n) (a := en0))
  have HM := Lib.hid (List.length_replicate (n := m) (a := (0 : Int)))
  go_enter Try.func6, Try.ntmps6
  go_wp2_with fail
  refine (awake_any _).mono ?_
  rintro e w1 ⟨rfl, hB⟩
  go_wp2_with fail
  have hL := HLS.out w1
  have hb := bnew w1 (.cells Z 32)
  obtain ⟨W, hW⟩ : ∃ W, W = w1.alloc (.cells Z 32) := ⟨_, rfl⟩
  obtain ⟨B1, e1⟩ : ∃ B1, B1 = w1.heap.size := ⟨_, rfl⟩
  rw [← hW] at hL hb ⊢
  rw [← e1] at hL ⊢
  replace hB := bstep hB hb
  have HL := Lib.hid hL
  clear hW e1 hb hL HLS
  by_cases hbig : 1000 < n
  · have hbig2 : (1000 : Int) < (n : Int) := by omega
    have HA := Lib.hid (enc_long (l := List.replicate n en0) (by rw [HN.out]; exact hbig))
    have HD := Lib.hid (dec_long (b := List.replicate m 0) (by rw [HM.out]; have := Hm.out; omega) (by rw [HM.out]; have := Hm.out; omega))
    refine (enc_is _ n n _ _ HN.out HL.out (by omega) 13 [] 0 HA.out.1 HA.out.2 rfl).mono ?_
    rintro e w2 ⟨A1, c1, rfl, hc1, hS1, hb⟩
    replace hB := bstep hB hb
    clear hb hS1
    go_wp2_with fail
    refine (dec_is _ m m (List.replicate m 0) _ HM.out (Nat.le_refl _) (HBS.out w2) bys_zero (by omega) 13 [] 0 HD.out.1 HD.out.2 rfl).mono ?_
    rintro e w3 ⟨A2, c2, rfl, hc2, hS2, hb⟩
    replace hB := bstep hB (bstep (bnew w2 _) hb)
    clear hb hS2
    go_wp2_with fail
    go_ret
    exact ⟨rfl, hB⟩
  · have hbig2 : ¬ (1000 : Int) < (n : Int) := by omega
    have HA := Lib.hid (enc_yes (l := List.replicate n en0) (by rw [HN.out]; exact hbig) (all_zero n))
    have HD := Lib.hid (dec_enc (l := List.replicate n en0) (by rw [HN.out]; exact hbig) (all_zero n))
    rw [enc_zero, ← Hm.out] at HA HD
    refine (enc_is _ n n _ _ HN.out HL.out (by omega) 0 _ m HA.out.1 HA.out.2 HM.out).mono ?_
    rintro e w2 ⟨A1, c1, rfl, hc1, hS1, hb⟩
    replace hB := bstep hB hb
    replace HL := Lib.hid (HL.out.on hb)
    clear hb hS1
    go_wp2_with fail
    refine (dec_is _ m m (List.replicate m 0) _ HM.out (Nat.le_refl _) (HBS.out w2) bys_zero (by omega) 0 _ n HD.out.1 HD.out.2 HN.out).mono ?_
    rintro e w3 ⟨A2, c2, rfl, hc2, hS2, hb⟩
    have hb2 := bstep (bnew w2 _) hb
    replace hB := bstep hB hb2
    replace HL := Lib.hid (HL.out.on hb2)
    have HS2 := Lib.hid hS2
    clear hb hb2 hS2
    go_wp2_with fail
    refine (same_is _ A2 n n n c2 _ _ _ HL.out HS2.out (by omega) HN.out HN.out true (decide_eq_true rfl)).mono ?_
    rintro e w4 ⟨rfl, hb⟩
    replace hB := bstep hB hb
    go_wp2_with fail
    go_ret
    exact ⟨rfl, hB⟩
end Go.Proofs.Ytbkaiffecnomjaa
