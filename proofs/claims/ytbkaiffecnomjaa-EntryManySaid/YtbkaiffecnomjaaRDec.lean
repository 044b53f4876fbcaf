/- The entries of bytes, or why there are none, as the document's own function tells; nothing that was there changes. -/
import Derived.Test.YtbkaiffecnomjaaDec
import Derived.Test.YtbkaiffecnomjaaRRight
namespace Go.Proofs.Ytbkaiffecnomjaa
open Go.RowKit
attribute [local go_sem ↓] Go.wp_at_zero Go.wp_at_succ

theorem run_at {b off n c j : Nat} (t : Nat) (z : Int) (hz : z = (t : Int)) (h : j + t < n) (W : World) : (Instr.indexAt 24 (.slice (some ⟨b, off, none⟩) n c) (.int .i64 ((j : Int) + z))).run Try.prog W = .ok (.pointer (some ⟨b, off + (j + t), none⟩)) W := by
  subst hz
  obtain ⟨i0, hi, hz0, hz1, hz2⟩ := info_parts infoB
  have h1 : (0 : Int) ≤ (j : Int) + (t : Int) := by omega
  have h2 : (j : Int) + (t : Int) < (n : Int) := by omega
  have h3 : ((j : Int) + (t : Int)).toNat = j + t := by omega
  simp [Instr.indexAt, asIntOf, run_underlying Try.underlying24, sizeOf, typeInfo, hi, hz1, Result.andThen, h1, h2, h3, go_sem, Addr.add]
theorem cell_other {W : World} {b c : Nat} (hne : b ≠ c) (i o : Nat) (v : Value) : (W.setCell ⟨c, i, none⟩ v).cell? ⟨b, o, none⟩ = W.cell? ⟨b, o, none⟩ := World.cell?_setCell_other _ _ _ _ (fun e => hne (by injection e with e; exact e.symm))
theorem there7 {W : World} {b : Nat} {t : TypeId} {vs : Array Value} (h : RowAt W b t vs) (hs : vs.size = 11 := by rfl) : W.there b 2 7 := fun j hj => by
  have := h.there (2 + j) (by omega)
  rwa [Nat.zero_add] at this
theorem RetDec.yes {w w' : World} {b : List Int} {l : List En} {A : Option Addr} {n c : Nat} (h : decE b = 0 ∧ decL b = l) (hm : LMine w w' (.slice A n c) l) : RetDec w b (.returned (.tuple #[.slice A n c, .int .i64 0])) w' := by
  obtain ⟨h1, h2, h3⟩ := hm.inv
  refine ⟨A, c, ?_, ?_, ?_, hm.below⟩
  · rw [h.1, h.2, h2]
  · rw [h.2, h2]; exact h3
  · rw [h.2]; exact h1
theorem one_at {W : World} {b : Nat} {x : En} (h : W.rangeAt b 0 (eL x)) : ∀ (k : Nat) y, [x][k]? = some y → W.rangeAt b (0 + k * 11) (eL y) := by
  intro k y hk
  cases k with
  | zero =>
    simp at hk
    subst hk
    exact h
  | succ k => simp at hk
theorem take_map {l : List Pc} {k : Nat} {p : Pc} (h : l[k]? = some p) : (l.take (k + 1)).map rdE = (l.take k).map rdE ++ [rdE p] := by
  rw [List.take_add_one, h]
  simp
set_option maxRecDepth 100000 in
set_option maxHeartbeats 2000000 in
theorem refDec_any (A : Option Addr) (n c : Nat) (l : List Int) (w : World) (hn : l.length = n) (hI : BS w w.heap.size A l) (hR : Bys l) (hlen : n ≤ 100000) :
    Calls Try.prog 15 #[.slice A n c] w (RetDec w l) := by
  have Hn := Lib.hid hn
  have HI := Lib.hid hI
  have HR := Lib.hid hR
  clear hn hI hR
  obtain ⟨m, hm⟩ : ∃ m, m = n / 12 := ⟨_, rfl⟩
  have hm1 : (n : Int) / 12 = (m : Int) := by omega
  have Hm := Lib.hid hm
  have Hm2 := Lib.hid (show 12 * m ≤ n ∧ n < 12 * m + 12 by omega)
  clear hm
  by_cases h12 : n % 12 = 0
  · have h12b : ((n : Int) % 12 != 0) = false := by simp; omega
    have H12 := Lib.hid h12
    clear h12
    by_cases hbig : 1000 < m
    · have hb2 : (1000 : Int) < (m : Int) := by omega
      have Hy := Lib.hid (dec_long (b := l) (by rw [Hn.out]; exact H12.out) (by rw [Hn.out, ← Hm.out]; exact hbig))
      go_enter Try.func15, Try.ntmps15
      go_wp2_with fail
      go_ret2
      exact RetDec.no Hy.out (Below.refl _ _)
    · have hb2 : ¬ (1000 : Int) < (m : Int) := by omega
      have Hbig := Lib.hid hbig
      have hm9 : m ≤ 1000 := by omega
      clear hbig
      have hpl := pcs_len l
      rw [Hn.out, ← Hm.out] at hpl
      have HP := Lib.hid hpl
      clear hpl
      go_enter Try.func15, Try.ntmps15
      go_wp2_with fail
      go_loopw [4, 5] (fun o i wr => ∃ (k j : Nat) (Av : Option Addr) (cv : Nat), k ≤ m ∧ i = .int .i64 j ∧ o = .slice Av k cv ∧ Hid (j = 12 * k) ∧ Hid (LMine w wr (.slice Av k cv) (((pcs l).take k).map rdE)) ∧ Hid (((pcs l).take k).all good = true)) (fun _ i _ => n - (intOf i).toNat)
      case atStart => exact ⟨0, 0, none, 0, Nat.zero_le _, rfl, rfl, Lib.hid rfl, Lib.hid (LMine.nil (Below.refl _ _)), Lib.hid rfl⟩
      case round =>
        obtain ⟨k, j, Av, cv, hk, rfl, rfl, Hj, HM, HG⟩ := hrel
        by_cases hlt : k < m
        · have hj12 : j + 12 ≤ n := by have := Hj.out; have := Hm2.out; omega
          have hc1 : (j : Int) < (n : Int) := by omega
          obtain ⟨p, hp⟩ := pcs_some (l := l) (k := k) (by rw [Hn.out, ← Hm.out]; exact hlt)
          have hbp := by_pcs HR.out hp
          have hne : l ≠ [] := fun e => by have h9 := Hn.out; rw [e] at h9; simp at h9; omega
          obtain ⟨b, off, rfl, hbb, _⟩ := (HI.out.below HM.out.below).addr hne
          have hpc := (HI.out.below HM.out.below).piece hp
          rw [show off + k * 12 = off + j by have := Hj.out; omega] at hpc
          obtain ⟨d0, d1, d2, d3, d4, d5, d6, d7, d8, d9, d10, d11⟩ := piece_cells hpc
          obtain ⟨g0, g1, g2, g3, g4, g5, g6, g7, g8, g9, g10, g11⟩ := hbp
          have HX := Lib.hid hp
          clear hp hne
          rw [Nat.add_assoc] at d1 d2 d3 d4 d5 d6 d7 d8 d9 d10 d11
          have hbl : b < wr.heap.size := World.block_lt_of_cell? wr _ d0
          have HD := Lib.hid (show ∀ W, Below wr.heap.size wr W → W.cell? ⟨b, off + (j + 2), none⟩ = some (vB p.b2) ∧ W.cell? ⟨b, off + (j + 4), none⟩ = some (vB p.b4) ∧ W.cell? ⟨b, off + (j + 5), none⟩ = some (vB p.b5) ∧ W.cell? ⟨b, off + (j + 6), none⟩ = some (vB p.b6) ∧ W.cell? ⟨b, off + (j + 7), none⟩ = some (vB p.b7) ∧ W.cell? ⟨b, off + (j + 8), none⟩ = some (vB p.b8) ∧ W.cell? ⟨b, off + (j + 9), none⟩ = some (vB p.b9) from fun W hb => ⟨(hb.cell (p := ⟨b, _, none⟩) hbl).trans d2, (hb.cell (p := ⟨b, _, none⟩) hbl).trans d4, (hb.cell (p := ⟨b, _, none⟩) hbl).trans d5, (hb.cell (p := ⟨b, _, none⟩) hbl).trans d6, (hb.cell (p := ⟨b, _, none⟩) hbl).trans d7, (hb.cell (p := ⟨b, _, none⟩) hbl).trans d8, (hb.cell (p := ⟨b, _, none⟩) hbl).trans d9⟩)
          have HG2 := Lib.hid (show ((0 ≤ p.b2 ∧ p.b2 ≤ 255) ∧ (0 ≤ p.b4 ∧ p.b4 ≤ 255) ∧ (0 ≤ p.b5 ∧ p.b5 ≤ 255) ∧ (0 ≤ p.b6 ∧ p.b6 ≤ 255) ∧ (0 ≤ p.b7 ∧ p.b7 ≤ 255) ∧ (0 ≤ p.b8 ∧ p.b8 ≤ 255) ∧ (0 ≤ p.b9 ∧ p.b9 ≤ 255)) from ⟨g2, g4, g5, g6, g7, g8, g9⟩)
          clear g2 g4 g5 g6 g7 g8 g9 hpc d2 d4 d5 d6 d7 d8 d9
          have t1 : (p.b3.tmod 2 == 1) = (rdE p).wa := by rw [Int.tmod_eq_emod_of_nonneg g3.1]; rfl
          have t2 : ((IntKind.i64.wrap (p.b3.tdiv 2)).tmod 2 == 1) = (rdE p).fo := by rw [Int.tdiv_eq_ediv_of_nonneg g3.1, IntWalk.i64_in _ (by omega), Int.tmod_eq_emod_of_nonneg (by omega)]; rfl
          have t4 : ((IntKind.i64.wrap (p.b3.tdiv 4)).tmod 2 == 1) = (rdE p).gd := by rw [Int.tdiv_eq_ediv_of_nonneg g3.1, IntWalk.i64_in _ (by omega), Int.tmod_eq_emod_of_nonneg (by omega)]; rfl
          have j3 : IntKind.i64.wrap ((j : Int) + 3) = (j : Int) + 3 := IntWalk.i64_in _ (by omega)
          have q3 := fun W => run_at (b := b) (off := off) (c := c) 3 3 rfl (show j + 3 < n by omega) W
          have j1 : IntKind.i64.wrap ((j : Int) + 1) = (j : Int) + 1 := IntWalk.i64_in _ (by omega)
          have q1 := fun W => run_at (b := b) (off := off) (c := c) 1 1 rfl (show j + 1 < n by omega) W
          have j10 : IntKind.i64.wrap ((j : Int) + 10) = (j : Int) + 10 := IntWalk.i64_in _ (by omega)
          have q10 := fun W => run_at (b := b) (off := off) (c := c) 10 10 rfl (show j + 10 < n by omega) W
          have j11 : IntKind.i64.wrap ((j : Int) + 11) = (j : Int) + 11 := IntWalk.i64_in _ (by omega)
          have q11 := fun W => run_at (b := b) (off := off) (c := c) 11 11 rfl (show j + 11 < n by omega) W
          have v3 : IntKind.i64.wrap p.b3 = p.b3 := IntWalk.i64_in _ (by omega)
          have v0 : IntKind.i64.wrap p.b0 = p.b0 := IntWalk.i64_in _ (by omega)
          have v1 : IntKind.i64.wrap p.b1 = p.b1 := IntWalk.i64_in _ (by omega)
          have v10 : IntKind.i64.wrap p.b10 = p.b10 := IntWalk.i64_in _ (by omega)
          have v11 : IntKind.i64.wrap p.b11 = p.b11 := IntWalk.i64_in _ (by omega)
          have u11 : IntKind.i64.wrap (256 * p.b11) = 256 * p.b11 := IntWalk.i64_in _ (by omega)
          have z11 : IntKind.i64.wrap (p.b10 + 256 * p.b11) = p.b10 + 256 * p.b11 := IntWalk.i64_in _ (by omega)
          go_wp2_with fail
          go_region_held3 (fun w' => w'.cell? ⟨b, off + j, none⟩ = some (vB p.b0) ∧ w'.cell? ⟨b, off + (j + 1), none⟩ = some (vB p.b1) ∧ w'.cell? ⟨b, off + (j + 10), none⟩ = some (vB p.b10) ∧ w'.cell? ⟨b, off + (j + 11), none⟩ = some (vB p.b11)) (go_keep) (fail)
          obtain ⟨x0, hx0⟩ : ∃ x0 : En, x0 = ⟨p.b0, p.b1, 0, 0, false, false, 0, 0, 0, p.b10 + 256 * p.b11, (rdE p).gd⟩ := ⟨_, rfl⟩
          have r7 : RowAt (wr.alloc (.cells #[vI p.b0, vI p.b1, vI 0, vI 0, .bool false, .bool false, vI 0, vI 0, vI 0, vI (p.b10 + 256 * p.b11), .bool (rdE p).gd] 32)).drew wr.heap.size 32 #[vI p.b0, vI p.b1, vI 0, vI 0, .bool false, .bool false, vI 0, vI 0, vI 0, vI (p.b10 + 256 * p.b11), .bool (rdE p).gd] := (RowAt.new wr 32 _).drew
          have hb7 := bdrew1 (bnew wr (.cells #[vI p.b0, vI p.b1, vI 0, vI 0, .bool false, .bool false, vI 0, vI 0, vI 0, vI (p.b10 + 256 * p.b11), .bool (rdE p).gd] 32))
          obtain ⟨W2, hW2⟩ : ∃ W2, W2 = (wr.alloc (.cells #[vI p.b0, vI p.b1, vI 0, vI 0, .bool false, .bool false, vI 0, vI 0, vI 0, vI (p.b10 + 256 * p.b11), .bool (rdE p).gd] 32)).drew := ⟨_, rfl⟩
          obtain ⟨B7, e7⟩ : ∃ B7, B7 = wr.heap.size := ⟨_, rfl⟩
          rw [← hW2] at r7 hb7 ⊢
          rw [← e7] at r7 ⊢
          have hne : b ≠ B7 := by omega
          have hle7 : wr.heap.size ≤ B7 := by omega
          obtain ⟨d2, d4, d5, d6, d7, d8, d9⟩ := HD.out W2 hb7
          obtain ⟨g2, g4, g5, g6, g7, g8, g9⟩ := HG2.out
          clear hW2 e7 hx0 d0 d1 d3 d10 d11 t4 g0 g1 g10 g11 v0 v1 v10 v11 u11 z11 q1 q10 q11 j1 j10 j11 q3 j3
          have j2 : IntKind.i64.wrap ((j : Int) + 2) = (j : Int) + 2 := IntWalk.i64_in _ (by omega)
          have q2 := fun W => run_at (b := b) (off := off) (c := c) 2 2 rfl (show j + 2 < n by omega) W
          have j4 : IntKind.i64.wrap ((j : Int) + 4) = (j : Int) + 4 := IntWalk.i64_in _ (by omega)
          have q4 := fun W => run_at (b := b) (off := off) (c := c) 4 4 rfl (show j + 4 < n by omega) W
          have j5 : IntKind.i64.wrap ((j : Int) + 5) = (j : Int) + 5 := IntWalk.i64_in _ (by omega)
          have q5 := fun W => run_at (b := b) (off := off) (c := c) 5 5 rfl (show j + 5 < n by omega) W
          have j6 : IntKind.i64.wrap ((j : Int) + 6) = (j : Int) + 6 := IntWalk.i64_in _ (by omega)
          have q6 := fun W => run_at (b := b) (off := off) (c := c) 6 6 rfl (show j + 6 < n by omega) W
          have j7 : IntKind.i64.wrap ((j : Int) + 7) = (j : Int) + 7 := IntWalk.i64_in _ (by omega)
          have q7 := fun W => run_at (b := b) (off := off) (c := c) 7 7 rfl (show j + 7 < n by omega) W
          have j8 : IntKind.i64.wrap ((j : Int) + 8) = (j : Int) + 8 := IntWalk.i64_in _ (by omega)
          have q8 := fun W => run_at (b := b) (off := off) (c := c) 8 8 rfl (show j + 8 < n by omega) W
          have j9 : IntKind.i64.wrap ((j : Int) + 9) = (j : Int) + 9 := IntWalk.i64_in _ (by omega)
          have q9 := fun W => run_at (b := b) (off := off) (c := c) 9 9 rfl (show j + 9 < n by omega) W
          have v2 : IntKind.i64.wrap p.b2 = p.b2 := IntWalk.i64_in _ (by omega)
          have v4 : IntKind.i64.wrap p.b4 = p.b4 := IntWalk.i64_in _ (by omega)
          have v5 : IntKind.i64.wrap p.b5 = p.b5 := IntWalk.i64_in _ (by omega)
          have v6 : IntKind.i64.wrap p.b6 = p.b6 := IntWalk.i64_in _ (by omega)
          have v7 : IntKind.i64.wrap p.b7 = p.b7 := IntWalk.i64_in _ (by omega)
          have v8 : IntKind.i64.wrap p.b8 = p.b8 := IntWalk.i64_in _ (by omega)
          have v9 : IntKind.i64.wrap p.b9 = p.b9 := IntWalk.i64_in _ (by omega)
          have u7 : IntKind.i64.wrap (256 * p.b7) = 256 * p.b7 := IntWalk.i64_in _ (by omega)
          have z7 : IntKind.i64.wrap (p.b6 + 256 * p.b7) = p.b6 + 256 * p.b7 := IntWalk.i64_in _ (by omega)
          have u9 : IntKind.i64.wrap (256 * p.b9) = 256 * p.b9 := IntWalk.i64_in _ (by omega)
          have z9 : IntKind.i64.wrap (p.b8 + 256 * p.b9) = p.b8 + 256 * p.b9 := IntWalk.i64_in _ (by omega)
          go_wp2_with fail
          replace r7 := r7.drew
          replace hb7 := bdrew1 hb7
          replace d2 : W2.drew.cell? ⟨b, off + (j + 2), none⟩ = some (vB p.b2) := d2
          replace d4 : W2.drew.cell? ⟨b, off + (j + 4), none⟩ = some (vB p.b4) := d4
          replace d5 : W2.drew.cell? ⟨b, off + (j + 5), none⟩ = some (vB p.b5) := d5
          replace d6 : W2.drew.cell? ⟨b, off + (j + 6), none⟩ = some (vB p.b6) := d6
          replace d7 : W2.drew.cell? ⟨b, off + (j + 7), none⟩ = some (vB p.b7) := d7
          replace d8 : W2.drew.cell? ⟨b, off + (j + 8), none⟩ = some (vB p.b8) := d8
          replace d9 : W2.drew.cell? ⟨b, off + (j + 9), none⟩ = some (vB p.b9) := d9
          refine wp_region_held_drew (S := (fun w' => w'.cell? ⟨b, off + (j + 2), none⟩ = some (vB p.b2) ∧ w'.cell? ⟨b, off + (j + 4), none⟩ = some (vB p.b4) ∧ w'.cell? ⟨b, off + (j + 5), none⟩ = some (vB p.b5) ∧ w'.cell? ⟨b, off + (j + 6), none⟩ = some (vB p.b6) ∧ w'.cell? ⟨b, off + (j + 7), none⟩ = some (vB p.b7) ∧ w'.cell? ⟨b, off + (j + 8), none⟩ = some (vB p.b8) ∧ w'.cell? ⟨b, off + (j + 9), none⟩ = some (vB p.b9))) (by kernel_rfl) ⟨d2, d4, d5, d6, d7, d8, d9⟩ (fun hS => ?_)
          generalize W2.drew = u0 at *
          refine wpAnyH_take (i := 0) (oi := { dst := some 59, op := Op.move (Operand.tmp 0), type := 24, pos := "ref.go:62", after := #[], guard := none }) (v := ?v0_1) rfl (by kernel_rfl) (by kernel_rfl) (by kernel_rfl) (fun _ _ _ h => h) (Or.inl ⟨by rfl, ?hy0_1⟩) hS ?rest0_1
          case hy0_1 =>
            intro w hSw
            (try dsimp only at hSw)
            go_simp
            try with_reducible rfl
          try simp only [Act.put, List.setIfInBounds_toArray, List.set_cons_zero, List.set_cons_succ]
          refine wpAnyH_take (i := 1) (oi := { dst := some 60, op := Op.move (Operand.tmp 5), type := 3, pos := "ref.go:62", after := #[], guard := none }) (v := ?v1_2) rfl (by kernel_rfl) (by kernel_rfl) (by kernel_rfl) (fun _ _ _ h => h) (Or.inl ⟨by rfl, ?hy1_2⟩) hS ?rest1_2
          case hy1_2 =>
            intro w hSw
            (try dsimp only at hSw)
            go_simp
            try with_reducible rfl
          try simp only [Act.put, List.setIfInBounds_toArray, List.set_cons_zero, List.set_cons_succ]
          refine wpAnyH_take (i := 2) (oi := { dst := some 61, op := Op.binOp BinOp.add 3 (Operand.tmp 60) (Operand.const (Value.int IntKind.i64 2)) 3, type := 3, pos := "ref.go:62", after := #[{ on := 1, ground := Ground.data }], guard := none }) (v := ?v2_3) rfl (by kernel_rfl) (by kernel_rfl) (by kernel_rfl) (fun _ _ _ h => h) (Or.inl ⟨by rfl, ?hy2_3⟩) hS ?rest2_3
          case hy2_3 =>
            intro w hSw
            (try dsimp only at hSw)
            go_simp
            try with_reducible rfl
          try simp only [Act.put, List.setIfInBounds_toArray, List.set_cons_zero, List.set_cons_succ]
          refine wpAnyH_take (i := 3) (oi := { dst := some 62, op := Op.indexAddr 24 (Operand.tmp 59) (Operand.tmp 61), type := 0, pos := "ref.go:62", after := #[{ on := 0, ground := Ground.data }, { on := 2, ground := Ground.data }], guard := none }) (v := ?v3_4) rfl (by kernel_rfl) (by kernel_rfl) (by kernel_rfl) (fun _ _ _ h => h) (Or.inl ⟨by rfl, ?hy3_4⟩) hS ?rest3_4
          case hy3_4 =>
            intro w hSw
            (try dsimp only at hSw)
            go_simp
            try with_reducible rfl
          try simp only [Act.put, List.setIfInBounds_toArray, List.set_cons_zero, List.set_cons_succ]
          refine wpAnyH_take (i := 4) (oi := { dst := some 63, op := Op.load 5 (Operand.tmp 62), type := 5, pos := "ref.go:62", after := #[{ on := 3, ground := Ground.data }], guard := none }) (v := ?v4_5) rfl (by kernel_rfl) (by kernel_rfl) (by kernel_rfl) (fun _ _ _ h => h) (Or.inl ⟨by rfl, ?hy4_5⟩) hS ?rest4_5
          case hy4_5 =>
            intro w hSw
            (try dsimp only at hSw)
            go_simp
            try with_reducible rfl
          try simp only [Act.put, List.setIfInBounds_toArray, List.set_cons_zero, List.set_cons_succ]
          refine wpAnyH_take (i := 5) (oi := { dst := some 64, op := Op.convert 5 3 (Operand.tmp 63), type := 3, pos := "ref.go:62", after := #[{ on := 4, ground := Ground.data }], guard := none }) (v := ?v5_6) rfl (by kernel_rfl) (by kernel_rfl) (by kernel_rfl) (fun _ _ _ h => h) (Or.inl ⟨by rfl, ?hy5_6⟩) hS ?rest5_6
          case hy5_6 =>
            intro w hSw
            (try dsimp only at hSw)
            go_simp
            try with_reducible rfl
          try simp only [Act.put, List.setIfInBounds_toArray, List.set_cons_zero, List.set_cons_succ]
          refine wpAnyH_take (i := 6) (oi := { dst := some 65, op := Op.move (Operand.tmp 6), type := 3, pos := "ref.go:62", after := #[], guard := none }) (v := ?v6_7) rfl (by kernel_rfl) (by kernel_rfl) (by kernel_rfl) (fun _ _ _ h => h) (Or.inl ⟨by rfl, ?hy6_7⟩) hS ?rest6_7
          case hy6_7 =>
            intro w hSw
            (try dsimp only at hSw)
            go_simp
            try with_reducible rfl
          try simp only [Act.put, List.setIfInBounds_toArray, List.set_cons_zero, List.set_cons_succ]
          refine wpAnyH_take (i := 7) (oi := { dst := some 66, op := Op.binOp BinOp.rem 3 (Operand.tmp 65) (Operand.const (Value.int IntKind.i64 2)) 3, type := 3, pos := "ref.go:62", after := #[{ on := 6, ground := Ground.data }], guard := none }) (v := ?v7_8) rfl (by kernel_rfl) (by kernel_rfl) (by kernel_rfl) (fun _ _ _ h => h) (Or.inl ⟨by rfl, ?hy7_8⟩) hS ?rest7_8
          case hy7_8 =>
            intro w hSw
            (try dsimp only at hSw)
            go_simp
            try with_reducible rfl
          try simp only [Act.put, List.setIfInBounds_toArray, List.set_cons_zero, List.set_cons_succ]
          refine wpAnyH_take (i := 8) (oi := { dst := some 67, op := Op.binOp BinOp.eql 3 (Operand.tmp 66) (Operand.const (Value.int IntKind.i64 1)) 3, type := 4, pos := "ref.go:62", after := #[{ on := 7, ground := Ground.data }], guard := none }) (v := ?v8_9) rfl (by kernel_rfl) (by kernel_rfl) (by kernel_rfl) (fun _ _ _ h => h) (Or.inl ⟨by rfl, ?hy8_9⟩) hS ?rest8_9
          case hy8_9 =>
            intro w hSw
            (try dsimp only at hSw)
            go_simp
            try with_reducible rfl
          try simp only [Act.put, List.setIfInBounds_toArray, List.set_cons_zero, List.set_cons_succ]
          refine wpAnyH_take (i := 9) (oi := { dst := some 68, op := Op.move (Operand.tmp 6), type := 3, pos := "ref.go:62", after := #[], guard := none }) (v := ?v9_10) rfl (by kernel_rfl) (by kernel_rfl) (by kernel_rfl) (fun _ _ _ h => h) (Or.inl ⟨by rfl, ?hy9_10⟩) hS ?rest9_10
          case hy9_10 =>
            intro w hSw
            (try dsimp only at hSw)
            go_simp
            try with_reducible rfl
          try simp only [Act.put, List.setIfInBounds_toArray, List.set_cons_zero, List.set_cons_succ]
          refine wpAnyH_take (i := 10) (oi := { dst := some 69, op := Op.binOp BinOp.quo 3 (Operand.tmp 68) (Operand.const (Value.int IntKind.i64 2)) 3, type := 3, pos := "ref.go:62", after := #[{ on := 9, ground := Ground.data }], guard := none }) (v := ?v10_11) rfl (by kernel_rfl) (by kernel_rfl) (by kernel_rfl) (fun _ _ _ h => h) (Or.inl ⟨by rfl, ?hy10_11⟩) hS ?rest10_11
          case hy10_11 =>
            intro w hSw
            (try dsimp only at hSw)
            go_simp
            try with_reducible rfl
          try simp only [Act.put, List.setIfInBounds_toArray, List.set_cons_zero, List.set_cons_succ]
          refine wpAnyH_take (i := 11) (oi := { dst := some 70, op := Op.binOp BinOp.rem 3 (Operand.tmp 69) (Operand.const (Value.int IntKind.i64 2)) 3, type := 3, pos := "ref.go:62", after := #[{ on := 10, ground := Ground.data }], guard := none }) (v := ?v11_12) rfl (by kernel_rfl) (by kernel_rfl) (by kernel_rfl) (fun _ _ _ h => h) (Or.inl ⟨by rfl, ?hy11_12⟩) hS ?rest11_12
          case hy11_12 =>
            intro w hSw
            (try dsimp only at hSw)
            go_simp
            try with_reducible rfl
          try simp only [Act.put, List.setIfInBounds_toArray, List.set_cons_zero, List.set_cons_succ]
          refine wpAnyH_take (i := 12) (oi := { dst := some 71, op := Op.binOp BinOp.eql 3 (Operand.tmp 70) (Operand.const (Value.int IntKind.i64 1)) 3, type := 4, pos := "ref.go:62", after := #[{ on := 11, ground := Ground.data }], guard := none }) (v := ?v12_13) rfl (by kernel_rfl) (by kernel_rfl) (by kernel_rfl) (fun _ _ _ h => h) (Or.inl ⟨by rfl, ?hy12_13⟩) hS ?rest12_13
          case hy12_13 =>
            intro w hSw
            (try dsimp only at hSw)
            go_simp
            try with_reducible rfl
          try simp only [Act.put, List.setIfInBounds_toArray, List.set_cons_zero, List.set_cons_succ]
          refine wpAnyH_take (i := 13) (oi := { dst := some 72, op := Op.move (Operand.tmp 0), type := 24, pos := "ref.go:62", after := #[], guard := none }) (v := ?v13_14) rfl (by kernel_rfl) (by kernel_rfl) (by kernel_rfl) (fun _ _ _ h => h) (Or.inl ⟨by rfl, ?hy13_14⟩) hS ?rest13_14
          case hy13_14 =>
            intro w hSw
            (try dsimp only at hSw)
            go_simp
            try with_reducible rfl
          try simp only [Act.put, List.setIfInBounds_toArray, List.set_cons_zero, List.set_cons_succ]
          refine wpAnyH_take (i := 14) (oi := { dst := some 73, op := Op.move (Operand.tmp 5), type := 3, pos := "ref.go:62", after := #[], guard := none }) (v := ?v14_15) rfl (by kernel_rfl) (by kernel_rfl) (by kernel_rfl) (fun _ _ _ h => h) (Or.inl ⟨by rfl, ?hy14_15⟩) hS ?rest14_15
          case hy14_15 =>
            intro w hSw
            (try dsimp only at hSw)
            go_simp
            try with_reducible rfl
          try simp only [Act.put, List.setIfInBounds_toArray, List.set_cons_zero, List.set_cons_succ]
          refine wpAnyH_take (i := 15) (oi := { dst := some 74, op := Op.binOp BinOp.add 3 (Operand.tmp 73) (Operand.const (Value.int IntKind.i64 4)) 3, type := 3, pos := "ref.go:62", after := #[{ on := 14, ground := Ground.data }], guard := none }) (v := ?v15_16) rfl (by kernel_rfl) (by kernel_rfl) (by kernel_rfl) (fun _ _ _ h => h) (Or.inl ⟨by rfl, ?hy15_16⟩) hS ?rest15_16
          case hy15_16 =>
            intro w hSw
            (try dsimp only at hSw)
            go_simp
            try with_reducible rfl
          try simp only [Act.put, List.setIfInBounds_toArray, List.set_cons_zero, List.set_cons_succ]
          refine wpAnyH_take (i := 16) (oi := { dst := some 75, op := Op.indexAddr 24 (Operand.tmp 72) (Operand.tmp 74), type := 0, pos := "ref.go:62", after := #[{ on := 13, ground := Ground.data }, { on := 15, ground := Ground.data }], guard := none }) (v := ?v16_17) rfl (by kernel_rfl) (by kernel_rfl) (by kernel_rfl) (fun _ _ _ h => h) (Or.inl ⟨by rfl, ?hy16_17⟩) hS ?rest16_17
          case hy16_17 =>
            intro w hSw
            (try dsimp only at hSw)
            go_simp
            try with_reducible rfl
          try simp only [Act.put, List.setIfInBounds_toArray, List.set_cons_zero, List.set_cons_succ]
          refine wpAnyH_take (i := 17) (oi := { dst := some 76, op := Op.load 5 (Operand.tmp 75), type := 5, pos := "ref.go:62", after := #[{ on := 16, ground := Ground.data }], guard := none }) (v := ?v17_18) rfl (by kernel_rfl) (by kernel_rfl) (by kernel_rfl) (fun _ _ _ h => h) (Or.inl ⟨by rfl, ?hy17_18⟩) hS ?rest17_18
          case hy17_18 =>
            intro w hSw
            (try dsimp only at hSw)
            go_simp
            try with_reducible rfl
          try simp only [Act.put, List.setIfInBounds_toArray, List.set_cons_zero, List.set_cons_succ]
          refine wpAnyH_take (i := 18) (oi := { dst := some 77, op := Op.convert 5 3 (Operand.tmp 76), type := 3, pos := "ref.go:62", after := #[{ on := 17, ground := Ground.data }], guard := none }) (v := ?v18_19) rfl (by kernel_rfl) (by kernel_rfl) (by kernel_rfl) (fun _ _ _ h => h) (Or.inl ⟨by rfl, ?hy18_19⟩) hS ?rest18_19
          case hy18_19 =>
            intro w hSw
            (try dsimp only at hSw)
            go_simp
            try with_reducible rfl
          try simp only [Act.put, List.setIfInBounds_toArray, List.set_cons_zero, List.set_cons_succ]
          refine wpAnyH_take (i := 19) (oi := { dst := some 78, op := Op.move (Operand.tmp 0), type := 24, pos := "ref.go:62", after := #[], guard := none }) (v := ?v19_20) rfl (by kernel_rfl) (by kernel_rfl) (by kernel_rfl) (fun _ _ _ h => h) (Or.inl ⟨by rfl, ?hy19_20⟩) hS ?rest19_20
          case hy19_20 =>
            intro w hSw
            (try dsimp only at hSw)
            go_simp
            try with_reducible rfl
          try simp only [Act.put, List.setIfInBounds_toArray, List.set_cons_zero, List.set_cons_succ]
          refine wpAnyH_take (i := 20) (oi := { dst := some 79, op := Op.move (Operand.tmp 5), type := 3, pos := "ref.go:62", after := #[], guard := none }) (v := ?v20_21) rfl (by kernel_rfl) (by kernel_rfl) (by kernel_rfl) (fun _ _ _ h => h) (Or.inl ⟨by rfl, ?hy20_21⟩) hS ?rest20_21
          case hy20_21 =>
            intro w hSw
            (try dsimp only at hSw)
            go_simp
            try with_reducible rfl
          try simp only [Act.put, List.setIfInBounds_toArray, List.set_cons_zero, List.set_cons_succ]
          refine wpAnyH_take (i := 21) (oi := { dst := some 80, op := Op.binOp BinOp.add 3 (Operand.tmp 79) (Operand.const (Value.int IntKind.i64 5)) 3, type := 3, pos := "ref.go:62", after := #[{ on := 20, ground := Ground.data }], guard := none }) (v := ?v21_22) rfl (by kernel_rfl) (by kernel_rfl) (by kernel_rfl) (fun _ _ _ h => h) (Or.inl ⟨by rfl, ?hy21_22⟩) hS ?rest21_22
          case hy21_22 =>
            intro w hSw
            (try dsimp only at hSw)
            go_simp
            try with_reducible rfl
          try simp only [Act.put, List.setIfInBounds_toArray, List.set_cons_zero, List.set_cons_succ]
          refine wpAnyH_take (i := 22) (oi := { dst := some 81, op := Op.indexAddr 24 (Operand.tmp 78) (Operand.tmp 80), type := 0, pos := "ref.go:62", after := #[{ on := 19, ground := Ground.data }, { on := 21, ground := Ground.data }], guard := none }) (v := ?v22_23) rfl (by kernel_rfl) (by kernel_rfl) (by kernel_rfl) (fun _ _ _ h => h) (Or.inl ⟨by rfl, ?hy22_23⟩) hS ?rest22_23
          case hy22_23 =>
            intro w hSw
            (try dsimp only at hSw)
            go_simp
            try with_reducible rfl
          try simp only [Act.put, List.setIfInBounds_toArray, List.set_cons_zero, List.set_cons_succ]
          refine wpAnyH_take (i := 23) (oi := { dst := some 82, op := Op.load 5 (Operand.tmp 81), type := 5, pos := "ref.go:62", after := #[{ on := 22, ground := Ground.data }], guard := none }) (v := ?v23_24) rfl (by kernel_rfl) (by kernel_rfl) (by kernel_rfl) (fun _ _ _ h => h) (Or.inl ⟨by rfl, ?hy23_24⟩) hS ?rest23_24
          case hy23_24 =>
            intro w hSw
            (try dsimp only at hSw)
            go_simp
            try with_reducible rfl
          try simp only [Act.put, List.setIfInBounds_toArray, List.set_cons_zero, List.set_cons_succ]
          refine wpAnyH_take (i := 24) (oi := { dst := some 83, op := Op.convert 5 3 (Operand.tmp 82), type := 3, pos := "ref.go:62", after := #[{ on := 23, ground := Ground.data }], guard := none }) (v := ?v24_25) rfl (by kernel_rfl) (by kernel_rfl) (by kernel_rfl) (fun _ _ _ h => h) (Or.inl ⟨by rfl, ?hy24_25⟩) hS ?rest24_25
          case hy24_25 =>
            intro w hSw
            (try dsimp only at hSw)
            go_simp
            try with_reducible rfl
          try simp only [Act.put, List.setIfInBounds_toArray, List.set_cons_zero, List.set_cons_succ]
          refine wpAnyH_take (i := 25) (oi := { dst := some 84, op := Op.move (Operand.tmp 0), type := 24, pos := "ref.go:62", after := #[], guard := none }) (v := ?v25_26) rfl (by kernel_rfl) (by kernel_rfl) (by kernel_rfl) (fun _ _ _ h => h) (Or.inl ⟨by rfl, ?hy25_26⟩) hS ?rest25_26
          case hy25_26 =>
            intro w hSw
            (try dsimp only at hSw)
            go_simp
            try with_reducible rfl
          try simp only [Act.put, List.setIfInBounds_toArray, List.set_cons_zero, List.set_cons_succ]
          refine wpAnyH_take (i := 26) (oi := { dst := some 85, op := Op.move (Operand.tmp 5), type := 3, pos := "ref.go:62", after := #[], guard := none }) (v := ?v26_27) rfl (by kernel_rfl) (by kernel_rfl) (by kernel_rfl) (fun _ _ _ h => h) (Or.inl ⟨by rfl, ?hy26_27⟩) hS ?rest26_27
          case hy26_27 =>
            intro w hSw
            (try dsimp only at hSw)
            go_simp
            try with_reducible rfl
          try simp only [Act.put, List.setIfInBounds_toArray, List.set_cons_zero, List.set_cons_succ]
          refine wpAnyH_take (i := 27) (oi := { dst := some 86, op := Op.binOp BinOp.add 3 (Operand.tmp 85) (Operand.const (Value.int IntKind.i64 6)) 3, type := 3, pos := "ref.go:62", after := #[{ on := 26, ground := Ground.data }], guard := none }) (v := ?v27_28) rfl (by kernel_rfl) (by kernel_rfl) (by kernel_rfl) (fun _ _ _ h => h) (Or.inl ⟨by rfl, ?hy27_28⟩) hS ?rest27_28
          case hy27_28 =>
            intro w hSw
            (try dsimp only at hSw)
            go_simp
            try with_reducible rfl
          try simp only [Act.put, List.setIfInBounds_toArray, List.set_cons_zero, List.set_cons_succ]
          refine wpAnyH_take (i := 28) (oi := { dst := some 87, op := Op.indexAddr 24 (Operand.tmp 84) (Operand.tmp 86), type := 0, pos := "ref.go:62", after := #[{ on := 25, ground := Ground.data }, { on := 27, ground := Ground.data }], guard := none }) (v := ?v28_29) rfl (by kernel_rfl) (by kernel_rfl) (by kernel_rfl) (fun _ _ _ h => h) (Or.inl ⟨by rfl, ?hy28_29⟩) hS ?rest28_29
          case hy28_29 =>
            intro w hSw
            (try dsimp only at hSw)
            go_simp
            try with_reducible rfl
          try simp only [Act.put, List.setIfInBounds_toArray, List.set_cons_zero, List.set_cons_succ]
          refine wpAnyH_take (i := 29) (oi := { dst := some 88, op := Op.load 5 (Operand.tmp 87), type := 5, pos := "ref.go:62", after := #[{ on := 28, ground := Ground.data }], guard := none }) (v := ?v29_30) rfl (by kernel_rfl) (by kernel_rfl) (by kernel_rfl) (fun _ _ _ h => h) (Or.inl ⟨by rfl, ?hy29_30⟩) hS ?rest29_30
          case hy29_30 =>
            intro w hSw
            (try dsimp only at hSw)
            go_simp
            try with_reducible rfl
          try simp only [Act.put, List.setIfInBounds_toArray, List.set_cons_zero, List.set_cons_succ]
          refine wpAnyH_take (i := 30) (oi := { dst := some 89, op := Op.convert 5 3 (Operand.tmp 88), type := 3, pos := "ref.go:62", after := #[{ on := 29, ground := Ground.data }], guard := none }) (v := ?v30_31) rfl (by kernel_rfl) (by kernel_rfl) (by kernel_rfl) (fun _ _ _ h => h) (Or.inl ⟨by rfl, ?hy30_31⟩) hS ?rest30_31
          case hy30_31 =>
            intro w hSw
            (try dsimp only at hSw)
            go_simp
            try with_reducible rfl
          try simp only [Act.put, List.setIfInBounds_toArray, List.set_cons_zero, List.set_cons_succ]
          refine wpAnyH_take (i := 31) (oi := { dst := some 90, op := Op.move (Operand.tmp 0), type := 24, pos := "ref.go:62", after := #[], guard := none }) (v := ?v31_32) rfl (by kernel_rfl) (by kernel_rfl) (by kernel_rfl) (fun _ _ _ h => h) (Or.inl ⟨by rfl, ?hy31_32⟩) hS ?rest31_32
          case hy31_32 =>
            intro w hSw
            (try dsimp only at hSw)
            go_simp
            try with_reducible rfl
          try simp only [Act.put, List.setIfInBounds_toArray, List.set_cons_zero, List.set_cons_succ]
          refine wpAnyH_take (i := 32) (oi := { dst := some 91, op := Op.move (Operand.tmp 5), type := 3, pos := "ref.go:62", after := #[], guard := none }) (v := ?v32_33) rfl (by kernel_rfl) (by kernel_rfl) (by kernel_rfl) (fun _ _ _ h => h) (Or.inl ⟨by rfl, ?hy32_33⟩) hS ?rest32_33
          case hy32_33 =>
            intro w hSw
            (try dsimp only at hSw)
            go_simp
            try with_reducible rfl
          try simp only [Act.put, List.setIfInBounds_toArray, List.set_cons_zero, List.set_cons_succ]
          refine wpAnyH_take (i := 33) (oi := { dst := some 92, op := Op.binOp BinOp.add 3 (Operand.tmp 91) (Operand.const (Value.int IntKind.i64 7)) 3, type := 3, pos := "ref.go:62", after := #[{ on := 32, ground := Ground.data }], guard := none }) (v := ?v33_34) rfl (by kernel_rfl) (by kernel_rfl) (by kernel_rfl) (fun _ _ _ h => h) (Or.inl ⟨by rfl, ?hy33_34⟩) hS ?rest33_34
          case hy33_34 =>
            intro w hSw
            (try dsimp only at hSw)
            go_simp
            try with_reducible rfl
          try simp only [Act.put, List.setIfInBounds_toArray, List.set_cons_zero, List.set_cons_succ]
          refine wpAnyH_take (i := 34) (oi := { dst := some 93, op := Op.indexAddr 24 (Operand.tmp 90) (Operand.tmp 92), type := 0, pos := "ref.go:62", after := #[{ on := 31, ground := Ground.data }, { on := 33, ground := Ground.data }], guard := none }) (v := ?v34_35) rfl (by kernel_rfl) (by kernel_rfl) (by kernel_rfl) (fun _ _ _ h => h) (Or.inl ⟨by rfl, ?hy34_35⟩) hS ?rest34_35
          case hy34_35 =>
            intro w hSw
            (try dsimp only at hSw)
            go_simp
            try with_reducible rfl
          try simp only [Act.put, List.setIfInBounds_toArray, List.set_cons_zero, List.set_cons_succ]
          refine wpAnyH_take (i := 35) (oi := { dst := some 94, op := Op.load 5 (Operand.tmp 93), type := 5, pos := "ref.go:62", after := #[{ on := 34, ground := Ground.data }], guard := none }) (v := ?v35_36) rfl (by kernel_rfl) (by kernel_rfl) (by kernel_rfl) (fun _ _ _ h => h) (Or.inl ⟨by rfl, ?hy35_36⟩) hS ?rest35_36
          case hy35_36 =>
            intro w hSw
            (try dsimp only at hSw)
            go_simp
            try with_reducible rfl
          try simp only [Act.put, List.setIfInBounds_toArray, List.set_cons_zero, List.set_cons_succ]
          refine wpAnyH_take (i := 36) (oi := { dst := some 95, op := Op.convert 5 3 (Operand.tmp 94), type := 3, pos := "ref.go:62", after := #[{ on := 35, ground := Ground.data }], guard := none }) (v := ?v36_37) rfl (by kernel_rfl) (by kernel_rfl) (by kernel_rfl) (fun _ _ _ h => h) (Or.inl ⟨by rfl, ?hy36_37⟩) hS ?rest36_37
          case hy36_37 =>
            intro w hSw
            (try dsimp only at hSw)
            go_simp
            try with_reducible rfl
          try simp only [Act.put, List.setIfInBounds_toArray, List.set_cons_zero, List.set_cons_succ]
          refine wpAnyH_take (i := 37) (oi := { dst := some 96, op := Op.binOp BinOp.mul 3 (Operand.const (Value.int IntKind.i64 256)) (Operand.tmp 95) 3, type := 3, pos := "ref.go:62", after := #[{ on := 36, ground := Ground.data }], guard := none }) (v := ?v37_38) rfl (by kernel_rfl) (by kernel_rfl) (by kernel_rfl) (fun _ _ _ h => h) (Or.inl ⟨by rfl, ?hy37_38⟩) hS ?rest37_38
          case hy37_38 =>
            intro w hSw
            (try dsimp only at hSw)
            go_simp
            try with_reducible rfl
          try simp only [Act.put, List.setIfInBounds_toArray, List.set_cons_zero, List.set_cons_succ]
          refine wpAnyH_take (i := 38) (oi := { dst := some 97, op := Op.binOp BinOp.add 3 (Operand.tmp 89) (Operand.tmp 96) 3, type := 3, pos := "ref.go:62", after := #[{ on := 30, ground := Ground.data }, { on := 37, ground := Ground.data }], guard := none }) (v := ?v38_39) rfl (by kernel_rfl) (by kernel_rfl) (by kernel_rfl) (fun _ _ _ h => h) (Or.inl ⟨by rfl, ?hy38_39⟩) hS ?rest38_39
          case hy38_39 =>
            intro w hSw
            (try dsimp only at hSw)
            go_simp
            try with_reducible rfl
          try simp only [Act.put, List.setIfInBounds_toArray, List.set_cons_zero, List.set_cons_succ]
          refine wpAnyH_take (i := 39) (oi := { dst := some 98, op := Op.move (Operand.tmp 0), type := 24, pos := "ref.go:62", after := #[], guard := none }) (v := ?v39_40) rfl (by kernel_rfl) (by kernel_rfl) (by kernel_rfl) (fun _ _ _ h => h) (Or.inl ⟨by rfl, ?hy39_40⟩) hS ?rest39_40
          case hy39_40 =>
            intro w hSw
            (try dsimp only at hSw)
            go_simp
            try with_reducible rfl
          try simp only [Act.put, List.setIfInBounds_toArray, List.set_cons_zero, List.set_cons_succ]
          refine wpAnyH_take (i := 40) (oi := { dst := some 99, op := Op.move (Operand.tmp 5), type := 3, pos := "ref.go:62", after := #[], guard := none }) (v := ?v40_41) rfl (by kernel_rfl) (by kernel_rfl) (by kernel_rfl) (fun _ _ _ h => h) (Or.inl ⟨by rfl, ?hy40_41⟩) hS ?rest40_41
          case hy40_41 =>
            intro w hSw
            (try dsimp only at hSw)
            go_simp
            try with_reducible rfl
          try simp only [Act.put, List.setIfInBounds_toArray, List.set_cons_zero, List.set_cons_succ]
          refine wpAnyH_take (i := 41) (oi := { dst := some 100, op := Op.binOp BinOp.add 3 (Operand.tmp 99) (Operand.const (Value.int IntKind.i64 8)) 3, type := 3, pos := "ref.go:62", after := #[{ on := 40, ground := Ground.data }], guard := none }) (v := ?v41_42) rfl (by kernel_rfl) (by kernel_rfl) (by kernel_rfl) (fun _ _ _ h => h) (Or.inl ⟨by rfl, ?hy41_42⟩) hS ?rest41_42
          case hy41_42 =>
            intro w hSw
            (try dsimp only at hSw)
            go_simp
            try with_reducible rfl
          try simp only [Act.put, List.setIfInBounds_toArray, List.set_cons_zero, List.set_cons_succ]
          refine wpAnyH_take (i := 42) (oi := { dst := some 101, op := Op.indexAddr 24 (Operand.tmp 98) (Operand.tmp 100), type := 0, pos := "ref.go:62", after := #[{ on := 39, ground := Ground.data }, { on := 41, ground := Ground.data }], guard := none }) (v := ?v42_43) rfl (by kernel_rfl) (by kernel_rfl) (by kernel_rfl) (fun _ _ _ h => h) (Or.inl ⟨by rfl, ?hy42_43⟩) hS ?rest42_43
          case hy42_43 =>
            intro w hSw
            (try dsimp only at hSw)
            go_simp
            try with_reducible rfl
          try simp only [Act.put, List.setIfInBounds_toArray, List.set_cons_zero, List.set_cons_succ]
          refine wpAnyH_take (i := 43) (oi := { dst := some 102, op := Op.load 5 (Operand.tmp 101), type := 5, pos := "ref.go:62", after := #[{ on := 42, ground := Ground.data }], guard := none }) (v := ?v43_44) rfl (by kernel_rfl) (by kernel_rfl) (by kernel_rfl) (fun _ _ _ h => h) (Or.inl ⟨by rfl, ?hy43_44⟩) hS ?rest43_44
          case hy43_44 =>
            intro w hSw
            (try dsimp only at hSw)
            go_simp
            try with_reducible rfl
          try simp only [Act.put, List.setIfInBounds_toArray, List.set_cons_zero, List.set_cons_succ]
          refine wpAnyH_take (i := 44) (oi := { dst := some 103, op := Op.convert 5 3 (Operand.tmp 102), type := 3, pos := "ref.go:62", after := #[{ on := 43, ground := Ground.data }], guard := none }) (v := ?v44_45) rfl (by kernel_rfl) (by kernel_rfl) (by kernel_rfl) (fun _ _ _ h => h) (Or.inl ⟨by rfl, ?hy44_45⟩) hS ?rest44_45
          case hy44_45 =>
            intro w hSw
            (try dsimp only at hSw)
            go_simp
            try with_reducible rfl
          try simp only [Act.put, List.setIfInBounds_toArray, List.set_cons_zero, List.set_cons_succ]
          refine wpAnyH_take (i := 45) (oi := { dst := some 104, op := Op.move (Operand.tmp 0), type := 24, pos := "ref.go:62", after := #[], guard := none }) (v := ?v45_46) rfl (by kernel_rfl) (by kernel_rfl) (by kernel_rfl) (fun _ _ _ h => h) (Or.inl ⟨by rfl, ?hy45_46⟩) hS ?rest45_46
          case hy45_46 =>
            intro w hSw
            (try dsimp only at hSw)
            go_simp
            try with_reducible rfl
          try simp only [Act.put, List.setIfInBounds_toArray, List.set_cons_zero, List.set_cons_succ]
          refine wpAnyH_take (i := 46) (oi := { dst := some 105, op := Op.move (Operand.tmp 5), type := 3, pos := "ref.go:62", after := #[], guard := none }) (v := ?v46_47) rfl (by kernel_rfl) (by kernel_rfl) (by kernel_rfl) (fun _ _ _ h => h) (Or.inl ⟨by rfl, ?hy46_47⟩) hS ?rest46_47
          case hy46_47 =>
            intro w hSw
            (try dsimp only at hSw)
            go_simp
            try with_reducible rfl
          try simp only [Act.put, List.setIfInBounds_toArray, List.set_cons_zero, List.set_cons_succ]
          refine wpAnyH_take (i := 47) (oi := { dst := some 106, op := Op.binOp BinOp.add 3 (Operand.tmp 105) (Operand.const (Value.int IntKind.i64 9)) 3, type := 3, pos := "ref.go:62", after := #[{ on := 46, ground := Ground.data }], guard := none }) (v := ?v47_48) rfl (by kernel_rfl) (by kernel_rfl) (by kernel_rfl) (fun _ _ _ h => h) (Or.inl ⟨by rfl, ?hy47_48⟩) hS ?rest47_48
          case hy47_48 =>
            intro w hSw
            (try dsimp only at hSw)
            go_simp
            try with_reducible rfl
          try simp only [Act.put, List.setIfInBounds_toArray, List.set_cons_zero, List.set_cons_succ]
          refine wpAnyH_take (i := 48) (oi := { dst := some 107, op := Op.indexAddr 24 (Operand.tmp 104) (Operand.tmp 106), type := 0, pos := "ref.go:62", after := #[{ on := 45, ground := Ground.data }, { on := 47, ground := Ground.data }], guard := none }) (v := ?v48_49) rfl (by kernel_rfl) (by kernel_rfl) (by kernel_rfl) (fun _ _ _ h => h) (Or.inl ⟨by rfl, ?hy48_49⟩) hS ?rest48_49
          case hy48_49 =>
            intro w hSw
            (try dsimp only at hSw)
            go_simp
            try with_reducible rfl
          try simp only [Act.put, List.setIfInBounds_toArray, List.set_cons_zero, List.set_cons_succ]
          refine wpAnyH_take (i := 49) (oi := { dst := some 108, op := Op.load 5 (Operand.tmp 107), type := 5, pos := "ref.go:62", after := #[{ on := 48, ground := Ground.data }], guard := none }) (v := ?v49_50) rfl (by kernel_rfl) (by kernel_rfl) (by kernel_rfl) (fun _ _ _ h => h) (Or.inl ⟨by rfl, ?hy49_50⟩) hS ?rest49_50
          case hy49_50 =>
            intro w hSw
            (try dsimp only at hSw)
            go_simp
            try with_reducible rfl
          try simp only [Act.put, List.setIfInBounds_toArray, List.set_cons_zero, List.set_cons_succ]
          refine wpAnyH_take (i := 50) (oi := { dst := some 109, op := Op.convert 5 3 (Operand.tmp 108), type := 3, pos := "ref.go:62", after := #[{ on := 49, ground := Ground.data }], guard := none }) (v := ?v50_51) rfl (by kernel_rfl) (by kernel_rfl) (by kernel_rfl) (fun _ _ _ h => h) (Or.inl ⟨by rfl, ?hy50_51⟩) hS ?rest50_51
          case hy50_51 =>
            intro w hSw
            (try dsimp only at hSw)
            go_simp
            try with_reducible rfl
          try simp only [Act.put, List.setIfInBounds_toArray, List.set_cons_zero, List.set_cons_succ]
          refine wpAnyH_take (i := 51) (oi := { dst := some 110, op := Op.binOp BinOp.mul 3 (Operand.const (Value.int IntKind.i64 256)) (Operand.tmp 109) 3, type := 3, pos := "ref.go:62", after := #[{ on := 50, ground := Ground.data }], guard := none }) (v := ?v51_52) rfl (by kernel_rfl) (by kernel_rfl) (by kernel_rfl) (fun _ _ _ h => h) (Or.inl ⟨by rfl, ?hy51_52⟩) hS ?rest51_52
          case hy51_52 =>
            intro w hSw
            (try dsimp only at hSw)
            go_simp
            try with_reducible rfl
          try simp only [Act.put, List.setIfInBounds_toArray, List.set_cons_zero, List.set_cons_succ]
          refine wpAnyH_take (i := 52) (oi := { dst := some 111, op := Op.binOp BinOp.add 3 (Operand.tmp 103) (Operand.tmp 110) 3, type := 3, pos := "ref.go:62", after := #[{ on := 44, ground := Ground.data }, { on := 51, ground := Ground.data }], guard := none }) (v := ?v52_53) rfl (by kernel_rfl) (by kernel_rfl) (by kernel_rfl) (fun _ _ _ h => h) (Or.inl ⟨by rfl, ?hy52_53⟩) hS ?rest52_53
          case hy52_53 =>
            intro w hSw
            (try dsimp only at hSw)
            go_simp
            try with_reducible rfl
          try simp only [Act.put, List.setIfInBounds_toArray, List.set_cons_zero, List.set_cons_succ]
          refine wpAnyH_take (i := 53) (oi := { dst := some 112, op := Op.build 30 #[(0, Operand.tmp 64), (2, Operand.tmp 67), (3, Operand.tmp 71), (4, Operand.tmp 77), (6, Operand.tmp 83), (5, Operand.tmp 97), (1, Operand.tmp 111)], type := 30, pos := "ref.go:62", after := #[{ on := 5, ground := Ground.data }, { on := 8, ground := Ground.data }, { on := 12, ground := Ground.data }, { on := 18, ground := Ground.data }, { on := 24, ground := Ground.data }, { on := 38, ground := Ground.data }, { on := 52, ground := Ground.data }], guard := none }) (v := ?v53_54) rfl (by kernel_rfl) (by kernel_rfl) (by kernel_rfl) (fun _ _ _ h => h) (Or.inl ⟨by rfl, ?hy53_54⟩) hS ?rest53_54
          case hy53_54 =>
            intro w hSw
            (try dsimp only at hSw)
            go_simp
            try with_reducible rfl
          try simp only [Act.put, List.setIfInBounds_toArray, List.set_cons_zero, List.set_cons_succ]
          refine wpAnyH_take (i := 54) (oi := { dst := some 113, op := Op.fieldAddr 32 (Operand.tmp 7) 2, type := 0, pos := "ref.go:62", after := #[{ on := 0, ground := Ground.phase }, { on := 1, ground := Ground.phase }, { on := 2, ground := Ground.phase }, { on := 3, ground := Ground.phase }, { on := 4, ground := Ground.phase }, { on := 5, ground := Ground.phase }, { on := 6, ground := Ground.phase }, { on := 7, ground := Ground.phase }, { on := 8, ground := Ground.phase }, { on := 9, ground := Ground.phase }, { on := 10, ground := Ground.phase }, { on := 11, ground := Ground.phase }, { on := 12, ground := Ground.phase }, { on := 13, ground := Ground.phase }, { on := 14, ground := Ground.phase }, { on := 15, ground := Ground.phase }, { on := 16, ground := Ground.phase }, { on := 17, ground := Ground.phase }, { on := 18, ground := Ground.phase }, { on := 19, ground := Ground.phase }, { on := 20, ground := Ground.phase }, { on := 21, ground := Ground.phase }, { on := 22, ground := Ground.phase }, { on := 23, ground := Ground.phase }, { on := 24, ground := Ground.phase }, { on := 25, ground := Ground.phase }, { on := 26, ground := Ground.phase }, { on := 27, ground := Ground.phase }, { on := 28, ground := Ground.phase }, { on := 29, ground := Ground.phase }, { on := 30, ground := Ground.phase }, { on := 31, ground := Ground.phase }, { on := 32, ground := Ground.phase }, { on := 33, ground := Ground.phase }, { on := 34, ground := Ground.phase }, { on := 35, ground := Ground.phase }, { on := 36, ground := Ground.phase }, { on := 37, ground := Ground.phase }, { on := 38, ground := Ground.phase }, { on := 39, ground := Ground.phase }, { on := 40, ground := Ground.phase }, { on := 41, ground := Ground.phase }, { on := 42, ground := Ground.phase }, { on := 43, ground := Ground.phase }, { on := 44, ground := Ground.phase }, { on := 45, ground := Ground.phase }, { on := 46, ground := Ground.phase }, { on := 47, ground := Ground.phase }, { on := 48, ground := Ground.phase }, { on := 49, ground := Ground.phase }, { on := 50, ground := Ground.phase }, { on := 51, ground := Ground.phase }, { on := 52, ground := Ground.phase }, { on := 53, ground := Ground.phase }], guard := none }) (v := ?v54_55) rfl (by kernel_rfl) (by kernel_rfl) (by kernel_rfl) (fun _ _ _ h => h) (Or.inl ⟨by rfl, ?hy54_55⟩) hS ?rest54_55
          case hy54_55 =>
            intro w hSw
            (try dsimp only at hSw)
            go_simp
            try with_reducible rfl
          try simp only [Act.put, List.setIfInBounds_toArray, List.set_cons_zero, List.set_cons_succ]
          refine wpAnyH_ready (rs := [55]) (by kernel_rfl) (by simp) ?_
          refine AllReadyH.cons (o := { dst := none, op := Op.store 30 (Operand.tmp 113) (Operand.tmp 112), type := 0, pos := "ref.go:62", after := #[{ on := 54, ground := Ground.data }, { on := 53, ground := Ground.data }, { on := 0, ground := Ground.phase }, { on := 1, ground := Ground.phase }, { on := 2, ground := Ground.phase }, { on := 3, ground := Ground.phase }, { on := 4, ground := Ground.phase }, { on := 5, ground := Ground.phase }, { on := 6, ground := Ground.phase }, { on := 7, ground := Ground.phase }, { on := 8, ground := Ground.phase }, { on := 9, ground := Ground.phase }, { on := 10, ground := Ground.phase }, { on := 11, ground := Ground.phase }, { on := 12, ground := Ground.phase }, { on := 13, ground := Ground.phase }, { on := 14, ground := Ground.phase }, { on := 15, ground := Ground.phase }, { on := 16, ground := Ground.phase }, { on := 17, ground := Ground.phase }, { on := 18, ground := Ground.phase }, { on := 19, ground := Ground.phase }, { on := 20, ground := Ground.phase }, { on := 21, ground := Ground.phase }, { on := 22, ground := Ground.phase }, { on := 23, ground := Ground.phase }, { on := 24, ground := Ground.phase }, { on := 25, ground := Ground.phase }, { on := 26, ground := Ground.phase }, { on := 27, ground := Ground.phase }, { on := 28, ground := Ground.phase }, { on := 29, ground := Ground.phase }, { on := 30, ground := Ground.phase }, { on := 31, ground := Ground.phase }, { on := 32, ground := Ground.phase }, { on := 33, ground := Ground.phase }, { on := 34, ground := Ground.phase }, { on := 35, ground := Ground.phase }, { on := 36, ground := Ground.phase }, { on := 37, ground := Ground.phase }, { on := 38, ground := Ground.phase }, { on := 39, ground := Ground.phase }, { on := 40, ground := Ground.phase }, { on := 41, ground := Ground.phase }, { on := 42, ground := Ground.phase }, { on := 43, ground := Ground.phase }, { on := 44, ground := Ground.phase }, { on := 45, ground := Ground.phase }, { on := 46, ground := Ground.phase }, { on := 47, ground := Ground.phase }, { on := 48, ground := Ground.phase }, { on := 49, ground := Ground.phase }, { on := 50, ground := Ground.phase }, { on := 51, ground := Ground.phase }, { on := 52, ground := Ground.phase }, { on := 53, ground := Ground.phase }], guard := none }) rfl (fun K hK => ?_) AllReadyH.nil
          rw [if_pos (by kernel_rfl)]
          refine wp_store_mid 30 _ _ rfl B7 2 #[vI p.b2, vI (p.b8 + 256 * p.b9), .bool (rdE p).wa, .bool (rdE p).fo, vI p.b4, vI (p.b6 + 256 * p.b7), vI p.b5] rfl rfl (there7 r7) (by kernel_rfl) (by simp [Value.oneCell']) ?_
          have e := fun (o : Nat) => World.cell?_setCells_out B7 #[vI p.b2, vI (p.b8 + 256 * p.b9), .bool (rdE p).wa, .bool (rdE p).fo, vI p.b4, vI (p.b6 + 256 * p.b7), vI p.b5].toList 2 u0 ⟨b, o, none⟩ (fun e _ => absurd e hne)
          refine hK.out _ _ ⟨(e _).trans d2, (e _).trans d4, (e _).trans d5, (e _).trans d6, (e _).trans d7, (e _).trans d8, (e _).trans d9⟩ (fun hS => ?_)
          clear hK K
          try simp only [Act.put]
          refine wpAnyH_done (by kernel_rfl) ?_ _
          have r8 : RowAt (u0.setCells B7 2 #[vI p.b2, vI (p.b8 + 256 * p.b9), .bool (rdE p).wa, .bool (rdE p).fo, vI p.b4, vI (p.b6 + 256 * p.b7), vI p.b5].toList) B7 32 #[Value.int .i64 ((rdE p)).k, Value.int .i64 ((rdE p)).w, Value.int .i64 ((rdE p)).op, Value.int .i64 ((rdE p)).dl, Value.bool ((rdE p)).wa, Value.bool ((rdE p)).fo, Value.int .i64 ((rdE p)).sl, Value.int .i64 ((rdE p)).ge, Value.int .i64 ((rdE p)).st, Value.int .i64 ((rdE p)).n, Value.bool ((rdE p)).gd] := ((((((r7.put 2 (vI p.b2)).put 3 (vI (p.b8 + 256 * p.b9))).put 4 (.bool (rdE p).wa)).put 5 (.bool (rdE p).fo)).put 6 (vI p.b4)).put 7 (vI (p.b6 + 256 * p.b7))).put 8 (vI p.b5)
          have hb8 : Below wr.heap.size wr (u0.setCells B7 2 #[vI p.b2, vI (p.b8 + 256 * p.b9), .bool (rdE p).wa, .bool (rdE p).fo, vI p.b4, vI (p.b6 + 256 * p.b7), vI p.b5].toList) := ((((((hb7.setCell (p := ⟨B7, 2, none⟩) hle7 (vI p.b2)).setCell (p := ⟨B7, 3, none⟩) hle7 (vI (p.b8 + 256 * p.b9))).setCell (p := ⟨B7, 4, none⟩) hle7 (.bool (rdE p).wa)).setCell (p := ⟨B7, 5, none⟩) hle7 (.bool (rdE p).fo)).setCell (p := ⟨B7, 6, none⟩) hle7 (vI p.b4)).setCell (p := ⟨B7, 7, none⟩) hle7 (vI (p.b6 + 256 * p.b7))).setCell (p := ⟨B7, 8, none⟩) hle7 (vI p.b5)
          obtain ⟨W3, hW3⟩ : ∃ W3, W3 = u0.setCells B7 2 #[vI p.b2, vI (p.b8 + 256 * p.b9), .bool (rdE p).wa, .bool (rdE p).fo, vI p.b4, vI (p.b6 + 256 * p.b7), vI p.b5].toList := ⟨_, rfl⟩
          rw [← hW3] at r8 hb8
          refine (?_ : Exit.then _ _ Exit.normal _ (u0.setCells B7 2 #[vI p.b2, vI (p.b8 + 256 * p.b9), .bool (rdE p).wa, .bool (rdE p).fo, vI p.b4, vI (p.b6 + 256 * p.b7), vI p.b5].toList))
          rw [← hW3]
          obtain ⟨x, ex⟩ : ∃ x, x = rdE p := ⟨_, rfl⟩
          rw [← ex] at r8
          have Ex := Lib.hid ex
          have Hgood := Lib.hid (show good p = (decide (p.b3 ≤ 7) && rtB x) by rw [ex]; rfl)
          have HM3 := Lib.hid (HM.out.on hb8)
          clear hW3 ex hb8 HM r7 hb7 e hne HD HG2 d2 d4 d5 d6 d7 d8 d9 t1 t2 hS
          go_wp2_with (refine wpList_load_row rfl 32 _ rfl _ rfl 32 _ (0, 0) _ r8 Try.underlying32 rfl (by kernel_rfl) ?_)
          refine (refRight_any x _).mono ?_
          rintro e w4 ⟨rfl, hb4⟩
          replace r8 := r8.below hb4 r8.lt
          have HM4 := Lib.hid (HM3.out.on hb4)
          clear hb4 HM3
          by_cases h7 : 7 < p.b3
          · have Hy := Lib.hid (dec_no (b := l) (by rw [Hn.out]; exact H12.out) (by rw [Hn.out, ← Hm.out]; exact Hbig.out) (all_fail HX.out (by rw [Hgood.out, decide_eq_false (by omega)]; rfl)))
            go_wp2_with fail
            go_ret2
            exact RetDec.no Hy.out HM4.out.below
          · cases hq : rtB x with
            | false =>
              have Hy := Lib.hid (dec_no (b := l) (by rw [Hn.out]; exact H12.out) (by rw [Hn.out, ← Hm.out]; exact Hbig.out) (all_fail HX.out (by rw [Hgood.out, hq, Bool.and_false])))
              clear hq
              go_wp2_with fail
              go_ret2
              exact RetDec.no Hy.out HM4.out.below
            | true =>
              have Hg := Lib.hid (show good p = true by rw [Hgood.out, hq, decide_eq_true (show p.b3 ≤ 7 by omega)]; rfl)
              clear hq
              obtain ⟨k2, hk2⟩ : ∃ k2, k2 = k + 1 := ⟨_, rfl⟩
              have Hk2 := Lib.hid hk2
              clear hk2
              have hbn := bnew w4 (.cells #[Value.int .i64 x.k, Value.int .i64 x.w, Value.int .i64 x.op, Value.int .i64 x.dl, Value.bool x.wa, Value.bool x.fo, Value.int .i64 x.sl, Value.int .i64 x.ge, Value.int .i64 x.st, Value.int .i64 x.n, Value.bool x.gd] 32)
              have HM5 := Lib.hid (HM4.out.on hbn)
              have r9 := RowAt.new w4 32 #[Value.int .i64 x.k, Value.int .i64 x.w, Value.int .i64 x.op, Value.int .i64 x.dl, Value.bool x.wa, Value.bool x.fo, Value.int .i64 x.sl, Value.int .i64 x.ge, Value.int .i64 x.st, Value.int .i64 x.n, Value.bool x.gd]
              clear hbn HM4
              go_wp2_with (first
                | (refine wpList_load_row rfl 32 _ rfl _ rfl 32 _ (0, 0) _ r8 Try.underlying32 rfl (by kernel_rfl) ?_)
                | (refine HM5.out.appAll (n := k) (m := 1) (k := k2) (zs := ((pcs l).take (k + 1)).map rdE) (by rw [List.length_map, take_len (by rw [HP.out]; omega)]) (by omega) Hk2.out.symm rfl _ _ rfl rfl [x] rfl _ 0 1 rfl ?g1 (by rw [take_map HX.out, ← Ex.out]) ?_; rotate_left; intro Av3 cv3 w5 hM5))
              case g1 => exact one_at (range_row r9)
              go_roundw
              case rel => exact ⟨k2, j + 12, Av3, cv3, by have := Hk2.out; omega, by go_num, rfl, Lib.hid (by have := Hj.out; have := Hk2.out; omega), Lib.hid (by have h9 := hM5; rw [← Hk2.out] at h9; exact h9), Lib.hid (by rw [Hk2.out]; exact all_step HG.out HX.out Hg.out)⟩
              case measure => simp [intOf]; omega
        · obtain rfl : k = m := by omega
          have hc1 : ¬ (j : Int) < (n : Int) := by have := Hj.out; have := Hm2.out; have := H12.out; omega
          have hj9 : j ≤ 100000 := by have := Hj.out; have := Hm2.out; omega
          have Hy := Lib.hid (dec_yes (b := l) (by rw [Hn.out]; exact H12.out) (by rw [Hn.out, ← Hm.out]; exact Hbig.out) (by have h3 := HG.out; rwa [List.take_of_length_le (by rw [HP.out]; exact Nat.le_refl _)] at h3))
          go_wp2_with fail
          go_ret2
          have h3 := HM.out
          rw [List.take_of_length_le (by rw [HP.out]; exact Nat.le_refl _)] at h3
          exact RetDec.yes Hy.out h3
  · have h12b : ((n : Int) % 12 != 0) = true := by simp; omega
    have Hy := Lib.hid (dec_form (b := l) (by rw [Hn.out]; exact h12))
    go_enter Try.func15, Try.ntmps15
    go_wp2_with fail
    go_ret2
    exact RetDec.no Hy.out (Below.refl _ _)
end Go.Proofs.Ytbkaiffecnomjaa
