/- A conf by small numbers, and words for it; nothing that was there changes. -/
import Derived.Test.YtalmadeibnekoaaLaid2
import Derived.Test.YtalmadeibnekoaaRSlots
import Derived.Deep.CutBlock
namespace Go.Proofs.Ytalmadeibnekoaa
open Go.RowKit
attribute [local go_sem ↓] Go.wp_at_zero Go.wp_at_succ

theorem sp_row {W : World} {b : Nat} {us : Array Value} : SpX [b] W (W.setRow b us) := ⟨rfl, rfl, rfl, by simp, fun k _ hk => setRow_other _ _ _ _ (by simpa using hk)⟩
/-- numbers that lie in block g, and may be turned -/
def WB (w : World) (g : Nat) (xs : List Int) : Prop := IB w g xs ∧ ∀ j, w.frozen? ⟨g, j, none⟩ = false
theorem WB.spx {X : List Nat} {a b : World} {g : Nat} {xs : List Int} (h : WB a g xs) (hs : SpX X a b) (hg : g ∉ X) : WB b g xs := ⟨h.1.spx hs hg, fun j => (hs.frozen j h.1.1 hg).trans (h.2 j)⟩
theorem WB.on {a b : World} {g : Nat} {xs : List Int} (h : WB a g xs) (hb : Below a.heap.size a b) : WB b g xs := h.spx (X := []) (.of_below hb) (by simp)
theorem WB.drew {a : World} {g : Nat} {xs : List Int} (h : WB a g xs) : WB a.drew g xs := h
theorem WB.set {w : World} {g : Nat} {xs : List Int} (h : WB w g xs) (k : Nat) (v : Int) : WB (w.setCell ⟨g, k, none⟩ (.int .i64 v)) g (xs.set k v) := by
  refine ⟨⟨by simpa [World.setCell] using h.1.1, fun j x hj => ?_⟩, fun j => by simpa using h.2 j⟩
  have hl : j < xs.length := by have := (List.getElem?_eq_some_iff.1 hj).1; simpa using this
  by_cases e : k = j
  · subst e
    rw [List.getElem?_set_self hl] at hj
    injection hj with hj
    subst hj
    rw [World.cell?_setCell_same' _ _ _ (by rw [h.1.2 k _ (List.getElem?_eq_getElem hl)]; rfl)]
  · rw [List.getElem?_set_ne e] at hj
    rw [World.cell?_setCell_other _ _ _ _ (by intro h'; injection h' with _ h'; exact e h')]
    exact h.1.2 j x hj
/-- words that may be: from the f-th on slots' -/
def Gd (f : Nat) (xs : List Int) : Prop := ∀ (k : Nat) x, xs[k]? = some x → (0 ≤ x ∧ x < 4611686018427387904) ∧ (f ≤ k → decB x = true)
theorem Gd.set {f : Nat} {xs : List Int} (h : Gd f xs) (k : Nat) {v : Int} (hv : 0 ≤ v ∧ v < 4611686018427387904) (hd : f ≤ k → decB v = true) : Gd f (xs.set k v) := by
  intro j x hj
  have hl : j < xs.length := by have := (List.getElem?_eq_some_iff.1 hj).1; simpa using this
  by_cases e : k = j
  · subst e
    rw [List.getElem?_set_self hl] at hj
    injection hj with hj
    subst hj
    exact ⟨hv, hd⟩
  · rw [List.getElem?_set_ne e] at hj
    exact h j x hj
theorem gd_zeros (f n : Nat) : Gd f (List.replicate n 0) := by
  intro k x hk
  obtain ⟨_, rfl⟩ := rep_at hk
  exact ⟨by omega, fun _ => dec_0⟩
/-- bytes -/
def BS (w : World) (M : Nat) (A : Option Addr) (l : List Int) : Prop := ∀ (k : Nat) x, l[k]? = some x → ∃ b off, A = some ⟨b, off, none⟩ ∧ b < M ∧ w.cell? ⟨b, off + k, none⟩ = some (.int .u8 x)
theorem BS.below {w w' : World} {N : Nat} {A : Option Addr} {xs : List Int} (h : BS w N A xs) (hb : Below N w w') : BS w' N A xs := by
  intro k x hk
  obtain ⟨b, off, e, h1, h2⟩ := h k x hk
  exact ⟨b, off, e, h1, (hb.cell (p := ⟨b, off + k, none⟩) h1).trans h2⟩
/-- few of all -/
structure Few (c : Cf) : Prop where
  wo : 1 ≤ c.wo ∧ c.wo ≤ 4
  sl : 1 ≤ c.sl ∧ c.sl ≤ 5
  st : 0 ≤ c.st ∧ c.st ≤ 3
  wa : 0 ≤ c.wa ∧ c.wa ≤ 3
  us : 1 ≤ c.us ∧ c.us ≤ 4
theorem Few.rc {c : Cf} (h : Few c) : Rc c := by
  obtain ⟨h1, h2, h3, h4, h5⟩ := h
  exact ⟨by omega, by omega, by omega, by omega, by omega⟩
def RetConf (w : World) (e : Ending) (w' : World) : Prop := ∃ c, Few c ∧ e = .returned (Value.agg #[Value.int .i64 c.wo, Value.int .i64 c.sl, Value.int .i64 c.st, Value.int .i64 c.wa, Value.int .i64 c.us]) ∧ Below w.heap.size w w'
set_option maxRecDepth 100000 in
set_option maxHeartbeats 2000000 in
theorem conf_any (a1 a2 a3 a4 a5 : Int) (w : World) (h1 : 0 ≤ a1 ∧ a1 ≤ 255) (h2 : 0 ≤ a2 ∧ a2 ≤ 255) (h3 : 0 ≤ a3 ∧ a3 ≤ 255) (h4 : 0 ≤ a4 ∧ a4 ≤ 255) (h5 : 0 ≤ a5 ∧ a5 ≤ 255) :
    Calls Try.prog 25 #[Value.agg #[Value.int .u8 a1, Value.int .u8 a2, Value.int .u8 a3, Value.int .u8 a4, Value.int .u8 a5]] w (RetConf w) := by
  have hB : Below w.heap.size w ((w.alloc (.cells #[Value.int .u8 a1, Value.int .u8 a2, Value.int .u8 a3, Value.int .u8 a4, Value.int .u8 a5] 23)).alloc (.cells #[Value.int .i64 0, Value.int .i64 0, Value.int .i64 0, Value.int .i64 0, Value.int .i64 0] 31)) := ((Below.refl _ _).alloc (Nat.le_refl _) _).alloc (by simp) _
  have r1 := new2 w (.cells #[Value.int .u8 a1, Value.int .u8 a2, Value.int .u8 a3, Value.int .u8 a4, Value.int .u8 a5] 23) 31 #[Value.int .i64 0, Value.int .i64 0, Value.int .i64 0, Value.int .i64 0, Value.int .i64 0]
  go_enter Try.func25, Try.ntmps25
  go_wp2_with (refine wpList_store_row rfl 31 _ _ rfl _ #[.int .i64 (1 + a1 % 4), .int .i64 (1 + a2 % 5), .int .i64 (a3 % 4), .int .i64 (a4 % 4), .int .i64 (1 + a5 % 4)] rfl rfl 31 _ r1 (by kernel_rfl) rfl (by simp [Value.oneCell']) ?_)
  refine bodyPost_ret (results_cell_row (p := 2) (ty := 31) rfl _ _ (w.heap.size + 1) 31 _ (0, 0) _ rfl (r1.set _) Try.underlying31 rfl (by kernel_rfl)) rfl ?_
  exact ⟨⟨1 + a1 % 4, 1 + a2 % 5, a3 % 4, a4 % 4, 1 + a5 % 4⟩, ⟨by simp only; omega, by simp only; omega, by simp only; omega, by simp only; omega, by simp only; omega⟩, rfl, below_setRow hB (by simp) _⟩
theorem res_pair35 {fn : Func} {p u : Tmp} (h : fn.results = #[.cell p 31, .tmp u]) (tmps : Array Value) (W : World) (b : Nat) (vs : Array Value) (hp : tmps.getD p undef = .pointer (some ⟨b, 0, none⟩)) (r : RowAt W b 31 vs) (hs : vs.size = 5) :
    (results fn tmps).run Try.prog W = .ok (.tuple #[.agg vs, tmps.getD u undef]) W := by
  rw [results_cell_tmp h, hp]
  have e := run_loadVar_row (P := Try.prog) W b 31 31 vs (0, 0) _ r Try.underlying31 rfl (by rw [hs]; kernel_rfl)
  simp [asAddr, Result.andThen, e]
/-- a conf, and words for it -/
def RetMade (w : World) (e : Ending) (w' : World) : Prop := ∃ c g c1 xs, Few c ∧ e = .returned (.tuple #[Value.agg #[Value.int .i64 c.wo, Value.int .i64 c.sl, Value.int .i64 c.st, Value.int .i64 c.wa, Value.int .i64 c.us], .slice (some ⟨g, 0, none⟩) (cellsN c) c1]) ∧ cellsN c ≤ c1 ∧ xs.length = cellsN c ∧ Gd (3 + c.wo + c.wo).toNat xs ∧ IB w' g xs ∧ w.heap.size ≤ g ∧ Below w.heap.size w w'
theorem pin_nat {c : Cf} {k : Nat} (h : (k : Int) < c.wo) : pinI c k = ((3 + k : Nat) : Int) := by
  unfold pinI cellI wiB
  rw [if_pos (by simp; omega)]
  omega
theorem byte_some {l : List Int} {k : Nat} (h : k < l.length) : ∃ x, l[k]? = some x := ⟨l[k], by simp⟩
/-- the byte lists, and the slots, that come in -/
structure GivenAt (w : World) (S P1 P2 : Option Addr) (sn pn1 pn2 : Nat) (sl : List Sl) (p1 p2 : List Int) : Prop where
  ls : LS w w.heap.size S sl
  b1 : BS w w.heap.size P1 p1
  b2 : BS w w.heap.size P2 p2
  sn : sl.length = sn
  n1 : p1.length = pn1
  n2 : p2.length = pn2
  wf : ∀ s ∈ sl, s.Wf
  r1 : ∀ x ∈ p1, 0 ≤ x ∧ x ≤ 255
  r2 : ∀ x ∈ p2, 0 ≤ x ∧ x ≤ 255
set_option maxRecDepth 100000 in
set_option maxHeartbeats 2000000 in
theorem made_any (a1 a2 a3 a4 a5 : Int) (S P1 P2 : Option Addr) (sn sc pn1 pc1 pn2 pc2 : Nat) (sl : List Sl) (p1 p2 : List Int) (w : World) (h1 : 0 ≤ a1 ∧ a1 ≤ 255) (h2 : 0 ≤ a2 ∧ a2 ≤ 255) (h3 : 0 ≤ a3 ∧ a3 ≤ 255) (h4 : 0 ≤ a4 ∧ a4 ≤ 255) (h5 : 0 ≤ a5 ∧ a5 ≤ 255)
    (hG : GivenAt w S P1 P2 sn pn1 pn2 sl p1 p2) :
    Calls Try.prog 9 #[Value.agg #[Value.int .u8 a1, Value.int .u8 a2, Value.int .u8 a3, Value.int .u8 a4, Value.int .u8 a5, .slice S sn sc, .slice P1 pn1 pc1, .slice P2 pn2 pc2]] w (RetMade w) := by
  have HG := Lib.hid hG
  have hB0 := bst (bnew w (.cells #[Value.int .u8 a1, Value.int .u8 a2, Value.int .u8 a3, Value.int .u8 a4, Value.int .u8 a5, .slice S sn sc, .slice P1 pn1 pc1, .slice P2 pn2 pc2] 27)) (bnew (w.alloc (.cells #[Value.int .u8 a1, Value.int .u8 a2, Value.int .u8 a3, Value.int .u8 a4, Value.int .u8 a5, .slice S sn sc, .slice P1 pn1 pc1, .slice P2 pn2 pc2] 27)) (.cells #[Value.int .i64 0, Value.int .i64 0, Value.int .i64 0, Value.int .i64 0, Value.int .i64 0] 31))
  have ra0 := (RowAt.new w 27 #[Value.int .u8 a1, Value.int .u8 a2, Value.int .u8 a3, Value.int .u8 a4, Value.int .u8 a5, .slice S sn sc, .slice P1 pn1 pc1, .slice P2 pn2 pc2]).alloc (.cells #[Value.int .i64 0, Value.int .i64 0, Value.int .i64 0, Value.int .i64 0, Value.int .i64 0] 31)
  have rz0 := new2 w (.cells #[Value.int .u8 a1, Value.int .u8 a2, Value.int .u8 a3, Value.int .u8 a4, Value.int .u8 a5, .slice S sn sc, .slice P1 pn1 pc1, .slice P2 pn2 pc2] 27) 31 #[Value.int .i64 0, Value.int .i64 0, Value.int .i64 0, Value.int .i64 0, Value.int .i64 0]
  clear hG
  go_enter Try.func9, Try.ntmps9
  go_wp2_with fail
  refine (conf_any a1 a2 a3 a4 a5 _ h1 h2 h3 h4 h5).mono ?_
  rintro e w1 ⟨c, hc, rfl, hb⟩
  obtain ⟨B1, e1⟩ : ∃ B1, B1 = w.heap.size := ⟨_, rfl⟩
  obtain ⟨B2, e2⟩ : ∃ B2, B2 = B1 + 1 := ⟨_, rfl⟩
  rw [← e1] at ra0 rz0 ⊢
  have hle2 : w.heap.size ≤ B2 := by omega
  rw [← e2] at rz0 ⊢
  clear e1 e2
  have ra1 := (ra0.below hb ra0.lt).alloc (.cells #[Value.int .i64 c.wo, Value.int .i64 c.sl, Value.int .i64 c.st, Value.int .i64 c.wa, Value.int .i64 c.us] 31)
  have rz1 := (rz0.below hb rz0.lt).alloc (.cells #[Value.int .i64 c.wo, Value.int .i64 c.sl, Value.int .i64 c.st, Value.int .i64 c.wa, Value.int .i64 c.us] 31)
  have rc1 := RowAt.new w1 31 #[Value.int .i64 c.wo, Value.int .i64 c.sl, Value.int .i64 c.st, Value.int .i64 c.wa, Value.int .i64 c.us]
  have hB1 := (hB0.trans (hb.mono hB0.size)).trans ((bnew w1 (.cells #[Value.int .i64 c.wo, Value.int .i64 c.sl, Value.int .i64 c.st, Value.int .i64 c.wa, Value.int .i64 c.us] 31)).mono (hB0.trans (hb.mono hB0.size)).size)
  have hs1 := (hB0.trans (hb.mono hB0.size)).size
  have l1 := (ra0.below hb ra0.lt).lt
  have l2 := (rz0.below hb rz0.lt).lt
  go_wp2_with (refine wpList_load_row rfl 31 _ rfl _ rfl 31 _ (0, 0) _ rc1 Try.underlying31 rfl (by kernel_rfl) ?_)
  obtain ⟨B4, e4⟩ : ∃ B4, B4 = w1.heap.size := ⟨_, rfl⟩
  rw [← e4] at rc1 hs1 l1 l2 ⊢
  obtain ⟨W1, eW⟩ : ∃ W1, W1 = w1.alloc (.cells #[Value.int .i64 c.wo, Value.int .i64 c.sl, Value.int .i64 c.st, Value.int .i64 c.wa, Value.int .i64 c.us] 31) := ⟨_, rfl⟩
  rw [← eW] at ra1 rz1 rc1 hB1 ⊢
  clear hb ra0 rz0 hB0 eW e4
  have Hf := Lib.hid hc
  have Hc := Lib.hid hc.rc
  have q1 := hc.wo
  have q2 := hc.sl
  clear hc
  refine (refCells_any c _ Hc.out).mono ?_
  rintro e w2 ⟨rfl, hb⟩
  obtain ⟨n1, n2, n3⟩ := cellsN_eq Hc.out
  obtain ⟨N, hN⟩ : ∃ N, N = cellsN c := ⟨_, rfl⟩
  rw [← n1, ← hN]
  rw [← hN] at n2 n3
  have HN := Lib.hid hN
  have hm := make_run N (by omega) w2
  have hw2 : WB (w2.alloc (.cells (madeCells #[.int .i64 0] N) 3)) w2.heap.size (List.replicate N 0) := ⟨zeros_ib w2 N, fun j => (RowAt.new w2 3 (madeCells #[.int .i64 0] N)).frozen j⟩
  have hB2 := hB1.trans (hb.mono hB1.size)
  have ra2 := (ra1.below hb ra1.lt).alloc (.cells (madeCells #[.int .i64 0] N) 3)
  have rz2 := (rz1.below hb rz1.lt).alloc (.cells (madeCells #[.int .i64 0] N) 3)
  have rc2 := (rc1.below hb rc1.lt).alloc (.cells (madeCells #[.int .i64 0] N) 3)
  have l3 := (rc1.below hb rc1.lt).lt
  have hB3 := hB2.trans ((bnew w2 (.cells (madeCells #[.int .i64 0] N) 3)).mono hB2.size)
  obtain ⟨g, eg⟩ : ∃ g, g = w2.heap.size := ⟨_, rfl⟩
  obtain ⟨W2, eW⟩ : ∃ W2, W2 = w2.alloc (.cells (madeCells #[.int .i64 0] N) 3) := ⟨_, rfl⟩
  rw [← eW] at ra2 rz2 rc2 hB3
  rw [← eW, ← eg] at hw2 hm
  rw [← eg] at l3
  clear hb hN n1 hB1 hB2 ra1 rz1 rc1 eW eg
  have hg : w.heap.size ≤ g := by omega
  have hna : B1 ≠ g := by omega
  have hnz : B2 ≠ g := by omega
  have hz0 : w.heap.size ≤ B2 := hle2
  have hnc : B4 ≠ g := by omega
  obtain ⟨F, hF⟩ : ∃ F : Nat, (3 + c.wo + c.wo).toNat = F := ⟨_, rfl⟩
  have HF := Lib.hid hF
  have hF3 : c.wo + 3 ≤ F := by omega
  have hFN : (F : Int) + c.sl = N := by have := (cellsN_eq Hc.out).1; rw [← HN.out] at this; unfold cellsI at this; omega
  clear hF
  have k6 := ra2.cell 6 rfl
  go_upto_if 17 with fail
  go_cut [5] (fun ws wr => ws = .slice (some ⟨g, 0, none⟩) N N ∧ ∃ xs : List Int, xs.length = N ∧ Hid (Gd F xs) ∧ Hid (WB wr g xs) ∧ Hid (Below w.heap.size w wr) ∧ RowAt wr B1 27 #[Value.int .u8 a1, Value.int .u8 a2, Value.int .u8 a3, Value.int .u8 a4, Value.int .u8 a5, .slice S sn sc, .slice P1 pn1 pc1, .slice P2 pn2 pc2] ∧ RowAt wr B4 31 #[Value.int .i64 c.wo, Value.int .i64 c.sl, Value.int .i64 c.st, Value.int .i64 c.wa, Value.int .i64 c.us] ∧ RowAt wr B2 31 #[Value.int .i64 0, Value.int .i64 0, Value.int .i64 0, Value.int .i64 0, Value.int .i64 0])
  case first =>
    by_cases hp : pn1 = 2
    · subst hp
      have hl := HG.out.n1
      obtain ⟨y0, hy0⟩ := byte_some (l := p1) (k := 0) (by omega)
      obtain ⟨y1, hy1⟩ := byte_some (l := p1) (k := 1) (by omega)
      obtain ⟨b, off, eb, hb1, d0⟩ := (HG.out.b1.below hB3) 0 y0 hy0
      obtain ⟨b', off', eb', _, d1⟩ := (HG.out.b1.below hB3) 1 y1 hy1
      have r0 := HG.out.r1 y0 (List.mem_of_getElem? hy0)
      have r1 := HG.out.r1 y1 (List.mem_of_getElem? hy1)
      rw [eb] at eb'
      injection eb' with eb'
      injection eb' with eb1 eb2
      subst eb1 eb2 eb
      rw [Nat.add_zero] at d0
      have hne : b ≠ g := by omega
      have z0 := hw2.1.2 0 0 (List.getElem?_replicate_of_lt (by omega))
      have z1 := hw2.1.2 2 0 (List.getElem?_replicate_of_lt (by omega))
      have f0 := hw2.2 0
      have f1 := hw2.2 2
      have q0 : 0 ≤ y0 % 3 ∧ y0 % 3 < 3 := ⟨Int.emod_nonneg _ (by omega), Int.emod_lt_of_pos _ (by omega)⟩
      have fin : WB ((W2.setCell ⟨g, 0, none⟩ (.int .i64 (y0 % 3))).setCell ⟨g, 2, none⟩ (.int .i64 y1)) g (((List.replicate N 0).set 0 (y0 % 3)).set 2 y1) ∧ Gd F (((List.replicate N 0).set 0 (y0 % 3)).set 2 y1) :=
        ⟨(hw2.set 0 _).set 2 _, ((gd_zeros F N).set 0 (by omega) (fun _ => by omega)).set 2 (by omega) (fun _ => by omega)⟩
      have Hfin := Lib.hid fin
      clear hl hy0 hy1 fin
      go_wp2
      go_meet
      refine ⟨rfl, _, by simp, Lib.hid Hfin.out.2, Lib.hid Hfin.out.1, Lib.hid ((hB3.setCell (p := ⟨g, 0, none⟩) hg _).setCell (p := ⟨g, 2, none⟩) hg _), ?_, ?_, ?_⟩
      · exact (ra2.putOther ⟨g, 0, none⟩ hna _).putOther ⟨g, 2, none⟩ hna _
      · exact (rc2.putOther ⟨g, 0, none⟩ hnc _).putOther ⟨g, 2, none⟩ hnc _
      · exact (rz2.putOther ⟨g, 0, none⟩ hnz _).putOther ⟨g, 2, none⟩ hnz _
    · have hp2 : ((pn1 : Int) == 2) = false := by simp; omega
      go_wp2
      go_meet
      exact ⟨rfl, List.replicate N 0, by simp, Lib.hid (gd_zeros F N), Lib.hid hw2, Lib.hid hB3, ra2, rc2, rz2⟩
  case rest =>
    obtain ⟨rfl, xs0, hL0, hgd0, hwb0, hb0, ra3, rc3, rz3⟩ := hcut
    clear k6 ra2 rc2 rz2 hB3 hw2 hm
    go_upto_block 0 with fail
    go_cut [5] (fun ws wr => ws = .slice (some ⟨g, 0, none⟩) N N ∧ ∃ xs : List Int, xs.length = N ∧ Hid (Gd F xs) ∧ Hid (WB wr g xs) ∧ Hid (Below w.heap.size w wr) ∧ RowAt wr B1 27 #[Value.int .u8 a1, Value.int .u8 a2, Value.int .u8 a3, Value.int .u8 a4, Value.int .u8 a5, .slice S sn sc, .slice P1 pn1 pc1, .slice P2 pn2 pc2] ∧ RowAt wr B4 31 #[Value.int .i64 c.wo, Value.int .i64 c.sl, Value.int .i64 c.st, Value.int .i64 c.wa, Value.int .i64 c.us] ∧ RowAt wr B2 31 #[Value.int .i64 0, Value.int .i64 0, Value.int .i64 0, Value.int .i64 0, Value.int .i64 0])
    case first =>
      go_wp2_with fail
      go_loopw [6] (fun j wr => ∃ (k : Nat), (k : Int) ≤ c.wo ∧ k ≤ pn2 ∧ j = .int .i64 k ∧ ∃ xs : List Int, xs.length = N ∧ Hid (Gd F xs) ∧ Hid (WB wr g xs) ∧ Hid (Below w.heap.size w wr) ∧ RowAt wr B1 27 #[Value.int .u8 a1, Value.int .u8 a2, Value.int .u8 a3, Value.int .u8 a4, Value.int .u8 a5, .slice S sn sc, .slice P1 pn1 pc1, .slice P2 pn2 pc2] ∧ RowAt wr B4 31 #[Value.int .i64 c.wo, Value.int .i64 c.sl, Value.int .i64 c.st, Value.int .i64 c.wa, Value.int .i64 c.us] ∧ RowAt wr B2 31 #[Value.int .i64 0, Value.int .i64 0, Value.int .i64 0, Value.int .i64 0, Value.int .i64 0]) (fun j _ => pn2 - (intOf j).toNat)
      case atStart => exact ⟨0, by omega, Nat.zero_le _, rfl, xs0, hL0, hgd0, hwb0, hb0, ra3, rc3, rz3⟩
      case round =>
        obtain ⟨k, hk1, hk2, rfl, xs, hL, hgd, hwb, hbb, hra, hrc, hrz⟩ := hrel
        clear hL0 hgd0 hwb0 hb0 ra3 rc3 rz3
        have k7 := hra.cell 7 rfl
        have k0 := hrc.cell 0 rfl
        by_cases c1 : (k : Int) < c.wo
        · by_cases c2 : k < pn2
          · have HL := Lib.hid hL
            obtain ⟨x, hx⟩ := byte_some (l := p2) (k := k) (by rw [HG.out.n2]; exact c2)
            have rx := HG.out.r2 x (List.mem_of_getElem? hx)
            obtain ⟨b, off, eb, hb1, d0⟩ := (HG.out.b2.below hbb.out) k x hx
            subst eb
            have hbl := Nat.lt_of_lt_of_le hb1 hbb.out.size
            have hbg : b ≠ g := by omega
            obtain ⟨y, hy⟩ := num_some (xs := xs) (k := 3 + k) (by rw [HL.out]; omega)
            have hpin := pin_nat c1
            have hwr : IntKind.i64.wrap x = x := IntWalk.i64_in _ (by omega)
            have hgd := hgd.out.set (3 + k) (v := x) (by omega) (fun _ => by omega)
            obtain ⟨K3, eK⟩ : ∃ K3 : Nat, K3 = 3 + k := ⟨_, rfl⟩
            rw [← eK] at hpin hgd hy
            have hi1 : K3 < N := by omega
            clear eK
            clear hx hL
            go_wp2_with fail
            have ra0 := hra.drew
            have rc0 := hrc.drew
            have rz0 := hrz.drew
            have HW0 := Lib.hid hwb.out.drew
            have hB0 := hbb.out.drew
            have x0_0 : wr.drew.cell? ⟨b, off + k, none⟩ = some (.int .u8 x) := d0
            have hbl : b < wr.drew.heap.size := hbl
            clear hra hrc hrz hwb hbb d0 k7 k0
            have ca0_0 : wr.drew.cell? ⟨B1, 0, none⟩ = some (Value.int .u8 a1) := ra0.cell 0 rfl
            have ca0_1 : wr.drew.cell? ⟨B1, 1, none⟩ = some (Value.int .u8 a2) := ra0.cell 1 rfl
            have ca0_2 : wr.drew.cell? ⟨B1, 2, none⟩ = some (Value.int .u8 a3) := ra0.cell 2 rfl
            have ca0_3 : wr.drew.cell? ⟨B1, 3, none⟩ = some (Value.int .u8 a4) := ra0.cell 3 rfl
            have ca0_4 : wr.drew.cell? ⟨B1, 4, none⟩ = some (Value.int .u8 a5) := ra0.cell 4 rfl
            have ca0_5 : wr.drew.cell? ⟨B1, 5, none⟩ = some (.slice S sn sc) := ra0.cell 5 rfl
            have ca0_6 : wr.drew.cell? ⟨B1, 6, none⟩ = some (.slice P1 pn1 pc1) := ra0.cell 6 rfl
            have ca0_7 : wr.drew.cell? ⟨B1, 7, none⟩ = some (.slice (some ⟨b, off, none⟩) pn2 pc2) := ra0.cell 7 rfl
            have cc0_0 : wr.drew.cell? ⟨B4, 0, none⟩ = some (Value.int .i64 c.wo) := rc0.cell 0 rfl
            have cc0_1 : wr.drew.cell? ⟨B4, 1, none⟩ = some (Value.int .i64 c.sl) := rc0.cell 1 rfl
            have cc0_2 : wr.drew.cell? ⟨B4, 2, none⟩ = some (Value.int .i64 c.st) := rc0.cell 2 rfl
            have cc0_3 : wr.drew.cell? ⟨B4, 3, none⟩ = some (Value.int .i64 c.wa) := rc0.cell 3 rfl
            have cc0_4 : wr.drew.cell? ⟨B4, 4, none⟩ = some (Value.int .i64 c.us) := rc0.cell 4 rfl
            refine wp_region_held_drew (S := (fun w' => w'.cell? ⟨B1, 0, none⟩ = some (Value.int .u8 a1) ∧ w'.cell? ⟨B1, 1, none⟩ = some (Value.int .u8 a2) ∧ w'.cell? ⟨B1, 2, none⟩ = some (Value.int .u8 a3) ∧ w'.cell? ⟨B1, 3, none⟩ = some (Value.int .u8 a4) ∧ w'.cell? ⟨B1, 4, none⟩ = some (Value.int .u8 a5) ∧ w'.cell? ⟨B1, 5, none⟩ = some (.slice S sn sc) ∧ w'.cell? ⟨B1, 6, none⟩ = some (.slice P1 pn1 pc1) ∧ w'.cell? ⟨B1, 7, none⟩ = some (.slice (some ⟨b, off, none⟩) pn2 pc2) ∧ w'.cell? ⟨B4, 0, none⟩ = some (Value.int .i64 c.wo) ∧ w'.cell? ⟨B4, 1, none⟩ = some (Value.int .i64 c.sl) ∧ w'.cell? ⟨B4, 2, none⟩ = some (Value.int .i64 c.st) ∧ w'.cell? ⟨B4, 3, none⟩ = some (Value.int .i64 c.wa) ∧ w'.cell? ⟨B4, 4, none⟩ = some (Value.int .i64 c.us) ∧ w'.cell? ⟨b, off + k, none⟩ = some (.int .u8 x))) (by kernel_rfl) ⟨ca0_0, ca0_1, ca0_2, ca0_3, ca0_4, ca0_5, ca0_6, ca0_7, cc0_0, cc0_1, cc0_2, cc0_3, cc0_4, x0_0⟩ (fun hS => ?_)
            generalize wr.drew = u0 at *
            refine wpAnyH_take (i := 0) (oi := { dst := some 46, op := Op.move (Operand.tmp 5), type := 32, pos := "ref.go:97", after := #[], guard := none }) (v := ?v0_1) rfl (by kernel_rfl) (by kernel_rfl) (by kernel_rfl) (fun _ _ _ h => h) (Or.inl ⟨by rfl, ?hy0_1⟩) hS ?rest0_1
            case hy0_1 =>
              intro w hSw
              (try dsimp only at hSw)
              go_simp
              try with_reducible rfl
            try simp only [Act.put, List.setIfInBounds_toArray, List.set_cons_zero, List.set_cons_succ]
            refine wpAnyH_take (i := 1) (oi := { dst := some 47, op := Op.load 31 (Operand.tmp 4), type := 31, pos := "ref.go:97", after := #[], guard := none }) (v := ?v1_2) rfl (by kernel_rfl) (by kernel_rfl) (by kernel_rfl) (fun _ _ _ h => h) (Or.inl ⟨by rfl, ?hy1_2⟩) hS ?rest1_2
            case hy1_2 =>
              intro w hSw
              (try dsimp only at hSw)
              go_simp
              try with_reducible rfl
            try simp only [Act.put, List.setIfInBounds_toArray, List.set_cons_zero, List.set_cons_succ]
            refine wpAnyH_take (i := 2) (oi := { dst := some 48, op := Op.move (Operand.tmp 6), type := 3, pos := "ref.go:97", after := #[], guard := none }) (v := ?v2_3) rfl (by kernel_rfl) (by kernel_rfl) (by kernel_rfl) (fun _ _ _ h => h) (Or.inl ⟨by rfl, ?hy2_3⟩) hS ?rest2_3
            case hy2_3 =>
              intro w hSw
              (try dsimp only at hSw)
              go_simp
              try with_reducible rfl
            try simp only [Act.put, List.setIfInBounds_toArray, List.set_cons_zero, List.set_cons_succ]
            refine wpAnyH_take (i := 4) (oi := { dst := some 50, op := Op.fieldAddr 27 (Operand.tmp 1) 3, type := 0, pos := "ref.go:97", after := #[], guard := none }) (v := ?v4_4) rfl (by kernel_rfl) (by kernel_rfl) (by kernel_rfl) (fun _ _ _ h => h) (Or.inl ⟨by rfl, ?hy4_4⟩) hS ?rest4_4
            case hy4_4 =>
              intro w hSw
              (try dsimp only at hSw)
              go_simp
              try with_reducible rfl
            try simp only [Act.put, List.setIfInBounds_toArray, List.set_cons_zero, List.set_cons_succ]
            refine wpAnyH_take (i := 5) (oi := { dst := some 51, op := Op.load 25 (Operand.tmp 50), type := 25, pos := "ref.go:97", after := #[{ on := 4, ground := Ground.data }], guard := none }) (v := ?v5_5) rfl (by kernel_rfl) (by kernel_rfl) (by kernel_rfl) (fun _ _ _ h => h) (Or.inl ⟨by rfl, ?hy5_5⟩) hS ?rest5_5
            case hy5_5 =>
              intro w hSw
              (try dsimp only at hSw)
              go_simp
              try with_reducible rfl
            try simp only [Act.put, List.setIfInBounds_toArray, List.set_cons_zero, List.set_cons_succ]
            refine wpAnyH_take (i := 6) (oi := { dst := some 52, op := Op.move (Operand.tmp 6), type := 3, pos := "ref.go:97", after := #[], guard := none }) (v := ?v6_6) rfl (by kernel_rfl) (by kernel_rfl) (by kernel_rfl) (fun _ _ _ h => h) (Or.inl ⟨by rfl, ?hy6_6⟩) hS ?rest6_6
            case hy6_6 =>
              intro w hSw
              (try dsimp only at hSw)
              go_simp
              try with_reducible rfl
            try simp only [Act.put, List.setIfInBounds_toArray, List.set_cons_zero, List.set_cons_succ]
            refine wpAnyH_take (i := 7) (oi := { dst := some 53, op := Op.indexAddr 25 (Operand.tmp 51) (Operand.tmp 52), type := 0, pos := "ref.go:97", after := #[{ on := 5, ground := Ground.data }, { on := 6, ground := Ground.data }], guard := none }) (v := ?v7_7) rfl (by kernel_rfl) (by kernel_rfl) (by kernel_rfl) (fun _ _ _ h => h) (Or.inl ⟨by rfl, ?hy7_7⟩) hS ?rest7_7
            case hy7_7 =>
              intro w hSw
              (try dsimp only at hSw)
              go_simp
              try with_reducible rfl
            try simp only [Act.put, List.setIfInBounds_toArray, List.set_cons_zero, List.set_cons_succ]
            refine wpAnyH_take (i := 8) (oi := { dst := some 54, op := Op.load 5 (Operand.tmp 53), type := 5, pos := "ref.go:97", after := #[{ on := 7, ground := Ground.data }], guard := none }) (v := ?v8_8) rfl (by kernel_rfl) (by kernel_rfl) (by kernel_rfl) (fun _ _ _ h => h) (Or.inl ⟨by rfl, ?hy8_8⟩) hS ?rest8_8
            case hy8_8 =>
              intro w hSw
              (try dsimp only at hSw)
              go_simp
              try with_reducible rfl
            try simp only [Act.put, List.setIfInBounds_toArray, List.set_cons_zero, List.set_cons_succ]
            refine wpAnyH_take (i := 9) (oi := { dst := some 55, op := Op.convert 5 3 (Operand.tmp 54), type := 3, pos := "ref.go:97", after := #[{ on := 8, ground := Ground.data }], guard := none }) (v := ?v9_9) rfl (by kernel_rfl) (by kernel_rfl) (by kernel_rfl) (fun _ _ _ h => h) (Or.inl ⟨by rfl, ?hy9_9⟩) hS ?rest9_9
            case hy9_9 =>
              intro w hSw
              (try dsimp only at hSw)
              go_simp
              try with_reducible rfl
            try simp only [Act.put, List.setIfInBounds_toArray, List.set_cons_zero, List.set_cons_succ]
            refine wpAnyH_ready (rs := [3]) (by kernel_rfl) (by simp) ?_
            refine AllReadyH.cons (o := { dst := some 49, op := Op.call { callee := Callee.value (Operand.func 27), args := #[Operand.tmp 47, Operand.tmp 48], argTypes := #[31, 3] }, type := 3, pos := "ref.go:97", after := #[{ on := 1, ground := Ground.data }, { on := 2, ground := Ground.data }], guard := none }) rfl (fun K hK => ?_) AllReadyH.nil
            go_simp
            refine (refPin_any c k _ Hc.out).mono ?_
            rintro e u1 ⟨rfl, hb⟩
            rw [hpin]
            have hw1 := HW0.out.on hb
            have hB1 := hB0.trans (hb.mono hB0.size)
            have rz1 := rz0.below hb rz0.lt
            have e1 := hb.cell (p := ⟨b, off + k, none⟩) hbl
            have hbl1 := Nat.lt_of_lt_of_le hbl hb.size
            have ra1 := ra0.below hb ra0.lt
            have rc1 := rc0.below hb rc0.lt
            clear hb
            have d9 := hw1.1.2 _ _ hy
            have g9 := hw1.2 K3
            have ca1_0 : u1.cell? ⟨B1, 0, none⟩ = some (Value.int .u8 a1) := ra1.cell 0 rfl
            have ca1_1 : u1.cell? ⟨B1, 1, none⟩ = some (Value.int .u8 a2) := ra1.cell 1 rfl
            have ca1_2 : u1.cell? ⟨B1, 2, none⟩ = some (Value.int .u8 a3) := ra1.cell 2 rfl
            have ca1_3 : u1.cell? ⟨B1, 3, none⟩ = some (Value.int .u8 a4) := ra1.cell 3 rfl
            have ca1_4 : u1.cell? ⟨B1, 4, none⟩ = some (Value.int .u8 a5) := ra1.cell 4 rfl
            have ca1_5 : u1.cell? ⟨B1, 5, none⟩ = some (.slice S sn sc) := ra1.cell 5 rfl
            have ca1_6 : u1.cell? ⟨B1, 6, none⟩ = some (.slice P1 pn1 pc1) := ra1.cell 6 rfl
            have ca1_7 : u1.cell? ⟨B1, 7, none⟩ = some (.slice (some ⟨b, off, none⟩) pn2 pc2) := ra1.cell 7 rfl
            have cc1_0 : u1.cell? ⟨B4, 0, none⟩ = some (Value.int .i64 c.wo) := rc1.cell 0 rfl
            have cc1_1 : u1.cell? ⟨B4, 1, none⟩ = some (Value.int .i64 c.sl) := rc1.cell 1 rfl
            have cc1_2 : u1.cell? ⟨B4, 2, none⟩ = some (Value.int .i64 c.st) := rc1.cell 2 rfl
            have cc1_3 : u1.cell? ⟨B4, 3, none⟩ = some (Value.int .i64 c.wa) := rc1.cell 3 rfl
            have cc1_4 : u1.cell? ⟨B4, 4, none⟩ = some (Value.int .i64 c.us) := rc1.cell 4 rfl
            have x1_0 : u1.cell? ⟨b, off + k, none⟩ = some (.int .u8 x) := e1.trans x0_0
            refine hK.out _ _ ⟨ca1_0, ca1_1, ca1_2, ca1_3, ca1_4, ca1_5, ca1_6, ca1_7, cc1_0, cc1_1, cc1_2, cc1_3, cc1_4, x1_0⟩ (fun hS => ?_)
            clear hK K
            try simp only [Act.put, List.setIfInBounds_toArray, List.set_cons_zero, List.set_cons_succ]
            refine wpAnyH_take (i := 10) (oi := { dst := some 56, op := Op.indexAddr 32 (Operand.tmp 46) (Operand.tmp 49), type := 0, pos := "ref.go:97", after := #[{ on := 0, ground := Ground.data }, { on := 3, ground := Ground.data }, { on := 0, ground := Ground.phase }, { on := 1, ground := Ground.phase }, { on := 2, ground := Ground.phase }, { on := 3, ground := Ground.phase }, { on := 4, ground := Ground.phase }, { on := 5, ground := Ground.phase }, { on := 6, ground := Ground.phase }, { on := 7, ground := Ground.phase }, { on := 8, ground := Ground.phase }, { on := 9, ground := Ground.phase }], guard := none }) (v := ?v10_10) rfl (by kernel_rfl) (by kernel_rfl) (by kernel_rfl) (fun _ _ _ h => h) (Or.inl ⟨by rfl, ?hy10_10⟩) hS ?rest10_10
            case hy10_10 =>
              intro w hSw
              (try dsimp only at hSw)
              go_simp
              try with_reducible rfl
            try simp only [Act.put, List.setIfInBounds_toArray, List.set_cons_zero, List.set_cons_succ]
            refine wpAnyH_ready (rs := [11]) (by kernel_rfl) (by simp) ?_
            refine AllReadyH.cons (o := { dst := none, op := Op.store 3 (Operand.tmp 56) (Operand.tmp 55), type := 0, pos := "ref.go:97", after := #[{ on := 10, ground := Ground.data }, { on := 9, ground := Ground.data }, { on := 3, ground := Ground.chain }, { on := 0, ground := Ground.phase }, { on := 1, ground := Ground.phase }, { on := 2, ground := Ground.phase }, { on := 3, ground := Ground.phase }, { on := 4, ground := Ground.phase }, { on := 5, ground := Ground.phase }, { on := 6, ground := Ground.phase }, { on := 7, ground := Ground.phase }, { on := 8, ground := Ground.phase }, { on := 9, ground := Ground.phase }], guard := none }) rfl (fun K hK => ?_) AllReadyH.nil
            go_simp
            have hw2 := hw1.set K3 x
            have hB2 := hB1.setCell (p := ⟨g, K3, none⟩) hg (.int .i64 x)
            have ra2 := ra1.putOther ⟨g, K3, none⟩ hna (.int .i64 x)
            have rc2 := rc1.putOther ⟨g, K3, none⟩ hnc (.int .i64 x)
            have rz2 := rz1.putOther ⟨g, K3, none⟩ hnz (.int .i64 x)
            have e2 := (sp_set (W := u1) (f := g) (j := K3) (v := .int .i64 x)).cell (k := b) (off + k) hbl1 (by simp <;> omega)
            have ca2_0 : (u1.setCell ⟨g, K3, none⟩ (.int .i64 x)).cell? ⟨B1, 0, none⟩ = some (Value.int .u8 a1) := ra2.cell 0 rfl
            have ca2_1 : (u1.setCell ⟨g, K3, none⟩ (.int .i64 x)).cell? ⟨B1, 1, none⟩ = some (Value.int .u8 a2) := ra2.cell 1 rfl
            have ca2_2 : (u1.setCell ⟨g, K3, none⟩ (.int .i64 x)).cell? ⟨B1, 2, none⟩ = some (Value.int .u8 a3) := ra2.cell 2 rfl
            have ca2_3 : (u1.setCell ⟨g, K3, none⟩ (.int .i64 x)).cell? ⟨B1, 3, none⟩ = some (Value.int .u8 a4) := ra2.cell 3 rfl
            have ca2_4 : (u1.setCell ⟨g, K3, none⟩ (.int .i64 x)).cell? ⟨B1, 4, none⟩ = some (Value.int .u8 a5) := ra2.cell 4 rfl
            have ca2_5 : (u1.setCell ⟨g, K3, none⟩ (.int .i64 x)).cell? ⟨B1, 5, none⟩ = some (.slice S sn sc) := ra2.cell 5 rfl
            have ca2_6 : (u1.setCell ⟨g, K3, none⟩ (.int .i64 x)).cell? ⟨B1, 6, none⟩ = some (.slice P1 pn1 pc1) := ra2.cell 6 rfl
            have ca2_7 : (u1.setCell ⟨g, K3, none⟩ (.int .i64 x)).cell? ⟨B1, 7, none⟩ = some (.slice (some ⟨b, off, none⟩) pn2 pc2) := ra2.cell 7 rfl
            have cc2_0 : (u1.setCell ⟨g, K3, none⟩ (.int .i64 x)).cell? ⟨B4, 0, none⟩ = some (Value.int .i64 c.wo) := rc2.cell 0 rfl
            have cc2_1 : (u1.setCell ⟨g, K3, none⟩ (.int .i64 x)).cell? ⟨B4, 1, none⟩ = some (Value.int .i64 c.sl) := rc2.cell 1 rfl
            have cc2_2 : (u1.setCell ⟨g, K3, none⟩ (.int .i64 x)).cell? ⟨B4, 2, none⟩ = some (Value.int .i64 c.st) := rc2.cell 2 rfl
            have cc2_3 : (u1.setCell ⟨g, K3, none⟩ (.int .i64 x)).cell? ⟨B4, 3, none⟩ = some (Value.int .i64 c.wa) := rc2.cell 3 rfl
            have cc2_4 : (u1.setCell ⟨g, K3, none⟩ (.int .i64 x)).cell? ⟨B4, 4, none⟩ = some (Value.int .i64 c.us) := rc2.cell 4 rfl
            have x2_0 : (u1.setCell ⟨g, K3, none⟩ (.int .i64 x)).cell? ⟨b, off + k, none⟩ = some (.int .u8 x) := e2.trans x1_0
            refine hK.out _ _ ⟨ca2_0, ca2_1, ca2_2, ca2_3, ca2_4, ca2_5, ca2_6, ca2_7, cc2_0, cc2_1, cc2_2, cc2_3, cc2_4, x2_0⟩ (fun hS => ?_)
            clear hK K
            try simp only [Act.put, List.setIfInBounds_toArray, List.set_cons_zero, List.set_cons_succ]
            refine wpAnyH_done (by kernel_rfl) ?_ _
            go_wp2_with fail
            go_roundw
            case rel => exact ⟨k + 1, by omega, by omega, by go_num, _, by rw [List.length_set]; exact HL.out, Lib.hid hgd, Lib.hid hw2, Lib.hid hB2, ra2, rc2, rz2⟩
            case measure => simp [intOf]; omega
          · have hc2 : ¬ (k : Int) < (pn2 : Int) := by omega
            go_wp2_with fail
            go_meet
            exact ⟨rfl, xs, hL, hgd, hwb, hbb, hra, hrc, hrz⟩
        · go_wp2_with fail
          go_meet
          exact ⟨rfl, xs, hL, hgd, hwb, hbb, hra, hrc, hrz⟩
    case rest =>
      obtain ⟨rfl, xs1, hL1, hgd1, hwb1, hb1, ra4, rc4, rz4⟩ := hcut
      clear hL0 hgd0 hwb0 hb0 ra3 rc3 rz3
      go_wp2_with fail
      go_loopw [7] (fun j wr => ∃ (k : Nat), (k : Int) ≤ c.sl ∧ k ≤ sn ∧ j = .int .i64 k ∧ ∃ xs : List Int, xs.length = N ∧ Hid (Gd F xs) ∧ Hid (WB wr g xs) ∧ Hid (Below w.heap.size w wr) ∧ RowAt wr B1 27 #[Value.int .u8 a1, Value.int .u8 a2, Value.int .u8 a3, Value.int .u8 a4, Value.int .u8 a5, .slice S sn sc, .slice P1 pn1 pc1, .slice P2 pn2 pc2] ∧ RowAt wr B4 31 #[Value.int .i64 c.wo, Value.int .i64 c.sl, Value.int .i64 c.st, Value.int .i64 c.wa, Value.int .i64 c.us] ∧ RowAt wr B2 31 #[Value.int .i64 0, Value.int .i64 0, Value.int .i64 0, Value.int .i64 0, Value.int .i64 0]) (fun j _ => sn - (intOf j).toNat)
      case atStart => exact ⟨0, by omega, Nat.zero_le _, rfl, xs1, hL1, hgd1, hwb1, hb1, ra4, rc4, rz4⟩
      case round =>
        obtain ⟨k, hk1, hk2, rfl, xs, hL, hgd, hwb, hbb, hra, hrc, hrz⟩ := hrel
        clear hL1 hgd1 hwb1 hb1 ra4 rc4 rz4
        have k5 := hra.cell 5 rfl
        have k1 := hrc.cell 1 rfl
        by_cases c1 : (k : Int) < c.sl
        · by_cases c2 : k < sn
          · have HL := Lib.hid hL
            obtain ⟨x, hx⟩ := sl_some (xs := sl) (k := k) (by rw [HG.out.sn]; exact c2)
            have HX := Lib.hid (HG.out.wf x (List.mem_of_getElem? hx))
            obtain ⟨b, off, eb, hb1, d0, d1, d2, d3, d4, d5, d6, d7, d8⟩ := (HG.out.ls.below hbb.out) k x hx
            subst eb
            have hbl := Nat.lt_of_lt_of_le hb1 hbb.out.size
            have hbg : b ≠ g := by omega
            obtain ⟨y, hy⟩ := num_some (xs := xs) (k := F + k) (by rw [HL.out]; omega)
            have hpin : slotI c k = ((F + k : Nat) : Int) := slotI_nat Hc.out HF.out (by omega)
            obtain ⟨v, hv⟩ : ∃ v, v = encN x := ⟨_, rfl⟩
            have hgd := hgd.out.set (F + k) (v := v) (by rw [hv]; exact enc_bd x) (fun _ => by rw [hv]; exact dec_enc x)
            have Hv := Lib.hid hv
            clear hv
            obtain ⟨K4, eK⟩ : ∃ K4 : Nat, K4 = F + k := ⟨_, rfl⟩
            rw [← eK] at hpin hgd hy
            have hi1 : K4 < N := by omega
            clear eK hx hL
            go_wp2_with fail
            have ra0 := hra.drew
            have rc0 := hrc.drew
            have rz0 := hrz.drew
            have hw0 := hwb.out.drew
            have hB0 := hbb.out.drew
            have x0_0 : wr.drew.cell? ⟨b, off + k * 9, none⟩ = some (Value.int .i64 x.st) := d0
            have x0_1 : wr.drew.cell? ⟨b, off + k * 9 + 1, none⟩ = some (Value.int .i64 x.ow) := d1
            have x0_2 : wr.drew.cell? ⟨b, off + k * 9 + 2, none⟩ = some (Value.int .i64 x.sr) := d2
            have x0_3 : wr.drew.cell? ⟨b, off + k * 9 + 3, none⟩ = some (Value.bool x.br) := d3
            have x0_4 : wr.drew.cell? ⟨b, off + k * 9 + 4, none⟩ = some (Value.bool x.ma) := d4
            have x0_5 : wr.drew.cell? ⟨b, off + k * 9 + 5, none⟩ = some (Value.int .i64 x.us) := d5
            have x0_6 : wr.drew.cell? ⟨b, off + k * 9 + 6, none⟩ = some (Value.int .i64 x.ge) := d6
            have x0_7 : wr.drew.cell? ⟨b, off + k * 9 + 7, none⟩ = some (Value.int .i64 x.ep) := d7
            have x0_8 : wr.drew.cell? ⟨b, off + k * 9 + 8, none⟩ = some (Value.int .i64 x.ve) := d8
            have hbl0 : b < wr.drew.heap.size := hbl
            clear hra hrc hrz hwb hbb d0 d1 d2 d3 d4 d5 d6 d7 d8 k5 k1
            have ca0_0 : wr.drew.cell? ⟨B1, 0, none⟩ = some (Value.int .u8 a1) := ra0.cell 0 rfl
            have ca0_1 : wr.drew.cell? ⟨B1, 1, none⟩ = some (Value.int .u8 a2) := ra0.cell 1 rfl
            have ca0_2 : wr.drew.cell? ⟨B1, 2, none⟩ = some (Value.int .u8 a3) := ra0.cell 2 rfl
            have ca0_3 : wr.drew.cell? ⟨B1, 3, none⟩ = some (Value.int .u8 a4) := ra0.cell 3 rfl
            have ca0_4 : wr.drew.cell? ⟨B1, 4, none⟩ = some (Value.int .u8 a5) := ra0.cell 4 rfl
            have ca0_5 : wr.drew.cell? ⟨B1, 5, none⟩ = some (.slice (some ⟨b, off, none⟩) sn sc) := ra0.cell 5 rfl
            have ca0_6 : wr.drew.cell? ⟨B1, 6, none⟩ = some (.slice P1 pn1 pc1) := ra0.cell 6 rfl
            have ca0_7 : wr.drew.cell? ⟨B1, 7, none⟩ = some (.slice P2 pn2 pc2) := ra0.cell 7 rfl
            have cc0_0 : wr.drew.cell? ⟨B4, 0, none⟩ = some (Value.int .i64 c.wo) := rc0.cell 0 rfl
            have cc0_1 : wr.drew.cell? ⟨B4, 1, none⟩ = some (Value.int .i64 c.sl) := rc0.cell 1 rfl
            have cc0_2 : wr.drew.cell? ⟨B4, 2, none⟩ = some (Value.int .i64 c.st) := rc0.cell 2 rfl
            have cc0_3 : wr.drew.cell? ⟨B4, 3, none⟩ = some (Value.int .i64 c.wa) := rc0.cell 3 rfl
            have cc0_4 : wr.drew.cell? ⟨B4, 4, none⟩ = some (Value.int .i64 c.us) := rc0.cell 4 rfl
            refine wp_region_held_drew (S := (fun w' => w'.cell? ⟨B1, 0, none⟩ = some (Value.int .u8 a1) ∧ w'.cell? ⟨B1, 1, none⟩ = some (Value.int .u8 a2) ∧ w'.cell? ⟨B1, 2, none⟩ = some (Value.int .u8 a3) ∧ w'.cell? ⟨B1, 3, none⟩ = some (Value.int .u8 a4) ∧ w'.cell? ⟨B1, 4, none⟩ = some (Value.int .u8 a5) ∧ w'.cell? ⟨B1, 5, none⟩ = some (.slice (some ⟨b, off, none⟩) sn sc) ∧ w'.cell? ⟨B1, 6, none⟩ = some (.slice P1 pn1 pc1) ∧ w'.cell? ⟨B1, 7, none⟩ = some (.slice P2 pn2 pc2) ∧ w'.cell? ⟨B4, 0, none⟩ = some (Value.int .i64 c.wo) ∧ w'.cell? ⟨B4, 1, none⟩ = some (Value.int .i64 c.sl) ∧ w'.cell? ⟨B4, 2, none⟩ = some (Value.int .i64 c.st) ∧ w'.cell? ⟨B4, 3, none⟩ = some (Value.int .i64 c.wa) ∧ w'.cell? ⟨B4, 4, none⟩ = some (Value.int .i64 c.us) ∧ w'.cell? ⟨b, off + k * 9, none⟩ = some (Value.int .i64 x.st) ∧ w'.cell? ⟨b, off + k * 9 + 1, none⟩ = some (Value.int .i64 x.ow) ∧ w'.cell? ⟨b, off + k * 9 + 2, none⟩ = some (Value.int .i64 x.sr) ∧ w'.cell? ⟨b, off + k * 9 + 3, none⟩ = some (Value.bool x.br) ∧ w'.cell? ⟨b, off + k * 9 + 4, none⟩ = some (Value.bool x.ma) ∧ w'.cell? ⟨b, off + k * 9 + 5, none⟩ = some (Value.int .i64 x.us) ∧ w'.cell? ⟨b, off + k * 9 + 6, none⟩ = some (Value.int .i64 x.ge) ∧ w'.cell? ⟨b, off + k * 9 + 7, none⟩ = some (Value.int .i64 x.ep) ∧ w'.cell? ⟨b, off + k * 9 + 8, none⟩ = some (Value.int .i64 x.ve))) (by kernel_rfl) ⟨ca0_0, ca0_1, ca0_2, ca0_3, ca0_4, ca0_5, ca0_6, ca0_7, cc0_0, cc0_1, cc0_2, cc0_3, cc0_4, x0_0, x0_1, x0_2, x0_3, x0_4, x0_5, x0_6, x0_7, x0_8⟩ (fun hS => ?_)
            generalize wr.drew = u0 at *
            refine wpAnyH_take (i := 0) (oi := { dst := some 70, op := Op.move (Operand.tmp 5), type := 32, pos := "ref.go:100", after := #[], guard := none }) (v := ?v0_11) rfl (by kernel_rfl) (by kernel_rfl) (by kernel_rfl) (fun _ _ _ h => h) (Or.inl ⟨by rfl, ?hy0_11⟩) hS ?rest0_11
            case hy0_11 =>
              intro w hSw
              (try dsimp only at hSw)
              go_simp
              try with_reducible rfl
            try simp only [Act.put, List.setIfInBounds_toArray, List.set_cons_zero, List.set_cons_succ]
            refine wpAnyH_take (i := 1) (oi := { dst := some 71, op := Op.load 31 (Operand.tmp 4), type := 31, pos := "ref.go:100", after := #[], guard := none }) (v := ?v1_12) rfl (by kernel_rfl) (by kernel_rfl) (by kernel_rfl) (fun _ _ _ h => h) (Or.inl ⟨by rfl, ?hy1_12⟩) hS ?rest1_12
            case hy1_12 =>
              intro w hSw
              (try dsimp only at hSw)
              go_simp
              try with_reducible rfl
            try simp only [Act.put, List.setIfInBounds_toArray, List.set_cons_zero, List.set_cons_succ]
            refine wpAnyH_take (i := 2) (oi := { dst := some 72, op := Op.move (Operand.tmp 7), type := 3, pos := "ref.go:100", after := #[], guard := none }) (v := ?v2_13) rfl (by kernel_rfl) (by kernel_rfl) (by kernel_rfl) (fun _ _ _ h => h) (Or.inl ⟨by rfl, ?hy2_13⟩) hS ?rest2_13
            case hy2_13 =>
              intro w hSw
              (try dsimp only at hSw)
              go_simp
              try with_reducible rfl
            try simp only [Act.put, List.setIfInBounds_toArray, List.set_cons_zero, List.set_cons_succ]
            refine wpAnyH_take (i := 4) (oi := { dst := some 74, op := Op.fieldAddr 27 (Operand.tmp 1) 1, type := 0, pos := "ref.go:100", after := #[], guard := none }) (v := ?v4_14) rfl (by kernel_rfl) (by kernel_rfl) (by kernel_rfl) (fun _ _ _ h => h) (Or.inl ⟨by rfl, ?hy4_14⟩) hS ?rest4_14
            case hy4_14 =>
              intro w hSw
              (try dsimp only at hSw)
              go_simp
              try with_reducible rfl
            try simp only [Act.put, List.setIfInBounds_toArray, List.set_cons_zero, List.set_cons_succ]
            refine wpAnyH_take (i := 5) (oi := { dst := some 75, op := Op.load 24 (Operand.tmp 74), type := 24, pos := "ref.go:100", after := #[{ on := 4, ground := Ground.data }], guard := none }) (v := ?v5_15) rfl (by kernel_rfl) (by kernel_rfl) (by kernel_rfl) (fun _ _ _ h => h) (Or.inl ⟨by rfl, ?hy5_15⟩) hS ?rest5_15
            case hy5_15 =>
              intro w hSw
              (try dsimp only at hSw)
              go_simp
              try with_reducible rfl
            try simp only [Act.put, List.setIfInBounds_toArray, List.set_cons_zero, List.set_cons_succ]
            refine wpAnyH_take (i := 6) (oi := { dst := some 76, op := Op.move (Operand.tmp 7), type := 3, pos := "ref.go:100", after := #[], guard := none }) (v := ?v6_16) rfl (by kernel_rfl) (by kernel_rfl) (by kernel_rfl) (fun _ _ _ h => h) (Or.inl ⟨by rfl, ?hy6_16⟩) hS ?rest6_16
            case hy6_16 =>
              intro w hSw
              (try dsimp only at hSw)
              go_simp
              try with_reducible rfl
            try simp only [Act.put, List.setIfInBounds_toArray, List.set_cons_zero, List.set_cons_succ]
            refine wpAnyH_take (i := 7) (oi := { dst := some 77, op := Op.indexAddr 24 (Operand.tmp 75) (Operand.tmp 76), type := 0, pos := "ref.go:100", after := #[{ on := 5, ground := Ground.data }, { on := 6, ground := Ground.data }], guard := none }) (v := ?v7_17) rfl (by kernel_rfl) (by kernel_rfl) (by kernel_rfl) (fun _ _ _ h => h) (Or.inl ⟨by rfl, ?hy7_17⟩) hS ?rest7_17
            case hy7_17 =>
              intro w hSw
              (try dsimp only at hSw)
              go_simp
              try with_reducible rfl
            try simp only [Act.put, List.setIfInBounds_toArray, List.set_cons_zero, List.set_cons_succ]
            refine wpAnyH_take (i := 8) (oi := { dst := some 78, op := Op.load 66 (Operand.tmp 77), type := 66, pos := "ref.go:100", after := #[{ on := 7, ground := Ground.data }], guard := none }) (v := ?v8_18) rfl (by kernel_rfl) (by kernel_rfl) (by kernel_rfl) (fun _ _ _ h => h) (Or.inl ⟨by rfl, ?hy8_18⟩) hS ?rest8_18
            case hy8_18 =>
              intro w hSw
              (try dsimp only at hSw)
              go_simp
              try with_reducible rfl
            try simp only [Act.put, List.setIfInBounds_toArray, List.set_cons_zero, List.set_cons_succ]
            refine wpAnyH_ready (rs := [3]) (by kernel_rfl) (by simp) ?_
            refine AllReadyH.cons (o := { dst := some 73, op := Op.call { callee := Callee.value (Operand.func 24), args := #[Operand.tmp 71, Operand.tmp 72], argTypes := #[31, 3] }, type := 3, pos := "ref.go:100", after := #[{ on := 1, ground := Ground.data }, { on := 2, ground := Ground.data }], guard := none }) rfl (fun K hK => ?_) AllReadyH.nil
            go_simp
            refine (refSlot_any c k _ Hc.out).mono ?_
            rintro e u1 ⟨rfl, hb⟩
            rw [hpin]
            have hw1 := hw0.on hb
            have hB1 := hB0.trans (hb.mono hB0.size)
            have rz1 := rz0.below hb rz0.lt
            have hbl1 := Nat.lt_of_lt_of_le hbl0 hb.size
            have e1_0 := hb.cell (p := ⟨b, (off + k * 9), none⟩) hbl0
            have e1_1 := hb.cell (p := ⟨b, (off + k * 9 + 1), none⟩) hbl0
            have e1_2 := hb.cell (p := ⟨b, (off + k * 9 + 2), none⟩) hbl0
            have e1_3 := hb.cell (p := ⟨b, (off + k * 9 + 3), none⟩) hbl0
            have e1_4 := hb.cell (p := ⟨b, (off + k * 9 + 4), none⟩) hbl0
            have e1_5 := hb.cell (p := ⟨b, (off + k * 9 + 5), none⟩) hbl0
            have e1_6 := hb.cell (p := ⟨b, (off + k * 9 + 6), none⟩) hbl0
            have e1_7 := hb.cell (p := ⟨b, (off + k * 9 + 7), none⟩) hbl0
            have e1_8 := hb.cell (p := ⟨b, (off + k * 9 + 8), none⟩) hbl0
            have ra1 := ra0.below hb ra0.lt
            have rc1 := rc0.below hb rc0.lt
            clear hb
            have ca1_0 : u1.cell? ⟨B1, 0, none⟩ = some (Value.int .u8 a1) := ra1.cell 0 rfl
            have ca1_1 : u1.cell? ⟨B1, 1, none⟩ = some (Value.int .u8 a2) := ra1.cell 1 rfl
            have ca1_2 : u1.cell? ⟨B1, 2, none⟩ = some (Value.int .u8 a3) := ra1.cell 2 rfl
            have ca1_3 : u1.cell? ⟨B1, 3, none⟩ = some (Value.int .u8 a4) := ra1.cell 3 rfl
            have ca1_4 : u1.cell? ⟨B1, 4, none⟩ = some (Value.int .u8 a5) := ra1.cell 4 rfl
            have ca1_5 : u1.cell? ⟨B1, 5, none⟩ = some (.slice (some ⟨b, off, none⟩) sn sc) := ra1.cell 5 rfl
            have ca1_6 : u1.cell? ⟨B1, 6, none⟩ = some (.slice P1 pn1 pc1) := ra1.cell 6 rfl
            have ca1_7 : u1.cell? ⟨B1, 7, none⟩ = some (.slice P2 pn2 pc2) := ra1.cell 7 rfl
            have cc1_0 : u1.cell? ⟨B4, 0, none⟩ = some (Value.int .i64 c.wo) := rc1.cell 0 rfl
            have cc1_1 : u1.cell? ⟨B4, 1, none⟩ = some (Value.int .i64 c.sl) := rc1.cell 1 rfl
            have cc1_2 : u1.cell? ⟨B4, 2, none⟩ = some (Value.int .i64 c.st) := rc1.cell 2 rfl
            have cc1_3 : u1.cell? ⟨B4, 3, none⟩ = some (Value.int .i64 c.wa) := rc1.cell 3 rfl
            have cc1_4 : u1.cell? ⟨B4, 4, none⟩ = some (Value.int .i64 c.us) := rc1.cell 4 rfl
            have x1_0 : u1.cell? ⟨b, off + k * 9, none⟩ = some (Value.int .i64 x.st) := e1_0.trans x0_0
            have x1_1 : u1.cell? ⟨b, off + k * 9 + 1, none⟩ = some (Value.int .i64 x.ow) := e1_1.trans x0_1
            have x1_2 : u1.cell? ⟨b, off + k * 9 + 2, none⟩ = some (Value.int .i64 x.sr) := e1_2.trans x0_2
            have x1_3 : u1.cell? ⟨b, off + k * 9 + 3, none⟩ = some (Value.bool x.br) := e1_3.trans x0_3
            have x1_4 : u1.cell? ⟨b, off + k * 9 + 4, none⟩ = some (Value.bool x.ma) := e1_4.trans x0_4
            have x1_5 : u1.cell? ⟨b, off + k * 9 + 5, none⟩ = some (Value.int .i64 x.us) := e1_5.trans x0_5
            have x1_6 : u1.cell? ⟨b, off + k * 9 + 6, none⟩ = some (Value.int .i64 x.ge) := e1_6.trans x0_6
            have x1_7 : u1.cell? ⟨b, off + k * 9 + 7, none⟩ = some (Value.int .i64 x.ep) := e1_7.trans x0_7
            have x1_8 : u1.cell? ⟨b, off + k * 9 + 8, none⟩ = some (Value.int .i64 x.ve) := e1_8.trans x0_8
            refine hK.out _ _ ⟨ca1_0, ca1_1, ca1_2, ca1_3, ca1_4, ca1_5, ca1_6, ca1_7, cc1_0, cc1_1, cc1_2, cc1_3, cc1_4, x1_0, x1_1, x1_2, x1_3, x1_4, x1_5, x1_6, x1_7, x1_8⟩ (fun hS => ?_)
            clear hK K
            try simp only [Act.put, List.setIfInBounds_toArray, List.set_cons_zero, List.set_cons_succ]
            refine wpAnyH_ready (rs := [9]) (by kernel_rfl) (by simp) ?_
            refine AllReadyH.cons (o := { dst := some 79, op := Op.call { callee := Callee.value (Operand.func 28), args := #[Operand.tmp 78], argTypes := #[66] }, type := 3, pos := "ref.go:100", after := #[{ on := 8, ground := Ground.data }, { on := 3, ground := Ground.chain }], guard := none }) rfl (fun K hK => ?_) AllReadyH.nil
            go_simp
            refine (refWord_any x _ HX.out).mono ?_
            rintro e u2 ⟨rfl, hb⟩
            rw [← Hv.out]
            have hw2 := hw1.on hb
            have hB2 := hB1.trans (hb.mono hB1.size)
            have rz2 := rz1.below hb rz1.lt
            have hbl2 := Nat.lt_of_lt_of_le hbl1 hb.size
            have e2_0 := hb.cell (p := ⟨b, (off + k * 9), none⟩) hbl1
            have e2_1 := hb.cell (p := ⟨b, (off + k * 9 + 1), none⟩) hbl1
            have e2_2 := hb.cell (p := ⟨b, (off + k * 9 + 2), none⟩) hbl1
            have e2_3 := hb.cell (p := ⟨b, (off + k * 9 + 3), none⟩) hbl1
            have e2_4 := hb.cell (p := ⟨b, (off + k * 9 + 4), none⟩) hbl1
            have e2_5 := hb.cell (p := ⟨b, (off + k * 9 + 5), none⟩) hbl1
            have e2_6 := hb.cell (p := ⟨b, (off + k * 9 + 6), none⟩) hbl1
            have e2_7 := hb.cell (p := ⟨b, (off + k * 9 + 7), none⟩) hbl1
            have e2_8 := hb.cell (p := ⟨b, (off + k * 9 + 8), none⟩) hbl1
            have ra2 := ra1.below hb ra1.lt
            have rc2 := rc1.below hb rc1.lt
            clear hb
            have ca2_0 : u2.cell? ⟨B1, 0, none⟩ = some (Value.int .u8 a1) := ra2.cell 0 rfl
            have ca2_1 : u2.cell? ⟨B1, 1, none⟩ = some (Value.int .u8 a2) := ra2.cell 1 rfl
            have ca2_2 : u2.cell? ⟨B1, 2, none⟩ = some (Value.int .u8 a3) := ra2.cell 2 rfl
            have ca2_3 : u2.cell? ⟨B1, 3, none⟩ = some (Value.int .u8 a4) := ra2.cell 3 rfl
            have ca2_4 : u2.cell? ⟨B1, 4, none⟩ = some (Value.int .u8 a5) := ra2.cell 4 rfl
            have ca2_5 : u2.cell? ⟨B1, 5, none⟩ = some (.slice (some ⟨b, off, none⟩) sn sc) := ra2.cell 5 rfl
            have ca2_6 : u2.cell? ⟨B1, 6, none⟩ = some (.slice P1 pn1 pc1) := ra2.cell 6 rfl
            have ca2_7 : u2.cell? ⟨B1, 7, none⟩ = some (.slice P2 pn2 pc2) := ra2.cell 7 rfl
            have cc2_0 : u2.cell? ⟨B4, 0, none⟩ = some (Value.int .i64 c.wo) := rc2.cell 0 rfl
            have cc2_1 : u2.cell? ⟨B4, 1, none⟩ = some (Value.int .i64 c.sl) := rc2.cell 1 rfl
            have cc2_2 : u2.cell? ⟨B4, 2, none⟩ = some (Value.int .i64 c.st) := rc2.cell 2 rfl
            have cc2_3 : u2.cell? ⟨B4, 3, none⟩ = some (Value.int .i64 c.wa) := rc2.cell 3 rfl
            have cc2_4 : u2.cell? ⟨B4, 4, none⟩ = some (Value.int .i64 c.us) := rc2.cell 4 rfl
            have x2_0 : u2.cell? ⟨b, off + k * 9, none⟩ = some (Value.int .i64 x.st) := e2_0.trans x1_0
            have x2_1 : u2.cell? ⟨b, off + k * 9 + 1, none⟩ = some (Value.int .i64 x.ow) := e2_1.trans x1_1
            have x2_2 : u2.cell? ⟨b, off + k * 9 + 2, none⟩ = some (Value.int .i64 x.sr) := e2_2.trans x1_2
            have x2_3 : u2.cell? ⟨b, off + k * 9 + 3, none⟩ = some (Value.bool x.br) := e2_3.trans x1_3
            have x2_4 : u2.cell? ⟨b, off + k * 9 + 4, none⟩ = some (Value.bool x.ma) := e2_4.trans x1_4
            have x2_5 : u2.cell? ⟨b, off + k * 9 + 5, none⟩ = some (Value.int .i64 x.us) := e2_5.trans x1_5
            have x2_6 : u2.cell? ⟨b, off + k * 9 + 6, none⟩ = some (Value.int .i64 x.ge) := e2_6.trans x1_6
            have x2_7 : u2.cell? ⟨b, off + k * 9 + 7, none⟩ = some (Value.int .i64 x.ep) := e2_7.trans x1_7
            have x2_8 : u2.cell? ⟨b, off + k * 9 + 8, none⟩ = some (Value.int .i64 x.ve) := e2_8.trans x1_8
            have d9 := hw2.1.2 _ _ hy
            have g9 := hw2.2 K4
            refine hK.out _ _ ⟨ca2_0, ca2_1, ca2_2, ca2_3, ca2_4, ca2_5, ca2_6, ca2_7, cc2_0, cc2_1, cc2_2, cc2_3, cc2_4, x2_0, x2_1, x2_2, x2_3, x2_4, x2_5, x2_6, x2_7, x2_8⟩ (fun hS => ?_)
            clear hK K
            try simp only [Act.put, List.setIfInBounds_toArray, List.set_cons_zero, List.set_cons_succ]
            refine wpAnyH_take (i := 10) (oi := { dst := some 80, op := Op.indexAddr 32 (Operand.tmp 70) (Operand.tmp 73), type := 0, pos := "ref.go:100", after := #[{ on := 0, ground := Ground.data }, { on := 3, ground := Ground.data }, { on := 0, ground := Ground.phase }, { on := 1, ground := Ground.phase }, { on := 2, ground := Ground.phase }, { on := 3, ground := Ground.phase }, { on := 4, ground := Ground.phase }, { on := 5, ground := Ground.phase }, { on := 6, ground := Ground.phase }, { on := 7, ground := Ground.phase }, { on := 8, ground := Ground.phase }, { on := 9, ground := Ground.phase }], guard := none }) (v := ?v10_19) rfl (by kernel_rfl) (by kernel_rfl) (by kernel_rfl) (fun _ _ _ h => h) (Or.inl ⟨by rfl, ?hy10_19⟩) hS ?rest10_19
            case hy10_19 =>
              intro w hSw
              (try dsimp only at hSw)
              go_simp
              try with_reducible rfl
            try simp only [Act.put, List.setIfInBounds_toArray, List.set_cons_zero, List.set_cons_succ]
            refine wpAnyH_ready (rs := [11]) (by kernel_rfl) (by simp) ?_
            refine AllReadyH.cons (o := { dst := none, op := Op.store 3 (Operand.tmp 80) (Operand.tmp 79), type := 0, pos := "ref.go:100", after := #[{ on := 10, ground := Ground.data }, { on := 9, ground := Ground.data }, { on := 9, ground := Ground.chain }, { on := 0, ground := Ground.phase }, { on := 1, ground := Ground.phase }, { on := 2, ground := Ground.phase }, { on := 3, ground := Ground.phase }, { on := 4, ground := Ground.phase }, { on := 5, ground := Ground.phase }, { on := 6, ground := Ground.phase }, { on := 7, ground := Ground.phase }, { on := 8, ground := Ground.phase }, { on := 9, ground := Ground.phase }], guard := none }) rfl (fun K hK => ?_) AllReadyH.nil
            go_simp
            have hw3 := hw2.set K4 v
            have hB3 := hB2.setCell (p := ⟨g, K4, none⟩) hg (.int .i64 v)
            have ra3 := ra2.putOther ⟨g, K4, none⟩ hna (.int .i64 v)
            have rc3 := rc2.putOther ⟨g, K4, none⟩ hnc (.int .i64 v)
            have rz3 := rz2.putOther ⟨g, K4, none⟩ hnz (.int .i64 v)
            have e3_0 := (sp_set (W := u2) (f := g) (j := K4) (v := .int .i64 v)).cell (k := b) (off + k * 9) hbl2 (by simp <;> omega)
            have e3_1 := (sp_set (W := u2) (f := g) (j := K4) (v := .int .i64 v)).cell (k := b) (off + k * 9 + 1) hbl2 (by simp <;> omega)
            have e3_2 := (sp_set (W := u2) (f := g) (j := K4) (v := .int .i64 v)).cell (k := b) (off + k * 9 + 2) hbl2 (by simp <;> omega)
            have e3_3 := (sp_set (W := u2) (f := g) (j := K4) (v := .int .i64 v)).cell (k := b) (off + k * 9 + 3) hbl2 (by simp <;> omega)
            have e3_4 := (sp_set (W := u2) (f := g) (j := K4) (v := .int .i64 v)).cell (k := b) (off + k * 9 + 4) hbl2 (by simp <;> omega)
            have e3_5 := (sp_set (W := u2) (f := g) (j := K4) (v := .int .i64 v)).cell (k := b) (off + k * 9 + 5) hbl2 (by simp <;> omega)
            have e3_6 := (sp_set (W := u2) (f := g) (j := K4) (v := .int .i64 v)).cell (k := b) (off + k * 9 + 6) hbl2 (by simp <;> omega)
            have e3_7 := (sp_set (W := u2) (f := g) (j := K4) (v := .int .i64 v)).cell (k := b) (off + k * 9 + 7) hbl2 (by simp <;> omega)
            have e3_8 := (sp_set (W := u2) (f := g) (j := K4) (v := .int .i64 v)).cell (k := b) (off + k * 9 + 8) hbl2 (by simp <;> omega)
            have ca3_0 : (u2.setCell ⟨g, K4, none⟩ (.int .i64 v)).cell? ⟨B1, 0, none⟩ = some (Value.int .u8 a1) := ra3.cell 0 rfl
            have ca3_1 : (u2.setCell ⟨g, K4, none⟩ (.int .i64 v)).cell? ⟨B1, 1, none⟩ = some (Value.int .u8 a2) := ra3.cell 1 rfl
            have ca3_2 : (u2.setCell ⟨g, K4, none⟩ (.int .i64 v)).cell? ⟨B1, 2, none⟩ = some (Value.int .u8 a3) := ra3.cell 2 rfl
            have ca3_3 : (u2.setCell ⟨g, K4, none⟩ (.int .i64 v)).cell? ⟨B1, 3, none⟩ = some (Value.int .u8 a4) := ra3.cell 3 rfl
            have ca3_4 : (u2.setCell ⟨g, K4, none⟩ (.int .i64 v)).cell? ⟨B1, 4, none⟩ = some (Value.int .u8 a5) := ra3.cell 4 rfl
            have ca3_5 : (u2.setCell ⟨g, K4, none⟩ (.int .i64 v)).cell? ⟨B1, 5, none⟩ = some (.slice (some ⟨b, off, none⟩) sn sc) := ra3.cell 5 rfl
            have ca3_6 : (u2.setCell ⟨g, K4, none⟩ (.int .i64 v)).cell? ⟨B1, 6, none⟩ = some (.slice P1 pn1 pc1) := ra3.cell 6 rfl
            have ca3_7 : (u2.setCell ⟨g, K4, none⟩ (.int .i64 v)).cell? ⟨B1, 7, none⟩ = some (.slice P2 pn2 pc2) := ra3.cell 7 rfl
            have cc3_0 : (u2.setCell ⟨g, K4, none⟩ (.int .i64 v)).cell? ⟨B4, 0, none⟩ = some (Value.int .i64 c.wo) := rc3.cell 0 rfl
            have cc3_1 : (u2.setCell ⟨g, K4, none⟩ (.int .i64 v)).cell? ⟨B4, 1, none⟩ = some (Value.int .i64 c.sl) := rc3.cell 1 rfl
            have cc3_2 : (u2.setCell ⟨g, K4, none⟩ (.int .i64 v)).cell? ⟨B4, 2, none⟩ = some (Value.int .i64 c.st) := rc3.cell 2 rfl
            have cc3_3 : (u2.setCell ⟨g, K4, none⟩ (.int .i64 v)).cell? ⟨B4, 3, none⟩ = some (Value.int .i64 c.wa) := rc3.cell 3 rfl
            have cc3_4 : (u2.setCell ⟨g, K4, none⟩ (.int .i64 v)).cell? ⟨B4, 4, none⟩ = some (Value.int .i64 c.us) := rc3.cell 4 rfl
            have x3_0 : (u2.setCell ⟨g, K4, none⟩ (.int .i64 v)).cell? ⟨b, off + k * 9, none⟩ = some (Value.int .i64 x.st) := e3_0.trans x2_0
            have x3_1 : (u2.setCell ⟨g, K4, none⟩ (.int .i64 v)).cell? ⟨b, off + k * 9 + 1, none⟩ = some (Value.int .i64 x.ow) := e3_1.trans x2_1
            have x3_2 : (u2.setCell ⟨g, K4, none⟩ (.int .i64 v)).cell? ⟨b, off + k * 9 + 2, none⟩ = some (Value.int .i64 x.sr) := e3_2.trans x2_2
            have x3_3 : (u2.setCell ⟨g, K4, none⟩ (.int .i64 v)).cell? ⟨b, off + k * 9 + 3, none⟩ = some (Value.bool x.br) := e3_3.trans x2_3
            have x3_4 : (u2.setCell ⟨g, K4, none⟩ (.int .i64 v)).cell? ⟨b, off + k * 9 + 4, none⟩ = some (Value.bool x.ma) := e3_4.trans x2_4
            have x3_5 : (u2.setCell ⟨g, K4, none⟩ (.int .i64 v)).cell? ⟨b, off + k * 9 + 5, none⟩ = some (Value.int .i64 x.us) := e3_5.trans x2_5
            have x3_6 : (u2.setCell ⟨g, K4, none⟩ (.int .i64 v)).cell? ⟨b, off + k * 9 + 6, none⟩ = some (Value.int .i64 x.ge) := e3_6.trans x2_6
            have x3_7 : (u2.setCell ⟨g, K4, none⟩ (.int .i64 v)).cell? ⟨b, off + k * 9 + 7, none⟩ = some (Value.int .i64 x.ep) := e3_7.trans x2_7
            have x3_8 : (u2.setCell ⟨g, K4, none⟩ (.int .i64 v)).cell? ⟨b, off + k * 9 + 8, none⟩ = some (Value.int .i64 x.ve) := e3_8.trans x2_8
            refine hK.out _ _ ⟨ca3_0, ca3_1, ca3_2, ca3_3, ca3_4, ca3_5, ca3_6, ca3_7, cc3_0, cc3_1, cc3_2, cc3_3, cc3_4, x3_0, x3_1, x3_2, x3_3, x3_4, x3_5, x3_6, x3_7, x3_8⟩ (fun hS => ?_)
            clear hK K
            try simp only [Act.put, List.setIfInBounds_toArray, List.set_cons_zero, List.set_cons_succ]
            refine wpAnyH_done (by kernel_rfl) ?_ _
            go_wp2_with fail
            go_roundw
            case rel => exact ⟨k + 1, by omega, by omega, by go_num, _, by rw [List.length_set]; exact HL.out, Lib.hid hgd, Lib.hid hw3, Lib.hid hB3, ra3, rc3, rz3⟩
            case measure => simp [intOf]; omega
          · have hc2 : ¬ (k : Int) < (sn : Int) := by omega
            have z : RowAt wr B2 31 #[Value.int .i64 0, Value.int .i64 0, Value.int .i64 0, Value.int .i64 0, Value.int .i64 0] := hrz
            have zc : RowAt wr B4 31 #[Value.int .i64 c.wo, Value.int .i64 c.sl, Value.int .i64 c.st, Value.int .i64 c.wa, Value.int .i64 c.us] := hrc
            go_wp2_with (first | (refine wpList_load_row rfl 31 _ rfl _ rfl 31 _ (0, 0) _ zc Try.underlying31 rfl (by kernel_rfl) ?_) | (refine wpList_store_row rfl 31 _ _ rfl _ #[Value.int .i64 c.wo, Value.int .i64 c.sl, Value.int .i64 c.st, Value.int .i64 c.wa, Value.int .i64 c.us] rfl rfl 31 _ z (by kernel_rfl) rfl (by simp [Value.oneCell']) ?_))
            refine bodyPost_ret (res_pair35 rfl _ _ B2 _ rfl (hrz.set _) rfl) rfl ?_
            exact ⟨c, g, N, xs, Hf.out, by rw [← HN.out]; rfl, Nat.le_of_eq HN.out.symm, by rw [← HN.out]; exact hL, by rw [HF.out]; exact hgd.out, (hwb.out.spx (sp_row (b := B2) (us := #[Value.int .i64 c.wo, Value.int .i64 c.sl, Value.int .i64 c.st, Value.int .i64 c.wa, Value.int .i64 c.us])) (by simpa using hnz.symm)).1, hg, below_setRow hbb.out hz0 _⟩
        · have z : RowAt wr B2 31 #[Value.int .i64 0, Value.int .i64 0, Value.int .i64 0, Value.int .i64 0, Value.int .i64 0] := hrz
          have zc : RowAt wr B4 31 #[Value.int .i64 c.wo, Value.int .i64 c.sl, Value.int .i64 c.st, Value.int .i64 c.wa, Value.int .i64 c.us] := hrc
          go_wp2_with (first | (refine wpList_load_row rfl 31 _ rfl _ rfl 31 _ (0, 0) _ zc Try.underlying31 rfl (by kernel_rfl) ?_) | (refine wpList_store_row rfl 31 _ _ rfl _ #[Value.int .i64 c.wo, Value.int .i64 c.sl, Value.int .i64 c.st, Value.int .i64 c.wa, Value.int .i64 c.us] rfl rfl 31 _ z (by kernel_rfl) rfl (by simp [Value.oneCell']) ?_))
          refine bodyPost_ret (res_pair35 rfl _ _ B2 _ rfl (hrz.set _) rfl) rfl ?_
          exact ⟨c, g, N, xs, Hf.out, by rw [← HN.out]; rfl, Nat.le_of_eq HN.out.symm, by rw [← HN.out]; exact hL, by rw [HF.out]; exact hgd.out, (hwb.out.spx (sp_row (b := B2) (us := #[Value.int .i64 c.wo, Value.int .i64 c.sl, Value.int .i64 c.st, Value.int .i64 c.wa, Value.int .i64 c.us])) (by simpa using hnz.symm)).1, hg, below_setRow hbb.out hz0 _⟩
end Go.Proofs.Ytalmadeibnekoaa
