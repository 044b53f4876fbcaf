/- The entries of bytes, or why there are none; nothing that was there changes. -/
import Derived.Test.YtbkaiffecnomjaaCut
import Derived.Test.YtbkaiffecnomjaaRange
import Derived.Maps.OwnIn
import Derived.WalkMore
namespace Go.Proofs.Ytbkaiffecnomjaa
open Go.RowKit Go.Shelf
attribute [local go_sem] Oper.semAt_some

/-- what Decode tells -/
def RetDec (w : World) (b : List Int) (e : Ending) (w' : World) : Prop := ∃ A c, e = .returned (.tuple #[.slice A (decL b).length c, .int .i64 (decE b)]) ∧ (decL b).length ≤ c ∧ LS w' w'.heap.size A (decL b) ∧ Below w.heap.size w w'
theorem RetDec.no {w w' : World} {b : List Int} {z : Int} (h : decE b = z ∧ decL b = []) (hb : Below w.heap.size w w') : RetDec w b (.returned (.tuple #[.slice none 0 0, .int .i64 z])) w' := by
  refine ⟨none, 0, ?_, ?_, ?_, hb⟩
  · rw [h.1, h.2]; rfl
  · rw [h.2]; exact Nat.le_refl _
  · rw [h.2]; exact ls_nil _ _ _
theorem make_entries (m : Nat) (hm : m ≤ 1000000) : ∃ Z : Array Value, (∀ W : World, (Instr.makeSlice 22 (.int .i64 0) (.int .i64 (m : Int))).run Try.prog W = .ok (.slice (some ⟨W.heap.size, 0, none⟩) 0 m) (W.alloc (.cells Z 32))) ∧ ∀ w W : World, Below w.heap.size w W → LMine w (W.alloc (.cells Z 32)) (.slice (some ⟨W.heap.size, 0, none⟩) 0 m) [] := by
  obtain ⟨i0, hi, hz0, hz1, hz2⟩ := info_parts infoE
  refine ⟨madeCells (Value.agg (eL en0).toArray).cells (m * i0.size), fun W => ?_, fun w W hb => ⟨?_, hb.alloc hb.size _⟩⟩
  · have h := run_make (P := Try.prog) W 22 32 i0 _ Try.underlying22 hi hz0 .i64 .i64 0 m (by omega) (by omega) (by rw [hz2]; omega) (by omega)
    simpa using h
  · exact World.ownsRow_made W _ m hb.size (by unfold maxLen; omega) (by rw [size_madeCells, hz1])
/-- the box B holds a slice of its own with the entries xs; neither is one of Y -/
def OwnBox (B base : Nat) (Y : Set') (xs : List En) (W : World) : Prop := ∃ v, Boxed W B 22 v ∧ W.ownsRow base 32 11 v xs.length (xs.flatMap eL) ∧ ∀ b, v.ownBlock = some b → ¬ Y b
theorem own_grow {X X' : Set'} {A B : World} {base n : Nat} {v : Value} {xs : List Value} (h : A.ownsRow base 32 11 v n xs) (hg : Grow X A X' B) (hx : ∀ b, v.ownBlock = some b → ¬ X b) : B.ownsRow base 32 11 v n xs := by
  refine ⟨h.1, h.2.imp id fun ⟨g, cap, cur, h1, h2, h3⟩ => ⟨g, cap, cur, h1, h2, ?_⟩⟩
  subst h1
  have hb := (Array.getElem?_eq_some_iff.1 h3.1).1
  exact ⟨(hg.block g hb (hx g rfl)).trans h3.1, h3.2⟩
theorem own_lt {A : World} {base n : Nat} {v : Value} {xs : List Value} (h : A.ownsRow base 32 11 v n xs) {b : Nat} (hb : v.ownBlock = some b) : b < A.heap.size := by
  rcases h.2 with ⟨rfl, _⟩ | ⟨g, cap, cur, rfl, h2, h3⟩
  · simp [Value.ownBlock] at hb
  · obtain rfl : g = b := by simpa [Value.ownBlock] using hb
    exact (Array.getElem?_eq_some_iff.1 h3.1).1
/-- what stands between the rounds -/
def InvD (n0 : Nat) (W0 : World) (Y : Set') (pre : List Pc) (V : World) : Prop :=
  Gn n0 W0 Y V ∧ V.heap[n0 + 1 + 1]? = W0.heap[n0 + 1 + 1]? ∧ OwnBox (n0 + 1) n0 (plus Y (fun k => k = n0 + 1 + 1)) (pre.map rdE) V ∧ pre.all good = true
/-- what stands where it is left -/
def OutD (l : List Int) (n0 q : Nat) (W0 : World) (cd : Code) (Y : Set') (_ : List Pc) (V : World) : Prop :=
  cd = .exit 1 ∧ Gn n0 W0 Y V ∧ (∃ A2 k c2, Boxed V (n0 + 1) 22 (.slice A2 k c2) ∧ k < q) ∧ (pcs l).all good = false
theorem InvD.ab {n0 : Nat} {W0 : World} (hn1 : n0 ≤ W0.heap.size) (hn3 : n0 + 1 + 1 < W0.heap.size) : Ab (InvD n0 W0) := by
  intro X X' s A B h hg
  obtain ⟨h1, h0, ⟨v, h3, h4, h5⟩, h6⟩ := h
  have hl := h1.size
  refine ⟨h1.grow hn1 hg, ?_, ⟨v, h1.boxed (by omega) h3 hg, own_grow h4 hg (fun b hb e => h5 b hb (.inl e)), fun b hb e => ?_⟩, h6⟩
  · exact (hg.block _ (by omega) (fun e => by have := (h1.new _ e).1; omega)).trans h0
  · have := own_lt h4 hb
    refine e.elim (fun e => ?_) (fun e => h5 b hb (.inr e))
    exact (hg.new _ e).elim (fun e => h5 b hb (.inl e)) (fun e => by omega)
theorem wpListIn_append_en {F : Fence} {n : Nat} (w : World) {ops : Array Oper} {rest : List Oper} {o : Oper} {a : Act} {Q : Exit → Act → World → Prop}
    (hg : o.guard = none) (s x : Operand) (hop : o.op = Op.call { callee := Callee.builtin Builtin.append, args := #[s, x], argTypes := #[22, 22] })
    (base : Nat) (v : Value) (k : Nat) (xs : List Value) (hs : a.eval s = v) (hown : w.ownsRow base 32 11 v k xs) (b c : Nat) (y : En) (hx : a.eval x = .slice (some ⟨b, 0, none⟩) 1 c)
    (hc : w.rangeAt b 0 (eL y)) (b1 : k ≤ 1000000) (b3 : base ≤ w.heap.size)
    (hK : ∀ v' w', w'.ownsRow base 32 11 v' (k + 1) (xs ++ eL y) → w.grownBy w' v.ownBlock → (v'.ownBlock = v.ownBlock ∨ v'.ownBlock = some w.heap.size) → wpListIn F n Try.prog ops Q rest (a.put o.dst v') w') :
    wpListIn F n Try.prog ops Q (o :: rest) a w := by
  obtain ⟨i0, hi, hz0, hz1, hz2⟩ := info_parts infoE
  refine wpListIn_append_own_at (w := w) hg s x 22 hop base 32 i0 _ 11 80 Try.underlying22 hi hz0 hz1 hz2 rfl (by decide) v k xs hs hown ⟨b, 0, none⟩ 1 c (eL y) hx rfl (fun j u hj => ?_) (eL_one y) (by unfold maxLen; omega) (by omega) b3 (fun v' w' h1 h2 _ h4 => hK v' w' h1 h2 h4)
  have h1 := hc j u hj
  have ha : (⟨b, 0, none⟩ : Addr).add j = ⟨b, 0 + j, none⟩ := by unfold Addr.add; split <;> simp_all
  rw [ha]
  exact h1
theorem own_ge {A : World} {base n : Nat} {v : Value} {xs : List Value} (h : A.ownsRow base 32 11 v n xs) {b : Nat} (hb : v.ownBlock = some b) : base ≤ b := by
  rcases h.2 with ⟨rfl, _⟩ | ⟨g, cap, cur, rfl, h2, h3⟩
  · simp [Value.ownBlock] at hb
  · obtain rfl : g = b := by simpa [Value.ownBlock] using hb
    exact h2
theorem wpIn_scope {n : Nat} {P : Program} {c : Code} {Q : Exit → Act → World → Prop} {a : Act} {w : World} (h : c.wpIn Fence.wide n P (Exit.noGoto Q) a w) : (Code.scope c).wpIn Fence.wide n P Q a w := wpIn_wide.2 (wp_scope_straight (wpIn_wide.1 h))
theorem eg24 : ∀ args w, (callFunc 24 args).run Try.prog w = .ok (.enter 24 args) w := enters_of Try.func24 (by kernel_rfl) rfl
set_option maxRecDepth 100000 in
set_option maxHeartbeats 2000000 in
theorem dec_any (A : Option Addr) (n c : Nat) (l : List Int) (w : World) (hn : l.length = n) (hcap : n ≤ c) (hI : BS w w.heap.size A l) (hR : Bys l) (hlen : n ≤ 100000) :
    Calls Try.prog 14 #[.slice A n c] w (RetDec w l) := by
  have Hn := Lib.hid hn
  have HI := Lib.hid hI
  clear hn hI
  obtain ⟨q, hq⟩ : ∃ q, q = n / 12 := ⟨_, rfl⟩
  have hq1 : (n : Int) / 12 = (q : Int) := by omega
  have Hq := Lib.hid hq
  clear hq
  refine (callsIn_wide (n := 6)).1 ?_
  refine callsIn_of_wp_marks Try.func14 rfl trivial ?_ rfl
  simp only [Try.ntmps14, List.size_toArray, List.length_cons, List.length_nil, Nat.reduceAdd, Nat.reduceSub, Array.replicate_succ, Array.replicate_zero, List.push_toArray, List.append_toArray, List.nil_append, List.cons_append]
  gi_wp2
  refine wpIn_scope ?_
  by_cases h12 : n % 12 = 0
  · have h12b : ((n : Int) % 12 != 0) = false := by simp; omega
    by_cases hbig : 1000 < q
    · have hb2 : (1000 : Int) < (q : Int) := by omega
      have Hy := Lib.hid (dec_long (b := l) (by rw [Hn.out]; exact h12) (by rw [Hn.out, ← Hq.out]; exact hbig))
      gi_wp2
      exact ⟨.tuple #[.slice none 0 0, .int .i64 13], by simp [results, Try.f14, go_sem], RetDec.no Hy.out (Below.refl _ _)⟩
    · have hb2 : ¬ (1000 : Int) < (q : Int) := by omega
      have hq2 : q ≤ 1000 := by omega
      obtain ⟨Z, hZ, hO⟩ := make_entries q (by omega)
      have HO := Lib.hid hO
      clear hO
      gi_wp2
      refine wpIn_label ?_
      gi_wp2_with (first
        | (refine ⟨trivial, ?_⟩; gi_at_call 20; refine (cut_in _ A n c _).mono ?_; rintro e w2 ⟨rfl, rfl⟩))
      have hm1 := (HO.out w w (Below.refl _ _)).own
      have hown0 := (hm1.alloc (.cells #[.slice (some ⟨w.heap.size, 0, none⟩) 0 q] 22)).alloc (.cells #[.slice A n c] 24)
      have b2 := (Boxed.new (w.alloc (.cells Z 32)) 22 (.slice (some ⟨w.heap.size, 0, none⟩) 0 q)).alloc (.cells #[.slice A n c] 24)
      have bt := Boxed.new ((w.alloc (.cells Z 32)).alloc (.cells #[.slice (some ⟨w.heap.size, 0, none⟩) 0 q] 22)) 24 (.slice A n c)
      have hB : Below w.heap.size w (((w.alloc (.cells Z 32)).alloc (.cells #[.slice (some ⟨w.heap.size, 0, none⟩) 0 q] 22)).alloc (.cells #[.slice A n c] 24)) := bstep (bstep (bnew _ _) (bnew _ _)) (bnew _ _)
      simp only [World.size_alloc] at b2 bt
      obtain ⟨n0, hn0⟩ : ∃ n, n = w.heap.size := ⟨_, rfl⟩
      obtain ⟨W0, hW0⟩ : ∃ W0, W0 = ((w.alloc (.cells Z 32)).alloc (.cells #[.slice (some ⟨w.heap.size, 0, none⟩) 0 q] 22)).alloc (.cells #[.slice A n c] 24) := ⟨_, rfl⟩
      rw [← hW0] at hown0 b2 bt hB ⊢
      rw [← hn0] at hown0 b2 bt ⊢
      have hbl := bt.lt
      have hn1 : n0 ≤ W0.heap.size := by omega
      have hn2 : n0 + 1 < W0.heap.size := by omega
      have hSt : StP A c l (n0 + 1 + 1) W0 := ⟨by rw [Hn.out]; exact bt.cell, HI.out.on hB⟩
      have HB := Lib.hid hB
      have hE : ∀ k, EP A l (n0 + 1 + 1) k → k < n0 ∨ k = n0 + 1 + 1 := fun k hk => by
        rcases hk with rfl | ⟨i, x, off, hi, rfl⟩
        · exact .inr rfl
        · obtain ⟨b, off2, e1, h1, _⟩ := HI.out i x hi
          injection e1 with e1
          injection e1 with e1
          subst e1
          exact .inl (by rw [hn0]; exact h1)
      have HE := Lib.hid hE
      have hpq : (pcs l).length = q := by rw [pcs_len, Hn.out, Hq.out]
      have HP := Lib.hid hpq
      have HR := Lib.hid hR
      have Hn0 := Lib.hid hn0
      have H12 := Lib.hid h12
      have Hbig := Lib.hid hbig
      clear hW0 hB hn0 hm1 hE hpq hR h12b hb2 h12 hbig hZ
      refine wpIn_rangeB (fun p => .cells #[Value.int .u8 p.b0, Value.int .u8 p.b1, Value.int .u8 p.b2, Value.int .u8 p.b3, Value.int .u8 p.b4, Value.int .u8 p.b5, Value.int .u8 p.b6, Value.int .u8 p.b7, Value.int .u8 p.b8, Value.int .u8 p.b9, Value.int .u8 p.b10, Value.int .u8 p.b11] 43) (enc := enP) (fi := #[]) (lb := #[ptr (n0 + 1 + 1)]) rfl eg24 (cut_it A c l (n0 + 1 + 1) (by rw [Hn.out]; exact hlen) (by rw [Hn.out]; exact hcap)) hSt (fun _ => rfl)
        (InvD n0 W0) (OutD l n0 q W0) (InvD.ab hn1 hbl) ?abx ⟨Gn.refl _ _, rfl, ⟨_, b2, hown0, fun b hb e => ?own0⟩, rfl⟩
        (fun p B => { tmps := #[.slice A n c, undef, .slice none 0 0, .int .i64 0, .int .i64 (q : Int), ptr (n0 + 1), ptr B, undef, .slice A n c, .int .i64 (n : Int), .int .i64 (q : Int), .bool false, .slice A n c, .int .i64 (n : Int), .int .i64 ((n : Int) % 12), .bool false, .bool false, .int .i64 (q : Int), .bool false, .int .i64 (q : Int), .slice (some ⟨n0, 0, none⟩) 0 q, .slice A n c, .func (.func 24) #[] #[ptr (n0 + 1 + 1)], Value.agg #[Value.int .u8 p.b0, Value.int .u8 p.b1, Value.int .u8 p.b2, Value.int .u8 p.b3, Value.int .u8 p.b4, Value.int .u8 p.b5, Value.int .u8 p.b6, Value.int .u8 p.b7, Value.int .u8 p.b8, Value.int .u8 p.b9, Value.int .u8 p.b10, Value.int .u8 p.b11], undef, undef, undef, undef, undef, undef, undef, undef, undef, undef, undef, undef, undef, undef, undef, undef, undef, undef, undef], defers := [] }) ?assign ?body ?done ?stop
      case own0 =>
        simp [Value.ownBlock] at hb
        subst hb
        exact e.elim id (fun e => by omega)
      case abx =>
        intro cd X X' s A B h hg
        obtain ⟨h0, h1, ⟨A2, k, c2, h2, h3⟩, h4⟩ := h
        exact ⟨h0, h1.grow hn1 hg, ⟨A2, k, c2, h1.boxed hn2 h2 hg, h3⟩, h4⟩
      case assign =>
        intro l1 y V K hK
        gi_wp2
        exact hK
      case body =>
        rintro l1 Y pre p B V hl1 hi hpp hBx hYB hEB hB1 hB2
        have r0 : RowAt V B 43 #[Value.int .u8 p.b0, Value.int .u8 p.b1, Value.int .u8 p.b2, Value.int .u8 p.b3, Value.int .u8 p.b4, Value.int .u8 p.b5, Value.int .u8 p.b6, Value.int .u8 p.b7, Value.int .u8 p.b8, Value.int .u8 p.b9, Value.int .u8 p.b10, Value.int .u8 p.b11] := hBx
        have hbp : By p := by obtain ⟨k, hk⟩ := pcs_mem (hpp.subset (List.mem_append_right pre (List.mem_singleton.2 rfl))); exact by_pcs HR.out hk
        have Hbp := Lib.hid hbp
        have Hpp := Lib.hid hpp
        have Hi := Lib.hid hi
        have c0 : V.cell? ⟨B, 0, none⟩ = some (vB p.b0) := r0.cell 0 rfl
        have c1 : V.cell? ⟨B, 1, none⟩ = some (vB p.b1) := r0.cell 1 rfl
        have c2 : V.cell? ⟨B, 2, none⟩ = some (vB p.b2) := r0.cell 2 rfl
        have c3 : V.cell? ⟨B, 3, none⟩ = some (vB p.b3) := r0.cell 3 rfl
        have c4 : V.cell? ⟨B, 4, none⟩ = some (vB p.b4) := r0.cell 4 rfl
        have c5 : V.cell? ⟨B, 5, none⟩ = some (vB p.b5) := r0.cell 5 rfl
        have c6 : V.cell? ⟨B, 6, none⟩ = some (vB p.b6) := r0.cell 6 rfl
        have c7 : V.cell? ⟨B, 7, none⟩ = some (vB p.b7) := r0.cell 7 rfl
        have c8 : V.cell? ⟨B, 8, none⟩ = some (vB p.b8) := r0.cell 8 rfl
        have c9 : V.cell? ⟨B, 9, none⟩ = some (vB p.b9) := r0.cell 9 rfl
        have c10 : V.cell? ⟨B, 10, none⟩ = some (vB p.b10) := r0.cell 10 rfl
        have c11 : V.cell? ⟨B, 11, none⟩ = some (vB p.b11) := r0.cell 11 rfl
        have hread := fun w => read_any p w hbp
        have hright := fun w => right_any (rdE p) w
        obtain ⟨x, ex⟩ : ∃ x, x = rdE p := ⟨_, rfl⟩
        rw [← ex] at hread hright
        have Ex := Lib.hid ex
        have Hgood := Lib.hid (show good p = (decide (p.b3 ≤ 7) && rtB x) by rw [ex]; rfl)
        have hsz : W0.heap.size ≤ V.heap.size := hi.1.size
        have hnw := hi.1.new
        have HEl := Lib.hid (show ∀ k, EP A l (n0 + 1 + 1) k ∨ Y k → k < V.heap.size from fun k hk => hk.elim (fun h => (HE.out k h).elim (fun e => by omega) (fun e => by omega)) (fun h => (hnw k h).2))
        have hpl : pre.length + 1 ≤ q := by have := hpp.length_le; simp at this; have := HP.out; omega
        have HBad := Lib.hid (show good p = false → (pcs l).all good = false from fun h => by
          obtain ⟨k, hk⟩ := pcs_mem (hpp.subset (List.mem_append_right pre (List.mem_singleton.2 rfl)))
          exact all_fail hk h)
        have HOut := Lib.hid (show ∀ w2, Below V.heap.size V w2 → good p = false → Kept (EP A l (n0 + 1 + 1)) Y V w2 ∧ OutD l n0 q W0 (.exit 1) Y (pre ++ [p]) w2 from fun w2 hb hg => by
          have hi2 := InvD.ab hn1 hbl Y Y pre V w2 Hi.out (Grow.of_below hb)
          obtain ⟨g1, g2, ⟨v, g3, g4, g5⟩, g6⟩ := hi2
          obtain ⟨A1, c1, rfl⟩ := own_form g4
          exact ⟨fun k hk => hb.block k (HEl.out k hk), rfl, g1, ⟨A1, _, c1, g3, by rw [List.length_map]; omega⟩, HBad.out hg⟩)
        have HRead := Lib.hid hread
        have HRight := Lib.hid hright
        clear hi hBx hpp hbp ex hread hright hnw
        by_cases h7 : 7 < p.b3
        · have Hg := Lib.hid (show good p = false by rw [Hgood.out, decide_eq_false (by omega)]; rfl)
          gi_wp2_with (refine ⟨trivial, ?_⟩; gi_at_call 19; refine (CallsIn.inRound l1 (callsIn_wide.2 (HRead.out _))).mono ?_; rintro e w1 ⟨rfl, hb1⟩; have r1 := r0.below hb1 r0.lt; have e3 : w1.cell? ⟨B, 3, none⟩ = some (vB p.b3) := r1.cell 3 rfl; have l3 := r1.lt)
          exact HOut.out _ (bstep hb1 (bnew _ _)) Hg.out
        · cases hq : rtB x with
          | false =>
            have Hg := Lib.hid (show good p = false by rw [Hgood.out, hq, Bool.and_false])
            rw [hq] at HRight
            clear hq
            gi_wp2_with (first
              | (refine ⟨trivial, ?_⟩; gi_at_call 19; refine (CallsIn.inRound l1 (callsIn_wide.2 (HRead.out _))).mono ?_; rintro e w1 ⟨rfl, hb1⟩; have r1 := r0.below hb1 r0.lt; have e3 : w1.cell? ⟨B, 3, none⟩ = some (vB p.b3) := r1.cell 3 rfl; have l3 := r1.lt)
              | (refine ⟨trivial, ?_⟩; gi_at_call 12; refine (CallsIn.inRound l1 (callsIn_wide.2 (HRight.out _))).mono ?_; rintro e w3 ⟨rfl, hb3⟩))
            exact HOut.out _ (bstep (bstep hb1 (bnew _ _)) hb3) Hg.out
          | true =>
            have Hg := Lib.hid (show good p = true by rw [Hgood.out, hq, decide_eq_true (show p.b3 ≤ 7 by omega)]; rfl)
            rw [hq] at HRight
            clear hq HOut HBad
            gi_wp2_with (first
              | (refine ⟨trivial, ?_⟩; gi_at_call 19; refine (CallsIn.inRound l1 (callsIn_wide.2 (HRead.out _))).mono ?_; rintro e w1 ⟨rfl, hb1⟩; have r1 := r0.below hb1 r0.lt; have e3 : w1.cell? ⟨B, 3, none⟩ = some (vB p.b3) := r1.cell 3 rfl; have l3 := r1.lt)
              | (refine ⟨trivial, ?_⟩; gi_at_call 12; refine (CallsIn.inRound l1 (callsIn_wide.2 (HRight.out _))).mono ?_; rintro e w3 ⟨rfl, hb3⟩; have hb13 := bstep (bstep hb1 (bnew w1 _)) hb3; obtain ⟨hG, hq0, ⟨v, bO1, hown, hYv⟩, hall⟩ := InvD.ab hn1 hbl Y Y pre V w3 Hi.out (Grow.of_below hb13); obtain ⟨A1, c1, rfl⟩ := own_form hown; rw [List.length_map] at hown bO1 hYv; have cO := bO1.cell; have fO := bO1.frozen; have lO := bO1.lt; have r7 := (RowAt.new w1 32 #[Value.int .i64 x.k, Value.int .i64 x.w, Value.int .i64 x.op, Value.int .i64 x.dl, Value.bool x.wa, Value.bool x.fo, Value.int .i64 x.sl, Value.int .i64 x.ge, Value.int .i64 x.st, Value.int .i64 x.n, Value.bool x.gd]).below hb3 (by simp); have k0 : w3.cell? ⟨w1.heap.size, 0, none⟩ = some (vI x.k) := r7.cell 0 rfl; have k1 : w3.cell? ⟨w1.heap.size, 1, none⟩ = some (vI x.w) := r7.cell 1 rfl; have k2 : w3.cell? ⟨w1.heap.size, 2, none⟩ = some (vI x.op) := r7.cell 2 rfl; have k3 : w3.cell? ⟨w1.heap.size, 3, none⟩ = some (vI x.dl) := r7.cell 3 rfl; have k4 : w3.cell? ⟨w1.heap.size, 4, none⟩ = some (.bool x.wa) := r7.cell 4 rfl; have k5 : w3.cell? ⟨w1.heap.size, 5, none⟩ = some (.bool x.fo) := r7.cell 5 rfl; have k6 : w3.cell? ⟨w1.heap.size, 6, none⟩ = some (vI x.sl) := r7.cell 6 rfl; have k7 : w3.cell? ⟨w1.heap.size, 7, none⟩ = some (vI x.ge) := r7.cell 7 rfl; have k8 : w3.cell? ⟨w1.heap.size, 8, none⟩ = some (vI x.st) := r7.cell 8 rfl; have k9 : w3.cell? ⟨w1.heap.size, 9, none⟩ = some (vI x.n) := r7.cell 9 rfl; have k10 : w3.cell? ⟨w1.heap.size, 10, none⟩ = some (.bool x.gd) := r7.cell 10 rfl)
              | (gi_at_builtin; refine wpListIn_append_en _ rfl _ _ rfl n0 _ pre.length _ rfl (hown.alloc _) w3.heap.size 1 x rfl ?c1 ?c2 ?c3 ?_))
            case c1 => exact range_row (RowAt.new w3 32 #[Value.int .i64 x.k, Value.int .i64 x.w, Value.int .i64 x.op, Value.int .i64 x.dl, Value.bool x.wa, Value.bool x.fo, Value.int .i64 x.sl, Value.int .i64 x.ge, Value.int .i64 x.st, Value.int .i64 x.n, Value.bool x.gd])
            case c2 => omega
            case c3 => simp; have := hG.size; omega
            intro v' w4 hown4 hgrow4 hwhere
            have hap := Boxed.appended bO1 (show (22 : TypeId) ≠ 32 by decide) hown (by have := hG.size; omega) (by omega) hown4 hgrow4
            have cO4 := hap.1.cell
            have fO4 := hap.1.frozen
            have hap2 := hap.2.2.2.2
            have hY4 : ∀ k, k < w3.heap.size → k ≠ n0 + 1 → (Value.slice A1 pre.length c1).ownBlock ≠ some k → (w4.setCell ⟨n0 + 1, 0, none⟩ v').heap[k]? = w3.heap[k]? := fun k hk hkB hkv =>
              (Below.heap_setCell _ _ _ _ hkB).trans ((hgrow4.block k (by simp; omega) (fun e => hkv e.symm)).trans (Below.heap_alloc w3 _ k hk))
            obtain ⟨A2, c2, rfl⟩ := own_form hown4
            have hsz3 := hG.size
            have hO5 : OwnBox (n0 + 1) n0 (plus Y (fun k => k = n0 + 1 + 1)) ((pre ++ [p]).map rdE) (w4.setCell ⟨n0 + 1, 0, none⟩ (.slice A2 (pre.length + 1) c2)) := by
              refine ⟨_, hap.2.1, ?_, fun b hb e => ?_⟩
              · have := hown4.kept (grownBy_setCell' w4 (n0 + 1) (.slice A2 (pre.length + 1) c2)) (.inr (hap.1.not_row (show (22 : TypeId) ≠ 32 by decide) hown4).symm)
                rw [Ex.out] at this
                simpa using this
              · rcases hwhere with hw | hw
                · exact hYv b (hw ▸ hb) e
                · rw [hw] at hb
                  injection hb with hb
                  (try simp at hb)
                  rcases e with e | e
                  · have := (hG.new b e).2
                    omega
                  · omega
            have hk1 := hY4 (n0 + 1 + 1) (by omega) (by omega) (fun e => hYv _ e (.inr rfl))
            gi_wp2
            have hnY : ¬ Y (n0 + 1) := fun e => by have := (hG.new _ e).1; omega
            have hold := fun k hk => hb13.block k (HEl.out k hk)
            have hlt3 := fun k hk => Nat.lt_of_lt_of_le (HEl.out k hk) hb13.size
            refine ⟨fun k hk => ?_, hG.more hap2, hk1.trans hq0, hO5, ?_⟩
            · refine (?_ : _ = w3.heap[k]?).trans (hold k hk)
              have hk3 := hlt3 k hk
              rcases hk with hk | hk
              · rcases HE.out k hk with h | h
                · refine hY4 k hk3 (by omega) (fun e => ?_)
                  have := own_ge hown e
                  omega
                · subst h
                  exact hk1
              · exact hY4 k hk3 (fun e => hnY (e ▸ hk)) (fun e => hYv k e (.inl hk))
            · rw [List.all_append, hall]
              simpa using Hg.out
      case stop =>
        intro Y D c' pre V hD hDe hpp h hDV
        obtain ⟨rfl, hG, ⟨A2, k, c2, b3, hk⟩, hbad⟩ := h
        have Hy := Lib.hid (dec_no (b := l) (by rw [Hn.out]; exact H12.out) (by rw [Hn.out, ← Hq.out]; exact Hbig.out) hbad)
        have c3 := b3.cell
        have hk2 : (k : Int) < (q : Int) := by omega
        clear hpp hDe hbad
        gi_wp2
        refine ⟨by simp, .inl ⟨_, _, rfl, run_takeDeferred hDV, ?_⟩⟩
        refine ⟨.tuple #[.slice none 0 0, .int .i64 12], by simp [results, Try.f14, go_sem], RetDec.no Hy.out ?_⟩
        rw [← Hn0.out]
        exact (by rw [Hn0.out]; exact HB.out : Below n0 w W0).trans (hG.put hn1 D _ hD).below
      case done =>
        intro Y D V hD hDe h hDV
        obtain ⟨hG, hq0, ⟨v, bO1, hown, hYv⟩, hall⟩ := h
        have Hy := Lib.hid (dec_yes (b := l) (by rw [Hn.out]; exact H12.out) (by rw [Hn.out, ← Hq.out]; exact Hbig.out) hall)
        obtain ⟨A1, c1, rfl⟩ := own_form hown
        have hlq : ((pcs l).map rdE).length = q := by rw [List.length_map]; exact HP.out
        rw [hlq] at hown bO1 hYv
        have HL := Lib.hid hlq
        have cO := bO1.cell
        clear hDe hlq hall
        gi_wp2
        refine ⟨by simp, .inl ⟨_, _, rfl, run_takeDeferred hDV, ?_⟩⟩
        have hdown : Grow Y V Y (V.putObj D (.deferred none)) := Grow.putObj _ _ _ hD
        have hown2 := own_grow hown hdown (fun b hb e => hYv b hb (.inl e))
        obtain ⟨h1, h2, h3⟩ := own_ls hown2
        refine ⟨.tuple #[.slice A1 q c1, .int .i64 0], by simp [results, Try.f14, go_sem], A1, c1, ?_, ?_, ?_, ?_⟩
        · rw [Hy.out.1, Hy.out.2, HL.out]
        · rw [Hy.out.2, HL.out]; exact h3
        · rw [Hy.out.2]; exact h1
        · rw [← Hn0.out]
          exact (by rw [Hn0.out]; exact HB.out : Below n0 w W0).trans (hG.put hn1 D _ hD).below
  · have h12b : ((n : Int) % 12 != 0) = true := by simp; omega
    have Hy := Lib.hid (dec_form (b := l) (by rw [Hn.out]; exact h12))
    gi_wp2
    exact ⟨.tuple #[.slice none 0 0, .int .i64 12], by simp [results, Try.f14, go_sem], RetDec.no Hy.out (Below.refl _ _)⟩
end Go.Proofs.Ytbkaiffecnomjaa
