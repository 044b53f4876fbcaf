/- TableAmid's walk. -/
import Derived.Test.YtogeifnkjckaiaaSmall
import Derived.Test.YtogeifnkjckaiaaLaw
import Derived.Test.YtogeifnkjckaiaaTabE
import Derived.Test.YtogeifnkjckaiaaHeld
import Derived.IntWalk
namespace Go.Proofs.Ytogeifnkjckaiaa
open Go.RowKit Go.Shelf
attribute [local go_sem] Oper.semAt_some

theorem boxed_below' {N b : Nat} {w w' : World} {t : TypeId} {v : Value} (h : Boxed w b t v) (hb : Below N w w') (hl : b < N) : Boxed w' b t v := (hb.block b hl).trans h
theorem boxed_sp' {g b : Nat} {w w' : World} {t : TypeId} {v : Value} (h : Boxed w b t v) (hs : Sp g w w') (hg : b ≠ g) : Boxed w' b t v := (hs.block b h.lt hg).trans h
theorem Grow.down {n D : Nat} (A : World) (o : Obj) (h : n ≤ D) : Below n A (A.putObj D o) :=
  ⟨rfl, rfl, rfl, by simp, fun k hk => World.putObj_heap_other (by omega)⟩

set_option maxRecDepth 100000 in
set_option maxHeartbeats 4000000 in
theorem amid_any (A : Option Addr) (n c : Nat) (l : IP) (v : Int) (w : World) (hl : l.length = n) (hc : n ≤ c) (hs : PS w w.heap.size A l) :
    Calls Try.prog 5 #[.slice A n c, vI v] w (fun e w' => e = .returned (.bool true) ∧ Below w.heap.size w w') := by
  refine (callsIn_wide (n := 6)).1 ?_
  refine callsIn_of_wp_marks Try.func5 rfl trivial ?_ rfl
  simp only [Try.ntmps5, List.size_toArray, List.length_cons, List.length_nil, Nat.reduceAdd, Nat.reduceSub, Array.replicate_succ, Array.replicate_zero, List.push_toArray, List.append_toArray, List.nil_append, List.cons_append]
  obtain ⟨n0, hn0⟩ : ∃ n0, n0 = w.heap.size := ⟨_, rfl⟩
  have b1 := (Boxed.new w 3 (.int .i64 v)).alloc (.cells #[.bool false] 4)
  have b2 := Boxed.new (w.alloc (.cells #[.int .i64 v] 3)) 4 (.bool false)
  have hB0 : Below w.heap.size w ((w.alloc (.cells #[.int .i64 v] 3)).alloc (.cells #[.bool false] 4)) := bstep (bnew _ _) (bnew _ _)
  have hz0 : ((w.alloc (.cells #[.int .i64 v] 3)).alloc (.cells #[.bool false] 4)).heap.size = w.heap.size + 2 := by simp
  rw [World.size_alloc, ← hn0] at b2
  rw [← hn0] at b1 hB0 hz0
  have Hn0 := Lib.hid hn0
  gi_wp2_with fail
  rw [← Hn0.out]
  clear hn0
  obtain ⟨W1, hW1⟩ : ∃ W1, W1 = ((w.alloc (.cells #[.int .i64 v] 3)).alloc (.cells #[.bool false] 4)) := ⟨_, rfl⟩
  rw [← hW1] at b1 b2 hB0 hz0 ⊢
  clear hW1
  refine ⟨trivial, ?_⟩
  gi_at_call 9
  refine (callsIn_wide.2 (awake_any W1)).mono ?_
  rintro e w2 ⟨rfl, hB2⟩
  have b1' := boxed_below' b1 hB2 b1.lt
  have b2' := boxed_below' b2 hB2 b2.lt
  have hB3 : Below n0 w w2 := hB0.trans (hB2.mono (by omega))
  have hz2 : n0 + 2 ≤ w2.heap.size := by have := hB2.size; omega
  have f2 := b2'.frozen
  have c2 := b2'.cell
  clear b1 b2 hB0 hz0 hB2
  by_cases hn : n ≤ 60
  · subst hl
    have hP2 : PS w2 w2.heap.size A l := (hs.below (by rw [← Hn0.out]; exact hB3)).more hB3.size
    gi_wp2_with fail
    refine ⟨trivial, ?_⟩
    gi_at_call 22
    refine (callsIn_wide.2 (filled_any A c l w2 hn hP2)).mono ?_
    obtain ⟨xs, ex⟩ : ∃ xs, xs = fillT l := ⟨_, rfl⟩
    have hxl : xs.length ≤ 60 := by rw [ex]; have := fillT_len l; omega
    rw [← ex]
    clear ex
    rintro e w3 ⟨g, rfl, hg, hT3, hB4⟩
    have b1 := boxed_below' b1' hB4 b1'.lt
    have b2 := boxed_below' b2' hB4 b2'.lt
    have hB5 := hB3.trans (hB4.mono (by omega))
    have hg3 := hT3.lt
    clear c2 f2 b1' b2' hB3 hB4 hP2 hs
    obtain ⟨m, hm⟩ : ∃ m, m = w3.heap.size := ⟨_, rfl⟩
    have b6 := Boxed.new w3 24 (.pointer (some ⟨g, 0, none⟩))
    have hT4 := hT3.below (bnew w3 (.cells #[.pointer (some ⟨g, 0, none⟩)] 24))
    have hnf := run_eql_nilFunc
    gi_wp2_with fail
    have hz3 := (bnew w3 (.cells #[.pointer (some ⟨g, 0, none⟩)] 24)).size
    have B1 := b1.alloc (.cells #[.pointer (some ⟨g, 0, none⟩)] 24)
    have B2 := b2.alloc (.cells #[.pointer (some ⟨g, 0, none⟩)] 24)
    have hB6 := hB5.trans ((bnew w3 (.cells #[.pointer (some ⟨g, 0, none⟩)] 24)).mono (by omega))
    have hz4 : (w3.alloc (.cells #[.pointer (some ⟨g, 0, none⟩)] 24)).heap.size = m + 1 := by rw [hm]; simp
    obtain ⟨w4, hw4⟩ : ∃ w4, w4 = w3.alloc (.cells #[.pointer (some ⟨g, 0, none⟩)] 24) := ⟨_, rfl⟩
    rw [← hw4] at b6 hT4 B1 B2 hB6 hz4 ⊢
    rw [← hm] at b6 hg3 ⊢
    clear hw4 hm hT3 b1 b2 hB5 hz3
    refine ⟨trivial, ?_⟩
    gi_at_call 19
    refine (callsIn_wide.2 (all_any hT4 hxl)).mono ?_
    rintro e w5 ⟨A5, c5, rfl, hc5, hP5, hA5, hB7⟩
    have hA5' : ∀ a, A5 = some a → m + 1 ≤ a.block := fun a h => by have := hA5 a h; omega
    have hT5 := hT4.below hB7
    have B1' := boxed_below' B1 hB7 B1.lt
    have B2' := boxed_below' B2 hB7 B2.lt
    have B6' := boxed_below' b6 hB7 b6.lt
    have c6' := B6'.cell
    have hB8 := hB6.trans (hB7.mono (by omega))
    have hz5 : m + 1 ≤ w5.heap.size := by have := hB7.size; omega
    obtain ⟨p, hp⟩ : ∃ p, p = w5.heap.size := ⟨_, rfl⟩
    have c7 := Boxed.new w5 27 (.slice A5 xs.length c5)
    have b7 := ((Boxed.new w5 27 (.slice A5 xs.length c5)).alloc (.cells #[.int .i64 0] 3)).alloc (.cells #[.pointer (some ⟨g, 0, none⟩)] 24)
    have b8 := (Boxed.new (w5.alloc (.cells #[.slice A5 xs.length c5] 27)) 3 (.int .i64 0)).alloc (.cells #[.pointer (some ⟨g, 0, none⟩)] 24)
    have bt := Boxed.new ((w5.alloc (.cells #[.slice A5 xs.length c5] 27)).alloc (.cells #[.int .i64 0] 3)) 24 (.pointer (some ⟨g, 0, none⟩))
    have hBw : Below w5.heap.size w5 (((w5.alloc (.cells #[.slice A5 xs.length c5] 27)).alloc (.cells #[.int .i64 0] 3)).alloc (.cells #[.pointer (some ⟨g, 0, none⟩)] 24)) := bstep (bstep (bnew _ _) (bnew _ _)) (bnew _ _)
    have hZT : Tab1 [w5.heap.size + 1, w5.heap.size, g] (((w5.alloc (.cells #[.slice A5 xs.length c5] 27)).alloc (.cells #[.int .i64 0] 3)).alloc (.cells #[.pointer (some ⟨g, 0, none⟩)] 24)) g xs := by
      have := (hT5.box (.cells #[.slice A5 xs.length c5] 27)).box (.cells #[.int .i64 0] 3)
      rw [World.size_alloc] at this
      exact this.below (bnew _ _)
    have c66 := ((B6'.alloc (.cells #[.slice A5 xs.length c5] 27)).alloc (.cells #[.int .i64 0] 3)).cell
    simp only [World.size_alloc] at b8 bt
    clear c7 hT4 B1 B2 b6 hB6 hB7 hz4
    gi_wp2_with (first
      | (refine ⟨trivial, ?_⟩; gi_at_call 23; refine (allF1_in _ g _).mono ?_; rintro e w6 ⟨rfl, rfl⟩))
    have B1 := boxed_below' B1' hBw B1'.lt
    have B2 := boxed_below' B2' hBw B2'.lt
    have B6 := boxed_below' B6' hBw B6'.lt
    have hP0 := hP5.on hBw
    obtain ⟨W0, hW0⟩ : ∃ W0, W0 = (((w5.alloc (.cells #[.slice A5 xs.length c5] 27)).alloc (.cells #[.int .i64 0] 3)).alloc (.cells #[.pointer (some ⟨g, 0, none⟩)] 24)) := ⟨_, rfl⟩
    have hWs : W0.heap.size = w5.heap.size + 3 := by rw [hW0]; simp
    have hP0 : PS W0 w5.heap.size A5 xs := by rw [hW0]; exact hP5.below hBw
    rw [← hW0] at b7 b8 bt hBw hZT B1 B2 B6 ⊢
    have hBm : Below n0 w W0 := hB8.trans (hBw.mono (by omega))
    rw [← hp] at b7 b8 bt hZT hWs hP0 hz5 ⊢
    clear c66 hW0 hp hBw hB8 hT5 B1' B2' B6' c6' hP5 hnf
    have eg := enters_of Try.func37 (by kernel_rfl) rfl
    have hTE := TabE.of hZT
    obtain ⟨A2, t, h⟩ := hZT
    have htl := h.tl
    subst htl
    have hlt : ∀ k, (k ∉ [p + 1, p, g] ∧ k < p + 3) → k < W0.heap.size := fun k hk => by rw [hWs]; exact hk.2
    have hT2 : TreeAt vI vI (fun k => k ∉ [p + 1, p, g] ∧ k < p + 3) W0 A2 t := h.tr.less fun k h1 h2 => ⟨h1, by rw [hWs] at h2; exact h2⟩
    have hg0 := h.c0
    have hn1 : n0 ≤ W0.heap.size := by omega
    have hm7 : p + 1 < W0.heap.size := by omega
    have hr := h.rs
    have Hr := Lib.hid hr
    have hTE0 : TabE vI vI (fun k => k ∉ [p + 1, p, g] ∧ ¬ False) W0 g t.toL := hTE.kept (Nat.le_refl _) rfl (fun k h1 _ => ⟨rfl, h1, id⟩) (fun e => e.1 (by simp)) (fun j hj => ⟨hTE.new j hj, id⟩)
    clear h hr hTE
    refine wpIn_range (enc := en1) (fi := #[]) (lb := #[.pointer (some ⟨p + 1 + 1, 0, none⟩)]) rfl eg (fall1_it (fun k => k ∉ [p + 1, p, g] ∧ k < p + 3) (p + 1 + 1) g A2 t) ⟨⟨hlt, hT2⟩, bt.cell, hg0⟩ (fun _ => rfl)
      (fun Y pre V => Gn n0 W0 Y V ∧ Kp (fun k => k < W0.heap.size ∧ k ≠ g ∧ k ≠ p + 1) W0 Y V ∧ Boxed V (p + 1) 3 (.int .i64 pre.length) ∧ ∃ ys : IP, TabE vI vI (fun k => k ∉ [p + 1, p, g] ∧ ¬ Y k) V g ys ∧ RowKit.Hid (ys.map Prod.fst = (t.toL.drop pre.length).map Prod.fst))
      (fun _ _ _ _ => False) ?ab (fun _ _ _ _ _ _ h _ => h.elim) ⟨Gn.refl _ _, ⟨Nat.le_refl _, fun _ h => h.elim, fun k h => ⟨h.1, rfl⟩⟩, b8, t.toL, hTE0, Lib.hid rfl⟩
      (fun y => { tmps := #[.slice A (l.length) c, vI v, undef, .pointer (some ⟨n0, 0, none⟩), .pointer (some ⟨n0 + 1, 0, none⟩), .bool true, .pointer (some ⟨m, 0, none⟩), .pointer (some ⟨p, 0, none⟩), .pointer (some ⟨p + 1, 0, none⟩), .func (.func 37) #[] #[.pointer (some ⟨p + 1 + 1, 0, none⟩)], vI y.1, vI y.2, .bool true, .slice A (l.length) c, .int .i64 (l.length : Int), .bool (decide (60 < (l.length : Int))), undef, .slice A (l.length) c, .pointer (some ⟨g, 0, none⟩), .pointer (some ⟨g, 0, none⟩), .bool false, .pointer (some ⟨g, 0, none⟩), .slice A5 (t.toL.length) c5, .pointer (some ⟨g, 0, none⟩), .func (.func 37) #[] #[.pointer (some ⟨p + 1 + 1, 0, none⟩)], .func (.func 37) #[] #[.pointer (some ⟨p + 1 + 1, 0, none⟩)], .bool false, .func (.func 37) #[] #[.pointer (some ⟨p + 1 + 1, 0, none⟩)], vI y.1, vI y.2, undef, undef, undef, undef, undef, undef, undef, undef, undef, undef, undef, undef, undef, undef, undef, undef, undef, undef, undef, undef, undef, undef, undef, undef, undef, undef, undef, undef, undef, undef, undef, undef, undef, undef, undef, undef, undef, undef, undef, undef, undef, undef, undef, undef, undef, undef, undef, undef, undef], defers := [] }) ?assign ?body ?done ?stop
    case ab =>
      rintro X X' s A B ⟨h1, h2, h3, ys, h4, h5⟩ hg
      have h6 := h1.grow hn1 hg
      refine ⟨h6, h2.grow hg, h1.boxed hm7 h3 hg, ys, h4.kept hg.size (hg.block g h4.lg fun e => ?_) (fun k hk hl => ⟨hg.block k hl hk.2, hk.1, fun e => (hg.new k e).elim hk.2 fun e => ?_⟩) (fun e => e.1 (by simp)) (fun j hj => ⟨fun e => ?_, fun e => ?_⟩), h5⟩
      · have := (h1.new g e).1; omega
      · omega
      · have := h6.size
        simp only [List.mem_cons, List.not_mem_nil, or_false] at e
        omega
      · have := (h6.new j e).2; omega
    case assign =>
      intro l1 y V K hK
      gi_wp2
      exact hK
    case body =>
      rintro l1 Y pre ⟨k, u⟩ V hl1 ⟨hG, hK, b8, ys, hT, hys⟩ hpp
      obtain ⟨N, hN⟩ : ∃ N, N = pre.length := ⟨_, rfl⟩
      have hxN : t.toL[N]? = some (k, u) := by
        obtain ⟨r, hr⟩ := hpp
        rw [← hr, hN, List.append_assoc, List.getElem?_append_right (Nat.le_refl _)]
        simp
      have hNl := (List.getElem?_eq_some_iff.1 hxN).1
      obtain ⟨b, off, rfl, hb, d1, d2⟩ := hP0 N (k, u) hxN
      have hbg : m + 1 ≤ b := hA5' _ rfl
      have k1 := (World.cell?_of_block (w := W0) (a := ⟨b, off + N * 2, none⟩) (hK.2.2 b ⟨by omega, by omega, by omega⟩).2).trans d1
      have k2 := (World.cell?_of_block (w := W0) (a := ⟨b, off + N * 2 + 1, none⟩) (hK.2.2 b ⟨by omega, by omega, by omega⟩).2).trans d2
      have b1V : Boxed V n0 3 (.int .i64 v) := (hK.2.2 n0 ⟨by omega, by omega, by omega⟩).2.trans B1
      have b6V : Boxed V m 24 (.pointer (some ⟨g, 0, none⟩)) := (hK.2.2 m ⟨by omega, by omega, by omega⟩).2.trans B6
      have b7V : Boxed V p 27 (.slice (some ⟨b, off, none⟩) t.toL.length c5) := (hK.2.2 p ⟨by omega, by omega, by omega⟩).2.trans b7
      rw [← hN] at b8 hys
      have c6 := b6V.cell
      have c7 := b7V.cell
      have c8 := b8.cell
      have f8 := b8.frozen
      have hN1 : (N : Int) < (t.toL.length : Int) := by omega
      have hN0 : (0 : Int) ≤ (N : Int) := Int.natCast_nonneg _
      have hN2 : (N : Int) ≤ 100 := by omega
      have hdr : t.toL.drop N = (k, u) :: t.toL.drop (N + 1) := by
        obtain ⟨h1, h2⟩ := List.getElem?_eq_some_iff.1 hxN
        rw [← h2]
        exact List.drop_eq_getElem_cons h1
      obtain ⟨u', ts, rfl, hts⟩ : ∃ u' ts, ys = (k, u') :: ts ∧ ts.map Prod.fst = (t.toL.drop (N + 1)).map Prod.fst := by
        have h1 := hys.out
        rw [hdr] at h1
        cases ys with
        | nil => simp at h1
        | cons y ts =>
          obtain ⟨y1, y2⟩ := y
          simp only [List.map_cons, List.cons.injEq] at h1
          exact ⟨y2, ts, by rw [h1.1], h1.2⟩
      have hdel : del ((k, u') :: ts) k = ts := by simp [del, Key.irr]
      have hgot : got ((k, u') :: ts) k = some u' := by simp [got, Key.irr]
      have hlen : ((k, u') :: ts).length ≤ 10000 := by
        have := congrArg List.length hts
        simp at this
        simp
        omega
      obtain ⟨V1, hV1⟩ : ∃ V1, V1 = V.setCell ⟨p + 1, 0, none⟩ (.int .i64 ((N : Int) + 1)) := ⟨_, rfl⟩
      have s1 : Sp (p + 1) V V1 := by rw [hV1]; exact (Sp.refl _ V).set 0 _
      have hT1 : TabE vI vI (fun k => k ∉ [p + 1, p, g] ∧ ¬ Y k) V1 g ((k, u') :: ts) := hT.kept s1.size (s1.block g hT.lg (by omega)) (fun j hj hl => ⟨s1.block j hl (fun e => hj.1 (by simp [e])), hj⟩) hT.ge (fun j hj => hT.new j (Nat.le_trans s1.size hj))
      have hdrop := tdrope1_any hT1 k hlen
      rw [hdel, hgot] at hdrop
      have b8' : Boxed V1 (p + 1) 3 (.int .i64 ((N : Int) + 1)) := by rw [hV1]; exact b8.set _
      have b7' : Boxed V1 p 27 (.slice (some ⟨b, off, none⟩) t.toL.length c5) := boxed_sp' b7V s1 (by omega)
      have b6' : Boxed V1 m 24 (.pointer (some ⟨g, 0, none⟩)) := boxed_sp' b6V s1 (by omega)
      have b1' : Boxed V1 n0 3 (.int .i64 v) := boxed_sp' b1V s1 (by omega)
      have c6' := b6'.cell
      have fin : ∀ (W3 : World) (zs : IP), Sp g V1 W3 → TabE vI vI (fun k => k ∉ [p + 1, p, g] ∧ ¬ Y k) W3 g zs → zs.map Prod.fst = (t.toL.drop (N + 1)).map Prod.fst →
          Kept (fun k => k ∉ [p + 1, p, g] ∧ k < p + 3) Y V W3 ∧ (Gn n0 W0 Y W3 ∧ Kp (fun k => k < W0.heap.size ∧ k ≠ g ∧ k ≠ p + 1) W0 Y W3 ∧ Boxed W3 (p + 1) 3 (.int .i64 (pre ++ [(k, u)]).length) ∧
            ∃ ys : IP, TabE vI vI (fun k => k ∉ [p + 1, p, g] ∧ ¬ Y k) W3 g ys ∧ RowKit.Hid (ys.map Prod.fst = (t.toL.drop (pre ++ [(k, u)]).length).map Prod.fst)) := by
        intro W3 zs s2 hT3 hz
        have hsz := hG.size
        have hkeep : ∀ j, j < V.heap.size → j ≠ g → j ≠ p + 1 → W3.heap[j]? = V.heap[j]? := fun j hj h1 h2 => (s2.block j (Nat.lt_of_lt_of_le hj s1.size) h1).trans (s1.block j hj h2)
        have hlen2 : (pre ++ [(k, u)]).length = N + 1 := by simp [hN]
        have hk : Kept (fun k => k ∉ [p + 1, p, g] ∧ k < p + 3) Y V W3 := fun j hj => by
          rcases hj with hj | hj
          · exact hkeep j (by omega) (fun e => hj.1 (by simp [e])) (fun e => hj.1 (by simp [e]))
          · have := (hG.new j hj)
            exact hkeep j this.2 (by omega) (by omega)
        refine ⟨hk, (hG.sp s1 (by omega) hn1).sp s2 (by omega) hn1, hK.kept hk (fun j hj => .inr (.inr (hkeep j (by omega) hj.2.1 hj.2.2))) hl1, ?_, zs, hT3, Lib.hid (by rw [hlen2]; exact hz)⟩
        rw [hlen2]
        exact boxed_sp' b8' s2 (by omega)
      have Hts := Lib.hid hts
      have HN := Lib.hid hN
      have HdN := Lib.hid hxN
      have HP := Lib.hid hP0
      have HA := Lib.hid hA5'
      have hVs := hG.size
      have HKb : RowKit.Hid (∀ j, off ≤ j → V1.cell? ⟨b, j, none⟩ = W0.cell? ⟨b, j, none⟩) := Lib.hid fun j _ => (s1.cell j (by omega) (by omega)).trans (World.cell?_of_block (w := W0) (a := ⟨b, j, none⟩) (hK.2.2 b ⟨by omega, by omega, by omega⟩).2)
      clear hpp hxN hdr hdel hgot hlen hts hys d1 d2 hN hP0 hA5 hA5' hT hT1 hG hK s1
      by_cases hlast : N + 1 < t.toL.length
      · obtain ⟨z, hz⟩ := pair_some hlast
        obtain ⟨b', off', e', _, d3, _⟩ := HP.out (N + 1) z hz
        simp only [Option.some.injEq, Addr.mk.injEq, and_true] at e'
        obtain ⟨rfl, rfl⟩ := e'
        have e3 := (HKb.out (off + (N + 1) * 2) (by omega)).trans d3
        have hl2 : (N : Int) + 1 < (t.toL.length : Int) := by omega
        gi_wp2_with fail
        rw [← hV1]
        gi_wp2_with (first
          | (refine ⟨trivial, ?_⟩; gi_at_call 15; refine (callsIn_wide.2 hdrop).mono ?_; rintro e w7 ⟨rfl, hT7, hS7⟩; have r6 := boxed_sp' b6' hS7 (by omega); have r7 := boxed_sp' b7' hS7 (by omega); have r8 := boxed_sp' b8' hS7 (by omega); have r1 := boxed_sp' b1' hS7 (by omega); have q6 := r6.cell; have q7 := r7.cell; have q8 := r8.cell; have q1 := r1.cell))
        have e7 := (Sp.cell hS7 (k := b) (off + (N + 1) * 2) (by have := b7'.lt; omega) (by omega)).trans e3
        have hT7d : TabE vI vI (fun k => k ∉ [p + 1, p, g] ∧ ¬ Y k) w7.drew g ts := hT7.kept (Nat.le_refl _) rfl (fun j hj _ => ⟨rfl, hj⟩) hT7.ge hT7.new
        have hput := tpute1_any hT7d z.1 v (by have := congrArg List.length Hts.out; simp at this; omega)
        have hkeys : (ins ts z.1 v).map Prod.fst = (t.toL.drop (N + 1)).map Prod.fst := by
          rw [← Hts.out]
          have h1 := Hts.out
          have h2 : t.toL.drop (N + 1) = z :: t.toL.drop (N + 2) := by
            obtain ⟨a1, a2⟩ := List.getElem?_eq_some_iff.1 hz
            rw [← a2]
            exact List.drop_eq_getElem_cons a1
          rw [h2] at h1
          cases ts with
          | nil => simp at h1
          | cons y ts =>
            obtain ⟨y1, y2⟩ := y
            simp only [List.map_cons, List.cons.injEq] at h1
            rw [h1.1]
            simp [ins, Key.irr]
        have hw : IntKind.i64.wrap ((N : Int) + 1) = (N : Int) + 1 := IntWalk.i64_in _ (by omega)
        have hw2 : ((N : Int) + 1).toNat = N + 1 := by omega
        have hw3 : (0 : Int) ≤ (N : Int) + 1 := by omega
        have Hkeys := Lib.hid hkeys
        have hlt7 := b7'.lt
        have hz7 := hS7.size
        have hdd : ∀ j, w7.drew.cell? j = w7.cell? j := fun _ => rfl
        clear hkeys hz hdrop
        refine region_held_inRound l1 (fun w' => w'.cell? ⟨m, 0, none⟩ = some (.pointer (some ⟨g, 0, none⟩)) ∧ w'.cell? ⟨p, 0, none⟩ = some (.slice (some ⟨b, off, none⟩) t.toL.length c5) ∧ w'.cell? ⟨p + 1, 0, none⟩ = some (.int .i64 ((N : Int) + 1)) ∧ w'.cell? ⟨b, off + (N + 1) * 2, none⟩ = some (vI z.1) ∧ w'.cell? ⟨n0, 0, none⟩ = some (.int .i64 v))
          (fun _ W3 => ∃ zs : IP, Sp g V1 W3 ∧ TabE vI vI (fun k => k ∉ [p + 1, p, g] ∧ ¬ Y k) W3 g zs ∧ zs.map Prod.fst = (t.toL.drop (N + 1)).map Prod.fst) (by kernel_rfl) (by kernel_rfl) ⟨q6, q7, q8, e7, q1⟩ (fun hS => ?_) ?key
        case key =>
          rintro a W3 ⟨zs, h1, h2, h3⟩
          exact fin W3 zs h1 h2 h3
        refine wpAnyH_take (i := 0) (oi := { dst := some 59, op := Op.load 24 (Operand.tmp 6), type := 24, pos := "law.go:148", after := #[], guard := none }) (v := ?v0) rfl (by kernel_rfl) (by kernel_rfl) (by kernel_rfl) (fun _ _ _ h => h) (Or.inl ⟨by rfl, ?hy0⟩) hS ?rest0
        case hy0 =>
          intro w hSw
          (try dsimp only at hSw)
          go_simp
          try with_reducible rfl
        try simp only [Act.put, List.setIfInBounds_toArray, List.set_cons_zero, List.set_cons_succ]
        refine wpAnyH_take (i := 1) (oi := { dst := some 60, op := Op.load 27 (Operand.tmp 7), type := 27, pos := "law.go:148", after := #[], guard := none }) (v := ?v1) rfl (by kernel_rfl) (by kernel_rfl) (by kernel_rfl) (fun _ _ _ h => h) (Or.inl ⟨by rfl, ?hy1⟩) hS ?rest1
        case hy1 =>
          intro w hSw
          (try dsimp only at hSw)
          go_simp
          try with_reducible rfl
        try simp only [Act.put, List.setIfInBounds_toArray, List.set_cons_zero, List.set_cons_succ]
        refine wpAnyH_take (i := 2) (oi := { dst := some 61, op := Op.load 3 (Operand.tmp 8), type := 3, pos := "law.go:148", after := #[], guard := none }) (v := ?v2) rfl (by kernel_rfl) (by kernel_rfl) (by kernel_rfl) (fun _ _ _ h => h) (Or.inl ⟨by rfl, ?hy2⟩) hS ?rest2
        case hy2 =>
          intro w hSw
          (try dsimp only at hSw)
          go_simp
          try with_reducible rfl
        try simp only [Act.put, List.setIfInBounds_toArray, List.set_cons_zero, List.set_cons_succ]
        refine wpAnyH_take (i := 3) (oi := { dst := some 62, op := Op.indexAddr 27 (Operand.tmp 60) (Operand.tmp 61), type := 0, pos := "law.go:148", after := #[{ on := 1, ground := Ground.data }, { on := 2, ground := Ground.data }], guard := none }) (v := ?v3) rfl (by kernel_rfl) (by kernel_rfl) (by kernel_rfl) (fun _ _ _ h => h) (Or.inl ⟨by rfl, ?hy3⟩) hS ?rest3
        case hy3 =>
          intro w hSw
          (try dsimp only at hSw)
          go_simp
          try with_reducible rfl
        try simp only [Act.put, List.setIfInBounds_toArray, List.set_cons_zero, List.set_cons_succ]
        refine wpAnyH_take (i := 4) (oi := { dst := some 63, op := Op.fieldAddr 43 (Operand.tmp 62) 0, type := 0, pos := "law.go:148", after := #[{ on := 3, ground := Ground.data }], guard := none }) (v := ?v4) rfl (by kernel_rfl) (by kernel_rfl) (by kernel_rfl) (fun _ _ _ h => h) (Or.inl ⟨by rfl, ?hy4⟩) hS ?rest4
        case hy4 =>
          intro w hSw
          (try dsimp only at hSw)
          go_simp
          try with_reducible rfl
        try simp only [Act.put, List.setIfInBounds_toArray, List.set_cons_zero, List.set_cons_succ]
        refine wpAnyH_take (i := 5) (oi := { dst := some 64, op := Op.load 3 (Operand.tmp 63), type := 3, pos := "law.go:148", after := #[{ on := 4, ground := Ground.data }], guard := none }) (v := ?v5) rfl (by kernel_rfl) (by kernel_rfl) (by kernel_rfl) (fun _ _ _ h => h) (Or.inl ⟨by rfl, ?hy5⟩) hS ?rest5
        case hy5 =>
          intro w hSw
          (try dsimp only at hSw)
          go_simp
          try with_reducible rfl
        try simp only [Act.put, List.setIfInBounds_toArray, List.set_cons_zero, List.set_cons_succ]
        refine wpAnyH_take (i := 6) (oi := { dst := some 65, op := Op.load 3 (Operand.tmp 3), type := 3, pos := "law.go:148", after := #[], guard := none }) (v := ?v6) rfl (by kernel_rfl) (by kernel_rfl) (by kernel_rfl) (fun _ _ _ h => h) (Or.inl ⟨by rfl, ?hy6⟩) hS ?rest6
        case hy6 =>
          intro w hSw
          (try dsimp only at hSw)
          go_simp
          try with_reducible rfl
        try simp only [Act.put, List.setIfInBounds_toArray, List.set_cons_zero, List.set_cons_succ]
        refine wpAnyH_ready (rs := [7]) (by kernel_rfl) (by simp) ?_
        refine AllReadyH.cons (o := { dst := some 66, op := Op.call { callee := Callee.value (Operand.func 11), args := #[Operand.tmp 59, Operand.tmp 64, Operand.tmp 65], argTypes := #[24, 3, 3] }, type := 4, pos := "law.go:148", after := #[{ on := 0, ground := Ground.data }, { on := 5, ground := Ground.data }, { on := 6, ground := Ground.data }], guard := none }) rfl (fun K hK => ?_) AllReadyH.nil
        go_simp
        refine hput.mono ?_
        rintro e w9 ⟨rfl, hT9, hS9⟩
        refine hK.out _ _ ⟨(Sp.cell hS9 (k := m) 0 (show m < w7.heap.size by omega) (by omega)).trans q6, (Sp.cell hS9 (k := p) 0 (show p < w7.heap.size by omega) (by omega)).trans q7, (Sp.cell hS9 (k := p + 1) 0 r8.lt (by omega)).trans q8, (Sp.cell hS9 (k := b) (off + (N + 1) * 2) (show b < w7.heap.size by omega) (by omega)).trans e7, (Sp.cell hS9 (k := n0) 0 (show n0 < w7.heap.size by omega) (by omega)).trans q1⟩ (fun hS => ?_)
        clear hK K
        try simp only [Act.put, List.setIfInBounds_toArray, List.set_cons_zero, List.set_cons_succ]
        refine wpAnyH_done (by kernel_rfl) ?_ _
        exact ⟨_, hS7.trans ((Sp.of_below (bdrew1 (Below.refl _ w7))).trans hS9), hT9, Hkeys.out⟩
      · have hlen3 : ts = [] := by
          have := congrArg List.length Hts.out
          simp at this
          exact List.eq_nil_of_length_eq_zero (by omega)
        subst hlen3
        have hl2 : (t.toL.length : Int) ≤ (N : Int) + 1 := by omega
        gi_wp2_with fail
        rw [← hV1]
        gi_wp2_with (first
          | (refine ⟨trivial, ?_⟩; gi_at_call 15; refine (callsIn_wide.2 hdrop).mono ?_; rintro e w7 ⟨rfl, hT7, hS7⟩; have r7 := boxed_sp' b7' hS7 (by omega); have r8 := boxed_sp' b8' hS7 (by omega); have q7 := r7.cell; have q8 := r8.cell))
        exact fin w7 [] hS7 hT7 Hts.out
    case stop =>
      rintro Y D c' pre V hD hDe hpp h hDV
      exact h.elim
    case done =>
      rintro Y D V hD hDe ⟨hG, hK, b8, ys, hT, hys⟩ hDV
      obtain rfl : ys = [] := by
        have := congrArg List.length hys.out
        simpa using this
      have b2V : Boxed V (n0 + 1) 4 (.bool false) := (hK.2.2 (n0 + 1) ⟨by omega, by omega, by omega⟩).2.trans B2
      have b6V : Boxed V m 24 (.pointer (some ⟨g, 0, none⟩)) := (hK.2.2 m ⟨by omega, by omega, by omega⟩).2.trans B6
      have b7V : Boxed V p 27 (.slice A5 t.toL.length c5) := (hK.2.2 p ⟨by omega, by omega, by omega⟩).2.trans b7
      have c2 := b2V.cell
      have f2 := b2V.frozen
      have c6 := b6V.cell
      have c7 := b7V.cell
      have c8 := b8.cell
      have hDm : p + 3 ≤ D := by have := (hG.new D hD).1; omega
      have hcl : Calls Try.prog 17 #[.pointer (some ⟨g, 0, none⟩)] V (fun e w' => e = .returned (.int .i64 0) ∧ V = w') := lene1_any hT
      have hBV := hBm.trans hG.below
      clear hys hDe hK
      gi_wp2_with (first
        | (refine ⟨trivial, ?_⟩; gi_at_call 17; refine (callsIn_wide.2 hcl).mono ?_; rintro e w7 ⟨rfl, rfl⟩))
      have hD5 : (V.setCell ⟨n0 + 1, 0, none⟩ (.bool true)).heap[D]? = some (.deferred (some [])) := (Below.heap_setCell _ _ _ _ (show D ≠ n0 + 1 by omega)).trans hDV
      refine ⟨by simp, .inl ⟨_, _, rfl, run_takeDeferred hD5, ?_⟩⟩
      have B26 := boxed_grow (b2V.set (.bool true)) (Grow.putObj (X := fun k => k = D) _ D (.deferred none) rfl) (show ¬ n0 + 1 = D by omega)
      have c26 := B26.cell
      refine ⟨.bool true, by simp [results, Try.f5, go_sem, c26], rfl, ?_⟩
      rw [← Hn0.out]
      exact (hBV.trans ((Below.refl n0 V).setCell (show n0 ≤ n0 + 1 by omega) _)).trans (Grow.down _ _ (by omega))
  · have hn2 : (60 : Int) < (n : Int) := by omega
    gi_wp2_with fail
    have b3' := b2'.set (.bool true)
    have c3 := b3'.cell
    exact ⟨.bool true, by simp [results, Try.f5, go_sem, c3], rfl, by rw [← Hn0.out]; exact hB3.trans ((Below.refl n0 w2).setCell (show n0 ≤ n0 + 1 by omega) _)⟩
end Go.Proofs.Ytogeifnkjckaiaa
