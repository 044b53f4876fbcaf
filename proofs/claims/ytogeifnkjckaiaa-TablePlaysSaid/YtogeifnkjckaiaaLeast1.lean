/- The least pair of a table (of numbers by numbers). -/
import Derived.Test.YtogeifnkjckaiaaIts1
import Derived.Test.YtogeifnkjckaiaaGn
namespace Go.Proofs.Ytogeifnkjckaiaa
open Go.RowKit Go.Shelf
attribute [local go_sem] Oper.semAt_some

def first1 (xs : List (Int × Int)) : Value := match xs with
  | [] => .tuple #[.int .i64 0, .int .i64 0, .bool false]
  | x :: _ => .tuple #[vI x.1, vI x.2, .bool true]
def RetLeast1 (w : World) (xs : List (Int × Int)) (e : Ending) (w' : World) : Prop := e = .returned (first1 xs) ∧ Below w.heap.size w w'
set_option maxRecDepth 100000 in
set_option maxHeartbeats 1000000 in
theorem least1_any {Z : List Nat} {w : World} {g : Nat} {xs : List (Int × Int)} (h : Tab vI vI Z w g xs) : Calls Try.prog 21 #[.pointer (some ⟨g, 0, none⟩)] w (RetLeast1 w xs) := by
  obtain ⟨A, t, h⟩ := h
  have eg := enters_of Try.func37 (by kernel_rfl) rfl
  have htl := Lib.hid h.tl
  refine (callsIn_wide (n := 6)).1 ?_
  refine callsIn_of_wp_marks Try.func21 rfl trivial ?_ rfl
  simp only [Try.ntmps21, List.size_toArray, List.length_cons, List.length_nil, Nat.reduceAdd, Nat.reduceSub, Array.replicate_succ, Array.replicate_zero, List.push_toArray, List.append_toArray, List.nil_append, List.cons_append]
  gi_wp2_with (first
    | (refine ⟨trivial, ?_⟩; gi_at_call 23; refine (allF1_in _ g _).mono ?_; rintro e w2 ⟨rfl, rfl⟩))
  have b2 := ((((Boxed.new w 3 (.int .i64 0)).alloc (.cells #[.int .i64 0] 3)).alloc (.cells #[.bool false] 4)).alloc (.cells #[.pointer (some ⟨g, 0, none⟩)] 24))
  have b3 := (((Boxed.new (w.alloc (.cells #[.int .i64 0] 3)) 3 (.int .i64 0)).alloc (.cells #[.bool false] 4)).alloc (.cells #[.pointer (some ⟨g, 0, none⟩)] 24))
  have b4 := ((Boxed.new ((w.alloc (.cells #[.int .i64 0] 3)).alloc (.cells #[.int .i64 0] 3)) 4 (.bool false)).alloc (.cells #[.pointer (some ⟨g, 0, none⟩)] 24))
  have bt := Boxed.new (((w.alloc (.cells #[.int .i64 0] 3)).alloc (.cells #[.int .i64 0] 3)).alloc (.cells #[.bool false] 4)) 24 (.pointer (some ⟨g, 0, none⟩))
  have hB : Below w.heap.size w ((((w.alloc (.cells #[.int .i64 0] 3)).alloc (.cells #[.int .i64 0] 3)).alloc (.cells #[.bool false] 4)).alloc (.cells #[.pointer (some ⟨g, 0, none⟩)] 24)) := bstep (bstep (bstep (bnew _ _) (bnew _ _)) (bnew _ _)) (bnew _ _)
  simp only [World.size_alloc] at b3 b4 bt ⊢
  obtain ⟨n0, hn0⟩ : ∃ n, n = w.heap.size := ⟨_, rfl⟩
  obtain ⟨W0, hW0⟩ : ∃ W0, W0 = ((((w.alloc (.cells #[.int .i64 0] 3)).alloc (.cells #[.int .i64 0] 3)).alloc (.cells #[.bool false] 4)).alloc (.cells #[.pointer (some ⟨g, 0, none⟩)] 24)) := ⟨_, rfl⟩
  rw [← hW0] at b2 b3 b4 bt hB ⊢
  have h2 := h.below hB
  have hlt : ∀ k, (k ∉ Z ∧ k < w.heap.size) → k < W0.heap.size := fun k hk => Nat.lt_of_lt_of_le hk.2 hB.size
  have hT2 : TreeAt vI vI (fun k => k ∉ Z ∧ k < w.heap.size) W0 A t := (h.tr.less (E' := fun k => k ∉ Z ∧ k < w.heap.size) fun k h1 h2 => ⟨h1, h2⟩).below hB
  have hg0 := h2.c0
  rw [← hn0] at b2 b3 b4 bt hlt hT2 ⊢
  have HB := Lib.hid hB
  have Hn := Lib.hid hn0
  have hbl := bt.lt
  have hn1 : n0 ≤ W0.heap.size := by omega
  clear hW0 hB hn0 h h2
  refine wpIn_range (enc := en1) (fi := #[]) (lb := #[.pointer (some ⟨n0 + 1 + 1 + 1, 0, none⟩)]) rfl eg (fall1_it (fun k => k ∉ Z ∧ k < n0) (n0 + 1 + 1 + 1) g A t) ⟨⟨hlt, hT2⟩, bt.cell, hg0⟩ (fun _ => rfl)
    (fun Y' pre' V => pre' = [] ∧ Gn n0 W0 Y' V ∧ Boxed V n0 3 (.int .i64 0) ∧ Boxed V (n0 + 1) 3 (.int .i64 0) ∧ Boxed V (n0 + 1 + 1) 4 (.bool false))
    (fun c Y' pre' V => c = .ret ∧ ∃ y, pre' = [y] ∧ Gn n0 W0 Y' V ∧ Boxed V n0 3 (vI y.1) ∧ Boxed V (n0 + 1) 3 (vI y.2) ∧ Boxed V (n0 + 1 + 1) 4 (.bool true)) ?ab ?abx ?start2
    (fun y => { tmps := #[.pointer (some ⟨g, 0, none⟩), undef, .pointer (some ⟨n0, 0, none⟩), .pointer (some ⟨n0 + 1, 0, none⟩), .pointer (some ⟨n0 + 1 + 1, 0, none⟩), vI y.1, vI y.2, undef, undef, .pointer (some ⟨g, 0, none⟩), .func (.func 37) #[] #[.pointer (some ⟨n0 + 1 + 1 + 1, 0, none⟩)], vI y.1, vI y.2, undef, undef, undef, undef], defers := [] }) ?assign ?body ?done ?stop
  case ab =>
    rintro X X' s A B ⟨h1, h2, h3, h4, h5⟩ hg
    exact ⟨h1, h2.grow hn1 hg, h2.boxed (by omega) h3 hg, h2.boxed (by omega) h4 hg, h2.boxed (by omega) h5 hg⟩
  case abx =>
    rintro c X X' s A B ⟨h0, y, h1, h2, h3, h4, h5⟩ hg
    exact ⟨h0, y, h1, h2.grow hn1 hg, h2.boxed (by omega) h3 hg, h2.boxed (by omega) h4 hg, h2.boxed (by omega) h5 hg⟩
  case start2 => exact ⟨rfl, Gn.refl _ _, b2, b3, b4⟩
  case assign =>
    intro l1 y V K hK
    gi_wp2
    exact hK
  case body =>
    rintro l1 Y' pre' y V hl1 ⟨rfl, hG, h3, h4, h5⟩ hpp
    have c3 := h3.cell
    have c4 := h4.cell
    have c5 := h5.cell
    have f3 := h3.frozen
    have f4 := h4.frozen
    have f5 := h5.frozen
    gi_wp2
    have k3 := ((h3.set (vI y.1)).other (show n0 ≠ n0 + 1 by omega) (vI y.2)).other (show n0 ≠ n0 + 1 + 1 by omega) (.bool true)
    have k4 := ((h4.other (show n0 + 1 ≠ n0 by omega) (vI y.1)).set (vI y.2)).other (show n0 + 1 ≠ n0 + 1 + 1 by omega) (.bool true)
    have k5 := ((h5.other (show n0 + 1 + 1 ≠ n0 by omega) (vI y.1)).other (show n0 + 1 + 1 ≠ n0 + 1 by omega) (vI y.2)).set (.bool true)
    have hnY : ∀ b, b < W0.heap.size → ¬ Y' b := fun b hb e => by have := (hG.new b e).1; omega
    refine ⟨?_, rfl, y, rfl, ((hG.set n0 0 (vI y.1) (by omega)).set (n0 + 1) 0 (vI y.2) (by omega)).set (n0 + 1 + 1) 0 (.bool true) (by omega), k3, k4, k5⟩
    exact ((kept_set _ _ _ _ (fun e => by have := e.2; omega) (hnY _ (by omega))).trans (kept_set _ _ _ _ (fun e => by have := e.2; omega) (hnY _ (by omega)))).trans (kept_set _ _ _ _ (fun e => by have := e.2; omega) (hnY _ (by omega)))
  case stop =>
    rintro Y' D c pre' V hD hDe hpp ⟨rfl, y, rfl, hG, h3, h4, h5⟩ hDV
    have hnD : ∀ b, b < W0.heap.size → b ≠ D := fun b hb e => by have := (hG.new D hD).1; omega
    have hx : first1 t.toL = .tuple #[vI y.1, vI y.2, .bool true] := by
      obtain ⟨r, e⟩ := hpp
      rw [← e]; rfl
    rw [htl.out] at hx
    have Hx := Lib.hid hx
    clear hpp hx hDe
    gi_wp2
    refine ⟨by simp, .inl ⟨_, _, rfl, run_takeDeferred hDV, ?_⟩⟩
    have c3 := (boxed_grow h3 (Grow.putObj V D (.deferred none) hD) (fun e => by have := (hG.new _ e).1; omega)).cell
    have c4 := (boxed_grow h4 (Grow.putObj V D (.deferred none) hD) (fun e => by have := (hG.new _ e).1; omega)).cell
    have c5 := (boxed_grow h5 (Grow.putObj V D (.deferred none) hD) (fun e => by have := (hG.new _ e).1; omega)).cell
    refine ⟨.tuple #[vI y.1, vI y.2, .bool true], by simp [results, Try.f21, go_sem, c3, c4, c5], by rw [Hx.out], ?_⟩
    rw [← Hn.out]
    exact (by rw [Hn.out]; exact HB.out : Below n0 w W0).trans (hG.put hn1 D _ hD).below
  case done =>
    rintro Y' D V hD hDe ⟨hnil, hG, h3, h4, h5⟩ hDV
    have hx : first1 xs = .tuple #[.int .i64 0, .int .i64 0, .bool false] := by rw [← htl.out, hnil]; rfl
    have Hx := Lib.hid hx
    have c3 := h3.cell
    have c4 := h4.cell
    have c5 := h5.cell
    have f3 := h3.frozen
    have f4 := h4.frozen
    have f5 := h5.frozen
    clear hx hDe hnil
    gi_wp2
    have k3 := ((h3.set (.int .i64 0)).other (show n0 ≠ n0 + 1 by omega) (.int .i64 0)).other (show n0 ≠ n0 + 1 + 1 by omega) (.bool false)
    have k4 := ((h4.other (show n0 + 1 ≠ n0 by omega) (.int .i64 0)).set (.int .i64 0)).other (show n0 + 1 ≠ n0 + 1 + 1 by omega) (.bool false)
    have k5 := ((h5.other (show n0 + 1 + 1 ≠ n0 by omega) (.int .i64 0)).other (show n0 + 1 + 1 ≠ n0 + 1 by omega) (.int .i64 0)).set (.bool false)
    have hG2 := ((hG.set n0 0 (.int .i64 0) (by omega)).set (n0 + 1) 0 (.int .i64 0) (by omega)).set (n0 + 1 + 1) 0 (.bool false) (by omega)
    obtain ⟨V2, eV2⟩ : ∃ V2, V2 = ((V.setCell ⟨n0, 0, none⟩ (.int .i64 0)).setCell ⟨n0 + 1, 0, none⟩ (.int .i64 0)).setCell ⟨n0 + 1 + 1, 0, none⟩ (.bool false) := ⟨_, rfl⟩
    have hDV2 : V2.heap[D]? = some (.deferred (some [])) := by
      rw [eV2, Below.heap_setCell _ _ _ _ (show D ≠ n0 + 1 + 1 by have := (hG.new D hD).1; omega), Below.heap_setCell _ _ _ _ (show D ≠ n0 + 1 by have := (hG.new D hD).1; omega), Below.heap_setCell _ _ _ _ (show D ≠ n0 by have := (hG.new D hD).1; omega)]
      exact hDV
    rw [← eV2] at k3 k4 k5 hG2 ⊢
    clear eV2
    refine ⟨by simp, .inl ⟨_, _, rfl, run_takeDeferred hDV2, ?_⟩⟩
    have d3 := (boxed_grow k3 (Grow.putObj V2 D (.deferred none) hD) (fun e => by have := (hG2.new _ e).1; omega)).cell
    have d4 := (boxed_grow k4 (Grow.putObj V2 D (.deferred none) hD) (fun e => by have := (hG2.new _ e).1; omega)).cell
    have d5 := (boxed_grow k5 (Grow.putObj V2 D (.deferred none) hD) (fun e => by have := (hG2.new _ e).1; omega)).cell
    refine ⟨.tuple #[.int .i64 0, .int .i64 0, .bool false], by simp [results, Try.f21, go_sem, d3, d4, d5], by rw [Hx.out], ?_⟩
    rw [← Hn.out]
    exact (by rw [Hn.out]; exact HB.out : Below n0 w W0).trans (hG2.put hn1 D _ hD).below
end Go.Proofs.Ytogeifnkjckaiaa
