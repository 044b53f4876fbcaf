/- Who stands first, by any word. -/
import Derived.Test.YtgeddciipcbepaaLen
namespace Go.Proofs.Ytgeddciipcbepaa
open Go.RowKit Go.Shelf
attribute [local go_sem] Oper.semAt_some

def headV (l : List Int) : Value := match l with
  | [] => .tuple #[.int .i64 0, .bool false]
  | x :: _ => .tuple #[vI x, .bool true]
theorem headV_pl {l : List Int} {y : Int × Int} (h : [y] <+: pl l) : headV l = .tuple #[vI y.2, .bool true] := by
  obtain ⟨r, e⟩ := h
  cases l with
  | nil => simp [pl] at e
  | cons x t =>
    simp [pl] at e
    rw [e.1]; rfl
theorem headV_nil {l : List Int} (h : [] = pl l) : headV l = .tuple #[.int .i64 0, .bool false] := by
  cases l with
  | nil => rfl
  | cons x t => simp [pl] at h
set_option maxRecDepth 100000 in
set_option maxHeartbeats 1000000 in
theorem head_any (q : Int) (w : World) : Calls Try.prog 13 #[vI q] w fun e w' => e = .returned (headV (lst q)) ∧ Below w.heap.size w w' := by
  refine (callsIn_wide (n := 6)).1 ?_
  refine callsIn_of_wp_marks Try.func13 rfl trivial ?_ rfl
  simp only [Try.ntmps13, List.size_toArray, List.length_cons, List.length_nil, Nat.reduceAdd, Nat.reduceSub, Array.replicate_succ, Array.replicate_zero, List.push_toArray, List.append_toArray, List.nil_append, List.cons_append]
  gi_wp2_with (first
    | (refine ⟨trivial, ?_⟩; gi_at_call 27; refine (stand_in _ q _).mono ?_; rintro e w2 ⟨rfl, rfl⟩))
  have b2 := ((Boxed.new w 3 (.int .i64 0)).alloc (.cells #[.bool false] 4)).alloc (.cells #[vI q] 3)
  have b3 := (Boxed.new (w.alloc (.cells #[.int .i64 0] 3)) 4 (.bool false)).alloc (.cells #[vI q] 3)
  have bt := Boxed.new ((w.alloc (.cells #[.int .i64 0] 3)).alloc (.cells #[.bool false] 4)) 3 (vI q)
  have hB : Below w.heap.size w (((w.alloc (.cells #[.int .i64 0] 3)).alloc (.cells #[.bool false] 4)).alloc (.cells #[vI q] 3)) := bstep (bstep (bnew _ _) (bnew _ _)) (bnew _ _)
  simp only [World.size_alloc] at b3 bt
  obtain ⟨n0, hn0⟩ : ∃ n, n = w.heap.size := ⟨_, rfl⟩
  obtain ⟨W0, hW0⟩ : ∃ W0, W0 = ((w.alloc (.cells #[.int .i64 0] 3)).alloc (.cells #[.bool false] 4)).alloc (.cells #[vI q] 3) := ⟨_, rfl⟩
  rw [← hW0] at b2 b3 bt hB ⊢
  rw [← hn0] at b2 b3 bt ⊢
  have hbl := bt.lt
  have hn1 : n0 ≤ W0.heap.size := by omega
  have HB := Lib.hid hB
  have Hn := Lib.hid hn0
  clear hW0 hB hn0
  refine wpIn_range (enc := enP) (fi := #[]) (lb := #[ptr (n0 + 1 + 1)]) rfl eg29 (stand_it q (n0 + 1 + 1)) bt.cell (fun _ => rfl)
    (fun Y pre V => pre = [] ∧ Gn n0 W0 Y V ∧ Boxed V n0 3 (.int .i64 0) ∧ Boxed V (n0 + 1) 4 (.bool false))
    (fun c Y pre V => c = .ret ∧ ∃ y, pre = [y] ∧ Gn n0 W0 Y V ∧ Boxed V n0 3 (vI y.2) ∧ Boxed V (n0 + 1) 4 (.bool true)) ?ab ?abx ⟨rfl, Gn.refl _ _, b2, b3⟩
    (fun y => { tmps := #[vI q, undef, ptr n0, ptr (n0 + 1), undef, vI y.2, vI q, .func (.func 29) #[] #[ptr (n0 + 1 + 1)], vI y.1, vI y.2, undef], defers := [] }) ?assign ?body ?done ?stop
  case ab =>
    rintro X X' s A B ⟨h1, h2, h3, h4⟩ hg
    exact ⟨h1, h2.grow hn1 hg, h2.boxed (by omega) h3 hg, h2.boxed (by omega) h4 hg⟩
  case abx =>
    rintro c X X' s A B ⟨h0, y, h1, h2, h3, h4⟩ hg
    exact ⟨h0, y, h1, h2.grow hn1 hg, h2.boxed (by omega) h3 hg, h2.boxed (by omega) h4 hg⟩
  case assign =>
    intro l1 y V K hK
    gi_wp2
    exact hK
  case body =>
    rintro l1 Y pre y V hl1 ⟨rfl, hG, h3, h4⟩ hpp
    have c3 := h3.cell
    have c4 := h4.cell
    have f3 := h3.frozen
    have f4 := h4.frozen
    gi_wp2
    have k3 := (h3.set (vI y.2)).other (show n0 ≠ n0 + 1 by omega) (.bool true)
    have k4 := (h4.other (show n0 + 1 ≠ n0 by omega) (vI y.2)).set (.bool true)
    have hnY : ∀ b, b < W0.heap.size → ¬ Y b := fun b hb e => by have := (hG.new b e).1; omega
    exact ⟨(kept_set _ _ _ _ (by omega) (hnY _ (by omega))).trans (kept_set _ _ _ _ (by omega) (hnY _ (by omega))), rfl, y, rfl, (hG.set n0 0 _ (by omega)).set (n0 + 1) 0 _ (by omega), k3, k4⟩
  case stop =>
    rintro Y D c pre V hD hDe hpp ⟨rfl, y, rfl, hG, h3, h4⟩ hDV
    have Hx := Lib.hid (headV_pl hpp)
    clear hpp hDe
    gi_wp2
    refine ⟨by simp, .inl ⟨_, _, rfl, run_takeDeferred hDV, ?_⟩⟩
    have c3 := (boxed_grow h3 (Grow.putObj V D (.deferred none) hD) (fun e => by have := (hG.new _ e).1; omega)).cell
    have c4 := (boxed_grow h4 (Grow.putObj V D (.deferred none) hD) (fun e => by have := (hG.new _ e).1; omega)).cell
    refine ⟨.tuple #[vI y.2, .bool true], by simp [results, Try.f13, go_sem, c3, c4], by rw [Hx.out], ?_⟩
    rw [← Hn.out]
    exact (by rw [Hn.out]; exact HB.out : Below n0 w W0).trans (hG.put hn1 D _ hD).below
  case done =>
    rintro Y D V hD hDe ⟨hnil, hG, h3, h4⟩ hDV
    have Hx := Lib.hid (headV_nil hnil.symm)
    have c3 := h3.cell
    have c4 := h4.cell
    have f3 := h3.frozen
    have f4 := h4.frozen
    clear hDe hnil
    gi_wp2
    have k3 := (h3.set (.int .i64 0)).other (show n0 ≠ n0 + 1 by omega) (.bool false)
    have k4 := (h4.other (show n0 + 1 ≠ n0 by omega) (.int .i64 0)).set (.bool false)
    have hG2 := (hG.set n0 0 (.int .i64 0) (by omega)).set (n0 + 1) 0 (.bool false) (by omega)
    obtain ⟨V2, eV2⟩ : ∃ V2, V2 = (V.setCell ⟨n0, 0, none⟩ (.int .i64 0)).setCell ⟨n0 + 1, 0, none⟩ (.bool false) := ⟨_, rfl⟩
    have hDV2 : V2.heap[D]? = some (.deferred (some [])) := by
      rw [eV2, Below.heap_setCell _ _ _ _ (show D ≠ n0 + 1 by have := (hG.new D hD).1; omega), Below.heap_setCell _ _ _ _ (show D ≠ n0 by have := (hG.new D hD).1; omega)]
      exact hDV
    rw [← eV2] at k3 k4 hG2 ⊢
    clear eV2
    refine ⟨by simp, .inl ⟨_, _, rfl, run_takeDeferred hDV2, ?_⟩⟩
    have d3 := (boxed_grow k3 (Grow.putObj V2 D (.deferred none) hD) (fun e => by have := (hG2.new _ e).1; omega)).cell
    have d4 := (boxed_grow k4 (Grow.putObj V2 D (.deferred none) hD) (fun e => by have := (hG2.new _ e).1; omega)).cell
    refine ⟨.tuple #[.int .i64 0, .bool false], by simp [results, Try.f13, go_sem, d3, d4], by rw [Hx.out], ?_⟩
    rw [← Hn.out]
    exact (by rw [Hn.out]; exact HB.out : Below n0 w W0).trans (hG2.put hn1 D _ hD).below
end Go.Proofs.Ytgeddciipcbepaa
