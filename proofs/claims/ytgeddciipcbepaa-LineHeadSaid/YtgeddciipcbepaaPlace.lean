/- At which place one stands, by any word. -/
import Derived.Test.YtgeddciipcbepaaHead
namespace Go.Proofs.Ytgeddciipcbepaa
open Go.RowKit Go.Shelf
attribute [local go_sem] Oper.semAt_some

def placeV (l : List Int) (x : Int) : Value := if x ∈ l then .tuple #[vI (l.idxOf x : Nat), .bool true] else .tuple #[.int .i64 0, .bool false]
theorem placeV_out {l : List Int} {x : Int} (h : x ∉ l) : placeV l x = .tuple #[.int .i64 0, .bool false] := if_neg h
theorem placeV_in (a b : List Int) {x : Int} (h : x ∉ a) : placeV (a ++ x :: b) x = .tuple #[vI a.length, .bool true] := by
  unfold placeV
  rw [if_pos (by simp), List.idxOf_append, if_neg h]
  simp
theorem pl_snd (l : List Int) : (pl l).map Prod.snd = l := by
  apply List.ext_getElem?
  intro i
  simp only [List.getElem?_map, pl, List.getElem?_mapIdx]
  cases l[i]? <;> rfl
theorem placeV_none {l : List Int} {x : Int} (h : ∀ p ∈ pl l, p.2 ≠ x) : placeV l x = .tuple #[.int .i64 0, .bool false] := by
  refine placeV_out fun e => ?_
  rw [← pl_snd l] at e
  obtain ⟨p, hp, rfl⟩ := List.mem_map.1 e
  exact h p hp rfl
theorem placeV_pl {l : List Int} {x : Int} {p : PL} {y : Int × Int} (h : p ++ [y] <+: pl l) (hp : ∀ z ∈ p, z.2 ≠ x) (hy : y.2 = x) : placeV l x = .tuple #[vI y.1, .bool true] := by
  obtain ⟨r, e⟩ := h
  have hl := pl_snd l
  rw [← e] at hl
  simp only [List.map_append, List.map_cons, List.append_assoc, List.singleton_append] at hl
  rw [hy] at hl
  have hk : (pl l)[p.length]? = some y := by rw [← e]; simp
  have hx : l[p.length]? = some x := by rw [← hl]; simp
  have := pl_at hx
  rw [hk] at this
  injection this with this
  have h1 : x ∉ p.map Prod.snd := fun e => by
    obtain ⟨z, hz, e⟩ := List.mem_map.1 e
    exact hp z hz e
  rw [← hl, placeV_in _ _ h1, this]
  simp
set_option maxRecDepth 100000 in
set_option maxHeartbeats 1000000 in
theorem place_any (q who : Int) (w : World) : Calls Try.prog 28 #[vI q, vI who] w fun e w' => e = .returned (placeV (lst q) who) ∧ Below w.heap.size w w' := by
  refine (callsIn_wide (n := 6)).1 ?_
  refine callsIn_of_wp_marks Try.func28 rfl trivial ?_ rfl
  simp only [Try.ntmps28, List.size_toArray, List.length_cons, List.length_nil, Nat.reduceAdd, Nat.reduceSub, Array.replicate_succ, Array.replicate_zero, List.push_toArray, List.append_toArray, List.nil_append, List.cons_append]
  gi_wp2_with (first
    | (refine ⟨trivial, ?_⟩; gi_at_call 27; refine (stand_in _ q _).mono ?_; rintro e w2 ⟨rfl, rfl⟩))
  have b0 := (((Boxed.new w 3 (vI who)).alloc (.cells #[.int .i64 0] 3)).alloc (.cells #[.bool false] 4)).alloc (.cells #[vI q] 3)
  have b2 := ((Boxed.new (w.alloc (.cells #[vI who] 3)) 3 (.int .i64 0)).alloc (.cells #[.bool false] 4)).alloc (.cells #[vI q] 3)
  have b3 := (Boxed.new ((w.alloc (.cells #[vI who] 3)).alloc (.cells #[.int .i64 0] 3)) 4 (.bool false)).alloc (.cells #[vI q] 3)
  have bt := Boxed.new (((w.alloc (.cells #[vI who] 3)).alloc (.cells #[.int .i64 0] 3)).alloc (.cells #[.bool false] 4)) 3 (vI q)
  have hB : Below w.heap.size w ((((w.alloc (.cells #[vI who] 3)).alloc (.cells #[.int .i64 0] 3)).alloc (.cells #[.bool false] 4)).alloc (.cells #[vI q] 3)) := bstep (bstep (bstep (bnew _ _) (bnew _ _)) (bnew _ _)) (bnew _ _)
  simp only [World.size_alloc] at b2 b3 bt
  obtain ⟨n0, hn0⟩ : ∃ n, n = w.heap.size := ⟨_, rfl⟩
  obtain ⟨W0, hW0⟩ : ∃ W0, W0 = (((w.alloc (.cells #[vI who] 3)).alloc (.cells #[.int .i64 0] 3)).alloc (.cells #[.bool false] 4)).alloc (.cells #[vI q] 3) := ⟨_, rfl⟩
  rw [← hW0] at b0 b2 b3 bt hB ⊢
  rw [← hn0] at b0 b2 b3 bt ⊢
  have hbl := bt.lt
  have hn1 : n0 ≤ W0.heap.size := by omega
  have HB := Lib.hid hB
  have Hn := Lib.hid hn0
  clear hW0 hB hn0
  refine wpIn_range (enc := enP) (fi := #[]) (lb := #[ptr (n0 + 1 + 1 + 1)]) rfl eg29 (stand_it q (n0 + 1 + 1 + 1)) bt.cell (fun _ => rfl)
    (fun Y pre V => (∀ p ∈ pre, p.2 ≠ who) ∧ Gn n0 W0 Y V ∧ Boxed V n0 3 (vI who) ∧ Boxed V (n0 + 1) 3 (.int .i64 0) ∧ Boxed V (n0 + 1 + 1) 4 (.bool false))
    (fun c Y pre V => c = .ret ∧ ∃ p y, pre = p ++ [y] ∧ (∀ z ∈ p, z.2 ≠ who) ∧ y.2 = who ∧ Gn n0 W0 Y V ∧ Boxed V (n0 + 1) 3 (vI y.1) ∧ Boxed V (n0 + 1 + 1) 4 (.bool true)) ?ab ?abx ⟨fun _ h => (by cases h), Gn.refl _ _, b0, b2, b3⟩
    (fun y => { tmps := #[vI q, vI who, undef, ptr n0, ptr (n0 + 1), ptr (n0 + 1 + 1), vI y.1, vI y.2, vI q, .func (.func 29) #[] #[ptr (n0 + 1 + 1 + 1)], vI y.1, vI y.2, undef, undef, undef, undef], defers := [] }) ?assign ?body ?done ?stop
  case ab =>
    rintro X X' s A B ⟨h0, h1, h2, h3, h4⟩ hg
    exact ⟨h0, h1.grow hn1 hg, h1.boxed (by omega) h2 hg, h1.boxed (by omega) h3 hg, h1.boxed (by omega) h4 hg⟩
  case abx =>
    rintro c X X' s A B ⟨h0, p, y, h1, h2, h3, h4, h5, h6⟩ hg
    exact ⟨h0, p, y, h1, h2, h3, h4.grow hn1 hg, h4.boxed (by omega) h5 hg, h4.boxed (by omega) h6 hg⟩
  case assign =>
    intro l1 y V K hK
    gi_wp2
    exact hK
  case body =>
    rintro l1 Y pre y V hl1 ⟨hp, hG, h2, h3, h4⟩ hpp
    have Hp := Lib.hid hp
    clear hp hpp
    have c2 := h2.cell
    have c3 := h3.cell
    have c4 := h4.cell
    have f3 := h3.frozen
    have f4 := h4.frozen
    have hnY : ∀ b, b < W0.heap.size → ¬ Y b := fun b hb e => by have := (hG.new b e).1; omega
    by_cases hy : y.2 = who
    · have hyb : (y.2 == who) = true := by simpa using hy
      have Hy := Lib.hid hy
      clear hy
      gi_wp2
      have k3 := (h3.set (vI y.1)).other (show n0 + 1 ≠ n0 + 1 + 1 by omega) (.bool true)
      have k4 := (h4.other (show n0 + 1 + 1 ≠ n0 + 1 by omega) (vI y.1)).set (.bool true)
      exact ⟨(kept_set _ _ _ _ (by omega) (hnY _ (by omega))).trans (kept_set _ _ _ _ (by omega) (hnY _ (by omega))), rfl, pre, y, rfl, Hp.out, Hy.out, (hG.set (n0 + 1) 0 _ (by omega)).set (n0 + 1 + 1) 0 _ (by omega), k3, k4⟩
    · have hyb : (y.2 == who) = false := by simpa using hy
      have Hy := Lib.hid hy
      clear hy
      gi_wp2
      refine ⟨Kept.refl _ _ _, fun z hz => ?_, hG, h2, h3, h4⟩
      rcases List.mem_append.1 hz with hz | hz
      · exact Hp.out z hz
      · simp at hz
        subst hz
        exact Hy.out
  case stop =>
    rintro Y D c pre V hD hDe hpp ⟨rfl, p, y, rfl, hp, hy, hG, h3, h4⟩ hDV
    have Hx := Lib.hid (placeV_pl hpp hp hy)
    clear hpp hDe hp hy
    gi_wp2
    refine ⟨by simp, .inl ⟨_, _, rfl, run_takeDeferred hDV, ?_⟩⟩
    have c3 := (boxed_grow h3 (Grow.putObj V D (.deferred none) hD) (fun e => by have := (hG.new _ e).1; omega)).cell
    have c4 := (boxed_grow h4 (Grow.putObj V D (.deferred none) hD) (fun e => by have := (hG.new _ e).1; omega)).cell
    refine ⟨.tuple #[vI y.1, .bool true], by simp [results, Try.f28, go_sem, c3, c4], by rw [Hx.out], ?_⟩
    rw [← Hn.out]
    exact (by rw [Hn.out]; exact HB.out : Below n0 w W0).trans (hG.put hn1 D _ hD).below
  case done =>
    rintro Y D V hD hDe ⟨hp, hG, h2, h3, h4⟩ hDV
    have Hx := Lib.hid (placeV_none hp)
    have c3 := h3.cell
    have c4 := h4.cell
    have f3 := h3.frozen
    have f4 := h4.frozen
    clear hDe hp
    gi_wp2
    have k3 := (h3.set (.int .i64 0)).other (show n0 + 1 ≠ n0 + 1 + 1 by omega) (.bool false)
    have k4 := (h4.other (show n0 + 1 + 1 ≠ n0 + 1 by omega) (.int .i64 0)).set (.bool false)
    have hG2 := (hG.set (n0 + 1) 0 (.int .i64 0) (by omega)).set (n0 + 1 + 1) 0 (.bool false) (by omega)
    obtain ⟨V2, eV2⟩ : ∃ V2, V2 = (V.setCell ⟨n0 + 1, 0, none⟩ (.int .i64 0)).setCell ⟨n0 + 1 + 1, 0, none⟩ (.bool false) := ⟨_, rfl⟩
    have hDV2 : V2.heap[D]? = some (.deferred (some [])) := by
      rw [eV2, Below.heap_setCell _ _ _ _ (show D ≠ n0 + 1 + 1 by have := (hG.new D hD).1; omega), Below.heap_setCell _ _ _ _ (show D ≠ n0 + 1 by have := (hG.new D hD).1; omega)]
      exact hDV
    rw [← eV2] at k3 k4 hG2 ⊢
    clear eV2
    refine ⟨by simp, .inl ⟨_, _, rfl, run_takeDeferred hDV2, ?_⟩⟩
    have d3 := (boxed_grow k3 (Grow.putObj V2 D (.deferred none) hD) (fun e => by have := (hG2.new _ e).1; omega)).cell
    have d4 := (boxed_grow k4 (Grow.putObj V2 D (.deferred none) hD) (fun e => by have := (hG2.new _ e).1; omega)).cell
    refine ⟨.tuple #[.int .i64 0, .bool false], by simp [results, Try.f28, go_sem, d3, d4], by rw [Hx.out], ?_⟩
    rw [← Hn.out]
    exact (by rw [Hn.out]; exact HB.out : Below n0 w W0).trans (hG2.put hn1 D _ hD).below
end Go.Proofs.Ytgeddciipcbepaa
