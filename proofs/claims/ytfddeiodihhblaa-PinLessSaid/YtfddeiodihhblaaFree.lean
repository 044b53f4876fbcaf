/- Whether no word but that at a place blocks an epoch. -/
import Derived.Test.YtfddeiodihhblaaStand
namespace Go.Proofs.Ytfddeiodihhblaa
open Go.RowKit Go.Shelf
attribute [local go_sem] Oper.semAt_some

theorem eg18 : ∀ args w, (callFunc 18 args).run Try.prog w = .ok (.enter 18 args) w := enters_of Try.func18 (by kernel_rfl) rfl
theorem bad_pos {s e : Int} {y : Int × Int} : bad s e y = (blk y.2 e && y.1 != s) := rfl
set_option maxRecDepth 100000 in
set_option maxHeartbeats 1000000 in
theorem free_any (A : Option Addr) (c : Nat) (l : List Int) (s e : Int) (w : World) (hI : IS w w.heap.size A l) (hR : Rng l) (hlen : l.length ≤ 1000000) :
    Calls Try.prog 14 #[.slice A l.length c, vI s, vI e] w fun r w' => r = .returned (.bool (freeB l s e)) ∧ Below w.heap.size w w' := by
  refine (callsIn_wide (n := 6)).1 ?_
  refine callsIn_of_wp_marks Try.func14 rfl trivial ?_ rfl
  simp only [Try.ntmps14, List.size_toArray, List.length_cons, List.length_nil, Nat.reduceAdd, Nat.reduceSub, Array.replicate_succ, Array.replicate_zero, List.push_toArray, List.append_toArray, List.nil_append, List.cons_append]
  gi_wp2_with (first
    | (refine ⟨trivial, ?_⟩; gi_at_call 17; refine (pinned_in _ A l.length c _).mono ?_; rintro e w2 ⟨rfl, rfl⟩))
  have b1 := (((Boxed.new w 3 (vI s)).alloc (.cells #[vI e] 3)).alloc (.cells #[.bool false] 4)).alloc (.cells #[.slice A l.length c] 22)
  have b2 := ((Boxed.new (w.alloc (.cells #[vI s] 3)) 3 (vI e)).alloc (.cells #[.bool false] 4)).alloc (.cells #[.slice A l.length c] 22)
  have b3 := (Boxed.new ((w.alloc (.cells #[vI s] 3)).alloc (.cells #[vI e] 3)) 4 (.bool false)).alloc (.cells #[.slice A l.length c] 22)
  have bt := Boxed.new (((w.alloc (.cells #[vI s] 3)).alloc (.cells #[vI e] 3)).alloc (.cells #[.bool false] 4)) 22 (.slice A l.length c)
  have hB : Below w.heap.size w ((((w.alloc (.cells #[vI s] 3)).alloc (.cells #[vI e] 3)).alloc (.cells #[.bool false] 4)).alloc (.cells #[.slice A l.length c] 22)) := bstep (bstep (bstep (bnew _ _) (bnew _ _)) (bnew _ _)) (bnew _ _)
  simp only [World.size_alloc] at b2 b3 bt
  obtain ⟨n0, hn0⟩ : ∃ n, n = w.heap.size := ⟨_, rfl⟩
  obtain ⟨W0, hW0⟩ : ∃ W0, W0 = ((((w.alloc (.cells #[vI s] 3)).alloc (.cells #[vI e] 3)).alloc (.cells #[.bool false] 4)).alloc (.cells #[.slice A l.length c] 22)) := ⟨_, rfl⟩
  rw [← hW0] at b1 b2 b3 bt hB ⊢
  rw [← hn0] at b1 b2 b3 bt ⊢
  have hbl := bt.lt
  have hn1 : n0 ≤ W0.heap.size := by omega
  have hSt : StP A c l (n0 + 1 + 1 + 1) W0 := ⟨bt.cell, hI.on hB⟩
  have HB := Lib.hid hB
  have Hn := Lib.hid hn0
  have hE : ∀ k, EP A l (n0 + 1 + 1 + 1) k → k < n0 ∨ k = n0 + 1 + 1 + 1 := fun k hk => by
    rcases hk with rfl | ⟨i, x, off, hi, rfl⟩
    · exact .inr rfl
    · obtain ⟨b, off2, e1, h1, _⟩ := hI i x hi
      injection e1 with e1
      injection e1 with e1
      subst e1
      exact .inl (by rw [hn0]; exact h1)
  clear hW0 hB hn0
  refine wpIn_range (enc := enP) (fi := #[]) (lb := #[ptr (n0 + 1 + 1 + 1)]) rfl eg18 (pinned_it A c l (n0 + 1 + 1 + 1) hlen) hSt (fun _ => rfl)
    (fun Y pre V => Gn n0 W0 Y V ∧ Boxed V n0 3 (vI s) ∧ Boxed V (n0 + 1) 3 (vI e) ∧ Boxed V (n0 + 1 + 1) 4 (.bool false) ∧ ∀ y ∈ pre, bad s e y = false)
    (fun c Y pre V => c = .ret ∧ Gn n0 W0 Y V ∧ Boxed V (n0 + 1 + 1) 4 (.bool false) ∧ ∃ y ∈ pre, bad s e y = true) ?ab ?abx ⟨Gn.refl _ _, b1, b2, b3, fun y h => by cases h⟩
    (fun y => { tmps := #[.slice A l.length c, vI s, vI e, undef, ptr n0, ptr (n0 + 1), ptr (n0 + 1 + 1), vI y.1, vI y.2, .slice A l.length c, .func (.func 18) #[] #[ptr (n0 + 1 + 1 + 1)], vI y.1, vI y.2, undef, undef, undef, undef, undef, undef, undef, undef], defers := [] }) ?assign ?body ?done ?stop
  case ab =>
    rintro X X' s A B ⟨h1, h2, h3, h4, h5⟩ hg
    exact ⟨h1.grow hn1 hg, h1.boxed (by omega) h2 hg, h1.boxed (by omega) h3 hg, h1.boxed (by omega) h4 hg, h5⟩
  case abx =>
    rintro c X X' s A B ⟨h0, h1, h2, h3⟩ hg
    exact ⟨h0, h1.grow hn1 hg, h1.boxed (by omega) h2 hg, h3⟩
  case assign =>
    intro l1 y V K hK
    gi_wp2
    exact hK
  case body =>
    rintro l1 Y pre y V hl1 ⟨hG, h1, h2, h3, h4⟩ hpp
    have hy : y ∈ pn l := hpp.subset (by simp)
    have hw : Wd y.2 := by obtain ⟨_, k, _, h⟩ := pn_mem.1 hy; exact hR.at h
    obtain ⟨p, x⟩ := y
    simp only at hw ⊢
    have c1 := h1.cell
    have c2 := h2.cell
    have c3 := h3.cell
    have f3 := h3.frozen
    have Hb := Lib.hid (bad_pos (s := s) (e := e) (y := (p, x)))
    have Hy := Lib.hid hy
    have hnY : ∀ b, b < W0.heap.size → ¬ Y b := fun b hb e => by have := (hG.new b e).1; omega
    have fin : ∀ V, bad s e (p, x) = false → Gn n0 W0 Y V → Boxed V n0 3 (vI s) → Boxed V (n0 + 1) 3 (vI e) → Boxed V (n0 + 1 + 1) 4 (.bool false) → (Gn n0 W0 Y V ∧ Boxed V n0 3 (vI s) ∧ Boxed V (n0 + 1) 3 (vI e) ∧ Boxed V (n0 + 1 + 1) 4 (.bool false) ∧ ∀ y ∈ pre ++ [(p, x)], bad s e y = false) := fun V k1 k2 k3 k4 k5 =>
      ⟨k2, k3, k4, k5, fun y hy => by
        rcases List.mem_append.1 hy with hy | hy
        · exact h4 y hy
        · simp at hy; subst hy; exact k1⟩
    have Hf := Lib.hid fin
    clear hpp fin hy h4
    by_cases hp : p = s
    · subst hp
      have hbad : bad p e (p, x) = false := by rw [Hb.out]; simp
      have Hbad := Lib.hid hbad
      clear hbad
      gi_wp2
      refine ⟨trivial, ?_⟩
      gi_wp2
      exact ⟨Kept.refl _ _ _, Hf.out _ Hbad.out hG h1 h2 h3⟩
    · have hp2 : (p != s) = true := by simpa using hp
      cases hb : blk x e with
      | false =>
        have hcl := fun w => blocks_any x e w hw
        rw [hb] at hcl
        have hbad : bad s e (p, x) = false := by rw [Hb.out]; simp only [hb]; rfl
        have Hbad := Lib.hid hbad
        clear hbad hb
        gi_wp2_with (refine ⟨trivial, ?_⟩; gi_at_call 10; refine (CallsIn.inRound l1 (callsIn_wide.2 (hcl _))).mono ?_; rintro e w3 ⟨rfl, rfl⟩)
        exact ⟨Kept.refl _ _ _, Hf.out _ Hbad.out hG h1 h2 h3⟩
      | true =>
        have hcl := fun w => blocks_any x e w hw
        rw [hb] at hcl
        have hbad : bad s e (p, x) = true := by rw [Hb.out]; simp only [hb, hp2]; rfl
        have Hbad := Lib.hid hbad
        clear hbad hb
        gi_wp2_with (refine ⟨trivial, ?_⟩; gi_at_call 10; refine (CallsIn.inRound l1 (callsIn_wide.2 (hcl _))).mono ?_; rintro e w3 ⟨rfl, rfl⟩)
        refine ⟨kept_set _ _ _ _ (fun h => by have := hE _ h; omega) (hnY _ (by omega)), rfl, hG.set _ _ _ (by omega), h3.set _, (p, x), by simp, Hbad.out⟩
  case stop =>
    rintro Y D c' pre V hD hDe hpp ⟨rfl, hG, h3, y, hy, hbad⟩ hDV
    have Hx := Lib.hid (free_false (hpp.subset hy) hbad)
    clear hpp hDe hy hbad
    gi_wp2
    refine ⟨by simp, .inl ⟨_, _, rfl, run_takeDeferred hDV, ?_⟩⟩
    have c3 := (boxed_grow h3 (Grow.putObj V D (.deferred none) hD) (fun e => by have := (hG.new _ e).1; omega)).cell
    refine ⟨.bool false, by simp [results, Try.f14, go_sem, c3], by rw [Hx.out], ?_⟩
    rw [← Hn.out]
    exact (by rw [Hn.out]; exact HB.out : Below n0 w W0).trans (hG.put hn1 D _ hD).below
  case done =>
    rintro Y D V hD hDe ⟨hG, _, _, h3, h4⟩ hDV
    have Hx := Lib.hid (free_none h4)
    have c3 := h3.cell
    have f3 := h3.frozen
    clear hDe h4
    gi_wp2
    have k3 := h3.set (.bool true)
    have hG2 := hG.set (n0 + 1 + 1) 0 (.bool true) (by omega)
    obtain ⟨V2, eV2⟩ : ∃ V2, V2 = V.setCell ⟨n0 + 1 + 1, 0, none⟩ (.bool true) := ⟨_, rfl⟩
    have hDV2 : V2.heap[D]? = some (.deferred (some [])) := by
      rw [eV2, Below.heap_setCell _ _ _ _ (show D ≠ n0 + 1 + 1 by have := (hG.new D hD).1; omega)]
      exact hDV
    rw [← eV2] at k3 hG2 ⊢
    clear eV2
    refine ⟨by simp, .inl ⟨_, _, rfl, run_takeDeferred hDV2, ?_⟩⟩
    have d3 := (boxed_grow k3 (Grow.putObj V2 D (.deferred none) hD) (fun e => by have := (hG2.new _ e).1; omega)).cell
    refine ⟨.bool true, by simp [results, Try.f14, go_sem, d3], by rw [Hx.out], ?_⟩
    rw [← Hn.out]
    exact (by rw [Hn.out]; exact HB.out : Below n0 w W0).trans (hG2.put hn1 D _ hD).below
end Go.Proofs.Ytfddeiodihhblaa
