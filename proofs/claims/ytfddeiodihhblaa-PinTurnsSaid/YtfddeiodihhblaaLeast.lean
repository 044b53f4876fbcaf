/- The least epoch at which somebody is pinned. -/
import Derived.Test.YtfddeiodihhblaaFree
namespace Go.Proofs.Ytfddeiodihhblaa
open Go.RowKit Go.Shelf
attribute [local go_sem] Oper.semAt_some

theorem lwP_go {pre : PL} {y : Int × Int} (h : lwP pre = 0 ∨ y.2 < lwP pre) : lwP (pre ++ [y]) = y.2 := by rw [lwP_snoc]; exact if_pos h
theorem lwP_no {pre : PL} {y : Int × Int} (h0 : lwP pre ≠ 0) (h : ¬ y.2 < lwP pre) : lwP (pre ++ [y]) = lwP pre := by rw [lwP_snoc]; exact if_neg (by omega)
set_option maxRecDepth 100000 in
set_option maxHeartbeats 1000000 in
theorem least_any (A : Option Addr) (c : Nat) (l : List Int) (w : World) (hI : IS w w.heap.size A l) (hR : Rng l) (hlen : l.length ≤ 1000000) :
    Calls Try.prog 12 #[.slice A l.length c] w fun r w' => r = .returned (.tuple #[vI (epN (lw l)), .bool (epB (lw l))]) ∧ Below w.heap.size w w' := by
  have hwd := lw_wd hR
  refine (callsIn_wide (n := 6)).1 ?_
  refine callsIn_of_wp_marks Try.func12 rfl trivial ?_ rfl
  simp only [Try.ntmps12, List.size_toArray, List.length_cons, List.length_nil, Nat.reduceAdd, Nat.reduceSub, Array.replicate_succ, Array.replicate_zero, List.push_toArray, List.append_toArray, List.nil_append, List.cons_append]
  gi_wp2_with (first
    | (refine ⟨trivial, ?_⟩; gi_at_call 17; refine (pinned_in _ A l.length c _).mono ?_; rintro e w2 ⟨rfl, rfl⟩))
  have b1 := (Boxed.new w 3 (.int .i64 0)).alloc (.cells #[.slice A l.length c] 22)
  have bt := Boxed.new (w.alloc (.cells #[.int .i64 0] 3)) 22 (.slice A l.length c)
  have hB : Below w.heap.size w ((w.alloc (.cells #[.int .i64 0] 3)).alloc (.cells #[.slice A l.length c] 22)) := bstep (bnew _ _) (bnew _ _)
  simp only [World.size_alloc] at bt
  obtain ⟨n0, hn0⟩ : ∃ n, n = w.heap.size := ⟨_, rfl⟩
  obtain ⟨W0, hW0⟩ : ∃ W0, W0 = ((w.alloc (.cells #[.int .i64 0] 3)).alloc (.cells #[.slice A l.length c] 22)) := ⟨_, rfl⟩
  rw [← hW0] at b1 bt hB ⊢
  rw [← hn0] at b1 bt ⊢
  have hbl := bt.lt
  have hn1 : n0 ≤ W0.heap.size := by omega
  have hSt : StP A c l (n0 + 1) W0 := ⟨bt.cell, hI.on hB⟩
  have HB := Lib.hid hB
  have Hn := Lib.hid hn0
  have hE : ∀ k, EP A l (n0 + 1) k → k < n0 ∨ k = n0 + 1 := fun k hk => by
    rcases hk with rfl | ⟨i, x, off, hi, rfl⟩
    · exact .inr rfl
    · obtain ⟨b, off2, e1, h1, _⟩ := hI i x hi
      injection e1 with e1
      injection e1 with e1
      subst e1
      exact .inl (by rw [hn0]; exact h1)
  clear hW0 hB hn0
  refine wpIn_range (enc := enP) (fi := #[]) (lb := #[ptr (n0 + 1)]) rfl eg18 (pinned_it A c l (n0 + 1) hlen) hSt (fun _ => rfl)
    (fun Y pre V => Gn n0 W0 Y V ∧ Boxed V n0 3 (vI (lwP pre)))
    (fun _ _ _ _ => False) ?ab (fun _ _ _ _ _ _ h _ => h.elim) ⟨Gn.refl _ _, b1⟩
    (fun y => { tmps := #[.slice A l.length c, undef, .int .i64 0, .bool false, ptr n0, undef, vI y.2, .slice A l.length c, .func (.func 18) #[] #[ptr (n0 + 1)], vI y.1, vI y.2, undef, undef, undef, undef, undef, undef, undef, undef, undef, undef, undef, undef], defers := [] }) ?assign ?body ?done ?stop
  case ab =>
    rintro X X' s A B ⟨h1, h2⟩ hg
    exact ⟨h1.grow hn1 hg, h1.boxed (by omega) h2 hg⟩
  case assign =>
    intro l1 y V K hK
    gi_wp2
    exact hK
  case body =>
    rintro l1 Y pre y V hl1 ⟨hG, h1⟩ hpp
    have Hgo := Lib.hid (@lwP_go pre y)
    have Hno := Lib.hid (@lwP_no pre y)
    obtain ⟨p, x⟩ := y
    obtain ⟨m, em⟩ : ∃ m, m = lwP pre := ⟨_, rfl⟩
    rw [← em] at h1 Hgo Hno
    clear em hpp
    have hnY : ∀ b, b < W0.heap.size → ¬ Y b := fun b hb e => by have := (hG.new b e).1; omega
    have c1 := h1.cell
    have f1 := h1.frozen
    have s1 := h1.set (vI x)
    have hG2 := hG.set n0 0 (vI x) (Nat.le_refl _)
    have hK : Kept (EP A l (n0 + 1)) Y V (V.setCell ⟨n0, 0, none⟩ (vI x)) := kept_set _ _ _ _ (fun h => by have := hE _ h; omega) (hnY _ (by omega))
    by_cases hm : m = 0
    · subst hm
      have hgo : lwP (pre ++ [(p, x)]) = x := Hgo.out (.inl rfl)
      replace s1 : Boxed (V.setCell ⟨n0, 0, none⟩ (vI x)) n0 3 (vI (lwP (pre ++ [(p, x)]))) := by rw [hgo]; exact s1
      have S1 := Lib.hid s1
      clear s1 hgo Hgo Hno
      gi_wp2
      exact ⟨hK, hG2, S1.out⟩
    · have hm2 : (m == 0) = false := by simpa using hm
      by_cases hx : x < m
      · have hgo : lwP (pre ++ [(p, x)]) = x := Hgo.out (.inr hx)
        replace s1 : Boxed (V.setCell ⟨n0, 0, none⟩ (vI x)) n0 3 (vI (lwP (pre ++ [(p, x)]))) := by rw [hgo]; exact s1
        have S1 := Lib.hid s1
        clear s1 hgo Hgo Hno hm
        gi_wp2
        exact ⟨hK, hG2, S1.out⟩
      · have hno := Hno.out hm hx
        have h2 := h1
        rw [← hno] at h2
        have S1 := Lib.hid h2
        clear h2 hno Hgo Hno s1 hG2 hK hm
        gi_wp2
        exact ⟨Kept.refl _ _ _, hG, S1.out⟩
  case stop =>
    rintro Y D c' pre V hD hDe hpre h hK
    exact h.elim
  case done =>
    rintro Y D V hD hDe ⟨hG, h3⟩ hDV
    have hm : lwP (pn l) = lw l := rfl
    rw [hm] at h3
    clear hm hDe
    obtain ⟨m, em⟩ : ∃ m, m = lw l := ⟨_, rfl⟩
    rw [← em] at h3 hwd
    have hcl := fun w => epoch_any m w hwd
    have c3 := h3.cell
    obtain ⟨a, ea⟩ : ∃ a, a = epN m := ⟨_, rfl⟩
    obtain ⟨b, eb⟩ : ∃ b, b = epB m := ⟨_, rfl⟩
    rw [← ea, ← eb] at hcl
    rw [em] at ea eb
    have Ea := Lib.hid ea
    have Eb := Lib.hid eb
    clear ea eb em
    gi_wp2_with (refine ⟨trivial, ?_⟩; gi_at_call 9; refine (callsIn_wide.2 (hcl _)).mono ?_; rintro e w3 ⟨rfl, rfl⟩)
    refine ⟨by simp, .inl ⟨_, _, rfl, run_takeDeferred hDV, ?_⟩⟩
    refine ⟨.tuple #[vI a, .bool b], by simp [results, Try.f12, go_sem], by rw [Ea.out, Eb.out], ?_⟩
    rw [← Hn.out]
    exact (by rw [Hn.out]; exact HB.out : Below n0 w W0).trans (hG.put hn1 D _ hD).below
end Go.Proofs.Ytfddeiodihhblaa
