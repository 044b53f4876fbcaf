/- Who stands there, by any word. -/
import Derived.Test.YtgeddciipcbepaaPlace
import Derived.Test.YtgeddciipcbepaaMine
namespace Go.Proofs.Ytgeddciipcbepaa
open Go.RowKit Go.Shelf
attribute [local go_sem] Oper.semAt_some

set_option maxRecDepth 100000 in
set_option maxHeartbeats 1000000 in
theorem list_any (q : Int) (w : World) : Calls Try.prog 20 #[vI q] w (RetInts w (lst q)) := by
  refine (callsIn_wide (n := 6)).1 ?_
  refine callsIn_of_wp_marks Try.func20 rfl trivial ?_ rfl
  simp only [Try.ntmps20, List.size_toArray, List.length_cons, List.length_nil, Nat.reduceAdd, Nat.reduceSub, Array.replicate_succ, Array.replicate_zero, List.push_toArray, List.append_toArray, List.nil_append, List.cons_append]
  gi_wp2_with (first
    | (refine ⟨trivial, ?_⟩; gi_at_call 27; refine (stand_in _ q _).mono ?_; rintro e w2 ⟨rfl, rfl⟩))
  have b2 := (Boxed.new w 24 (.slice none 0 0)).alloc (.cells #[vI q] 3)
  have bt := Boxed.new (w.alloc (.cells #[.slice none 0 0] 24)) 3 (vI q)
  have hB : Below w.heap.size w ((w.alloc (.cells #[.slice none 0 0] 24)).alloc (.cells #[vI q] 3)) := bstep (bnew _ _) (bnew _ _)
  simp only [World.size_alloc] at bt
  obtain ⟨n0, hn0⟩ : ∃ n, n = w.heap.size := ⟨_, rfl⟩
  obtain ⟨W0, hW0⟩ : ∃ W0, W0 = (w.alloc (.cells #[.slice none 0 0] 24)).alloc (.cells #[vI q] 3) := ⟨_, rfl⟩
  rw [← hW0] at b2 bt hB ⊢
  rw [← hn0] at b2 bt ⊢
  have hbl := bt.lt
  have hn1 : n0 ≤ W0.heap.size := by omega
  have hn2 : n0 < W0.heap.size := by omega
  have HB := Lib.hid hB
  have Hn := Lib.hid hn0
  clear hW0 hB hn0
  refine wpIn_range (enc := enP) (fi := #[]) (lb := #[ptr (n0 + 1)]) rfl eg29 (stand_it q (n0 + 1)) bt.cell (fun _ => rfl)
    (fun Y pre V => Gn n0 W0 Y V ∧ V.heap[n0 + 1]? = W0.heap[n0 + 1]? ∧ OwnBox n0 n0 (plus Y (fun k => k = n0 + 1)) (pre.map Prod.snd) V)
    (fun _ _ _ _ => False) ?ab (fun _ _ _ _ _ _ h _ => h.elim) ⟨Gn.refl _ _, rfl, _, b2, World.ownsRow_nil _ _ _ _, fun b hb => by cases hb⟩
    (fun y => { tmps := #[vI q, undef, .slice none 0 0, ptr n0, undef, vI y.2, vI q, .func (.func 29) #[] #[ptr (n0 + 1)], vI y.1, vI y.2, undef, undef, undef, undef, undef], defers := [] }) ?assign ?body ?done ?stop
  case ab =>
    rintro X X' s A B ⟨h1, h0, v, h3, h4, h5⟩ hg
    refine ⟨h1.grow hn1 hg, (hg.block _ (by have := h1.size; omega) (fun e => by have := (h1.new _ e).1; omega)).trans h0, v, h1.boxed hn2 h3 hg, own_grow h4 hg (fun b hb e => h5 b hb (.inl e)), fun b hb e => ?_⟩
    have := own_lt h4 hb
    refine e.elim (fun e => ?_) (fun e => h5 b hb (.inr e))
    exact (hg.new _ e).elim (fun e => h5 b hb (.inl e)) (fun e => by omega)
  case assign =>
    intro l1 y V K hK
    gi_wp2
    exact hK
  case body =>
    rintro l1 Y pre y W hl1 ⟨hG, hq, v, bO1, hown, hYv⟩ hpp
    have hlen : pre.length + 1 ≤ 15 := by have := hpp.length_le; rw [pl_len] at this; have := lst_len q; simp at *; omega
    obtain ⟨A1, c1, rfl⟩ := own_form hown
    have e0 : (pre.map Prod.snd).length = pre.length := by simp
    rw [e0] at hown bO1 hYv
    have cO := bO1.cell
    have fO := bO1.frozen
    have lO := bO1.lt
    have hsz := hG.size
    clear hpp e0
    gi_wp2_with (first
      | (gi_at_builtin; refine wpListIn_append_num _ rfl _ _ rfl n0 _ _ _ rfl (hown.alloc _) ⟨W.heap.size, 0, none⟩ 1 y.2 rfl ?c1 ?c2 ?c3 ?_))
    case c1 => exact (World.cell?_alloc_new _ _ _ 0).trans rfl
    case c2 => omega
    case c3 => simp; omega
    intro v' w4 hown4 hgrow4 hwhere
    have hap := Boxed.appended bO1 (show (24 : TypeId) ≠ 3 by decide) hown (by omega) (Nat.le_refl _) hown4 hgrow4
    have cO4 := hap.1.cell
    have fO4 := hap.1.frozen
    have hap2 := hap.2.2.2.2
    have hY4 : ∀ k, k < W.heap.size → k ≠ n0 → (Value.slice A1 pre.length c1).ownBlock ≠ some k → (w4.setCell ⟨n0, 0, none⟩ v').heap[k]? = W.heap[k]? := fun k hk hkB hkv =>
      (Below.heap_setCell _ _ _ _ hkB).trans ((hgrow4.block k (by simp; omega) (fun e => hkv e.symm)).trans (Below.heap_alloc W _ k hk))
    obtain ⟨A2, c2, rfl⟩ := own_form hown4
    have hO5 : OwnBox n0 n0 (plus Y (fun k => k = n0 + 1)) ((pre ++ [y]).map Prod.snd) (w4.setCell ⟨n0, 0, none⟩ (.slice A2 (pre.length + 1) c2)) := by
      refine ⟨_, hap.2.1, ?_, fun b hb e => ?_⟩
      · have := hown4.kept (grownBy_setCell' w4 n0 (.slice A2 (pre.length + 1) c2)) (.inr (hap.1.not_row (show (24 : TypeId) ≠ 3 by decide) hown4).symm)
        simpa using this
      · rcases hwhere with hw | ⟨b', hw, hlt'⟩
        · exact hYv b (hw ▸ hb) e
        · rw [hw] at hb
          injection hb with hb
          try simp at hlt'
          rcases e with e | e
          · have := (hG.new b e).2
            omega
          · omega
    have hk1 := hY4 (n0 + 1) (by omega) (by omega) (fun e => hYv _ e (.inr rfl))
    gi_wp2
    have hnY : ¬ Y n0 := fun e => by have := (hG.new _ e).1; omega
    refine ⟨fun k hk => ?_, hG.more hap2, hk1.trans hq, hO5⟩
    rcases hk with hk | hk
    · subst hk
      exact hk1
    · exact hY4 k ((hG.new k hk).2) (fun e => hnY (e ▸ hk)) (fun e => hYv k e (.inl hk))
  case stop =>
    rintro Y D c' pre W hD hDe hpre h hK
    exact h.elim
  case done =>
    rintro Y D V hD hDe ⟨hG, hq, v, bO1, hown, hYv⟩ hK
    rw [pl_snd] at hown
    obtain ⟨A1, c1, rfl⟩ := own_form hown
    have cO := bO1.cell
    clear hDe
    gi_wp2
    refine ⟨by simp, .inl ⟨_, _, rfl, run_takeDeferred hK, ?_⟩⟩
    have hdown : Grow Y V Y (V.putObj D (.deferred none)) := Grow.putObj _ _ _ hD
    have hown2 := own_grow hown hdown (fun b hb e => hYv b hb (.inl e))
    obtain ⟨h1, h2, h3⟩ := own_is hown2
    refine ⟨.slice A1 (lst q).length c1, by simp [results, Try.f20, go_sem], A1, c1, rfl, h3, h1, ?_⟩
    rw [← Hn.out]
    exact (by rw [Hn.out]; exact HB.out : Below n0 w W0).trans (hG.put hn1 D _ hD).below
end Go.Proofs.Ytgeddciipcbepaa
