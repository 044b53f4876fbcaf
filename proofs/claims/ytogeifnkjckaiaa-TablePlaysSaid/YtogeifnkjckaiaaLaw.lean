/- The law's own 'all': what a table has, by rising keys. -/
import Derived.Test.YtogeifnkjckaiaaPairs
import Derived.Test.YtogeifnkjckaiaaIts1
namespace Go.Proofs.Ytogeifnkjckaiaa
open Go.RowKit Go.Shelf
attribute [local go_sem] Oper.semAt_some

theorem run_equalIn_nilFunc (d : Nat) (fn : Fn) (fi ca : Array Value) (W : World) : (Op.equalIn (d + 1) 48 (.func fn fi ca) .nilFunc).run Try.prog W = .ok false W := by
  simp [Op.equalIn, run_underlying Try.underlying48]
theorem run_equal_nilFunc (fn : Fn) (fi ca : Array Value) (W : World) : (Op.equal 48 (.func fn fi ca) .nilFunc).run Try.prog W = .ok false W := run_equalIn_nilFunc 9999 fn fi ca W
theorem run_eql_nilFunc (fn : Fn) (fi ca : Array Value) (W : World) : (binOp .eql 48 (.func fn fi ca) .nilFunc).run Try.prog W = .ok (.bool false) W := by
  simp only [binOp]
  simp [run_equal_nilFunc]

/-- a list of pairs of its own -/
def RetPairs (w : World) (xs : IP) (e : Ending) (w' : World) : Prop := ∃ A c, e = .returned (.slice A xs.length c) ∧ xs.length ≤ c ∧ PS w' w'.heap.size A xs ∧ (∀ a, A = some a → w.heap.size ≤ a.block) ∧ Below w.heap.size w w'
set_option maxRecDepth 100000 in
set_option maxHeartbeats 2000000 in
theorem all_any {Z : List Nat} {w : World} {g : Nat} {xs : IP} (h : Tab vI vI Z w g xs) (hl : xs.length ≤ 60) : Calls Try.prog 19 #[.pointer (some ⟨g, 0, none⟩)] w (RetPairs w xs) := by
  obtain ⟨A, t, h⟩ := h
  have eg := enters_of Try.func37 (by kernel_rfl) rfl
  have htl := h.tl
  rw [← htl] at hl ⊢
  clear htl
  refine (callsIn_wide (n := 6)).1 ?_
  refine callsIn_of_wp_marks Try.func19 rfl trivial ?_ rfl
  simp only [Try.ntmps19, List.size_toArray, List.length_cons, List.length_nil, Nat.reduceAdd, Nat.reduceSub, Array.replicate_succ, Array.replicate_zero, List.push_toArray, List.append_toArray, List.nil_append, List.cons_append]
  have hnf := run_eql_nilFunc
  gi_wp2_with (first
    | (refine ⟨trivial, ?_⟩; gi_at_call 23; refine (allF1_in _ g _).mono ?_; rintro e w2 ⟨rfl, rfl⟩))
  clear hnf
  have b3 := (Boxed.new w 27 (.slice none 0 0)).alloc (.cells #[.pointer (some ⟨g, 0, none⟩)] 24)
  have bt := Boxed.new (w.alloc (.cells #[.slice none 0 0] 27)) 24 (.pointer (some ⟨g, 0, none⟩))
  have hB : Below w.heap.size w ((w.alloc (.cells #[.slice none 0 0] 27)).alloc (.cells #[.pointer (some ⟨g, 0, none⟩)] 24)) := bstep (bnew _ _) (bnew _ _)
  simp only [World.size_alloc] at bt ⊢
  obtain ⟨n0, hn0⟩ : ∃ n, n = w.heap.size := ⟨_, rfl⟩
  obtain ⟨W0, hW0⟩ : ∃ W0, W0 = (w.alloc (.cells #[.slice none 0 0] 27)).alloc (.cells #[.pointer (some ⟨g, 0, none⟩)] 24) := ⟨_, rfl⟩
  rw [← hW0] at b3 bt hB ⊢
  have h2 := h.below hB
  have hlt : ∀ k, (k ∉ Z ∧ k < w.heap.size) → k < W0.heap.size := fun k hk => Nat.lt_of_lt_of_le hk.2 hB.size
  have hT2 : TreeAt vI vI (fun k => k ∉ Z ∧ k < w.heap.size) W0 A t := (h.tr.less (E' := fun k => k ∉ Z ∧ k < w.heap.size) fun k h1 h2 => ⟨h1, h2⟩).below hB
  have hg0 := h2.c0
  rw [← hn0] at b3 bt hlt hT2 ⊢
  have hB0 : Below n0 w W0 := by rw [hn0]; exact hB
  have HB := Lib.hid hB0
  have Hn := Lib.hid hn0
  have hbl := bt.lt
  have hn1 : n0 ≤ W0.heap.size := by omega
  clear hW0 hB hB0 hn0 h h2
  refine wpIn_range (enc := en1) (fi := #[]) (lb := #[.pointer (some ⟨n0 + 1, 0, none⟩)]) rfl eg (fall1_it (fun k => k ∉ Z ∧ k < n0) (n0 + 1) g A t) ⟨⟨hlt, hT2⟩, bt.cell, hg0⟩ (fun _ => rfl)
    (fun Y' pre V => Gn n0 W0 Y' V ∧ ∃ v, Boxed V n0 27 v ∧ OwnP V n0 v pre ∧ ∀ b, v.ownBlock = some b → ¬ Y' b)
    (fun _ _ _ _ => False) ?ab (fun _ _ _ _ _ _ h _ => h.elim) ⟨Gn.refl _ _, _, b3, World.ownsRow_nil _ _ _ _, fun b hb => by cases hb⟩
    (fun y => { tmps := #[.pointer (some ⟨g, 0, none⟩), undef, .slice none 0 0, .pointer (some ⟨n0, 0, none⟩), .func (.func 37) #[] #[.pointer (some ⟨n0 + 1, 0, none⟩)], vI y.1, vI y.2, .pointer (some ⟨g, 0, none⟩), .func (.func 37) #[] #[.pointer (some ⟨n0 + 1, 0, none⟩)],
      .func (.func 37) #[] #[.pointer (some ⟨n0 + 1, 0, none⟩)], .bool false, .func (.func 37) #[] #[.pointer (some ⟨n0 + 1, 0, none⟩)], vI y.1, vI y.2, undef, undef, undef, undef, undef, undef, undef, undef, undef, undef], defers := [] }) ?assign ?body ?done ?stop
  case ab =>
    rintro X X' s A B ⟨h1, v, h2, h3, h4⟩ hg
    refine ⟨h1.grow hn1 hg, v, h1.boxed (by omega) h2 hg, own_grow h3 hg h4, fun b hb e => ?_⟩
    have := (own_lt h3 hb).2
    exact (hg.new _ e).elim (h4 b hb) (fun e => by omega)
  case assign =>
    intro l1 y V K hK
    gi_wp2
    exact hK
  case body =>
    rintro l1 Y' pre y W hl1 ⟨hG, v, bO1, hown, hYv⟩ hpp
    have hlen : pre.length + 1 ≤ 60 := by have := hpp.length_le; simp at this; omega
    obtain ⟨A1, c1, rfl⟩ := own_form hown
    have cO := bO1.cell
    have fO := bO1.frozen
    have lO := bO1.lt
    have hsz := hG.size
    clear hpp
    gi_wp2_with (first
      | (gi_at_builtin; refine wpListIn_append_pair _ rfl _ _ rfl n0 _ _ _ rfl (hown.alloc _) ⟨W.heap.size, 0, none⟩ 1 y rfl ?c1 ?c1b ?c2 ?c3 ?_))
    case c1 => exact cell_of_row _ _ 0 _ 43 (0, 0) (World.alloc_heap_new W _)
    case c1b => exact cell_of_row _ _ 1 _ 43 (0, 0) (World.alloc_heap_new W _)
    case c2 => omega
    case c3 => simp; omega
    intro v' w4 hown4 hgrow4 hwhere
    have hap := Boxed.appended bO1 (show (27 : TypeId) ≠ 43 by decide) hown (by omega) (Nat.le_refl _) hown4 hgrow4
    have cO4 := hap.1.cell
    have fO4 := hap.1.frozen
    have hap2 := hap.2.2.2.2
    have hY4 : ∀ k, k < W.heap.size → k ≠ n0 → (Value.slice A1 pre.length c1).ownBlock ≠ some k → (w4.setCell ⟨n0, 0, none⟩ v').heap[k]? = W.heap[k]? := fun k hk hkB hkv =>
      (Below.heap_setCell _ _ _ _ hkB).trans ((hgrow4.block k (by simp; omega) (fun e => hkv e.symm)).trans (Below.heap_alloc W _ k hk))
    obtain ⟨A2, c2, rfl⟩ := own_form hown4
    have hO5 : Boxed (w4.setCell ⟨n0, 0, none⟩ (.slice A2 (pre.length + 1) c2)) n0 27 (.slice A2 (pre.length + 1) c2) ∧ OwnP (w4.setCell ⟨n0, 0, none⟩ (.slice A2 (pre.length + 1) c2)) n0 (.slice A2 (pre.length + 1) c2) (pre ++ [y]) ∧ ∀ b, (Value.slice A2 (pre.length + 1) c2).ownBlock = some b → ¬ Y' b := by
      refine ⟨hap.2.1, ?_, fun b hb e => ?_⟩
      · have := hown4.kept (grownBy_setCell' w4 n0 (.slice A2 (pre.length + 1) c2)) (.inr (hap.1.not_row (show (27 : TypeId) ≠ 43 by decide) hown4).symm)
        rw [OwnP, flat_snoc, List.length_append]
        exact this
      · rcases hwhere with hw | ⟨b', hw, hlt'⟩
        · exact hYv b (hw ▸ hb) e
        · rw [hw] at hb
          injection hb with hb
          have := (hG.new b e).2
          try simp at hlt'
          omega
    gi_wp2
    refine ⟨fun k hk => ?_, hG.more hap2, _, hO5⟩
    have hnY : ¬ Y' n0 := fun e => by have := (hG.new _ e).1; omega
    rcases hk with hk | hk
    · refine hY4 k (by have := hk.2; omega) (by have := hk.2; omega) (fun e => ?_)
      have := (own_lt hown e).1
      have := hk.2
      omega
    · exact hY4 k ((hG.new k hk).2) (fun e => hnY (e ▸ hk)) (fun e => hYv k e hk)
  case done =>
    rintro Y' D V hD hDe ⟨hG, v, bO1, hown, hYv⟩ hK
    obtain ⟨A1, c1, rfl⟩ := own_form hown
    have cO := bO1.cell
    clear hDe
    gi_wp2
    refine ⟨by simp, .inl ⟨_, _, rfl, run_takeDeferred hK, ?_⟩⟩
    have hdown : Grow Y' V Y' (V.putObj D (.deferred none)) := Grow.putObj _ _ _ hD
    have hown2 := own_grow hown hdown hYv
    obtain ⟨h1, h2, h3⟩ := own_ps hown2
    refine ⟨.slice A1 t.toL.length c1, by simp [results, Try.f19, go_sem], A1, c1, rfl, h3, h1, fun a ha => ?_, ?_⟩
    · rw [← Hn.out]; exact (own_lt hown (b := a.block) (by rw [ha]; rfl)).1
    · rw [← Hn.out]; exact HB.out.trans (hG.put hn1 D _ hD).below
  case stop =>
    rintro Y D c' pre W hD hDe hpre h hK
    exact h.elim
end Go.Proofs.Ytogeifnkjckaiaa
