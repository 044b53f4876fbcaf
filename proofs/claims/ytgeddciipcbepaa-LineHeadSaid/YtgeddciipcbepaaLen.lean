/- How many stand there, by any word. -/
import Derived.Test.YtgeddciipcbepaaStand
namespace Go.Proofs.Ytgeddciipcbepaa
open Go.RowKit Go.Shelf
attribute [local go_sem] Oper.semAt_some

theorem eg29 : ∀ args w, (callFunc 29 args).run Try.prog w = .ok (.enter 29 args) w := enters_of Try.func29 (by kernel_rfl) rfl
set_option maxRecDepth 100000 in
set_option maxHeartbeats 1000000 in
theorem len_any (q : Int) (w : World) : Calls Try.prog 18 #[vI q] w fun e w' => e = .returned (vI (lst q).length) ∧ Below w.heap.size w w' := by
  refine (callsIn_wide (n := 6)).1 ?_
  refine callsIn_of_wp_marks Try.func18 rfl trivial ?_ rfl
  simp only [Try.ntmps18, List.size_toArray, List.length_cons, List.length_nil, Nat.reduceAdd, Nat.reduceSub, Array.replicate_succ, Array.replicate_zero, List.push_toArray, List.append_toArray, List.nil_append, List.cons_append]
  gi_wp2_with (first
    | (refine ⟨trivial, ?_⟩; gi_at_call 27; refine (stand_in _ q _).mono ?_; rintro e w2 ⟨rfl, rfl⟩))
  have b2 := (Boxed.new w 3 (.int .i64 0)).alloc (.cells #[vI q] 3)
  have bt := Boxed.new (w.alloc (.cells #[.int .i64 0] 3)) 3 (vI q)
  have hB : Below w.heap.size w ((w.alloc (.cells #[.int .i64 0] 3)).alloc (.cells #[vI q] 3)) := bstep (bnew _ _) (bnew _ _)
  simp only [World.size_alloc] at bt
  obtain ⟨n0, hn0⟩ : ∃ n, n = w.heap.size := ⟨_, rfl⟩
  obtain ⟨W0, hW0⟩ : ∃ W0, W0 = (w.alloc (.cells #[.int .i64 0] 3)).alloc (.cells #[vI q] 3) := ⟨_, rfl⟩
  rw [← hW0] at b2 bt hB ⊢
  rw [← hn0] at b2 bt ⊢
  have hbl := bt.lt
  have hn1 : n0 ≤ W0.heap.size := by omega
  have HB := Lib.hid hB
  have Hn := Lib.hid hn0
  clear hW0 hB hn0
  refine wpIn_range (enc := enP) (fi := #[]) (lb := #[ptr (n0 + 1)]) rfl eg29 (stand_it q (n0 + 1)) bt.cell (fun _ => rfl)
    (fun Y pre V => Gn n0 W0 Y V ∧ Boxed V n0 3 (vI pre.length))
    (fun _ _ _ _ => False) ?ab (fun _ _ _ _ _ _ h _ => h.elim) ⟨Gn.refl _ _, b2⟩
    (fun y => { tmps := #[vI q, undef, .int .i64 0, ptr n0, vI q, .func (.func 29) #[] #[ptr (n0 + 1)], vI y.1, vI y.2, undef, undef, undef], defers := [] }) ?assign ?body ?done ?stop
  case ab =>
    rintro X X' s A B ⟨h1, h2⟩ hg
    exact ⟨h1.grow hn1 hg, h1.boxed (by omega) h2 hg⟩
  case assign =>
    intro l1 y V K hK
    gi_wp2
    simpa using hK
  case body =>
    rintro l1 Y pre y V hl1 ⟨hG, h3⟩ hpp
    have hlen := hpp.length_le
    have h15 := lst_len q
    rw [pl_len] at hlen
    simp at hlen
    have c3 := h3.cell
    have f3 := h3.frozen
    clear hpp
    gi_wp2
    have hnY : ∀ b, b < W0.heap.size → ¬ Y b := fun b hb e => by have := (hG.new b e).1; omega
    have k3 := h3.set (vI (pre.length + 1))
    refine ⟨kept_set _ _ _ _ (by omega) (hnY _ (by omega)), hG.set n0 0 _ (Nat.le_refl _), ?_⟩
    have e : ((pre ++ [y]).length : Int) = pre.length + 1 := by simp
    rw [e]
    exact k3
  case stop =>
    rintro Y D c' pre V hD hDe hpre h hK
    exact h.elim
  case done =>
    rintro Y D V hD hDe ⟨hG, h3⟩ hDV
    have c3 := h3.cell
    rw [pl_len] at c3
    gi_wp2
    refine ⟨by simp, .inl ⟨_, _, rfl, run_takeDeferred hDV, ?_⟩⟩
    refine ⟨vI (lst q).length, by simp [results, Try.f18, go_sem], rfl, ?_⟩
    rw [← Hn.out]
    exact (by rw [Hn.out]; exact HB.out : Below n0 w W0).trans (hG.put hn1 D _ hD).below
end Go.Proofs.Ytgeddciipcbepaa
