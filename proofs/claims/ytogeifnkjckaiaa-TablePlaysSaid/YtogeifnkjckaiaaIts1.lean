/- What ranging over a table tells (of numbers by numbers). -/
import Derived.Test.YtogeifnkjckaiaaAll1
namespace Go.Proofs.Ytogeifnkjckaiaa
open Go.RowKit Go.Shelf
attribute [local go_sem] Oper.semAt_some

theorem allF1_in (n g : Nat) (w : World) :
    CallsIn Fence.wide n Try.prog 23 #[.pointer (some ⟨g, 0, none⟩)] w fun e w' => e = .returned (.func (.func 37) #[] #[.pointer (some ⟨w.heap.size, 0, none⟩)]) ∧ w' = w.alloc (.cells #[.pointer (some ⟨g, 0, none⟩)] 24) := by
  refine callsIn_of_wp Try.func23 rfl trivial ?_ rfl
  simp only [Try.ntmps23, List.size_toArray, List.length_cons, List.length_nil, Nat.reduceAdd, Nat.reduceSub, Array.replicate_succ, Array.replicate_zero, List.push_toArray, List.append_toArray, List.nil_append, List.cons_append]
  gi_wp2
  go_ret
  exact ⟨rfl, rfl⟩
/-- where ranging over a table begins -/
abbrev StF1 (E : Set') (Bt g : Nat) (A : Option Addr) (t : Tr Int Int) (W : World) : Prop := StT1 E A t W ∧ W.cell? ⟨Bt, 0, none⟩ = some (ptr g) ∧ W.cell? ⟨g, 0, none⟩ = some (.pointer A)
set_option maxRecDepth 100000 in
set_option maxHeartbeats 1000000 in
theorem fall1_it (E : Set') (Bt g : Nat) (A : Option Addr) (t : Tr Int Int) : It (StF1 E Bt g A t) E en1 37 #[] #[.pointer (some ⟨Bt, 0, none⟩)] t.toL := by
  refine ⟨fun W h => h.1.1, fun W W' h hb => ⟨⟨fun k hk => Nat.lt_of_lt_of_le (h.1.1 k hk) hb.size, h.1.2.below hb⟩, (hb.cell (p := ⟨Bt, 0, none⟩) (World.block_lt_of_cell? W _ h.2.1)).trans h.2.1, (hb.cell (p := ⟨g, 0, none⟩) (World.block_lt_of_cell? W _ h.2.2)).trans h.2.2⟩, ?_⟩
  rintro l J Jx W ⟨⟨hlt, hT⟩, hBt, hg0⟩ hJ hJx hY h0
  show Calls Try.prog 37 #[yv l, .pointer (some ⟨Bt, 0, none⟩)] W _
  have eg := enters_of Try.func38 (by kernel_rfl) rfl
  refine (callsIn_wide (n := 6)).1 ?_
  refine callsIn_of_wp_marks Try.func37 rfl trivial ?_ rfl
  simp only [Try.ntmps37, List.size_toArray, List.length_cons, List.length_nil, Nat.reduceAdd, Nat.reduceSub, Array.replicate_succ, Array.replicate_zero, List.push_toArray, List.append_toArray, List.nil_append, List.cons_append]
  have hb1 := bnew W (.cells #[yv l] 32)
  have d0 := (hb1.cell (p := ⟨Bt, 0, none⟩) (World.block_lt_of_cell? W _ hBt)).trans hBt
  have d1 := (hb1.cell (p := ⟨g, 0, none⟩) (World.block_lt_of_cell? W _ hg0)).trans hg0
  gi_wp2
  obtain ⟨By, eBy⟩ : ∃ By, By = W.heap.size := ⟨_, rfl⟩
  have bY : Boxed (W.alloc (.cells #[yv l] 32)) By 32 (yv l) := by rw [eBy]; exact Boxed.new W 32 (yv l)
  have hJ1 : J (fun k => False ∨ k = By) [] (W.alloc (.cells #[yv l] 32)) := hJ _ _ _ _ _ h0 (Grow.own _ (bnew W _) _ (fun k hk => by rw [hk, eBy]; simp))
  have hlt1 : ∀ k, E k → k < (W.alloc (.cells #[yv l] 32)).heap.size := fun k hk => Nat.lt_of_lt_of_le (hlt k hk) hb1.size
  have hT1 : TreeAt vI vI E (W.alloc (.cells #[yv l] 32)) A t := hT.alloc _
  rw [← eBy]
  clear eBy hb1 d0 d1 hBt hg0 hT hlt
  obtain ⟨W1, eW1⟩ : ∃ W1, W1 = W.alloc (.cells #[yv l] 32) := ⟨_, rfl⟩
  rw [← eW1] at bY hJ1 hlt1 hT1 ⊢
  clear eW1
  refine wpIn_range (enc := en1) (fi := #[.pointer A]) (lb := #[]) rfl eg (all1_it E (t.ht + 1) t A (Nat.lt_succ_self _)) ⟨hlt1, hT1⟩ (fun _ => rfl)
    (fun Y' pre' V => J (plus Y' (fun k => False ∨ k = By)) pre' V ∧ Kp (plus E (fun k => k = By)) W1 Y' V)
    (fun c Y' pre' V => c = .ret ∧ Jx (plus Y' (fun k => False ∨ k = By)) pre' V) ?ab ?abx ?start2
    (fun y => { tmps := #[yv l, .pointer (some ⟨Bt, 0, none⟩), ptr By, vI y.1, vI y.2, .pointer (some ⟨g, 0, none⟩), .pointer (some ⟨g, 0, none⟩), .pointer (some ⟨g, 0, none⟩), .pointer A, .func (.func 38) #[.pointer A] #[], vI y.1, vI y.2, undef, undef, undef, undef, undef], defers := [] }) ?assign ?body ?done ?stop
  case ab =>
    rintro X X' s A B ⟨h1, h2⟩ hg
    exact ⟨hJ _ _ _ _ _ h1 (hg.plus _), h2.grow hg⟩
  case abx =>
    rintro c X X' s A B ⟨h0, h1⟩ hg
    exact ⟨h0, hJx _ _ _ _ _ h1 (hg.plus _)⟩
  case start2 =>
    refine ⟨hJ _ _ _ _ _ hJ1 ⟨rfl, rfl, rfl, Nat.le_refl _, fun _ _ _ => rfl, fun _ h => .inr h, fun _ h => .inl (h.elim False.elim id)⟩, Nat.le_refl _, fun k hk => hk.elim, fun k hk => ⟨?_, rfl⟩⟩
    exact hk.elim (fun h => hlt1 k h) (fun h => by rw [h]; exact bY.lt)
  case assign =>
    intro l1 y V K hK
    gi_wp2
    exact hK
  case body =>
    rintro l1 Y' pre' y V hl1 ⟨hJ2, hK2⟩ hpp
    have bYV : Boxed V By 32 (yv l) := (hK2.2.2 By (.inr rfl)).2.trans bY
    have cYV := bYV.cell
    obtain ⟨fn, tmps, assign, body, hy, hR⟩ := YieldAt.inRound l1 (hY 3 _ pre' y V hJ2 hpp)
    gi_wp2
    refine hR.mono ?_
    have hE2 : ∀ V', Kept E (plus Y' (fun k => False ∨ k = By)) V V' → Kept E Y' V V' ∧ Kp (plus E (fun k => k = By)) W1 Y' V' := fun V' hk => ⟨hk.less fun k h => h.imp id .inl, hK2.kept (hk.less (E' := E) fun k h => h.imp id .inl) (fun k h => h.imp id fun h => .inr (hk k (.inr (.inr (.inr h))))) hl1⟩
    rintro e V' (⟨rfl, hJ4, hk4⟩ | ⟨rfl, hJx4, hk4⟩)
    · gi_wp2
      exact ⟨(hE2 V' hk4).1, hJ4, (hE2 V' hk4).2⟩
    · gi_wp2
      exact ⟨(hE2 V' hk4).1, rfl, hJx4⟩
  case stop =>
    rintro Y' D c pre' V hD hDe hpp ⟨rfl, hJx2⟩ hDV
    have Hpp := Lib.hid hpp
    clear hpp
    gi_wp2
    refine ⟨by simp, .inl ⟨_, _, rfl, run_takeDeferred hDV, ?_⟩⟩
    exact ⟨.tuple #[], results_none rfl _ _ _, ⟨_, rfl⟩, _, .inr ⟨pre', Hpp.out, hJx _ _ _ _ _ hJx2 (Grow.putObj _ _ _ (.inl hD))⟩⟩
  case done =>
    rintro Y' D V hD hDe ⟨hJ2, hK2⟩ hDV
    gi_wp2
    refine ⟨by simp, .inl ⟨_, _, rfl, run_takeDeferred hDV, ?_⟩⟩
    exact ⟨.tuple #[], results_none rfl _ _ _, ⟨_, rfl⟩, _, .inl (hJ _ _ _ _ _ hJ2 (Grow.putObj _ _ _ (.inl hD)))⟩
end Go.Proofs.Ytogeifnkjckaiaa
