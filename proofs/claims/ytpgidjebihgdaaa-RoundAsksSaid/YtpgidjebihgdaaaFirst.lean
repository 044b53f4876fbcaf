/- The program's First: the first ones of whatever an iterator tells; no more is asked for. -/
import Derived.Test.YtpgidjebihgdaaaSecond
namespace Go.Proofs.Ytpgidjebihgdaaa
open Go.RowKit Go.Shelf
attribute [local go_sem] Oper.semAt_some

set_option maxHeartbeats 1000000 in
theorem first_any (g : Nat) (lb : Array Value) (many : Int) (w : World) :
    Calls Try.prog 18 #[fv g lb, vI many] w fun e w' => e = .returned (fv 30 #[ptr (w.heap.size + 1), ptr w.heap.size]) ∧ w' = (w.alloc (.cells #[fv g lb] 26)).alloc (.cells #[vI many] 3) := by
  refine (callsIn_wide (n := 6)).1 ?_
  refine callsIn_of_wp Try.func18 rfl trivial ?_ rfl
  simp only [Try.ntmps18, List.size_toArray, List.length_cons, List.length_nil, Nat.reduceAdd, Nat.reduceSub, Array.replicate_succ, Array.replicate_zero, List.push_toArray, List.append_toArray, List.nil_append, List.cons_append]
  gi_wp2
  go_ret
  exact ⟨rfl, rfl⟩

/-- what First has told, at its end -/
def FirstS (X0 : Set') (S Sp : List Int → World → Prop) (many : Int) (w : World) (ys : List Int) (V : World) : Prop :=
  (many < 1 ∧ ys = [] ∧ Kept X0 X0 w V) ∨ (1 ≤ many ∧ S ys V ∧ (ys.length : Int) < many) ∨ (1 ≤ many ∧ Sp ys V ∧ (ys.length : Int) = many)

set_option maxRecDepth 100000 in
set_option maxHeartbeats 2000000 in
theorem first_tells {E X0 : Set'} {gf : Nat} {lb : Array Value} {S Sp : List Int → World → Prop} {N Bs Bm : Nat} {many : Int} {w : World} (h : It E X0 gf lb S Sp N w) (eg : ∀ args w, (callFunc gf args).run Try.prog w = .ok (.enter gf args) w)
    (hN : N ≤ 1000000) (hBs : w.cell? ⟨Bs, 0, none⟩ = some (fv gf lb)) (hBm : w.cell? ⟨Bm, 0, none⟩ = some (vI many)) (hXm : ¬ X0 Bm)
    (l : Nat) (J Jx : Set' → List Int → World → Prop) (W : World) (hW : w.heap.size ≤ W.heap.size) (hK : Kept (plus E (two Bs Bm)) X0 w W) (hJ : Ab J) (hJx : Ab Jx) (hY : Rounds (plus E (two Bs Bm)) l N J Jx) (h0 : J X0 [] W) :
    Calls Try.prog 30 #[yv l, ptr Bm, ptr Bs] W fun e W' => (∃ v, e = .returned v) ∧ ∃ X, (∀ k, X0 k → X k) ∧
      ((∃ ys, FirstS X0 S Sp many w ys W' ∧ J X ys W') ∨ (∃ ys, (1 ≤ many ∧ Sp ys W' ∧ (ys.length : Int) ≤ many) ∧ Jx X ys W')) := by
  have hcs := hK.cell hBs (.inl (.inr (.inl rfl)))
  have lBs : Bs < W.heap.size := World.block_lt_of_cell? W _ hcs
  have hcm := hK.cell hBm (.inl (.inr (.inr rfl)))
  have lBm : Bm < W.heap.size := World.block_lt_of_cell? W _ hcm
  refine (callsIn_wide (n := 6)).1 ?_
  refine callsIn_of_wp_marks Try.func30 rfl trivial ?_ rfl
  simp only [Try.ntmps30, List.size_toArray, List.length_cons, List.length_nil, Nat.reduceAdd, Nat.reduceSub, Array.replicate_succ, Array.replicate_zero, List.push_toArray, List.append_toArray, List.nil_append, List.cons_append]
  by_cases hm1 : many < 1
  · gi_wp2
    have hb : Below W.heap.size W (W.alloc (.cells #[yv l] 29)) := (Below.refl _ W).alloc (Nat.le_refl _) _
    refine ⟨.tuple #[], results_none rfl _ _ _, ⟨_, rfl⟩, X0, fun _ h => h, .inl ⟨[], .inl ⟨hm1, rfl, fun k hk => (hb.block k (Nat.lt_of_lt_of_le (h.lt k (.inr (hk.elim id id))) hW)).trans (hK k (.inr (hk.elim id id)))⟩, hJ _ _ _ _ _ h0 (Grow.of_below hb)⟩⟩
  have hm2 : 1 ≤ many := by omega
  gi_wp2
  have hb2 : Below W.heap.size W ((W.alloc (.cells #[yv l] 29)).alloc (.cells #[vI 0] 3)) := ((Below.refl _ W).alloc (Nat.le_refl _) _).alloc (by simp) _
  have bY := (Boxed.new W 29 (yv l)).alloc (.cells #[vI 0] 3)
  have bP := Boxed.new (W.alloc (.cells #[yv l] 29)) 3 (vI 0)
  rw [World.size_alloc] at bP
  have hsz : ((W.alloc (.cells #[yv l] 29)).alloc (.cells #[vI 0] 3)).heap.size = W.heap.size + 2 := by simp
  have hcm2 := (hb2.cell (p := ⟨Bm, 0, none⟩) lBm).trans hcm
  obtain ⟨W2, eW2⟩ : ∃ W2, W2 = (W.alloc (.cells #[yv l] 29)).alloc (.cells #[vI 0] 3) := ⟨_, rfl⟩
  rw [← eW2] at hb2 bY bP hsz hcm2 ⊢
  clear eW2
  obtain ⟨Bp, eBp⟩ : ∃ Bp, Bp = W.heap.size + 1 := ⟨_, rfl⟩
  obtain ⟨By, eBy⟩ : ∃ By, By = W.heap.size := ⟨_, rfl⟩
  rw [← eBp] at bP ⊢
  rw [← eBy] at bY ⊢
  have hE : ∀ k, E k ∨ X0 k → k < By := fun k hk => by rw [eBy]; exact Nat.lt_of_lt_of_le (h.lt k hk) hW
  have hne : By ≠ Bp := by omega
  have hmy : Bm ≠ By := by omega
  have hmp : Bm ≠ Bp := by omega
  have h2 : It E X0 gf lb S Sp N W2 := h.on (by omega) fun k hk => (hb2.block k (by rw [← eBy]; exact hE k hk)).trans (hK k (hk.imp .inl id))
  have hJ2 : J (plus X0 (two By Bp)) [] W2 := hJ _ _ _ _ _ h0 (Grow.own X0 hb2 _ (fun k hk => by omega))
  have nE : ∀ b, By ≤ b → ¬ E b := fun b hb e => by have := hE b (.inl e); omega
  have nX : ∀ b, By ≤ b → ¬ X0 b := fun b hb e => by have := hE b (.inr e); omega
  have hle : By ≤ Bp := by omega
  clear eBp eBy
  refine wpIn_range (lb := lb) rfl eg h2 rfl
    (fun Y pre V => J (plus Y (two By Bp)) pre V ∧ (¬ Y By ∧ ¬ Y Bp ∧ ¬ Y Bm) ∧ Boxed V By 29 (yv l) ∧ Boxed V Bp 3 (vI pre.length) ∧ V.cell? ⟨Bm, 0, none⟩ = some (vI many) ∧ (pre.length : Int) < many)
    (fun c Y pre V => c = .ret ∧ ((Jx (plus Y (two By Bp)) pre V ∧ (pre.length : Int) ≤ many) ∨ (J (plus Y (two By Bp)) pre V ∧ (pre.length : Int) = many))) ?ab ?abx ⟨hJ2, ⟨nX _ (Nat.le_refl _), nX _ hle, hXm⟩, bY, bP, hcm2, by simp; omega⟩
    (fun x => { tmps := #[yv l, ptr Bm, ptr Bs, ptr By, ptr Bp, vI x, vI many, .bool false, fv gf lb, vI x, undef, undef, undef, undef, undef, undef, undef, undef, undef, undef, undef], defers := [] }) ?assign ?body ?done ?stop
  case ab =>
    rintro X X' s A B ⟨h1, ⟨h2, h3, h3'⟩, h4, h5, h6, h7⟩ hg
    exact ⟨hJ _ _ _ _ _ h1 (hg.plus _), ⟨hg.not h4.lt h2, hg.not h5.lt h3, hg.not (World.block_lt_of_cell? _ _ h6) h3'⟩, boxed_grow' h4 hg h2, boxed_grow' h5 hg h3, hg.cell h6 h3', h7⟩
  case abx =>
    rintro c X X' s A B ⟨h1, h2⟩ hg
    exact ⟨h1, h2.imp (fun h => ⟨hJx _ _ _ _ _ h.1 (hg.plus _), h.2⟩) (fun h => ⟨hJ _ _ _ _ _ h.1 (hg.plus _), h.2⟩)⟩
  case assign =>
    intro l x W K hK
    gi_wp2
    exact hK
  case body =>
    rintro l1 Y pre x V hl ⟨hJ1, ⟨n1, n2, n3⟩, bY1, bP1, cM, hpm⟩ hlt
    have cY := bY1.cell
    have cP := bP1.cell
    have fP := bP1.frozen
    have hJ3 : J (plus Y (two By Bp)) pre (V.setCell ⟨Bp, 0, none⟩ (vI (pre.length + 1))) := hJ _ _ _ _ _ hJ1 (Grow.setCell _ _ _ (.inr (.inr rfl)))
    have bP3 := bP1.set (vI (pre.length + 1))
    have bY3 := bY1.other hne (vI (pre.length + 1))
    have cY3 := bY3.cell
    have cP3 := bP3.cell
    have hk3 : Kept E Y V (V.setCell ⟨Bp, 0, none⟩ (vI (pre.length + 1))) := kept_set _ _ _ (nE _ hle) n2
    have cM3 : (V.setCell ⟨Bp, 0, none⟩ (vI (pre.length + 1))).cell? ⟨Bm, 0, none⟩ = some (vI many) := (World.cell?_of_block (w := V) (a := ⟨Bm, 0, none⟩) (Below.heap_setCell V ⟨Bp, 0, none⟩ _ Bm hmp)).trans cM
    obtain ⟨fn, tmps, assign, body, hy, hR⟩ := YieldAt.inRound l1 (hY 3 (plus Y (two By Bp)) pre x _ hJ3 hlt)
    gi_wp2
    refine hR.mono ?_
    rintro e W3 (⟨rfl, hJ4, hk4⟩ | ⟨rfl, hJx4, hk4⟩)
    · have cM4 := hk4.cell cM3 (.inl (.inr (.inr rfl)))
      have bP4 := boxed_kept bP3 hk4 (.inr (.inr (.inr rfl)))
      have cP4 := bP4.cell
      have hkk := hk3.trans (hk4.less fun k => Or.imp .inl .inl)
      by_cases hee : (pre.length : Int) + 1 = many
      · subst hee
        gi_wp2
        refine ⟨hkk, rfl, .inr ⟨hJ4, by simp⟩⟩
      · gi_wp2
        refine ⟨hkk, hJ4, ⟨n1, n2, n3⟩, boxed_kept bY3 hk4 (.inr (.inr (.inl rfl))), ?_, cM4, ?_⟩
        · have e : (((pre ++ [x]).length : Nat) : Int) = pre.length + 1 := by simp
          rw [e]; exact bP4
        · simp; omega
    · gi_wp2
      refine ⟨hk3.trans (hk4.less fun k => Or.imp .inl .inl), rfl, .inl ⟨hJx4, ?_⟩⟩
      simp; omega
  case done =>
    rintro Y D ys V hD hD0 hXY hS ⟨hJ1, ⟨n1, n2, n3⟩, bY1, bP1, cM, hpm⟩ hK
    gi_wp2
    refine ⟨by simp, .inl ⟨_, _, rfl, run_takeDeferred hK, ?_⟩⟩
    refine ⟨.tuple #[], results_none rfl _ _ _, ⟨_, rfl⟩, plus Y (two By Bp), fun k hk => .inl (hXY k hk), .inl ⟨ys, .inr (.inl ⟨hm2, h.st _ _ _ (fun k hk => World.putObj_heap_other (fun e => hD0 (e ▸ hk.elim id id))) hS, hpm⟩), hJ _ _ _ _ _ hJ1 (Grow.putObj _ _ _ (.inl hD))⟩⟩
  case stop =>
    rintro Y D c' pre V hD hD0 hXY hpre ⟨rfl, hor⟩ hK
    gi_wp2
    refine ⟨by simp, .inl ⟨_, _, rfl, run_takeDeferred hK, ?_⟩⟩
    have hpre2 := h.stp _ _ (V.putObj D (.deferred none)) (fun k hk => World.putObj_heap_other (fun e => hD0 (e ▸ hk.elim id id))) hpre
    refine ⟨.tuple #[], results_none rfl _ _ _, ⟨_, rfl⟩, plus Y (two By Bp), fun k hk => .inl (hXY k hk), ?_⟩
    rcases hor with ⟨hJ1, hh⟩ | ⟨hJ1, hh⟩
    · exact .inr ⟨pre, ⟨hm2, hpre2, hh⟩, hJx _ _ _ _ _ hJ1 (Grow.putObj _ _ _ (.inl hD))⟩
    · exact .inl ⟨pre, .inr (.inr ⟨hm2, hpre2, hh⟩), hJ _ _ _ _ _ hJ1 (Grow.putObj _ _ _ (.inl hD))⟩

theorem first_it {E X0 : Set'} {gf : Nat} {lb : Array Value} {S Sp : List Int → World → Prop} {N : Nat} {w : World} (h : It E X0 gf lb S Sp N w) (eg : ∀ args w, (callFunc gf args).run Try.prog w = .ok (.enter gf args) w) (hN : N ≤ 1000000) (many : Int) :
    It (plus E (two w.heap.size (w.heap.size + 1))) X0 30 #[ptr (w.heap.size + 1), ptr w.heap.size] (FirstS X0 S Sp many w) (fun ys V => 1 ≤ many ∧ Sp ys V ∧ (ys.length : Int) ≤ many) N ((w.alloc (.cells #[fv gf lb] 26)).alloc (.cells #[vI many] 3)) where
  lt k hk := by
    simp only [World.size_alloc]
    rcases hk with (hk | hk) | hk
    · have := h.lt k (.inl hk); omega
    · omega
    · have := h.lt k (.inr hk); omega
  apart k hk hx := by
    rcases hk with hk | hk
    · exact h.apart k hk hx
    · have := h.lt k (.inr hx); omega
  st ys A B hk := by
    rintro (⟨h1, h2, h3⟩ | ⟨h1, h2, h3⟩ | ⟨h1, h2, h3⟩)
    · exact .inl ⟨h1, h2, h3.trans hk⟩
    · exact .inr (.inl ⟨h1, h.st _ A B hk h2, h3⟩)
    · exact .inr (.inr ⟨h1, h.stp _ A B hk h2, h3⟩)
  stp ys A B hk := fun ⟨h1, h2, h3⟩ => ⟨h1, h.stp _ A B hk h2, h3⟩
  tells l J Jx W hW hK hJ hJx hY h0 := by
    have hb := ((Below.refl _ w).alloc (Nat.le_refl _) (.cells #[fv gf lb] 26)).alloc (by simp) (.cells #[vI many] 3)
    have b1 := (Boxed.new w 26 (fv gf lb)).alloc (.cells #[vI many] 3)
    have b2 := Boxed.new (w.alloc (.cells #[fv gf lb] 26)) 3 (vI many)
    rw [World.size_alloc] at b2
    refine (first_tells (h.below hb) eg hN b1.cell b2.cell (fun e => by have := h.lt _ (.inr e); omega) l J Jx W hW hK hJ hJx hY h0).mono ?_
    rintro e W' ⟨hv, X, hX, ⟨ys, hS, h1⟩ | ⟨ys, hS, h1⟩⟩
    · refine ⟨hv, X, hX, .inl ⟨ys, ?_, h1⟩⟩
      rcases hS with ⟨a, b, c⟩ | hS
      · exact .inl ⟨a, b, Kept.trans (fun k hk => hb.block k (h.lt k (.inr (hk.elim id id)))) c⟩
      · exact .inr hS
    · exact ⟨hv, X, hX, .inr ⟨ys, hS, h1⟩⟩
end Go.Proofs.Ytpgidjebihgdaaa
