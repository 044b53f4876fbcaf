/- The program's Where: those of whatever an iterator tells that fit. -/
import Derived.Test.YtpgidjebihgdaaaSecond
namespace Go.Proofs.Ytpgidjebihgdaaa
open Go.RowKit Go.Shelf
attribute [local go_sem] Oper.semAt_some

set_option maxHeartbeats 1000000 in
theorem where_any (g : Nat) (lb : Array Value) (pf : Nat) (pb : Array Value) (w : World) :
    Calls Try.prog 11 #[fv g lb, fv pf pb] w fun e w' => e = .returned (fv 28 #[ptr w.heap.size, ptr (w.heap.size + 1)]) ∧ w' = (w.alloc (.cells #[fv g lb] 26)).alloc (.cells #[fv pf pb] 29) := by
  refine (callsIn_wide (n := 6)).1 ?_
  refine callsIn_of_wp Try.func11 rfl trivial ?_ rfl
  simp only [Try.ntmps11, List.size_toArray, List.length_cons, List.length_nil, Nat.reduceAdd, Nat.reduceSub, Array.replicate_succ, Array.replicate_zero, List.push_toArray, List.append_toArray, List.nil_append, List.cons_append]
  gi_wp2
  go_ret
  exact ⟨rfl, rfl⟩

/-- the function value tells p, of each number, and turns nothing; it reads the blocks Ef -/
structure Fits (Ef : Set') (pf : Nat) (pb : Array Value) (p : Int → Bool) (w : World) : Prop where
  lt : ∀ k, Ef k → k < w.heap.size
  tells : ∀ (x : Int) (W : World), Kept Ef no w W → Calls Try.prog pf (#[vI x] ++ pb) W fun e W' => e = .returned (.bool (p x)) ∧ W' = W
theorem Fits.on {Ef : Set'} {pf : Nat} {pb : Array Value} {p : Int → Bool} {w w' : World} (h : Fits Ef pf pb p w) (hs : w.heap.size ≤ w'.heap.size) (hk : Kept Ef no w w') : Fits Ef pf pb p w' :=
  ⟨fun k hx => Nat.lt_of_lt_of_le (h.lt k hx) hs, fun x W hK => h.tells x W (hk.trans hK)⟩

set_option maxRecDepth 100000 in
set_option maxHeartbeats 2000000 in
theorem where_tells {E X0 Ef : Set'} {gf pf : Nat} {lb pb : Array Value} {S Sp : List Int → World → Prop} {N Bs Bf : Nat} {p : Int → Bool} {w : World} (h : It E X0 gf lb S Sp N w) (eg : ∀ args w, (callFunc gf args).run Try.prog w = .ok (.enter gf args) w)
    (hf : Fits Ef pf pb p w) (ef : ∀ args w, (callFunc pf args).run Try.prog w = .ok (.enter pf args) w) (hBs : w.cell? ⟨Bs, 0, none⟩ = some (fv gf lb)) (hBf : w.cell? ⟨Bf, 0, none⟩ = some (fv pf pb)) (hXf : ∀ k, k = Bf ∨ Ef k → ¬ X0 k)
    (l : Nat) (J Jx : Set' → List Int → World → Prop) (W : World) (hW : w.heap.size ≤ W.heap.size) (hK : Kept (plus E (plus Ef (two Bs Bf))) X0 w W) (hJ : Ab J) (hJx : Ab Jx) (hY : Rounds (plus E (plus Ef (two Bs Bf))) l N J Jx) (h0 : J X0 [] W) :
    Calls Try.prog 28 #[yv l, ptr Bs, ptr Bf] W fun e W' => (∃ v, e = .returned v) ∧ ∃ X, (∀ k, X0 k → X k) ∧
      ((∃ ys, (∃ xs, S xs W' ∧ ys = xs.filter p) ∧ J X ys W') ∨ (∃ ys, (∃ xs x, Sp (xs ++ [x]) W' ∧ ys = (xs ++ [x]).filter p ∧ p x = true) ∧ Jx X ys W')) := by
  have hcs := hK.cell hBs (.inl (.inr (.inr (.inl rfl))))
  have lBs : Bs < W.heap.size := World.block_lt_of_cell? W _ hcs
  have hcf := hK.cell hBf (.inl (.inr (.inr (.inr rfl))))
  have lBf : Bf < W.heap.size := World.block_lt_of_cell? W _ hcf
  refine (callsIn_wide (n := 6)).1 ?_
  refine callsIn_of_wp_marks Try.func28 rfl trivial ?_ rfl
  simp only [Try.ntmps28, List.size_toArray, List.length_cons, List.length_nil, Nat.reduceAdd, Nat.reduceSub, Array.replicate_succ, Array.replicate_zero, List.push_toArray, List.append_toArray, List.nil_append, List.cons_append]
  gi_wp2
  have hb2 : Below W.heap.size W (W.alloc (.cells #[yv l] 29)) := (Below.refl _ W).alloc (Nat.le_refl _) _
  have bY := Boxed.new W 29 (yv l)
  have hsz : (W.alloc (.cells #[yv l] 29)).heap.size = W.heap.size + 1 := by simp
  have hcf2 := (hb2.cell (p := ⟨Bf, 0, none⟩) lBf).trans hcf
  obtain ⟨W2, eW2⟩ : ∃ W2, W2 = W.alloc (.cells #[yv l] 29) := ⟨_, rfl⟩
  rw [← eW2] at hb2 bY hsz hcf2 ⊢
  clear eW2
  obtain ⟨By, eBy⟩ : ∃ By, By = W.heap.size := ⟨_, rfl⟩
  rw [← eBy] at bY ⊢
  have hE : ∀ k, E k ∨ X0 k → k < By := fun k hk => by rw [eBy]; exact Nat.lt_of_lt_of_le (h.lt k hk) hW
  have hEf : ∀ k, Ef k → k < By := fun k hk => by rw [eBy]; exact Nat.lt_of_lt_of_le (hf.lt k hk) hW
  have h2 : It E X0 gf lb S Sp N W2 := h.on (by omega) fun k hk => (hb2.block k (by rw [← eBy]; exact hE k hk)).trans (hK k (hk.imp .inl id))
  have f2 : Fits Ef pf pb p W2 := hf.on (by omega) fun k hk => (hb2.block k (by rw [← eBy]; exact hEf k (hk.elim id False.elim))).trans (hK k (.inl (.inr (.inl (hk.elim id False.elim)))))
  have hJ2 : J (plus X0 (· = By)) [] W2 := hJ _ _ _ _ _ h0 (Grow.own X0 hb2 _ (fun k hk => by omega))
  have nX : ∀ b, By ≤ b → ¬ X0 b := fun b hb e => by have := hE b (.inr e); omega
  have lW2 : By < W2.heap.size := by omega
  have hfy : Bf < By := by omega
  clear eBy
  refine wpIn_range (lb := lb) rfl eg h2 rfl
    (fun Y pre V => J (plus Y (· = By)) (pre.filter p) V ∧ (¬ Y By ∧ ∀ k, k = Bf ∨ Ef k → ¬ Y k) ∧ Boxed V By 29 (yv l) ∧ V.cell? ⟨Bf, 0, none⟩ = some (fv pf pb) ∧ Kept Ef no W2 V)
    (fun c Y pre V => c = .ret ∧ Jx (plus Y (· = By)) (pre.filter p) V ∧ ∃ xs x, pre = xs ++ [x] ∧ p x = true) ?ab ?abx ⟨hJ2, ⟨nX _ (Nat.le_refl _), hXf⟩, bY, hcf2, Kept.refl _ _ _⟩
    (fun x => { tmps := #[yv l, ptr Bs, ptr Bf, ptr By, vI x, fv gf lb, vI x, undef, undef, undef, undef, undef, undef, undef, undef, undef], defers := [] }) ?assign ?body ?done ?stop
  case ab =>
    rintro X X' s A B ⟨h1, ⟨h2, h3⟩, h4, h5, h7⟩ hg
    have hlA : ∀ k, k = Bf ∨ Ef k → k < A.heap.size := fun k hk => by
      have := h4.lt
      rcases hk with rfl | hk
      · omega
      · have := hEf k hk; omega
    exact ⟨hJ _ _ _ _ _ h1 (hg.plus _), ⟨hg.not h4.lt h2, fun k hk => hg.not (hlA k hk) (h3 k hk)⟩, boxed_grow' h4 hg h2, hg.cell h5 (h3 Bf (.inl rfl)),
      h7.trans fun k hk => hg.block k (hlA k (.inr (hk.elim id False.elim))) (h3 k (.inr (hk.elim id False.elim)))⟩
  case abx =>
    rintro c X X' s A B ⟨h1, h2, h3⟩ hg
    exact ⟨h1, hJx _ _ _ _ _ h2 (hg.plus _), h3⟩
  case assign =>
    intro l x W K hK
    gi_wp2
    exact hK
  case body =>
    rintro l1 Y pre x V hl ⟨hJ1, ⟨n1, n2⟩, bY1, cF, hkV⟩ hlt
    have cY := bY1.cell
    gi_wp2
    refine ⟨trivial, (CallsIn.inRound l1 (callsIn_wide.2 (f2.tells x V hkV))).mono ?_⟩
    rintro e w1 ⟨rfl, rfl⟩
    cases hpx : p x with
    | true =>
      have Hpx := Lib.hid hpx
      clear hpx
      obtain ⟨fn, tmps, assign, body, hy, hR⟩ := YieldAt.inRound l1 (hY 3 (plus Y (· = By)) (pre.filter p) x _ hJ1 (Nat.lt_of_le_of_lt (List.length_filter_le _ _) hlt))
      gi_wp2
      refine hR.mono ?_
      have hfl : (pre ++ [x]).filter p = pre.filter p ++ [x] := by rw [List.filter_append, List.filter_cons_of_pos Hpx.out, List.filter_nil]
      rintro e W3 (⟨rfl, hJ4, hk4⟩ | ⟨rfl, hJx4, hk4⟩)
      · gi_wp2
        refine ⟨hk4.less fun k => Or.imp .inl .inl, by rw [hfl]; exact hJ4, ⟨n1, n2⟩, boxed_kept bY1 hk4 (.inr (.inr rfl)), hk4.cell cF (.inl (.inr (.inr (.inr rfl)))), hkV.trans fun k hk => hk4 k (.inl (.inr (.inl (hk.elim id False.elim))))⟩
      · gi_wp2
        exact ⟨hk4.less fun k => Or.imp .inl .inl, rfl, by rw [hfl]; exact hJx4, pre, x, rfl, Hpx.out⟩
    | false =>
      have Hpx := Lib.hid hpx
      clear hpx
      gi_wp2
      refine ⟨fun _ h => (by cases h), ?_⟩
      gi_wp2
      have hfl : (pre ++ [x]).filter p = pre.filter p := by rw [List.filter_append, List.filter_cons_of_neg (by rw [Hpx.out]; exact Bool.false_ne_true), List.filter_nil, List.append_nil]
      exact ⟨Kept.refl _ _ _, by rw [hfl]; exact hJ1, ⟨n1, n2⟩, bY1, cF, hkV⟩
  case done =>
    rintro Y D ys V hD hD0 hXY hS ⟨hJ1, ⟨n1, n2⟩, bY1, cF, hkV⟩ hK
    gi_wp2
    refine ⟨by simp, .inl ⟨_, _, rfl, run_takeDeferred hK, ?_⟩⟩
    refine ⟨.tuple #[], results_none rfl _ _ _, ⟨_, rfl⟩, plus Y (· = By), fun k hk => .inl (hXY k hk), .inl ⟨_, ⟨ys, h.st _ _ _ (fun k hk => World.putObj_heap_other (fun e => hD0 (e ▸ hk.elim id id))) hS, rfl⟩, hJ _ _ _ _ _ hJ1 (Grow.putObj _ _ _ (.inl hD))⟩⟩
  case stop =>
    rintro Y D c' pre V hD hD0 hXY hpre ⟨rfl, hJ1, xs, x, rfl, hpx⟩ hK
    have Hpx := Lib.hid hpx
    clear hpx
    gi_wp2
    refine ⟨by simp, .inl ⟨_, _, rfl, run_takeDeferred hK, ?_⟩⟩
    have hpre2 := h.stp _ _ (V.putObj D (.deferred none)) (fun k hk => World.putObj_heap_other (fun e => hD0 (e ▸ hk.elim id id))) hpre
    exact ⟨.tuple #[], results_none rfl _ _ _, ⟨_, rfl⟩, plus Y (· = By), fun k hk => .inl (hXY k hk), .inr ⟨_, ⟨xs, x, hpre2, rfl, Hpx.out⟩, hJx _ _ _ _ _ hJ1 (Grow.putObj _ _ _ (.inl hD))⟩⟩

theorem where_it {E X0 Ef : Set'} {gf pf : Nat} {lb pb : Array Value} {S Sp : List Int → World → Prop} {N : Nat} {p : Int → Bool} {w : World} (h : It E X0 gf lb S Sp N w) (eg : ∀ args w, (callFunc gf args).run Try.prog w = .ok (.enter gf args) w)
    (hf : Fits Ef pf pb p w) (ef : ∀ args w, (callFunc pf args).run Try.prog w = .ok (.enter pf args) w) (hX : ∀ k, Ef k → ¬ X0 k) :
    It (plus E (plus Ef (two w.heap.size (w.heap.size + 1)))) X0 28 #[ptr w.heap.size, ptr (w.heap.size + 1)] (fun ys V => ∃ xs, S xs V ∧ ys = xs.filter p) (fun ys V => ∃ xs x, Sp (xs ++ [x]) V ∧ ys = (xs ++ [x]).filter p ∧ p x = true) N
      ((w.alloc (.cells #[fv gf lb] 26)).alloc (.cells #[fv pf pb] 29)) where
  lt k hk := by
    simp only [World.size_alloc]
    rcases hk with (hk | hk | hk) | hk
    · have := h.lt k (.inl hk); omega
    · have := hf.lt k hk; omega
    · omega
    · have := h.lt k (.inr hk); omega
  apart k hk hx := by
    rcases hk with hk | hk | hk
    · exact h.apart k hk hx
    · exact hX k hk hx
    · have := h.lt k (.inr hx); omega
  st _ A B hk := fun ⟨xs, h1, h2⟩ => ⟨xs, h.st _ A B hk h1, h2⟩
  stp _ A B hk := fun ⟨xs, x, h1, h2⟩ => ⟨xs, x, h.stp _ A B hk h1, h2⟩
  tells l J Jx W hW hK hJ hJx hY h0 := by
    have hb := ((Below.refl _ w).alloc (Nat.le_refl _) (.cells #[fv gf lb] 26)).alloc (by simp) (.cells #[fv pf pb] 29)
    have b1 := (Boxed.new w 26 (fv gf lb)).alloc (.cells #[fv pf pb] 29)
    have b2 := Boxed.new (w.alloc (.cells #[fv gf lb] 26)) 29 (fv pf pb)
    rw [World.size_alloc] at b2
    exact where_tells (h.below hb) eg (hf.on hb.size fun k hk => hb.block k (hf.lt k (hk.elim id False.elim))) ef b1.cell b2.cell
      (fun k hk e => by
        have := h.lt _ (.inr e)
        rcases hk with rfl | hk
        · omega
        · exact hX k hk e) l J Jx W hW hK hJ hJx hY h0
end Go.Proofs.Ytpgidjebihgdaaa
