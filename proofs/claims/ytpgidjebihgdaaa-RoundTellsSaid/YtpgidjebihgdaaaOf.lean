/- The program's Of: the numbers from one on, and round. -/
import Derived.Test.YtpgidjebihgdaaaSecond
namespace Go.Proofs.Ytpgidjebihgdaaa
open Go.RowKit Go.Shelf
attribute [local go_sem] Oper.semAt_some

set_option maxHeartbeats 1000000 in
theorem behind_any (g1 : Nat) (l1 : Array Value) (g2 : Nat) (l2 : Array Value) (w : World) :
    Calls Try.prog 26 #[fv g1 l1, fv g2 l2] w fun e w' => e = .returned (fv 31 #[ptr w.heap.size, ptr (w.heap.size + 1)]) ∧ w' = (w.alloc (.cells #[fv g1 l1] 26)).alloc (.cells #[fv g2 l2] 26) := by
  refine (callsIn_wide (n := 6)).1 ?_
  refine callsIn_of_wp Try.func26 rfl trivial ?_ rfl
  simp only [Try.ntmps26, List.size_toArray, List.length_cons, List.length_nil, Nat.reduceAdd, Nat.reduceSub, Array.replicate_succ, Array.replicate_zero, List.push_toArray, List.append_toArray, List.nil_append, List.cons_append]
  gi_wp2
  go_ret
  exact ⟨rfl, rfl⟩

set_option maxRecDepth 100000 in
set_option maxHeartbeats 2000000 in
theorem behind_tells {Ea Eb : Set'} {ga gb Ba Bb N : Nat} {la lb : Array Value} {A B : List Int} {w : World}
    (ha : ∀ V, Kept Ea no w V → It Ea no ga la (fun ys _ => ys = A) (fun ys _ => ys <+: A) N V) (hb : ∀ V, Kept Eb no w V → It Eb no gb lb (fun ys _ => ys = B) (fun ys _ => ys <+: B) N V)
    (ea : ∀ args w, (callFunc ga args).run Try.prog w = .ok (.enter ga args) w) (eb : ∀ args w, (callFunc gb args).run Try.prog w = .ok (.enter gb args) w) (hA : A.length ≤ N)
    (hBa : w.cell? ⟨Ba, 0, none⟩ = some (fv ga la)) (hBb : w.cell? ⟨Bb, 0, none⟩ = some (fv gb lb))
    (l : Nat) (J Jx : Set' → List Int → World → Prop) (W : World) (hK : Kept (plus (plus Ea Eb) (two Ba Bb)) no w W) (hJ : Ab J) (hJx : Ab Jx) (hY : Rounds (plus (plus Ea Eb) (two Ba Bb)) l (N + N) J Jx) (h0 : J no [] W) :
    Calls Try.prog 31 #[yv l, ptr Ba, ptr Bb] W fun e W' => (∃ v, e = .returned v) ∧ ∃ X, (J X (A ++ B) W' ∨ (∃ ys, ys <+: A ++ B ∧ Jx X ys W')) := by
  have hca := hK.cell hBa (.inl (.inr (.inl rfl)))
  have lBa : Ba < W.heap.size := World.block_lt_of_cell? W _ hca
  have hcb := hK.cell hBb (.inl (.inr (.inr rfl)))
  have lBb : Bb < W.heap.size := World.block_lt_of_cell? W _ hcb
  have kA : Kept Ea no w W := fun k hk => hK k (.inl (.inl (.inl (hk.elim id False.elim))))
  have kB : Kept Eb no w W := fun k hk => hK k (.inl (.inl (.inr (hk.elim id False.elim))))
  refine (callsIn_wide (n := 6)).1 ?_
  refine callsIn_of_wp_marks Try.func31 rfl trivial ?_ rfl
  simp only [Try.ntmps31, List.size_toArray, List.length_cons, List.length_nil, Nat.reduceAdd, Nat.reduceSub, Array.replicate_succ, Array.replicate_zero, List.push_toArray, List.append_toArray, List.nil_append, List.cons_append]
  gi_wp2
  have hb2 : Below W.heap.size W (W.alloc (.cells #[yv l] 29)) := (Below.refl _ W).alloc (Nat.le_refl _) _
  have bY := Boxed.new W 29 (yv l)
  have hsz : (W.alloc (.cells #[yv l] 29)).heap.size = W.heap.size + 1 := by simp
  have hcb2 := (hb2.cell (p := ⟨Bb, 0, none⟩) lBb).trans hcb
  obtain ⟨W2, eW2⟩ : ∃ W2, W2 = W.alloc (.cells #[yv l] 29) := ⟨_, rfl⟩
  rw [← eW2] at hb2 bY hsz hcb2 ⊢
  clear eW2
  obtain ⟨By, eBy⟩ : ∃ By, By = W.heap.size := ⟨_, rfl⟩
  rw [← eBy] at bY ⊢
  have hEa : ∀ k, Ea k → k < By := fun k hk => by rw [eBy]; exact (ha W kA).lt k (.inl hk)
  have hEb : ∀ k, Eb k → k < By := fun k hk => by rw [eBy]; exact (hb W kB).lt k (.inl hk)
  have kA2 : Kept Ea no w W2 := kA.trans fun k hk => hb2.block k (by rw [← eBy]; exact hEa k (hk.elim id False.elim))
  have kB2 : Kept Eb no w W2 := kB.trans fun k hk => hb2.block k (by rw [← eBy]; exact hEb k (hk.elim id False.elim))
  have hJ2 : J (plus no (· = By)) [] W2 := hJ _ _ _ _ _ h0 (Grow.own no hb2 _ (fun k hk => by omega))
  have hby : Bb < By := by omega
  clear eBy
  refine wpIn_range (lb := la) rfl ea (ha W2 kA2) rfl
    (fun Y pre V => J (plus Y (· = By)) pre V ∧ (¬ Y By ∧ ∀ k, k = Bb ∨ Eb k → ¬ Y k) ∧ Boxed V By 29 (yv l) ∧ V.cell? ⟨Bb, 0, none⟩ = some (fv gb lb) ∧ Kept Eb no w V)
    (fun c Y pre V => c = .ret ∧ Jx (plus Y (· = By)) pre V) ?ab ?abx ⟨hJ2, ⟨fun h => h, fun _ _ h => h⟩, bY, hcb2, kB2⟩
    (fun x => { tmps := #[yv l, ptr Ba, ptr Bb, ptr By, vI x, undef, fv ga la, vI x, undef, undef, undef, undef, undef, undef, undef, undef, undef, undef], defers := [] }) ?assign ?body ?done ?stop
  case ab =>
    rintro X X' s A B ⟨h1, ⟨h2, h3⟩, h4, h5, h7⟩ hg
    have hlA : ∀ k, k = Bb ∨ Eb k → k < A.heap.size := fun k hk => by
      have := h4.lt
      rcases hk with rfl | hk
      · omega
      · have := hEb k hk; omega
    exact ⟨hJ _ _ _ _ _ h1 (hg.plus _), ⟨hg.not h4.lt h2, fun k hk => hg.not (hlA k hk) (h3 k hk)⟩, boxed_grow' h4 hg h2, hg.cell h5 (h3 Bb (.inl rfl)),
      h7.trans fun k hk => hg.block k (hlA k (.inr (hk.elim id False.elim))) (h3 k (.inr (hk.elim id False.elim)))⟩
  case abx =>
    rintro c X X' s A B ⟨h1, h2⟩ hg
    exact ⟨h1, hJx _ _ _ _ _ h2 (hg.plus _)⟩
  case assign =>
    intro l x W K hK
    gi_wp2
    exact hK
  case body =>
    rintro l1 Y pre x V hl ⟨hJ1, ⟨n1, n2⟩, bY1, cF, hkV⟩ hlt
    have cY := bY1.cell
    obtain ⟨fn, tmps, assign, body, hy, hR⟩ := YieldAt.inRound l1 (hY 3 (plus Y (· = By)) pre x _ hJ1 (by omega))
    gi_wp2
    refine hR.mono ?_
    rintro e W3 (⟨rfl, hJ4, hk4⟩ | ⟨rfl, hJx4, hk4⟩)
    · gi_wp2
      exact ⟨hk4.less fun k => Or.imp (fun e => .inl (.inl e)) .inl, hJ4, ⟨n1, n2⟩, boxed_kept bY1 hk4 (.inr (.inr rfl)), hk4.cell cF (.inl (.inr (.inr rfl))), hkV.trans fun k hk => hk4 k (.inl (.inl (.inr (hk.elim id False.elim))))⟩
    · gi_wp2
      exact ⟨hk4.less fun k => Or.imp (fun e => .inl (.inl e)) .inl, rfl, hJx4⟩
  case stop =>
    rintro Y D c' pre V hD hD0 hXY hpre ⟨rfl, hJ1⟩ hK
    gi_wp2
    refine ⟨by simp, .inl ⟨_, _, rfl, run_takeDeferred hK, ?_⟩⟩
    exact ⟨.tuple #[], results_none rfl _ _ _, ⟨_, rfl⟩, plus Y (· = By), .inr ⟨pre, List.IsPrefix.trans hpre (List.prefix_append _ _), hJx _ _ _ _ _ hJ1 (Grow.putObj _ _ _ (.inl hD))⟩⟩
  case done =>
    rintro Y1 D1 ys V1 hD1 _ _ hS ⟨hJ1, ⟨n1, n2⟩, bY1, cF, hkV⟩ hK1
    subst hS
    have hD1B : D1 ≠ By := fun e => n1 (e ▸ hD1)
    gi_wp2
    refine wpIn_range (lb := lb) rfl eb (hb V1 hkV) rfl
      (fun Y pre V => J (plus (plus Y Y1) (· = By)) (ys ++ pre) V ∧ (¬ Y By ∧ ¬ Y D1) ∧ Boxed V By 29 (yv l) ∧ V.heap[D1]? = some (.deferred (some [])))
      (fun c Y pre V => c = .ret ∧ Jx (plus (plus Y Y1) (· = By)) (ys ++ pre) V ∧ ¬ Y D1 ∧ V.heap[D1]? = some (.deferred (some []))) ?ab2 ?abx2 ?h02
      (fun x => { tmps := #[yv l, ptr Ba, ptr Bb, ptr By, undef, vI x, fv ga la, undef, undef, undef, undef, undef, fv gb lb, vI x, undef, undef, undef, undef], defers := [] }) ?assign2 ?body2 ?done2 ?stop2
    case h02 =>
      have e : plus (plus no Y1) (· = By) = plus Y1 (· = By) := funext fun k => propext ⟨fun h => h.imp (fun h => h.elim False.elim id) id, fun h => h.imp .inr id⟩
      exact ⟨by rw [e, List.append_nil]; exact hJ1, ⟨fun h => h, fun h => h⟩, bY1, hK1⟩
    case ab2 =>
      rintro X X' s A B ⟨h1, ⟨h2, h3⟩, h4, h5⟩ hg
      exact ⟨hJ _ _ _ _ _ h1 ((hg.plus _).plus _), ⟨hg.not h4.lt h2, hg.not (Array.getElem?_eq_some_iff.1 h5).1 h3⟩, boxed_grow' h4 hg h2, (hg.block _ (Array.getElem?_eq_some_iff.1 h5).1 h3).trans h5⟩
    case abx2 =>
      rintro c X X' s A B ⟨h1, h2, h3, h4⟩ hg
      exact ⟨h1, hJx _ _ _ _ _ h2 ((hg.plus _).plus _), hg.not (Array.getElem?_eq_some_iff.1 h4).1 h3, (hg.block _ (Array.getElem?_eq_some_iff.1 h4).1 h3).trans h4⟩
    case assign2 =>
      intro l x W K hK
      gi_wp2
      exact hK
    case body2 =>
      rintro l1 Y pre x V hl ⟨hJ1, ⟨n1, n2⟩, bY1, hK2⟩ hlt
      have cY := bY1.cell
      obtain ⟨fn, tmps, assign, body, hy, hR⟩ := YieldAt.inRound l1 (hY 3 (plus (plus Y Y1) (· = By)) (ys ++ pre) x _ hJ1 (by simp; omega))
      gi_wp2
      refine hR.mono ?_
      rintro e W3 (⟨rfl, hJ4, hk4⟩ | ⟨rfl, hJx4, hk4⟩)
      · gi_wp2
        exact ⟨hk4.less fun k => Or.imp (fun e => .inl (.inr e)) (fun e => .inl (.inl e)), by rw [← List.append_assoc]; exact hJ4, ⟨n1, n2⟩, boxed_kept bY1 hk4 (.inr (.inr rfl)), (hk4 D1 (.inr (.inl (.inr hD1)))).trans hK2⟩
      · gi_wp2
        exact ⟨hk4.less fun k => Or.imp (fun e => .inl (.inr e)) (fun e => .inl (.inl e)), rfl, by rw [← List.append_assoc]; exact hJx4, n2, (hk4 D1 (.inr (.inl (.inr hD1)))).trans hK2⟩
    case done2 =>
      rintro Y D zs V hD _ _ hS2 ⟨hJ1, ⟨n1, n2⟩, bY1, hK2⟩ hK
      subst hS2
      have hne : D1 ≠ D := fun e => n2 (e ▸ hD)
      gi_wp2
      refine ⟨by simp, .inl ⟨_, _, rfl, run_takeDeferred hK, ?_⟩⟩
      refine ⟨by simp, .inl ⟨_, _, rfl, run_takeDeferred ((World.putObj_heap_other hne).trans hK2), ?_⟩⟩
      exact ⟨.tuple #[], results_none rfl _ _ _, ⟨_, rfl⟩, plus (plus Y Y1) (· = By), .inl (hJ _ _ _ _ _ hJ1 ((Grow.putObj _ _ _ (.inl (.inl hD))).trans (Grow.putObj _ _ _ (.inl (.inr hD1)))))⟩
    case stop2 =>
      rintro Y D c' pre V hD _ _ hpre ⟨rfl, hJ1, n2, hK2⟩ hK
      have hne : D1 ≠ D := fun e => n2 (e ▸ hD)
      gi_wp2
      refine ⟨by simp, .inl ⟨_, _, rfl, run_takeDeferred hK, ?_⟩⟩
      refine ⟨by simp, .inl ⟨_, _, rfl, run_takeDeferred ((World.putObj_heap_other hne).trans hK2), ?_⟩⟩
      exact ⟨.tuple #[], results_none rfl _ _ _, ⟨_, rfl⟩, plus (plus Y Y1) (· = By), .inr ⟨ys ++ pre, (List.prefix_append_right_inj ys).2 hpre, hJx _ _ _ _ _ hJ1 ((Grow.putObj _ _ _ (.inl (.inl hD))).trans (Grow.putObj _ _ _ (.inl (.inr hD1))))⟩⟩

/-- the numbers that Of tells -/
def ofL (many frm : Int) : List Int := if 0 ≤ frm ∧ frm < min many 100000 then upto frm (min many 100000) ++ upto 0 frm else upto 0 (min many 100000) ++ upto 0 0
/-- the function value tells just xs -/
def Seq (w : World) (g : Nat) (lb : Array Value) (xs : List Int) : Prop :=
  (∀ args w, (callFunc g args).run Try.prog w = .ok (.enter g args) w) ∧ ∃ E, It E no g lb (fun ys _ => ys = xs) (fun ys _ => ys <+: xs) 200000 w
theorem Seq.below {w w' : World} {g : Nat} {lb : Array Value} {xs : List Int} (h : Seq w g lb xs) (hb : Below w.heap.size w w') : Seq w' g lb xs := ⟨h.1, h.2.imp fun _ h => h.below hb⟩
/-- the same, by a function value that reads blocks from b on alone -/
def SeqB (b : Nat) (w : World) (g : Nat) (lb : Array Value) (xs : List Int) : Prop :=
  (∀ args w, (callFunc g args).run Try.prog w = .ok (.enter g args) w) ∧ ∃ E, It E no g lb (fun ys _ => ys = xs) (fun ys _ => ys <+: xs) 200000 w ∧ ∀ k, E k → b ≤ k
theorem SeqB.seq {b : Nat} {w : World} {g : Nat} {lb : Array Value} {xs : List Int} (h : SeqB b w g lb xs) : Seq w g lb xs := ⟨h.1, h.2.imp fun _ h => h.1⟩
def RetSeqB (w : World) (g : Nat) (xs : List Int) (e : Ending) (w' : World) : Prop := ∃ lb, e = .returned (fv g lb) ∧ SeqB w.heap.size w' g lb xs ∧ Below w.heap.size w w'
def RetSeq (w : World) (g : Nat) (xs : List Int) (e : Ending) (w' : World) : Prop := ∃ lb, e = .returned (fv g lb) ∧ Seq w' g lb xs ∧ Below w.heap.size w w'

theorem behind_seq (a1 b1 a2 b2 : Int) (W0 w w' : World) (hB : Below W0.heap.size W0 w) (B1 B2 B3 B4 : Nat) (h1 : 0 ≤ a1) (h2 : b1 ≤ 100000) (h3 : 0 ≤ a2) (h4 : b2 ≤ 100000)
    (c1 : w.cell? ⟨B1, 0, none⟩ = some (vI a1)) (c2 : w.cell? ⟨B2, 0, none⟩ = some (vI b1)) (c3 : w.cell? ⟨B3, 0, none⟩ = some (vI a2)) (c4 : w.cell? ⟨B4, 0, none⟩ = some (vI b2))
    (ew : w' = (w.alloc (.cells #[fv 32 #[ptr B1, ptr B2]] 26)).alloc (.cells #[fv 32 #[ptr B3, ptr B4]] 26)) (hlo : W0.heap.size ≤ B1 ∧ W0.heap.size ≤ B2 ∧ W0.heap.size ≤ B3 ∧ W0.heap.size ≤ B4) :
    SeqB W0.heap.size w' 31 #[ptr w.heap.size, ptr (w.heap.size + 1)] (upto a1 b1 ++ upto a2 b2) ∧ Below W0.heap.size W0 w' := by
  subst ew
  have hb := ((Below.refl _ w).alloc (Nat.le_refl _) (.cells #[fv 32 #[ptr B1, ptr B2]] 26)).alloc (by simp) (.cells #[fv 32 #[ptr B3, ptr B4]] 26)
  have k1 := (Boxed.new w 26 (fv 32 #[ptr B1, ptr B2])).alloc (.cells #[fv 32 #[ptr B3, ptr B4]] 26)
  have k2 := Boxed.new (w.alloc (.cells #[fv 32 #[ptr B1, ptr B2]] 26)) 26 (fv 32 #[ptr B3, ptr B4])
  rw [World.size_alloc] at k2
  have l1 := World.block_lt_of_cell? w _ c1
  have l2 := World.block_lt_of_cell? w _ c2
  have l3 := World.block_lt_of_cell? w _ c3
  have l4 := World.block_lt_of_cell? w _ c4
  have d1 := (hb.cell (p := ⟨B1, 0, none⟩) l1).trans c1
  have d2 := (hb.cell (p := ⟨B2, 0, none⟩) l2).trans c2
  have d3 := (hb.cell (p := ⟨B3, 0, none⟩) l3).trans c3
  have d4 := (hb.cell (p := ⟨B4, 0, none⟩) l4).trans c4
  have eg : ∀ args w, (callFunc 32 args).run Try.prog w = .ok (.enter 32 args) w := enters_of Try.func32 (by kernel_rfl) rfl
  refine ⟨⟨enters_of Try.func31 (by kernel_rfl) rfl, plus (plus (two B1 B2) (two B3 B4)) (two w.heap.size (w.heap.size + 1)), ⟨?_, fun _ _ h => h, fun _ _ _ _ h => h, fun _ _ _ _ h => h, ?_⟩, ?_⟩, hB.trans (hb.mono hB.size)⟩
  · intro k hk
    simp only [World.size_alloc]
    rcases hk with ((hk | hk) | hk) | hk
    · have l1' : B1 < w.heap.size := l1
      have l2' : B2 < w.heap.size := l2
      omega
    · have l3' : B3 < w.heap.size := l3
      have l4' : B4 < w.heap.size := l4
      omega
    · omega
    · exact hk.elim
  · intro l J Jx W _ hK hJ hJx hY h0
    refine (behind_tells (N := 100000) (fun V hV => numbers_it a1 b1 B1 B2 V h1 h2 (hV.cell d1 (.inl (.inl rfl))) (hV.cell d2 (.inl (.inr rfl)))) (fun V hV => numbers_it a2 b2 B3 B4 V h3 h4 (hV.cell d3 (.inl (.inl rfl))) (hV.cell d4 (.inl (.inr rfl)))) eg eg
      (by rw [upto_len]; omega) k1.cell k2.cell l J Jx W hK hJ hJx hY h0).mono ?_
    rintro e W' ⟨hv, X, hX⟩
    exact ⟨hv, X, fun _ h => h.elim, hX.imp (fun h => ⟨_, rfl, h⟩) (fun h => h)⟩
  · intro k hk
    have := hB.size
    rcases hk with (hk | hk) | hk <;> omega

theorem of_tail (m f : Int) (w : World) (hm : m ≤ 100000) (hf1 : 0 ≤ f) (hf2 : f ≤ 100000) :
    Calls Try.prog 26 #[fv 32 #[ptr w.heap.size, ptr (w.heap.size + 1)], fv 32 #[ptr (w.heap.size + 1 + 1), ptr (w.heap.size + 1 + 1 + 1)]]
      ((((w.alloc (.cells #[vI f] 3)).alloc (.cells #[vI m] 3)).alloc (.cells #[vI 0] 3)).alloc (.cells #[vI f] 3)) (RetSeqB w 31 (upto f m ++ upto 0 f)) := by
  have hb : Below w.heap.size w ((((w.alloc (.cells #[vI f] 3)).alloc (.cells #[vI m] 3)).alloc (.cells #[vI 0] 3)).alloc (.cells #[vI f] 3)) :=
    ((((Below.refl _ w).alloc (Nat.le_refl _) _).alloc (by simp) _).alloc (by simp; omega) _).alloc (by simp; omega) _
  have b1 := (((Boxed.new w 3 (vI f)).alloc (.cells #[vI m] 3)).alloc (.cells #[vI 0] 3)).alloc (.cells #[vI f] 3)
  have b2 := ((Boxed.new (w.alloc (.cells #[vI f] 3)) 3 (vI m)).alloc (.cells #[vI 0] 3)).alloc (.cells #[vI f] 3)
  have b3 := (Boxed.new ((w.alloc (.cells #[vI f] 3)).alloc (.cells #[vI m] 3)) 3 (vI 0)).alloc (.cells #[vI f] 3)
  have b4 := Boxed.new (((w.alloc (.cells #[vI f] 3)).alloc (.cells #[vI m] 3)).alloc (.cells #[vI 0] 3)) 3 (vI f)
  simp only [World.size_alloc] at b2 b3 b4
  refine (behind_any _ _ _ _ _).mono ?_
  rintro e w' ⟨rfl, ew⟩
  exact ⟨_, rfl, behind_seq f m 0 f w _ w' hb _ _ _ _ hf1 hm (by omega) hf2 b1.cell b2.cell b3.cell b4.cell ew ⟨by omega, by omega, by omega, by omega⟩⟩

set_option maxHeartbeats 2000000 in
theorem of_new (many frm : Int) (w : World) : Calls Try.prog 10 #[vI many, vI frm] w (RetSeqB w 31 (ofL many frm)) := by
  unfold ofL
  go_enter Try.func10, Try.ntmps10
  go_wp2_with (go_at_call 27; refine (numbers_any _ _ _).mono ?_; rintro e w1 ⟨rfl, rfl⟩)
  all_goals
    refine (of_tail _ _ w (by omega) (by omega) (by omega)).mono ?_
    rintro e w5 ⟨lb, rfl, hS, hB⟩
    go_wp2
    go_ret
    refine ⟨lb, rfl, ?_, hB⟩
    first
      | (rw [show min many 100000 = 100000 by omega]; exact hS)
      | (rw [show min many 100000 = many by omega]; exact hS)
theorem of_any (many frm : Int) (w : World) : Calls Try.prog 10 #[vI many, vI frm] w (RetSeq w 31 (ofL many frm)) :=
  (of_new many frm w).mono fun _ _ ⟨lb, h1, h2, h3⟩ => ⟨lb, h1, h2.seq, h3⟩
end Go.Proofs.Ytpgidjebihgdaaa
