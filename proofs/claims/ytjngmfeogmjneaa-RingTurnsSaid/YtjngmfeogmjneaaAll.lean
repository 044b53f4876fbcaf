/- The law's own 'all': the first ones that stand there, in order; nothing that was there changes. -/
import Derived.Test.YtjngmfeogmjneaaSeq
namespace Go.Proofs.Ytjngmfeogmjneaa
open Go.RowKit Go.Shelf
attribute [local go_sem] Oper.semAt_some

theorem run_equalIn_nilFunc (d : Nat) (fn : Fn) (fi ca : Array Value) (W : World) : (Op.equalIn (d + 1) 56 (.func fn fi ca) .nilFunc).run Try.prog W = .ok false W := by
  simp [Op.equalIn, run_underlying Try.underlying56]
theorem run_equal_nilFunc (fn : Fn) (fi ca : Array Value) (W : World) : (Op.equal 56 (.func fn fi ca) .nilFunc).run Try.prog W = .ok false W := run_equalIn_nilFunc 9999 fn fi ca W
theorem run_eql_nilFunc (fn : Fn) (fi ca : Array Value) (W : World) : (binOp .eql 56 (.func fn fi ca) .nilFunc).run Try.prog W = .ok (.bool false) W := by
  simp only [binOp]
  simp [run_equal_nilFunc]

/-- the numbers xs lie in the slice at A, below N -/
def IS (w : World) (N : Nat) (A : Option Addr) (xs : List Int) : Prop := ∀ (k : Nat) x, xs[k]? = some x → ∃ b off, A = some ⟨b, off, none⟩ ∧ b < N ∧ w.cell? ⟨b, off + k, none⟩ = some (.int .i64 x)
def RetInts (w : World) (xs : List Int) (e : Ending) (w' : World) : Prop := ∃ A n c, e = .returned (.slice A n c) ∧ xs.length = n ∧ n ≤ c ∧ IS w' w'.heap.size A xs ∧ Below w.heap.size w w'

set_option maxHeartbeats 1000000 in
theorem allF_in (n g : Nat) (w : World) :
    CallsIn Fence.wide n Try.prog 28 #[.pointer (some ⟨g, 0, none⟩)] w fun e w' => e = .returned (.func (.func 33) #[] #[.pointer (some ⟨w.heap.size, 0, none⟩)]) ∧ w' = w.alloc (.cells #[.pointer (some ⟨g, 0, none⟩)] 24) := by
  refine callsIn_of_wp Try.func28 rfl trivial ?_ rfl
  simp only [Try.ntmps28, List.size_toArray, List.length_cons, List.length_nil, Nat.reduceAdd, Nat.reduceSub, Array.replicate_succ, Array.replicate_zero, List.push_toArray, List.append_toArray, List.nil_append, List.cons_append]
  gi_wp2
  go_ret
  exact ⟨rfl, rfl⟩

theorem all_stops (n0 Bs Bo g gb m first room : Nat) (A : Option Addr) (xs : List Int) (w : World) (hn0 : n0 = w.heap.size) (hBs : w.cell? ⟨Bs, 0, none⟩ = some (.pointer (some ⟨g, 0, none⟩))) (hBo : Bs ≠ Bo)
    (hR : RingAt w g gb m first room A (xs.map vI)) (hg : g ≠ Bo) (hgb : 0 < m → gb ≠ Bo) :
    SeqStopsK Fence.wide 5 Try.prog 33 #[.pointer (some ⟨Bs, 0, none⟩)] (fun x : Int => #[vI x]) (KB n0 Bo) (fun ys => ys = xs) (fun pre => pre <+: xs) xs.length w := by
  subst hn0
  exact fun l J Jx W hW hJ _ hY h0 => seq_in 5 (by omega) l Bs w.heap.size Bo g gb m first room A xs J Jx hY W hJ ((hW.cell (p := ⟨Bs, 0, none⟩) (World.block_lt_of_cell? w _ hBs)).trans hBs) (World.block_lt_of_cell? w _ hBs) hBo (hR.on hW) ⟨hR.lg, hg⟩
    (fun hm => ⟨(hR.pl hm).2.2.1, hgb hm⟩) h0

theorem own_is {w : World} {base n c : Nat} {A : Option Addr} {xs : List Int} (h : w.ownsRow base 3 1 (.slice A n c) n (xs.map (Value.int .i64))) : IS w w.heap.size A xs ∧ xs.length = n ∧ n ≤ c := by
  have hlen : xs.length = n := by have := h.1; simpa using this
  rcases h.2 with ⟨h1, h2⟩ | ⟨g, cap, cur, h1, _, hg, h2, _⟩
  · cases h1
    obtain rfl : xs = [] := List.eq_nil_of_length_eq_zero (by omega)
    exact ⟨fun k x hk => by simp at hk, hlen, by omega⟩
  · cases h1
    refine ⟨fun k x hk => ⟨g, 0, rfl, (Array.getElem?_eq_some_iff.1 hg).1, ?_⟩, hlen, h2⟩
    have := h.cells (g := g) rfl k (.int .i64 x) (by rw [List.getElem?_map, hk]; rfl)
    have ha : (⟨g, 0, none⟩ : Addr).add k = ⟨g, 0 + k, none⟩ := by unfold Addr.add; split <;> simp_all
    rw [ha] at this
    exact this
theorem own_mono {w : World} {b b' e size n : Nat} {v : Value} {xs : List Value} (h : w.ownsRow b e size v n xs) (hb : b' ≤ b) : w.ownsRow b' e size v n xs :=
  ⟨h.1, h.2.imp id fun ⟨g, cap, cur, h1, h2, h3⟩ => ⟨g, cap, cur, h1, Nat.le_trans hb h2, h3⟩⟩
theorem own_form {w : World} {base e size n : Nat} {v : Value} {xs : List Value} (h : w.ownsRow base e size v n xs) : ∃ A c, v = .slice A n c := by
  rcases h.2 with ⟨h1, h2⟩ | ⟨g, cap, cur, h1, _⟩
  · exact ⟨none, 0, by rw [h1, h2]⟩
  · exact ⟨_, _, h1⟩
theorem not_def {w : World} {base e size n D : Nat} {v : Value} {xs : List Value} {ds : Option (List Deferred)} (h : w.ownsRow base e size v n xs) (hK : w.heap[D]? = some (.deferred ds)) : v.ownBlock = none ∨ v.ownBlock ≠ some D := by
  rcases h.2 with ⟨rfl, _⟩ | ⟨g, cap, cur, rfl, _, hg, _⟩
  · exact .inl rfl
  · refine .inr fun e => ?_
    obtain rfl : g = D := by simpa [Value.ownBlock] using e
    rw [hg] at hK
    cases hK
/-- the box B holds a slice of its own with the numbers xs -/
def OwnBox (B base : Nat) (xs : List Int) (W : World) : Prop := ∃ v, Boxed W B 22 v ∧ W.ownsRow base 3 1 v xs.length (xs.map vI)
theorem ownBox_own (B base : Nat) (f : List Int → List Int) : Own (fun pre W => OwnBox B base (f pre) W) := by
  intro s X Y row hs hg hr
  obtain ⟨v, h1, h2⟩ := hs
  refine ⟨v, boxed_own B 22 (fun _ : Unit => v) () X Y row h1 hg hr, h2.kept hg ?_⟩
  cases hv : v.ownBlock with
  | none => exact .inl rfl
  | some k =>
    refine .inr fun e => ?_
    obtain ⟨o, ho, hc⟩ := hr k e.symm
    rcases h2.2 with ⟨rfl, _⟩ | ⟨g, cap, cur, rfl, _, hgg, _⟩
    · simp [Value.ownBlock] at hv
    · simp [Value.ownBlock] at hv
      subst hv
      rw [hgg] at ho
      cases ho
      cases hc
theorem infoI2 : (Try.prog.info? 3).map (fun i => (i.zero, i.size, i.bytes)) = some (some (.int .i64 0), 1, 8) := by kernel_rfl

set_option maxRecDepth 100000 in
set_option maxHeartbeats 2000000 in
theorem all_any (g gb room lim : Nat) (l : List Int) (w : World) (h : Ring w g gb room (l.map vI)) (hlim : lim ≤ 255) :
    Calls Try.prog 19 #[.pointer (some ⟨g, 0, none⟩), .int .i64 lim] w (RetInts w (l.take lim)) := by
  obtain ⟨hg1, hgb1⟩ := h.lt
  obtain ⟨i0, hi, hz0, hz1, hz2⟩ := info_parts infoI2
  refine (callsIn_wide (n := 6)).1 ?_
  refine callsIn_of_wp_marks Try.func19 rfl trivial ?_ rfl
  simp only [Try.ntmps19, List.size_toArray, List.length_cons, List.length_nil, Nat.reduceAdd, Nat.reduceSub, Array.replicate_succ, Array.replicate_zero, List.push_toArray, List.append_toArray, List.nil_append, List.cons_append]
  have hnf := run_eql_nilFunc
  gi_wp2_with (first
    | (refine ⟨trivial, ?_⟩; gi_at_call 28; refine (allF_in _ g _).mono ?_; rintro e w2 ⟨rfl, rfl⟩))
  clear hnf
  have bL := ((Boxed.new w 3 (.int .i64 lim)).alloc (.cells #[.slice none 0 0] 22)).alloc (.cells #[.pointer (some ⟨g, 0, none⟩)] 24)
  have bO := (Boxed.new (w.alloc (.cells #[.int .i64 lim] 3)) 22 (.slice none 0 0)).alloc (.cells #[.pointer (some ⟨g, 0, none⟩)] 24)
  have bS := Boxed.new ((w.alloc (.cells #[.int .i64 lim] 3)).alloc (.cells #[.slice none 0 0] 22)) 24 (.pointer (some ⟨g, 0, none⟩))
  have hB0 : Below w.heap.size w (((w.alloc (.cells #[.int .i64 lim] 3)).alloc (.cells #[.slice none 0 0] 22)).alloc (.cells #[.pointer (some ⟨g, 0, none⟩)] 24)) :=
    (((Below.refl _ w).alloc (Nat.le_refl _) _).alloc (by simp) _).alloc (by simp; omega) _
  have hsz : (((w.alloc (.cells #[.int .i64 lim] 3)).alloc (.cells #[.slice none 0 0] 22)).alloc (.cells #[.pointer (some ⟨g, 0, none⟩)] 24)).heap.size = w.heap.size + 3 := by simp
  simp only [World.size_alloc] at bO bS
  obtain ⟨W0, hW0⟩ : ∃ W0, W0 = ((w.alloc (.cells #[.int .i64 lim] 3)).alloc (.cells #[.slice none 0 0] 22)).alloc (.cells #[.pointer (some ⟨g, 0, none⟩)] 24) := ⟨_, rfl⟩
  rw [← hW0] at bL bO bS hB0 hsz ⊢
  clear hW0
  have hR0 : Ring W0 g gb room (l.map vI) := h.on hB0
  obtain ⟨m, first, A, hR, hem⟩ := hR0
  refine wpIn_rangeFunc_ownH rfl (by omega) (gf := 33) (lb := #[.pointer (some ⟨w.heap.size + 1 + 1, 0, none⟩)]) rfl trivial (enters_of Try.func33 (by kernel_rfl) rfl)
    (all_stops (w.heap.size + 3) (w.heap.size + 1 + 1) (w.heap.size + 1) g gb m first room A l W0 hsz.symm bS.cell (by omega) hR (by omega) (fun _ => by omega)) KB.trans (KB.putObj (by omega)) (Below.refl _ _) (fun _ => rfl)
    (fun pre W => (pre.length ≤ lim ∧ Boxed W w.heap.size 3 (.int .i64 lim)) ∧ OwnBox (w.heap.size + 1) (w.heap.size + 3) pre W ∧ w.heap.size + 3 ≤ W.heap.size ∧ Below w.heap.size w W)
    (fun c pre W => (c = .exit 0 ∧ pre.length = lim + 1) ∧ OwnBox (w.heap.size + 1) (w.heap.size + 3) (pre.take lim) W ∧ w.heap.size + 3 ≤ W.heap.size ∧ Below w.heap.size w W)
    (OwnFrom.and (OwnFrom.and (ownFrom_pure _ _) (Own.from (boxed_own _ _ _) _)) (OwnFrom.and (Own.from (ownBox_own _ _ _) _) (OwnFrom.and (fun _ _ _ _ hs hg _ => Nat.le_trans hs hg.size) (ownFrom_below (by omega) (by omega)))))
    (fun c => OwnFrom.and (ownFrom_pure _ _) (OwnFrom.and (Own.from (ownBox_own _ _ _) _) (OwnFrom.and (fun _ _ _ _ hs hg _ => Nat.le_trans hs hg.size) (ownFrom_below (by omega) (by omega)))))
    ⟨⟨Nat.zero_le _, bL⟩, ⟨_, bO, World.ownsRow_nil _ _ _ _⟩, by omega, hB0⟩
    (fun x a' W => a' = { tmps := #[.pointer (some ⟨g, 0, none⟩), .int .i64 lim, undef, .pointer (some ⟨w.heap.size, 0, none⟩), .slice none 0 0, .pointer (some ⟨w.heap.size + 1, 0, none⟩), .func (.func 33) #[] #[.pointer (some ⟨w.heap.size + 1 + 1, 0, none⟩)], vI x,
      .pointer (some ⟨g, 0, none⟩), .func (.func 33) #[] #[.pointer (some ⟨w.heap.size + 1 + 1, 0, none⟩)], .func (.func 33) #[] #[.pointer (some ⟨w.heap.size + 1 + 1, 0, none⟩)], .bool false, .func (.func 33) #[] #[.pointer (some ⟨w.heap.size + 1 + 1, 0, none⟩)], vI x,
      undef, undef, undef, undef, undef, undef, undef, undef, undef], defers := [] })
    (fun x a' _ X Y row hs hg hr => hs)
    ?assign ?body ?done ?stop
  case assign =>
    rintro l1 pre x W K hI hK
    gi_wp2
    exact hK _ _ ((KeepsOthers.refl _).from _) (KB.refl _ _ _) hI rfl
  case body =>
    rintro l1 pre x a' W hl2 ⟨r, hr⟩ ⟨⟨hpl, bL1⟩, ⟨v, bO1, hown⟩, hsW, hB1⟩ rfl hlt
    obtain ⟨A1, c1, rfl⟩ := own_form hown
    have cL := bL1.cell
    have cO := bO1.cell
    have fO := bO1.frozen
    have lO := bO1.lt
    by_cases hx : pre.length < lim
    · have hx2 : (pre.length : Int) < (lim : Int) := by omega
      gi_wp2_with (first
        | (gi_at_builtin; refine wpListIn_append_own _ rfl _ _ 22 rfl (w.heap.size + 3) 3 i0 (.int .i64 0) 1 8 Try.underlying22 hi hz0 hz1 hz2 rfl (by decide) _ _ _ rfl (hown.alloc _) ⟨W.heap.size, 0, none⟩ 1 1 [vI x] rfl rfl ?c1 ?c2 ?c3 ?c4 ?c5 ?_))
      case c1 => exact cell_one_new _ _ _
      case c2 => simp [Value.oneCell']
      case c3 => unfold maxLen; omega
      case c4 => omega
      case c5 => simp; omega
      intro v' w4 hown4 hgrow4 _
      have hap := Boxed.appended bO1 (show (22 : TypeId) ≠ 3 by decide) (own_mono hown (show w.heap.size + 1 ≤ w.heap.size + 3 by omega)) (by omega) (by omega) (own_mono hown4 (by omega)) hgrow4
      have hKB : KB (w.heap.size + 3) (w.heap.size + 1) W (w4.setCell ⟨w.heap.size + 1, 0, none⟩ v') :=
        ⟨hap.2.2.2.2.os, hap.2.2.2.2.tape, hap.2.2.2.2.output, hap.2.2.2.2.size, fun k hk hkb => (Below.heap_setCell _ _ _ _ hkb).trans ((hgrow4.block k (by simp; omega) (fun e => by have := (hown.lt k e.symm).1; omega)).trans (Below.heap_alloc W _ k (by omega)))⟩
      have bL4 : Boxed (w4.setCell ⟨w.heap.size + 1, 0, none⟩ v') w.heap.size 3 (.int .i64 lim) := (hKB.block w.heap.size (by omega) (by omega)).trans bL1
      have cO4 := hap.1.cell
      have fO4 := hap.1.frozen
      obtain ⟨A2, c2, rfl⟩ := own_form hown4
      have hO5 : OwnBox (w.heap.size + 1) (w.heap.size + 3) (pre ++ [x]) (w4.setCell ⟨w.heap.size + 1, 0, none⟩ (.slice A2 (pre.length + 1) c2)) :=
        ⟨_, hap.2.1, by
          have := hown4.kept (grownBy_setCell' w4 (w.heap.size + 1) (.slice A2 (pre.length + 1) c2)) (.inr (hap.1.not_row (show (22 : TypeId) ≠ 3 by decide) hown4).symm)
          simpa using this⟩
      gi_wp2
      exact ⟨hap.2.2.2.1.from _, hKB, ⟨by simp; omega, bL4⟩, hO5, Nat.le_trans hsW hKB.size, hB1.trans (hap.2.2.2.2.mono (by omega))⟩
    · obtain rfl : pre.length = lim := by omega
      gi_wp2
      refine ⟨(KeepsOthers.refl _).from _, ⟨rfl, by simp⟩, ⟨_, by simpa using bO1, by simpa using hown⟩, hsW, hB1⟩
  case done =>
    rintro D ys W hD rfl ⟨⟨hpl, bL1⟩, ⟨v, bO1, hown⟩, hsW, hB1⟩ hK
    obtain ⟨A1, c1, rfl⟩ := own_form hown
    have cO := bO1.cell
    gi_wp2
    refine ⟨by simp, .inl ⟨_, _, rfl, run_takeDeferred hK, ?_⟩⟩
    have hown2 := hown.kept (grownBy_putObj' W D (.deferred none)) (not_def hown hK)
    obtain ⟨h1, h2, h3⟩ := own_is hown2
    rw [List.take_of_length_le hpl]
    exact ⟨.slice A1 ys.length c1, by simp [results, Try.f19, go_sem], A1, _, c1, rfl, rfl, h3, h1, hB1.trans (belowK_b (w := w) (Nat.le_refl _) _ D _ _ (by omega) hK rfl rfl)⟩
  case stop =>
    rintro D c' pre W hD hpre ⟨⟨rfl, hpl⟩, ⟨v, bO1, hown⟩, hsW, hB1⟩ hK
    obtain ⟨A1, c1, rfl⟩ := own_form hown
    have cO := bO1.cell
    gi_wp2
    refine ⟨by simp, .inl ⟨_, _, rfl, run_takeDeferred hK, ?_⟩⟩
    have hpl2 : pre.take lim = l.take lim := by
      obtain ⟨t, rfl⟩ := hpre
      rw [List.take_append_of_le_length (by omega)]
    rw [hpl2] at hown
    have hown2 := hown.kept (grownBy_putObj' W D (.deferred none)) (not_def hown hK)
    have hlen : (l.take lim).length = lim := by rw [← hpl2]; simp; omega
    rw [hlen] at hown2
    obtain ⟨h1, h2, h3⟩ := own_is hown2
    exact ⟨.slice A1 lim c1, by simp [results, Try.f19, go_sem], A1, _, c1, rfl, hlen, h3, h1, hB1.trans (belowK_b (w := w) (Nat.le_refl _) _ D _ _ (by omega) hK rfl rfl)⟩
end Go.Proofs.Ytjngmfeogmjneaa
