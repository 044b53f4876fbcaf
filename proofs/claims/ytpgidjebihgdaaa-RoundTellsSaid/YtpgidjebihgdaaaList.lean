/- The program's List: all that an iterator tells, in order; nothing that was there turns but what the iterator turns. -/
import Derived.Laws.AppendOwn
import Derived.Maps.AppendAt
import Derived.Test.YtpgidjebihgdaaaNum
namespace Go.Proofs.Ytpgidjebihgdaaa
open Go.RowKit Go.Shelf
attribute [local go_sem] Oper.semAt_some

/-- the numbers xs lie in the slice at A, below M -/
def IS (w : World) (M : Nat) (A : Option Addr) (xs : List Int) : Prop := ∀ (k : Nat) x, xs[k]? = some x → ∃ b off, A = some ⟨b, off, none⟩ ∧ b < M ∧ w.cell? ⟨b, off + k, none⟩ = some (.int .i64 x)
theorem own_is {w : World} {base n c : Nat} {A : Option Addr} {xs : List Int} (h : w.ownsRow base 3 1 (.slice A n c) n (xs.map (Value.int .i64))) : IS w w.heap.size A xs ∧ xs.length = n ∧ n ≤ c := by
  have hlen : xs.length = n := by have := h.1; simpa using this
  rcases h.2 with ⟨h1, h2⟩ | ⟨g, cap, cur, h1, _, hg, h2, _⟩
  · cases h1
    obtain rfl : xs = [] := List.eq_nil_of_length_eq_zero (by omega)
    exact ⟨fun k x hk => by simp at hk, hlen, by omega⟩
  · cases h1
    refine ⟨fun k x hk => ⟨g, 0, rfl, (Array.getElem?_eq_some_iff.1 hg).1, ?_⟩, hlen, h2⟩
    have := h.cells (g := g) rfl k (.int .i64 x) (by rw [List.getElem?_map, hk]; rfl)
    have ha : (⟨g, 0, none⟩ : Addr).add k = ⟨g, 0 + k, none⟩ := by unfold Addr.add; split <;> simp_all
    rw [ha] at this
    exact this
theorem own_mono {w : World} {b b' e size n : Nat} {v : Value} {xs : List Value} (h : w.ownsRow b e size v n xs) (hb : b' ≤ b) : w.ownsRow b' e size v n xs :=
  ⟨h.1, h.2.imp id fun ⟨g, cap, cur, h1, h2, h3⟩ => ⟨g, cap, cur, h1, Nat.le_trans hb h2, h3⟩⟩
theorem own_form {w : World} {base e size n : Nat} {v : Value} {xs : List Value} (h : w.ownsRow base e size v n xs) : ∃ A c, v = .slice A n c := by
  rcases h.2 with ⟨h1, h2⟩ | ⟨g, cap, cur, h1, _⟩
  · exact ⟨none, 0, by rw [h1, h2]⟩
  · exact ⟨_, _, h1⟩
theorem infoI2 : (Try.prog.info? 3).map (fun i => (i.zero, i.size, i.bytes)) = some (some (.int .i64 0), 1, 8) := by kernel_rfl

/-- a slice of its own with the numbers xs, in no block of X -/
theorem own_grow {X X' : Set'} {A B : World} {base n : Nat} {v : Value} {xs : List Value} (h : A.ownsRow base 3 1 v n xs) (hg : Grow X A X' B) (hx : ∀ b, v.ownBlock = some b → ¬ X b) : B.ownsRow base 3 1 v n xs := by
  refine ⟨h.1, h.2.imp id fun ⟨g, cap, cur, h1, h2, h3⟩ => ⟨g, cap, cur, h1, h2, ?_⟩⟩
  subst h1
  have hb := (Array.getElem?_eq_some_iff.1 h3.1).1
  exact ⟨(hg.block g hb (hx g rfl)).trans h3.1, h3.2⟩

theorem Grow.behind {X Y : Set'} {w A B : World} (h : Grow X w Y A) (k : Below w.heap.size A B) : Grow X w Y B :=
  ⟨k.os.trans h.os, k.tape.trans h.tape, k.output.trans h.output, Nat.le_trans h.size k.size, fun i hi hx => (k.block i hi).trans (h.block i hi hx), h.sub, fun i hi => (h.new i hi).imp id (fun e => ⟨e.1, Nat.lt_of_lt_of_le e.2 k.size⟩)⟩
theorem boxed_grow {X X' : Set'} {A B : World} {k : Nat} {t : TypeId} {v : Value} (h : Boxed A k t v) (hg : Grow X A X' B) (hx : ¬ X k) : Boxed B k t v := (hg.block k h.lt hx).trans h
/-- the box B holds a slice of its own with the numbers xs; neither is one of Y -/
def OwnBox (B base : Nat) (Y : Set') (xs : List Int) (W : World) : Prop := ∃ v, Boxed W B 23 v ∧ W.ownsRow base 3 1 v xs.length (xs.map vI) ∧ ∀ b, v.ownBlock = some b → ¬ Y b

theorem own_lt {A : World} {base n : Nat} {v : Value} {xs : List Value} (h : A.ownsRow base 3 1 v n xs) {b : Nat} (hb : v.ownBlock = some b) : b < A.heap.size := by
  rcases h.2 with ⟨rfl, _⟩ | ⟨g, cap, cur, rfl, h2, h3⟩
  · simp [Value.ownBlock] at hb
  · obtain rfl : g = b := by simpa [Value.ownBlock] using hb
    exact (Array.getElem?_eq_some_iff.1 h3.1).1

/-- a number more: the slice's block is the one that it had, or a new one -/
theorem run_append_num {w : World} {base n c : Nat} {v : Value} {xs : List Value} (ty : TypeId) (hown : w.ownsRow base 3 1 v n xs) (a : Addr) (x : Int) (hx : w.cell? (a.add 0) = some (vI x)) (hn : n ≤ 1000000) (hbase : base ≤ w.heap.size) :
    ∃ v' w', (Builtin.append_ #[23, 23] ty #[v, .slice (some a) 1 c]).run Try.prog w = .ok v' w' ∧ w'.ownsRow base 3 1 v' (n + 1) (xs ++ [vI x]) ∧ w.grownBy w' v.ownBlock ∧
      (v'.ownBlock = v.ownBlock ∨ ∃ b, v'.ownBlock = some b ∧ w.heap.size ≤ b) := by
  obtain ⟨i0, hi, hz0, hz1, hz2⟩ := info_parts infoI2
  have hnews : ∀ j u, ([vI x] : List Value)[j]? = some u → w.cell? (a.add j) = some u := by
    intro j u hj
    rcases j with _ | j
    · simp at hj; rw [← hj]; exact hx
    · simp at hj
  have h1 : ∀ u ∈ ([vI x] : List Value), u.oneCell' = true := by simp [Value.oneCell']
  obtain ⟨v', w', hrun, hown', hgrow, _⟩ := run_append_own (P := Try.prog) w base 23 ty 3 i0 (.int .i64 0) 1 8 Try.underlying23 hi hz0 hz1 hz2 rfl (by decide) v n xs hown a 1 c [vI x] rfl hnews h1 (by unfold maxLen; omega) (by omega) hbase
  refine ⟨v', w', hrun, hown', hgrow, ?_⟩
  rcases hown.2 with ⟨rfl, rfl⟩ | ⟨g, cap, cur, rfl, hbg, hg, hnc, hcm, hcs, htake⟩
  · have hr := run_append_nil (P := Try.prog) (w := w) 23 ty 3 i0 (.int .i64 0) Try.underlying23 hi hz0 a 1 c [vI x] (by rw [hz1]; rfl) hnews (by omega) (by omega) (by rw [hz2]; omega)
    rw [hrun] at hr
    injection hr with e1 e2
    exact .inr ⟨w.heap.size, by rw [e1]; rfl, Nat.le_refl _⟩
  · by_cases hroom : n + 1 ≤ cap
    · have hr := run_append_room (P := Try.prog) (w := w) 23 ty 3 i0 Try.underlying23 hi g n cap cur hg a 1 c [vI x] (by rw [hz1]; rfl) hnews h1 hroom (by rw [hz1, hcs]; simp; omega)
      rw [hrun] at hr
      injection hr with e1 e2
      exact .inl (by rw [e1]; rfl)
    · have hr := run_append_grow (P := Try.prog) (w := w) 23 ty 3 i0 (.int .i64 0) Try.underlying23 hi hz0 ⟨g, 0, none⟩ n cap xs (by rw [hz1]; exact hown.1) (hown.cells (g := g) rfl) a 1 c [vI x] (by rw [hz1]; rfl) hnews (by omega) (by omega) (growslice_fits (by omega) (by rw [hz2]; omega))
      rw [hrun] at hr
      injection hr with e1 e2
      exact .inr ⟨w.heap.size, by rw [e1]; rfl, Nat.le_refl _⟩

theorem wpListIn_append_num {F : Fence} {n : Nat} (w : World) {ops : Array Oper} {rest : List Oper} {o : Oper} {a : Act} {Q : Exit → Act → World → Prop}
    (hg : o.guard = none) (s x : Operand) (hop : o.op = Op.call { callee := Callee.builtin Builtin.append, args := #[s, x], argTypes := #[23, 23] })
    (base : Nat) (v : Value) (k : Nat) (xs : List Value) (hs : a.eval s = v) (hown : w.ownsRow base 3 1 v k xs) (ad : Addr) (c : Nat) (y : Int) (hx : a.eval x = .slice (some ad) 1 c)
    (hc : w.cell? (ad.add 0) = some (vI y)) (b1 : k ≤ 1000000) (b3 : base ≤ w.heap.size)
    (hK : ∀ v' w', w'.ownsRow base 3 1 v' (k + 1) (xs ++ [vI y]) → w.grownBy w' v.ownBlock → (v'.ownBlock = v.ownBlock ∨ ∃ b, v'.ownBlock = some b ∧ w.heap.size ≤ b) → wpListIn F n Try.prog ops Q rest (a.put o.dst v') w') :
    wpListIn F n Try.prog ops Q (o :: rest) a w := by
  refine wpListIn_plain hg fun K hK' => ?_
  obtain ⟨v', w', hrun, r1, r2, r3⟩ := run_append_num (c := c) o.type hown ad y hc b1 b3
  unfold Oper.wpIn
  refine ⟨by simp [Oper.about, hop, resolve, Target.leads, Sem.run_pure], ?_⟩
  rw [Oper.semAt_plain F _ _ (by rw [hop]; intro c hc'; cases hc')]
  simp [execOp, hop, resolve, invoke, builtin, hs, hx, hrun, Result.andThen]
  exact hK' _ _ (hK v' w' r1 r2 r3)

set_option maxRecDepth 100000 in
set_option maxHeartbeats 2000000 in
theorem list_any {E X0 : Set'} {gf : Nat} {lb : Array Value} {S Sp : List Int → World → Prop} {N : Nat} {w : World} (h : It E X0 gf lb S Sp N w)
    (eg : ∀ args w, (callFunc gf args).run Try.prog w = .ok (.enter gf args) w) (hN : N ≤ 1000000) :
    Calls Try.prog 14 #[.func (.func gf) #[] lb] w fun e w' => ∃ xs A c, e = .returned (.slice A xs.length c) ∧ S xs w' ∧ xs.length ≤ c ∧ IS w' w'.heap.size A xs ∧ (∀ a, A = some a → w.heap.size ≤ a.block) ∧ ∃ Y, Grow X0 w Y w' := by
  refine (callsIn_wide (n := 6)).1 ?_
  refine callsIn_of_wp_marks Try.func14 rfl trivial ?_ rfl
  simp only [Try.ntmps14, List.size_toArray, List.length_cons, List.length_nil, Nat.reduceAdd, Nat.reduceSub, Array.replicate_succ, Array.replicate_zero, List.push_toArray, List.append_toArray, List.nil_append, List.cons_append]
  gi_wp2
  have hb0 : Below w.heap.size w (w.alloc (.cells #[.slice none 0 0] 23)) := (Below.refl _ w).alloc (Nat.le_refl _) _
  have bO := Boxed.new w 23 (.slice none 0 0)
  refine wpIn_range (lb := lb) rfl eg (h.below hb0) rfl
    (fun Y pre W => Grow X0 w Y W ∧ ¬ Y w.heap.size ∧ OwnBox w.heap.size w.heap.size Y pre W)
    (fun _ _ _ _ => False) ?ab (fun _ _ _ _ _ _ h _ => h.elim) ⟨(Grow.refl X0 w).behind hb0, fun e => Nat.lt_irrefl _ (h.lt _ (.inr e)), _, bO, World.ownsRow_nil _ _ _ _, fun b hb => by cases hb⟩
    (fun x => { tmps := #[.func (.func gf) #[] lb, undef, .slice none 0 0, ptr w.heap.size, vI x, .func (.func gf) #[] lb, vI x, undef, undef, undef, undef, undef], defers := [] }) ?assign ?body ?done ?stop
  case ab =>
    rintro X X' s A B ⟨h1, h2, v, h3, h4, h5⟩ hg
    refine ⟨h1.trans hg, fun e => ?_, v, boxed_grow h3 hg h2, own_grow h4 hg h5, fun b hb e => ?_⟩
    · have := h3.lt
      exact (hg.new _ e).elim h2 (fun e => by omega)
    · have := own_lt h4 hb
      exact (hg.new _ e).elim (h5 b hb) (fun e => by omega)
  case assign =>
    intro l x W K hK
    gi_wp2
    exact hK
  case body =>
    rintro l Y pre x W hl ⟨hG, hYB, v, bO1, hown, hYv⟩ hlt
    obtain ⟨A1, c1, rfl⟩ := own_form hown
    have cO := bO1.cell
    have fO := bO1.frozen
    have lO := bO1.lt
    have hsz := hG.size
    gi_wp2_with (first
      | (gi_at_builtin; refine wpListIn_append_num _ rfl _ _ rfl w.heap.size _ _ _ rfl (hown.alloc _) ⟨W.heap.size, 0, none⟩ 1 x rfl ?c1 ?c2 ?c3 ?_))
    case c1 => exact (World.cell?_alloc_new _ _ _ 0).trans rfl
    case c2 => omega
    case c3 => simp; omega
    intro v' w4 hown4 hgrow4 hwhere
    have hap := Boxed.appended bO1 (show (23 : TypeId) ≠ 3 by decide) hown hsz (Nat.le_refl _) hown4 hgrow4
    have cO4 := hap.1.cell
    have fO4 := hap.1.frozen
    have hap2 := hap.2.2.2.2
    have hY4 : ∀ k, k < W.heap.size → k ≠ w.heap.size → (Value.slice A1 pre.length c1).ownBlock ≠ some k → (w4.setCell ⟨w.heap.size, 0, none⟩ v').heap[k]? = W.heap[k]? := fun k hk hkB hkv =>
      (Below.heap_setCell _ _ _ _ hkB).trans ((hgrow4.block k (by simp; omega) (fun e => hkv e.symm)).trans (Below.heap_alloc W _ k hk))
    have hYlt : ∀ k, Y k → k < W.heap.size := fun k hk => (hG.new k hk).elim (fun e => Nat.lt_of_lt_of_le (h.lt k (.inr e)) hsz) (fun e => e.2)
    obtain ⟨A2, c2, rfl⟩ := own_form hown4
    have hO5 : OwnBox w.heap.size w.heap.size Y (pre ++ [x]) (w4.setCell ⟨w.heap.size, 0, none⟩ (.slice A2 (pre.length + 1) c2)) :=
      ⟨_, hap.2.1, by
        have := hown4.kept (grownBy_setCell' w4 (w.heap.size) (.slice A2 (pre.length + 1) c2)) (.inr (hap.1.not_row (show (23 : TypeId) ≠ 3 by decide) hown4).symm)
        simpa using this, fun b hb e => by
          rcases hwhere with hw | ⟨b', hw, hlt'⟩
          · exact hYv b (hw ▸ hb) e
          · rw [hw] at hb
            injection hb with hb
            have := hYlt b e
            omega⟩
    gi_wp2
    refine ⟨fun k hk => ?_, hG.behind hap2, hYB, hO5⟩
    rcases hk with hk | hk
    · have := h.lt k (.inl hk)
      refine hY4 k (by omega) (by omega) (fun e => ?_)
      have := (hown.lt k e).1
      omega
    · exact hY4 k (hYlt k hk) (fun e => hYB (e ▸ hk)) (fun e => hYv k e hk)
  case done =>
    rintro Y D ys W hD hD0 hXY hS ⟨hG, hYB, v, bO1, hown, hYv⟩ hK
    obtain ⟨A1, c1, rfl⟩ := own_form hown
    have cO := bO1.cell
    gi_wp2
    refine ⟨by simp, .inl ⟨_, _, rfl, run_takeDeferred hK, ?_⟩⟩
    have hdown : Grow Y W Y (W.putObj D (.deferred none)) := Grow.putObj _ _ _ hD
    obtain ⟨h1, h2, h3⟩ := own_is (own_grow hown hdown hYv)
    exact ⟨.slice A1 ys.length c1, by simp [results, Try.f14, go_sem], ys, A1, c1, rfl, h.st _ _ _ (fun k hk => World.putObj_heap_other (fun e => hD0 (e ▸ hk.elim id id))) hS, h3, h1, fun a ha => (hown.lt a.block (by rw [ha]; rfl)).1, Y, hG.trans hdown⟩
  case stop =>
    rintro Y D c' pre W hD hD0 hXY hpre h hK
    exact h.elim
end Go.Proofs.Ytpgidjebihgdaaa
