/- Lists of pairs: where they lie, one more behind, two of them compared. -/
import Derived.Laws.AppendOwn
import Derived.Maps.AppendAt
import Derived.Test.YtogeifnkjckaiaaGn
namespace Go.Proofs.Ytogeifnkjckaiaa
open Go.RowKit Go.Shelf
attribute [local go_sem] Oper.semAt_some

abbrev IP := List (Int × Int)
/-- the pairs xs lie in the slice at A, below M -/
def PS (w : World) (M : Nat) (A : Option Addr) (xs : IP) : Prop := ∀ (k : Nat) x, xs[k]? = some x → ∃ b off, A = some ⟨b, off, none⟩ ∧ b < M ∧ w.cell? ⟨b, off + k * 2, none⟩ = some (vI x.1) ∧ w.cell? ⟨b, off + k * 2 + 1, none⟩ = some (vI x.2)
theorem PS.below {w w' : World} {N : Nat} {A : Option Addr} {xs : IP} (h : PS w N A xs) (hb : Below N w w') : PS w' N A xs := by
  intro k x hk
  obtain ⟨b, off, rfl, h1, h2, h3⟩ := h k x hk
  exact ⟨b, off, rfl, h1, (hb.cell (p := ⟨b, off + k * 2, none⟩) h1).trans h2, (hb.cell (p := ⟨b, off + k * 2 + 1, none⟩) h1).trans h3⟩
theorem PS.more {w : World} {N M : Nat} {A : Option Addr} {xs : IP} (h : PS w N A xs) (hm : N ≤ M) : PS w M A xs := by
  intro k x hk
  obtain ⟨b, off, rfl, h1, h2⟩ := h k x hk
  exact ⟨b, off, rfl, Nat.lt_of_lt_of_le h1 hm, h2⟩
theorem PS.on {w w' : World} {A : Option Addr} {xs : IP} (h : PS w w.heap.size A xs) (hb : Below w.heap.size w w') : PS w' w'.heap.size A xs := (h.below hb).more hb.size
def flat (xs : IP) : List Value := xs.flatMap fun x => [vI x.1, vI x.2]
theorem flat_len (xs : IP) : (flat xs).length = xs.length * 2 := by
  induction xs with
  | nil => rfl
  | cons x t ih => simp only [flat, List.flatMap_cons, List.length_append, List.length_cons, List.length_nil] at ih ⊢; omega
theorem flat_snoc (xs : IP) (x : Int × Int) : flat (xs ++ [x]) = flat xs ++ [vI x.1, vI x.2] := by simp [flat]
theorem flat_at : ∀ (xs : IP) (k : Nat) (x : Int × Int), xs[k]? = some x → (flat xs)[k * 2]? = some (vI x.1) ∧ (flat xs)[k * 2 + 1]? = some (vI x.2)
  | [], k, x, h => by simp at h
  | y :: t, 0, x, h => by simp at h; subst h; exact ⟨rfl, rfl⟩
  | y :: t, k + 1, x, h => by
    have := flat_at t k x (by simpa using h)
    rw [show (k + 1) * 2 = k * 2 + 1 + 1 by omega]
    exact this
abbrev OwnP (w : World) (base : Nat) (v : Value) (xs : IP) : Prop := w.ownsRow base 43 2 v xs.length (flat xs)
theorem own_ps {w : World} {base c n : Nat} {A : Option Addr} {xs : IP} (h : w.ownsRow base 43 2 (.slice A n c) n (flat xs)) : PS w w.heap.size A xs ∧ xs.length = n ∧ n ≤ c := by
  have hlen : xs.length = n := by have := h.1; rw [flat_len] at this; omega
  rcases h.2 with ⟨h1, h2⟩ | ⟨g, cap, cur, h1, _, hg, h2, _⟩
  · cases h1
    obtain rfl : xs = [] := List.eq_nil_of_length_eq_zero (by omega)
    exact ⟨fun k x hk => by simp at hk, hlen, by omega⟩
  · cases h1
    refine ⟨fun k x hk => ⟨g, 0, rfl, (Array.getElem?_eq_some_iff.1 hg).1, ?_, ?_⟩, hlen, h2⟩
    · have := h.cells (g := g) rfl (k * 2) (vI x.1) (flat_at xs k x hk).1
      have ha : (⟨g, 0, none⟩ : Addr).add (k * 2) = ⟨g, 0 + k * 2, none⟩ := by unfold Addr.add; split <;> simp_all
      rw [ha] at this
      exact this
    · have := h.cells (g := g) rfl (k * 2 + 1) (vI x.2) (flat_at xs k x hk).2
      have ha : (⟨g, 0, none⟩ : Addr).add (k * 2 + 1) = ⟨g, 0 + k * 2 + 1, none⟩ := by unfold Addr.add; split <;> simp_all <;> omega
      rw [ha] at this
      exact this
theorem own_mono {w : World} {b b' e size n : Nat} {v : Value} {xs : List Value} (h : w.ownsRow b e size v n xs) (hb : b' ≤ b) : w.ownsRow b' e size v n xs :=
  ⟨h.1, h.2.imp id fun ⟨g, cap, cur, h1, h2, h3⟩ => ⟨g, cap, cur, h1, Nat.le_trans hb h2, h3⟩⟩
theorem own_form {w : World} {base e size n : Nat} {v : Value} {xs : List Value} (h : w.ownsRow base e size v n xs) : ∃ A c, v = .slice A n c := by
  rcases h.2 with ⟨h1, h2⟩ | ⟨g, cap, cur, h1, _⟩
  · exact ⟨none, 0, by rw [h1, h2]⟩
  · exact ⟨_, _, h1⟩
theorem own_grow {X X' : Set'} {A B : World} {base n e size : Nat} {v : Value} {xs : List Value} (h : A.ownsRow base e size v n xs) (hg : Grow X A X' B) (hx : ∀ b, v.ownBlock = some b → ¬ X b) : B.ownsRow base e size v n xs := by
  refine ⟨h.1, h.2.imp id fun ⟨g, cap, cur, h1, h2, h3⟩ => ⟨g, cap, cur, h1, h2, ?_⟩⟩
  subst h1
  have hb := (Array.getElem?_eq_some_iff.1 h3.1).1
  exact ⟨(hg.block g hb (hx g rfl)).trans h3.1, h3.2⟩
theorem own_lt {A : World} {base n e size : Nat} {v : Value} {xs : List Value} (h : A.ownsRow base e size v n xs) {b : Nat} (hb : v.ownBlock = some b) : base ≤ b ∧ b < A.heap.size := by
  rcases h.2 with ⟨rfl, _⟩ | ⟨g, cap, cur, rfl, h2, h3⟩
  · simp [Value.ownBlock] at hb
  · obtain rfl : g = b := by simpa [Value.ownBlock] using hb
    exact ⟨h2, (Array.getElem?_eq_some_iff.1 h3.1).1⟩
theorem infoP2 : (Try.prog.info? 43).map (fun i => (i.zero, i.size, i.bytes)) = some (some (.agg #[.int .i64 0, .int .i64 0]), 2, 16) := by kernel_rfl

/-- a pair more: the slice's block is the one that it had, or a new one -/
theorem run_append_pair {w : World} {base n c : Nat} {v : Value} {xs : List Value} (ty : TypeId) (hown : w.ownsRow base 43 2 v n xs) (a : Addr) (x : Int × Int) (hx : w.cell? (a.add 0) = some (vI x.1)) (hx1 : w.cell? (a.add 1) = some (vI x.2)) (hn : n ≤ 1000000) (hbase : base ≤ w.heap.size) :
    ∃ v' w', (Builtin.append_ #[27, 27] ty #[v, .slice (some a) 1 c]).run Try.prog w = .ok v' w' ∧ w'.ownsRow base 43 2 v' (n + 1) (xs ++ [vI x.1, vI x.2]) ∧ w.grownBy w' v.ownBlock ∧
      (v'.ownBlock = v.ownBlock ∨ ∃ b, v'.ownBlock = some b ∧ w.heap.size ≤ b) := by
  obtain ⟨i0, hi, hz0, hz1, hz2⟩ := info_parts infoP2
  have hnews : ∀ j u, ([vI x.1, vI x.2] : List Value)[j]? = some u → w.cell? (a.add j) = some u := by
    intro j u hj
    rcases j with _ | _ | j
    · simp at hj; rw [← hj]; exact hx
    · simp at hj; rw [← hj]; exact hx1
    · simp at hj
  have h1 : ∀ u ∈ ([vI x.1, vI x.2] : List Value), u.oneCell' = true := by simp [Value.oneCell']
  obtain ⟨v', w', hrun, hown', hgrow, _⟩ := run_append_own (P := Try.prog) w base 27 ty 43 i0 (.agg #[.int .i64 0, .int .i64 0]) 2 16 Try.underlying27 hi hz0 hz1 hz2 rfl (by decide) v n xs hown a 1 c [vI x.1, vI x.2] rfl hnews h1 (by unfold maxLen; omega) (by omega) hbase
  refine ⟨v', w', hrun, hown', hgrow, ?_⟩
  rcases hown.2 with ⟨rfl, rfl⟩ | ⟨g, cap, cur, rfl, hbg, hg, hnc, hcm, hcs, htake⟩
  · have hr := run_append_nil (P := Try.prog) (w := w) 27 ty 43 i0 (.agg #[.int .i64 0, .int .i64 0]) Try.underlying27 hi hz0 a 1 c [vI x.1, vI x.2] (by rw [hz1]; rfl) hnews (by omega) (by omega) (by rw [hz2]; omega)
    rw [hrun] at hr
    injection hr with e1 e2
    exact .inr ⟨w.heap.size, by rw [e1]; rfl, Nat.le_refl _⟩
  · by_cases hroom : n + 1 ≤ cap
    · have hr := run_append_room (P := Try.prog) (w := w) 27 ty 43 i0 Try.underlying27 hi g n cap cur hg a 1 c [vI x.1, vI x.2] (by rw [hz1]; rfl) hnews h1 hroom (by rw [hz1, hcs]; simp; omega)
      rw [hrun] at hr
      injection hr with e1 e2
      exact .inl (by rw [e1]; rfl)
    · have hr := run_append_grow (P := Try.prog) (w := w) 27 ty 43 i0 (.agg #[.int .i64 0, .int .i64 0]) Try.underlying27 hi hz0 ⟨g, 0, none⟩ n cap xs (by rw [hz1]; exact hown.1) (hown.cells (g := g) rfl) a 1 c [vI x.1, vI x.2] (by rw [hz1]; rfl) hnews (by omega) (by omega) (growslice_fits (by omega) (by rw [hz2]; omega))
      rw [hrun] at hr
      injection hr with e1 e2
      exact .inr ⟨w.heap.size, by rw [e1]; rfl, Nat.le_refl _⟩

theorem wpListIn_append_pair {F : Fence} {n : Nat} (w : World) {ops : Array Oper} {rest : List Oper} {o : Oper} {a : Act} {Q : Exit → Act → World → Prop}
    (hg : o.guard = none) (s x : Operand) (hop : o.op = Op.call { callee := Callee.builtin Builtin.append, args := #[s, x], argTypes := #[27, 27] })
    (base : Nat) (v : Value) (k : Nat) (xs : List Value) (hs : a.eval s = v) (hown : w.ownsRow base 43 2 v k xs) (ad : Addr) (c : Nat) (y : Int × Int) (hx : a.eval x = .slice (some ad) 1 c)
    (hc : w.cell? (ad.add 0) = some (vI y.1)) (hc1 : w.cell? (ad.add 1) = some (vI y.2)) (b1 : k ≤ 1000000) (b3 : base ≤ w.heap.size)
    (hK : ∀ v' w', w'.ownsRow base 43 2 v' (k + 1) (xs ++ [vI y.1, vI y.2]) → w.grownBy w' v.ownBlock → (v'.ownBlock = v.ownBlock ∨ ∃ b, v'.ownBlock = some b ∧ w.heap.size ≤ b) → wpListIn F n Try.prog ops Q rest (a.put o.dst v') w') :
    wpListIn F n Try.prog ops Q (o :: rest) a w := by
  refine wpListIn_plain hg fun K hK' => ?_
  obtain ⟨v', w', hrun, r1, r2, r3⟩ := run_append_pair (c := c) o.type hown ad y hc hc1 b1 b3
  unfold Oper.wpIn
  refine ⟨by simp [Oper.about, hop, resolve, Target.leads, Sem.run_pure], ?_⟩
  rw [Oper.semAt_plain F _ _ (by rw [hop]; intro c hc'; cases hc')]
  simp [execOp, hop, resolve, invoke, builtin, hs, hx, hrun, Result.andThen]
  exact hK' _ _ (hK v' w' r1 r2 r3)
theorem wpList_append_pair (w : World) {ops : Array Oper} {rest : List Oper} {o : Oper} {a : Act} {Q : Exit → Act → World → Prop}
    (hg : o.guard = none) (s x : Operand) (hop : o.op = Op.call { callee := Callee.builtin Builtin.append, args := #[s, x], argTypes := #[27, 27] })
    (base : Nat) (v : Value) (k : Nat) (xs : List Value) (hs : a.eval s = v) (hown : w.ownsRow base 43 2 v k xs) (ad : Addr) (c : Nat) (y : Int × Int) (hx : a.eval x = .slice (some ad) 1 c)
    (hc : w.cell? (ad.add 0) = some (vI y.1)) (hc1 : w.cell? (ad.add 1) = some (vI y.2)) (b1 : k ≤ 1000000) (b3 : base ≤ w.heap.size)
    (hK : ∀ v' w', w'.ownsRow base 43 2 v' (k + 1) (xs ++ [vI y.1, vI y.2]) → w.grownBy w' v.ownBlock → (v'.ownBlock = v.ownBlock ∨ ∃ b, v'.ownBlock = some b ∧ w.heap.size ≤ b) → wpList Try.prog ops Q rest (a.put o.dst v') w') :
    wpList Try.prog ops Q (o :: rest) a w := by
  refine wpList_plain hg fun K hK' => ?_
  obtain ⟨v', w', hrun, r1, r2, r3⟩ := run_append_pair (c := c) o.type hown ad y hc hc1 b1 b3
  unfold Oper.wp
  simp [execOp, hop, resolve, invoke, builtin, hs, hx, hrun, Result.andThen]
  exact hK' _ _ (hK v' w' r1 r2 r3)
end Go.Proofs.Ytogeifnkjckaiaa
