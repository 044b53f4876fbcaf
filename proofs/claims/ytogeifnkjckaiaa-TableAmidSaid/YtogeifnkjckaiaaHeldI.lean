/- A region that draws its order, under any fence, rounds and yields too: what yields its value as long as S holds may be taken first. -/
import Derived.Test.YtogeifnkjckaiaaSeq
import Derived.OrdersHeld
namespace Go.Proofs.Ytogeifnkjckaiaa
open Go.RowKit Go.Shelf

section
variable {F : Fence} {n : Nat} {P : Program} {md : Region.Mode} {ops : Array Oper} {Q : Exit → Act → World → Prop} {S : World → Prop}
/-- whichever order is picked; S behind each operation -/
def HeldI (F : Fence) (n : Nat) (P : Program) (md : Region.Mode) (ops : Array Oper) (Q : Exit → Act → World → Prop) (S : World → Prop) : Nat → Array Bool → Act → World → Prop
  | 0, ls, a, w => Region.ready md ops ls = [] ∧ Q .normal a w
  | m + 1, ls, a, w => (Region.ready md ops ls = [] → Q .normal a w) ∧
      ∀ i, i ∈ Region.ready md ops ls → wpOpIn F n P ops Q i (fun a' w' => S w' ∧ HeldI F n P md ops Q S m (ls.setIfInBounds i true) a' w') a w
theorem HeldI.any : ∀ (m : Nat) (ls : Array Bool) (a : Act) (w : World), HeldI F n P md ops Q S m ls a w → wpAnyIn F n P md ops Q m ls a w
  | 0, _, _, _, h => h
  | m + 1, ls, _, _, h => ⟨h.1, fun i hi => wpOpIn_mono (fun a' w' h' => HeldI.any m (ls.setIfInBounds i true) a' w' h'.2) (h.2 i hi)⟩
theorem HeldI.done {m : Nat} {ls : Array Bool} {a : Act} {w : World} (hr : Region.ready md ops ls = []) (h : Q .normal a w) : HeldI F n P md ops Q S m ls a w := by
  cases m with
  | zero => exact ⟨hr, h⟩
  | succ m => exact ⟨fun _ => h, fun i hi => by rw [hr] at hi; cases hi⟩
/-- one alone may come -/
theorem HeldI.one {m : Nat} {ls : Array Bool} {a : Act} {w : World} (i : Nat) (hr : Region.ready md ops ls = [i]) (h : wpOpIn F n P ops Q i (fun a' w' => S w' ∧ HeldI F n P md ops Q S m (ls.setIfInBounds i true) a' w') a w) : HeldI F n P md ops Q S (m + 1) ls a w := by
  refine ⟨fun e => (by rw [hr] at e; cases e), fun j hj => ?_⟩
  rw [hr] at hj
  obtain rfl := List.mem_singleton.1 hj
  exact h
/-- what yields v as long as S holds, and calls nobody -/
def Tells (P : Program) (ops : Array Oper) (S : World → Prop) (o : Oper) (v : Value) (a : Act) : Prop := YieldsIf P ops S o v a ∧ ∀ w, S w → o.about P w a.eval = none
theorem Tells.op {i : Nat} {o : Oper} {v : Value} {a : Act} {w : World} {K : Act → World → Prop} (hi : ops[i]? = some o) (hd : ∀ c, o.op ≠ .defer c) (h : Tells P ops S o v a) (hS : S w) (hK : K (a.put o.dst v) w) : wpOpIn F n P ops Q i K a w := by
  unfold wpOpIn
  simp only [hi]
  have hc : ∀ f, o.about P w a.eval = some f → F.fn f := fun f e => by rw [h.2 w hS] at e; cases e
  rcases h.1 with ⟨e1, e2⟩ | ⟨e1, rfl⟩
  · rw [if_pos e1]
    refine ⟨hc, ?_⟩
    rw [Oper.semAt_plain F _ _ hd, e2 w hS]
    exact hK
  · rw [if_neg (by rw [e1]; exact Bool.false_ne_true)]
    exact ⟨hc, hK⟩
/-- another operation that comes ahead of it -/
theorem Tells.ahead {j : Nat} {oi oj : Oper} {v : Value} {a : Act} {w : World} {K : Act → World → Prop} (hj : ops[j]? = some oj) (hap : oi.apart ops oj = true) (hdj : ∀ c, oj.op ≠ .defer c)
    (hsi : ∀ cs b, oi.op ≠ .select cs b) (hsj : ∀ cs b, oj.op ≠ .select cs b) (hQ : ∀ c a w, Q (.panic c) (a.put oi.dst v) w → Q (.panic c) a w)
    (h : Tells P ops S oi v a) (hK : wpOpIn F n P ops Q j K (a.put oi.dst v) w) : wpOpIn F n P ops Q j (fun a' w' => Tells P ops S oi v a' ∧ K (a'.put oi.dst v) w') a w := by
  obtain ⟨p1, p2, p3⟩ := Oper.apart_spec hap
  have still : ∀ u, Tells P ops S oi v (a.put oj.dst u) := fun u => ⟨h.1.of_same (execOp_put oi hsi a oj.dst u p3) (wanted_put oi a oj.dst u p3), fun w' hw' => (about_put oi w' a oj.dst u p3).trans (h.2 w' hw')⟩
  have turn : ∀ u w', K ((a.put oi.dst v).put oj.dst u) w' → K ((a.put oj.dst u).put oi.dst v) w' := fun u w' hk => by rwa [← Act.put_comm a v u p2]
  unfold wpOpIn at hK ⊢
  simp only [hj] at hK ⊢
  rw [wanted_put oj a oi.dst v p1, about_put oj w a oi.dst v p1] at hK
  by_cases hw : Region.wanted oj (yielded ops a.tmps) = true
  · rw [if_pos hw] at hK ⊢
    unfold Oper.wpIn at hK ⊢
    rw [Oper.semAt_plain F _ _ hdj, execOp_put oj hsj a oi.dst v p1, about_put oj w a oi.dst v p1] at hK
    rw [Oper.semAt_plain F _ _ hdj]
    refine ⟨hK.1, ?_⟩
    have hk := hK.2
    generalize hres : (execOp a.eval oj).run P w = r at hk ⊢
    cases r with
    | ok x w' =>
      cases x with
      | value u => exact ⟨still u, turn u w' hk⟩
      | skip => exact ⟨still _, turn _ w' hk⟩
      | enter f args => exact ⟨hk.1, CallsIn.mono hk.2 fun e w'' he => by
        cases e with
        | returned u => exact ⟨still u, turn u w'' he⟩
        | panicked c => exact hQ _ _ _ he
        | outgrown => exact he⟩
      | row r args => exact ⟨hk.1, RowsIn.mono hk.2 fun u w'' he => ⟨still u, turn u w'' he⟩⟩
      | round l f tmps assign body => exact ⟨hk.1, RoundIn.mono hk.2 fun e w'' he => by
        cases e with
        | returned u => exact ⟨still u, turn u w'' he⟩
        | panicked c => exact hQ _ _ _ he
        | outgrown => exact he⟩
      | defer d =>
        refine ⟨?_, ?_⟩
        · exact ⟨(h.1.of_same (a' := { a with defers := d :: a.defers }) rfl rfl).of_same (execOp_put oi hsi _ oj.dst undef p3) (wanted_put oi _ oj.dst undef p3), fun w' hw' => (about_put oi w' { a with defers := d :: a.defers } oj.dst undef p3).trans (h.2 w' hw')⟩
        · have hk2 : K (({ a with defers := d :: a.defers }.put oi.dst v).put oj.dst undef) w' := by rw [← Act.put_defers]; exact hk
          show K (({ a with defers := d :: a.defers }.put oj.dst undef).put oi.dst v) w'
          rwa [← Act.put_comm _ v undef p2]
      | _ => exact hk.elim
    | halt x w' =>
      cases x with
      | panic u => exact hQ _ _ _ hk
      | _ => exact hk
  · rw [if_neg hw] at hK ⊢
    exact ⟨hK.1, still _, turn _ w hK.2⟩
/-- take number i first -/
theorem HeldI.first {i : Nat} {oi : Oper} {v : Value} (hi : ops[i]? = some oi) (hsel : ∀ (j : Nat) (o : Oper) cs b, ops[j]? = some o → o.op ≠ .select cs b) (hdef : ∀ (j : Nat) (o : Oper) c, ops[j]? = some o → o.op ≠ .defer c)
    (hQ : ∀ c a w, Q (.panic c) (a.put oi.dst v) w → Q (.panic c) a w) : ∀ (m : Nat) (ls : Array Bool) (a : Act) (w : World),
      (∀ j oj, ops[j]? = some oj → j ≠ i → ls.getD j true = false → (∀ e ∈ oj.after, Region.binds md e = true → e.on ≠ i) → oi.apart ops oj = true) →
      i ∈ Region.ready md ops ls → Tells P ops S oi v a → S w → HeldI F n P md ops Q S m (ls.setIfInBounds i true) (a.put oi.dst v) w → HeldI F n P md ops Q S (m + 1) ls a w := by
  intro m
  induction m with
  | zero =>
    intro ls a w _ hr ht hS H
    refine ⟨fun e => (by rw [e] at hr; cases hr), fun j hj => ?_⟩
    by_cases e : j = i
    · subst e
      exact ht.op hi (fun c => hdef _ _ c hi) hS ⟨hS, H⟩
    · have h2 := ready_mono hj e
      rw [H.1] at h2
      cases h2
  | succ m ih =>
    intro ls a w hfree hr ht hS H
    refine ⟨fun e => (by rw [e] at hr; cases hr), fun j hj => ?_⟩
    by_cases e : j = i
    · subst e
      exact ht.op hi (fun c => hdef _ _ c hi) hS ⟨hS, H⟩
    · obtain ⟨hun, oj, hoj, hall⟩ := mem_ready.1 hj
      have hno : ∀ x ∈ oj.after, Region.binds md x = true → x.on ≠ i := fun x hx hb hxi => by
        have q1 := hall x hx hb
        have q2 := (mem_ready.1 hr).1
        rw [hxi] at q1
        rcases Nat.lt_or_ge i ls.size with q3 | q3
        · simp [q3] at q1 q2
          rw [q1] at q2
          cases q2
        · simp [Array.getElem?_eq_none q3] at q1
      have hA := ht.ahead hoj (hfree j oj hoj e hun hno) (fun c => hdef j oj c hoj) (fun cs b => hsel i oi cs b hi) (fun cs b => hsel j oj cs b hoj) hQ (H.2 j (ready_mono hj e))
      refine wpOpIn_mono (fun a' w' h' => ⟨h'.2.1, ih (ls.setIfInBounds j true) a' w' (fun k ok hk hki hkun hkno => hfree k ok hk hki ?_ hkno) (ready_mono hr (Ne.symm e)) h'.1 h'.2.1 ?_⟩) hA
      · by_cases q : j = k
        · subst q; exact hun
        · rwa [getD_set_ne true q] at hkun
      · rw [Array.setIfInBounds_comm _ _ e]
        exact h'.2.2
def calmI (ops : Array Oper) : Bool := ops.all fun o => match o.op with
  | .defer _ => false
  | _ => true
theorem calmI_of (h : calmI ops = true) (j : Nat) (o : Oper) (c : Call) (hj : ops[j]? = some o) : o.op ≠ .defer c := by
  intro e
  obtain ⟨hlt, rfl⟩ := Array.getElem?_eq_some_iff.1 hj
  have := Array.all_eq_true.1 h j hlt
  rw [e] at this
  cases this
theorem HeldI.take {i : Nat} {oi : Oper} {v : Value} {m : Nat} {ls : Array Bool} {a : Act} {w : World} (hi : ops[i]? = some oi) (hs : Region.noSelect ops = true) (hd : calmI ops = true) (hf : Region.free md ops ls i = true) (hr : (Region.ready md ops ls).contains i = true)
    (hQ : ∀ c a w, Q (.panic c) (a.put oi.dst v) w → Q (.panic c) a w) (hy : YieldsIf P ops S oi v a) (hab : ∀ w, S w → oi.about P w a.eval = none) (hS : S w)
    (h : HeldI F n P md ops Q S m (ls.setIfInBounds i true) (a.put oi.dst v) w) : HeldI F n P md ops Q S (m + 1) ls a w :=
  HeldI.first hi (Region.noSelect_spec hs) (calmI_of hd) hQ m ls a w (Region.free_spec hi hf) (by simpa using hr) ⟨hy, hab⟩ hS h
/-- the beginning -/
theorem region_heldI {id : Nat} {a : Act} {w : World} {Q' : Exit → Act → World → Prop} (S : World → Prop) (R : Act → World → Prop) (hm : P.follows .mixedOrders = true) (hS : S w.drew)
    (h : S w.drew → HeldI F n P .any ops (Only R) S ops.size (Array.replicate ops.size false) a w.drew) (key : ∀ a w, R a w → Q' .normal a w) : (Code.region id ops true).wpIn F n P Q' a w :=
  wpIn_only R (wpIn_region_any hm (HeldI.any _ _ _ _ (h hS))) key
end
end Go.Proofs.Ytogeifnkjckaiaa
