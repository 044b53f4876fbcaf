/- Pure mathematics: a tree of pairs by rising keys, and the list of its pairs. -/
import Derived.Test.YtogeifnkjckaiaaRows
import Derived.Sort.Walk0
namespace Go.Proofs.Ytogeifnkjckaiaa

/-- keys that rise -/
class Key (K : Type) where
  lt : K → K → Bool
  irr : ∀ a, lt a a = false
  trans : ∀ a b c, lt a b = true → lt b c = true → lt a c = true
  tri : ∀ a b, lt a b = false → lt b a = false → a = b
open Key (lt)
instance : Key Int := ⟨fun a b => decide (a < b), fun a => by simp, fun a b c h1 h2 => by simp at *; omega, fun a b h1 h2 => by simp at *; omega⟩
theorem bytes_ext {a b : ByteArray} (h : a.data.toList = b.data.toList) : a = b := by
  cases a; cases b; simp at h; simp [h]
instance : Key ByteArray := ⟨fun a b => decide (a.data.toList < b.data.toList), fun a => by simp, fun a b c h1 h2 => by simp at *; exact List.lt_trans h1 h2, fun a b h1 h2 => by
  simp at h1 h2
  exact bytes_ext (List.le_antisymm h2 h1)⟩

section
variable {K V : Type} [Key K]
theorem lt_asymm {a b : K} (h : lt a b = true) : lt b a = false := by
  cases h2 : lt b a with
  | false => rfl
  | true => have := Key.trans a b a h h2; rw [Key.irr] at this; cases this
theorem lt_ne {a b : K} (h : lt a b = true) : a ≠ b := by rintro rfl; rw [Key.irr] at h; cases h

inductive Tr (K V : Type) | nil | node (l : Tr K V) (k : K) (v : V) (r : Tr K V)
def Tr.ht : Tr K V → Nat
  | .nil => 0
  | .node l _ _ r => max l.ht r.ht + 1
def Tr.toL : Tr K V → List (K × V)
  | .nil => []
  | .node l k v r => l.toL ++ (k, v) :: r.toL
omit [Key K] in
theorem Tr.ht_le : ∀ t : Tr K V, t.ht ≤ t.toL.length
  | .nil => Nat.le_refl _
  | .node l k v r => by
    have := l.ht_le
    have := r.ht_le
    simp only [Tr.ht, Tr.toL, List.length_append, List.length_cons]
    omega
/-- l, a pair, r: where one side is higher by two, part of it goes over -/
def bal (l : Tr K V) (k : K) (v : V) (r : Tr K V) : Tr K V :=
  if r.ht + 1 < l.ht then
    match l with
    | .nil => .node l k v r
    | .node ll lk lv lr => if lr.ht ≤ ll.ht then .node ll lk lv (.node lr k v r) else
      match lr with
      | .nil => .node l k v r
      | .node a x y b => .node (.node ll lk lv a) x y (.node b k v r)
  else if l.ht + 1 < r.ht then
    match r with
    | .nil => .node l k v r
    | .node rl rk rv rr => if rl.ht ≤ rr.ht then .node (.node l k v rl) rk rv rr else
      match rl with
      | .nil => .node l k v r
      | .node a x y b => .node (.node l k v a) x y (.node b rk rv rr)
  else .node l k v r
omit [Key K] in
theorem toL_bal (l : Tr K V) (k : K) (v : V) (r : Tr K V) : (bal l k v r).toL = l.toL ++ (k, v) :: r.toL := by
  unfold bal
  split
  · cases l with
    | nil => rfl
    | node ll lk lv lr =>
      dsimp only
      split
      · simp [Tr.toL]
      · cases lr with
        | nil => rfl
        | node a x y b => simp [Tr.toL]
  · split
    · cases r with
      | nil => rfl
      | node rl rk rv rr =>
        dsimp only
        split
        · simp [Tr.toL]
        · cases rl with
          | nil => rfl
          | node a x y b => simp [Tr.toL]
    · rfl
def Tr.look : Tr K V → K → Option V
  | .nil, _ => none
  | .node l x u r, k => if lt k x = true then l.look k else if lt x k = true then r.look k else some u
def Tr.put : Tr K V → K → V → Tr K V
  | .nil, k, v => .node .nil k v .nil
  | .node l x u r, k, v => if lt k x = true then bal (l.put k v) x u r else if lt x k = true then bal l x u (r.put k v) else .node l x v r
def Tr.drop : Tr K V → K → Tr K V
  | .nil, _ => .nil
  | .node l x u r, k => if lt k x = true then bal (l.drop k) x u r else if lt x k = true then bal l x u (r.drop k) else
    match r.toL with
    | [] => l
    | m :: _ => bal l m.1 m.2 (r.drop m.1)

theorem put_len : ∀ (t : Tr K V) (k : K) (v : V), (t.put k v).toL.length ≤ t.toL.length + 1
  | .nil, k, v => by simp [Tr.put, Tr.toL]
  | .node l x u r, k, v => by
    have h1 := put_len l k v
    have h2 := put_len r k v
    simp only [Tr.put]
    split
    · rw [toL_bal]; simp [Tr.toL]; omega
    · split
      · rw [toL_bal]; simp [Tr.toL]; omega
      · simp [Tr.toL]
theorem drop_len : ∀ (t : Tr K V) (k : K), (t.drop k).toL.length ≤ t.toL.length
  | .nil, k => by simp [Tr.drop, Tr.toL]
  | .node l x u r, k => by
    have h1 := drop_len l k
    simp only [Tr.drop]
    split
    · rw [toL_bal]; simp [Tr.toL]; omega
    · split
      · have h2 := drop_len r k
        rw [toL_bal]; simp [Tr.toL]; omega
      · split
        · simp [Tr.toL]
        · rename_i m _ e
          have h2 := drop_len r m.1
          rw [toL_bal]; simp [Tr.toL]; omega
/-- both sides of a node that goes -/
def join (l r : Tr K V) : Tr K V :=
  match r.toL with
  | [] => l
  | m :: _ => bal l m.1 m.2 (r.drop m.1)

abbrev Rises (l : List (K × V)) : Prop := l.Pairwise fun a b => lt a.1 b.1 = true
def ins : List (K × V) → K → V → List (K × V)
  | [], k, v => [(k, v)]
  | (x, u) :: t, k, v => if lt k x = true then (k, v) :: (x, u) :: t else if lt x k = true then (x, u) :: ins t k v else (x, v) :: t
def del : List (K × V) → K → List (K × V)
  | [], _ => []
  | (x, u) :: t, k => if lt k x = true then (x, u) :: t else if lt x k = true then (x, u) :: del t k else t
def got : List (K × V) → K → Option V
  | [], _ => none
  | (x, u) :: t, k => if lt k x = true then none else if lt x k = true then got t k else some u

theorem ins_left (a : List (K × V)) (x : K) (u : V) (b : List (K × V)) (k : K) (v : V) (h : lt k x = true) : ins (a ++ (x, u) :: b) k v = ins a k v ++ (x, u) :: b := by
  induction a with
  | nil => simp [ins, h]
  | cons p t ih =>
    obtain ⟨y, w⟩ := p
    simp only [List.cons_append, ins]
    split
    · rfl
    · split
      · rw [ih]; rfl
      · rfl
theorem ins_right (a : List (K × V)) (x : K) (u : V) (b : List (K × V)) (k : K) (v : V) (h : lt x k = true) (ha : ∀ p ∈ a, lt p.1 x = true) : ins (a ++ (x, u) :: b) k v = a ++ (x, u) :: ins b k v := by
  induction a with
  | nil => simp [ins, h, lt_asymm h]
  | cons p t ih =>
    obtain ⟨y, w⟩ := p
    have hy : lt y k = true := Key.trans _ _ _ (ha (y, w) (by simp)) h
    simp only [List.cons_append, ins, lt_asymm hy, hy, if_true]
    rw [ih fun p hp => ha p (by simp [hp])]
    simp
theorem ins_here (a : List (K × V)) (x : K) (u : V) (b : List (K × V)) (v : V) (ha : ∀ p ∈ a, lt p.1 x = true) : ins (a ++ (x, u) :: b) x v = a ++ (x, v) :: b := by
  induction a with
  | nil => simp [ins, Key.irr]
  | cons p t ih =>
    obtain ⟨y, w⟩ := p
    have hy : lt y x = true := ha (y, w) (by simp)
    simp only [List.cons_append, ins, lt_asymm hy, hy, if_true]
    rw [ih fun p hp => ha p (by simp [hp])]
    simp
theorem del_left (a : List (K × V)) (x : K) (u : V) (b : List (K × V)) (k : K) (h : lt k x = true) : del (a ++ (x, u) :: b) k = del a k ++ (x, u) :: b := by
  induction a with
  | nil => simp [del, h]
  | cons p t ih =>
    obtain ⟨y, w⟩ := p
    simp only [List.cons_append, del]
    split
    · rfl
    · split
      · rw [ih]; rfl
      · rfl
theorem del_right (a : List (K × V)) (x : K) (u : V) (b : List (K × V)) (k : K) (h : lt x k = true) (ha : ∀ p ∈ a, lt p.1 x = true) : del (a ++ (x, u) :: b) k = a ++ (x, u) :: del b k := by
  induction a with
  | nil => simp [del, h, lt_asymm h]
  | cons p t ih =>
    obtain ⟨y, w⟩ := p
    have hy : lt y k = true := Key.trans _ _ _ (ha (y, w) (by simp)) h
    simp only [List.cons_append, del, lt_asymm hy, hy, if_true]
    rw [ih fun p hp => ha p (by simp [hp])]
    simp
theorem del_here (a : List (K × V)) (x : K) (u : V) (b : List (K × V)) (ha : ∀ p ∈ a, lt p.1 x = true) : del (a ++ (x, u) :: b) x = a ++ b := by
  induction a with
  | nil => simp [del, Key.irr]
  | cons p t ih =>
    obtain ⟨y, w⟩ := p
    have hy : lt y x = true := ha (y, w) (by simp)
    simp only [List.cons_append, del, lt_asymm hy, hy, if_true]
    rw [ih fun p hp => ha p (by simp [hp])]
    simp
theorem got_left (a : List (K × V)) (x : K) (u : V) (b : List (K × V)) (k : K) (h : lt k x = true) : got (a ++ (x, u) :: b) k = got a k := by
  induction a with
  | nil => simp [got, h]
  | cons p t ih =>
    obtain ⟨y, w⟩ := p
    simp only [List.cons_append, got]
    split
    · rfl
    · split
      · rw [ih]
      · rfl
theorem got_right (a : List (K × V)) (x : K) (u : V) (b : List (K × V)) (k : K) (h : lt x k = true) (ha : ∀ p ∈ a, lt p.1 x = true) : got (a ++ (x, u) :: b) k = got b k := by
  induction a with
  | nil => simp [got, h, lt_asymm h]
  | cons p t ih =>
    obtain ⟨y, w⟩ := p
    have hy : lt y k = true := Key.trans _ _ _ (ha (y, w) (by simp)) h
    simp only [List.cons_append, got, lt_asymm hy, hy, if_true]
    rw [ih fun p hp => ha p (by simp [hp])]
    simp
theorem got_here (a : List (K × V)) (x : K) (u : V) (b : List (K × V)) (ha : ∀ p ∈ a, lt p.1 x = true) : got (a ++ (x, u) :: b) x = some u := by
  induction a with
  | nil => simp [got, Key.irr]
  | cons p t ih =>
    obtain ⟨y, w⟩ := p
    have hy : lt y x = true := ha (y, w) (by simp)
    simp only [List.cons_append, got, lt_asymm hy, hy, if_true]
    rw [ih fun p hp => ha p (by simp [hp])]
    simp

theorem rises_mid {a : List (K × V)} {x : K} {u : V} {b : List (K × V)} (h : Rises (a ++ (x, u) :: b)) : Rises a ∧ Rises b ∧ ∀ p ∈ a, lt p.1 x = true := by
  rw [Rises, List.pairwise_append] at h
  obtain ⟨h1, h2, h3⟩ := h
  exact ⟨h1, (List.pairwise_cons.1 h2).2, fun p hp => h3 p hp (x, u) (by simp)⟩
theorem look_eq : ∀ (t : Tr K V) (k : K), Rises t.toL → t.look k = got t.toL k
  | .nil, k, _ => rfl
  | .node l x u r, k, h => by
    obtain ⟨h1, h2, h3⟩ := rises_mid h
    simp only [Tr.look, Tr.toL]
    by_cases e1 : lt k x = true
    · rw [if_pos e1, got_left _ _ _ _ _ e1, look_eq l k h1]
    · by_cases e2 : lt x k = true
      · rw [if_neg e1, if_pos e2, got_right _ _ _ _ _ e2 h3, look_eq r k h2]
      · obtain rfl := Key.tri k x (by simpa using e1) (by simpa using e2)
        rw [if_neg e1, if_neg e2, got_here _ _ _ _ h3]
theorem toL_put : ∀ (t : Tr K V) (k : K) (v : V), Rises t.toL → (t.put k v).toL = ins t.toL k v
  | .nil, k, v, _ => rfl
  | .node l x u r, k, v, h => by
    obtain ⟨h1, h2, h3⟩ := rises_mid h
    simp only [Tr.put, Tr.toL]
    by_cases e1 : lt k x = true
    · rw [if_pos e1, toL_bal, ins_left _ _ _ _ _ _ e1, toL_put l k v h1]
    · by_cases e2 : lt x k = true
      · rw [if_neg e1, if_pos e2, toL_bal, ins_right _ _ _ _ _ _ e2 h3, toL_put r k v h2]
      · obtain rfl := Key.tri k x (by simpa using e1) (by simpa using e2)
        rw [if_neg e1, if_neg e2, ins_here _ _ _ _ _ h3, Tr.toL]
theorem toL_drop : ∀ (t : Tr K V) (k : K), Rises t.toL → (t.drop k).toL = del t.toL k
  | .nil, k, _ => rfl
  | .node l x u r, k, h => by
    obtain ⟨h1, h2, h3⟩ := rises_mid h
    simp only [Tr.drop, Tr.toL]
    by_cases e1 : lt k x = true
    · rw [if_pos e1, toL_bal, del_left _ _ _ _ _ e1, toL_drop l k h1]
    · by_cases e2 : lt x k = true
      · rw [if_neg e1, if_pos e2, toL_bal, del_right _ _ _ _ _ e2 h3, toL_drop r k h2]
      · obtain rfl := Key.tri k x (by simpa using e1) (by simpa using e2)
        rw [if_neg e1, if_neg e2, del_here _ _ _ _ h3]
        cases hr : r.toL with
        | nil => simp
        | cons m rest =>
          dsimp only
          rw [toL_bal, toL_drop r m.1 h2, hr]
          simp [del, Key.irr]
theorem look_first (t : Tr K V) (m : K × V) (rest : List (K × V)) (h : Rises t.toL) (e : t.toL = m :: rest) : t.look m.1 = some m.2 := by
  rw [look_eq t _ h, e]
  simp [got, Key.irr]

theorem mem_ins {l : List (K × V)} {k : K} {v : V} {p : K × V} (h : p ∈ ins l k v) : p = (k, v) ∨ p.1 = k ∨ p ∈ l := by
  induction l with
  | nil => simp [ins] at h; exact .inl h
  | cons q t ih =>
    obtain ⟨x, u⟩ := q
    simp only [ins] at h
    split at h
    · simp at h
      rcases h with h | h | h
      · exact .inl h
      · exact .inr (.inr (by simp [h]))
      · exact .inr (.inr (by simp [h]))
    · split at h
      · simp at h
        rcases h with h | h
        · exact .inr (.inr (by simp [h]))
        · exact (ih h).imp id (Or.imp id (fun h => by simp [h]))
      · rename_i e1 e2
        obtain rfl := Key.tri k x (by simpa using e1) (by simpa using e2)
        simp at h
        rcases h with h | h
        · exact .inl h
        · exact .inr (.inr (by simp [h]))
theorem ins_rises {l : List (K × V)} (k : K) (v : V) (h : Rises l) : Rises (ins l k v) := by
  induction l with
  | nil => simp [ins, Rises]
  | cons q t ih =>
    obtain ⟨x, u⟩ := q
    obtain ⟨h1, h2⟩ := List.pairwise_cons.1 h
    simp only [ins]
    split
    · rename_i e1
      refine List.pairwise_cons.2 ⟨fun p hp => ?_, h⟩
      simp at hp
      rcases hp with rfl | hp
      · exact e1
      · exact Key.trans _ _ _ e1 (h1 p hp)
    · split
      · rename_i e1 e2
        refine List.pairwise_cons.2 ⟨fun p hp => ?_, ih h2⟩
        rcases mem_ins hp with rfl | hp | hp
        · exact e2
        · rw [hp]; exact e2
        · exact h1 p hp
      · exact List.pairwise_cons.2 ⟨fun p hp => h1 p hp, h2⟩
theorem del_sub (l : List (K × V)) (k : K) : (del l k).Sublist l := by
  induction l with
  | nil => exact .slnil
  | cons q t ih =>
    obtain ⟨x, u⟩ := q
    simp only [del]
    split
    · exact List.Sublist.refl _
    · split
      · exact ih.cons_cons _
      · exact List.sublist_cons_self _ _
theorem del_rises {l : List (K × V)} (k : K) (h : Rises l) : Rises (del l k) := h.sublist (del_sub l k)
theorem got_mem {l : List (K × V)} {k : K} {v : V} (h : Rises l) : got l k = some v ↔ (k, v) ∈ l := by
  induction l with
  | nil => simp [got]
  | cons q t ih =>
    obtain ⟨x, u⟩ := q
    obtain ⟨h1, h2⟩ := List.pairwise_cons.1 h
    simp only [got]
    split
    · rename_i e1
      refine ⟨fun h => by simp at h, fun hp => ?_⟩
      simp at hp
      rcases hp with ⟨rfl, _⟩ | hp
      · rw [Key.irr] at e1; cases e1
      · have := h1 _ hp
        rw [lt_asymm e1] at this
        cases this
    · split
      · rename_i e1 e2
        rw [ih h2]
        simp only [List.mem_cons, Prod.mk.injEq]
        refine ⟨.inr, fun hp => hp.elim (fun ⟨h, _⟩ => ?_) id⟩
        rw [h, Key.irr] at e2
        cases e2
      · rename_i e1 e2
        obtain rfl := Key.tri k x (by simpa using e1) (by simpa using e2)
        refine ⟨fun h => by injection h with h; simp [h], fun hp => ?_⟩
        simp at hp
        rcases hp with rfl | hp
        · rfl
        · have := h1 _ hp
          rw [Key.irr] at this
          cases this
theorem got_none {l : List (K × V)} {k : K} (h : Rises l) : got l k = none ↔ ∀ p ∈ l, p.1 ≠ k := by
  constructor
  · rintro e p hp rfl
    have := (got_mem h).2 hp
    rw [e] at this
    cases this
  · intro hn
    cases e : got l k with
    | none => rfl
    | some v => exact absurd rfl (hn _ ((got_mem h).1 e))
theorem got_ins {l : List (K × V)} (k : K) (v : V) (q : K) : got (ins l k v) q = if lt q k = true ∨ lt k q = true then got l q else some v := by
  induction l with
  | nil =>
    simp only [ins, got]
    split
    · simp [*]
    · split <;> simp [*]
  | cons p t ih =>
    obtain ⟨x, u⟩ := p
    simp only [ins]
    by_cases e1 : lt k x = true
    · rw [if_pos e1]
      simp only [got]
      by_cases a1 : lt q k = true
      · simp [a1, Key.trans _ _ _ a1 e1]
      · by_cases a2 : lt k q = true
        · simp [a1, a2]
        · simp [a1, a2]
    · rw [if_neg e1]
      by_cases e2 : lt x k = true
      · rw [if_pos e2]
        simp only [got, ih]
        by_cases a1 : lt q x = true
        · simp [a1, Key.trans _ _ _ a1 e2]
        · by_cases a2 : lt x q = true
          · simp [a1, a2]
          · obtain rfl := Key.tri q x (by simpa using a1) (by simpa using a2)
            simp [a1, e2]
      · rw [if_neg e2]
        obtain rfl := Key.tri k x (by simpa using e1) (by simpa using e2)
        simp only [got]
        by_cases a1 : lt q k = true
        · simp [a1]
        · by_cases a2 : lt k q = true
          · simp [a1, a2]
          · simp [a1, a2]
theorem got_del {l : List (K × V)} (h : Rises l) (k q : K) : got (del l k) q = if lt q k = true ∨ lt k q = true then got l q else none := by
  induction l with
  | nil => simp [del, got]
  | cons p t ih =>
    obtain ⟨x, u⟩ := p
    obtain ⟨h1, h2⟩ := List.pairwise_cons.1 h
    have hlow : ∀ q, lt q x = true → got t q = none := fun q hq => (got_none h2).2 fun p hp e => by
      have := h1 p hp
      rw [e, lt_asymm hq] at this
      cases this
    have hself : got t x = none := (got_none h2).2 fun p hp e => by
      have := h1 p hp
      rw [e, Key.irr] at this
      cases this
    simp only [del]
    by_cases e1 : lt k x = true
    · rw [if_pos e1]
      by_cases a : lt q k = true ∨ lt k q = true
      · rw [if_pos a]
      · rw [if_neg a]
        obtain rfl := Key.tri q k (by simpa using fun e => a (.inl e)) (by simpa using fun e => a (.inr e))
        simp [got, e1]
    · rw [if_neg e1]
      by_cases e2 : lt x k = true
      · rw [if_pos e2]
        simp only [got, ih h2]
        by_cases a1 : lt q x = true
        · simp [a1]
        · by_cases a2 : lt x q = true
          · simp [a1, a2]
          · obtain rfl := Key.tri q x (by simpa using a1) (by simpa using a2)
            simp [a1, e2]
      · rw [if_neg e2]
        obtain rfl := Key.tri k x (by simpa using e1) (by simpa using e2)
        by_cases a1 : lt q k = true
        · simp [a1, got, hlow q a1]
        · by_cases a2 : lt k q = true
          · simp [a1, a2, got]
          · obtain rfl := Key.tri q k (by simpa using a1) (by simpa using a2)
            simp [a1, hself]
theorem ins_len {l : List (K × V)} (k : K) (v : V) : (ins l k v).length = if (got l k).isSome then l.length else l.length + 1 := by
  induction l with
  | nil => simp [ins, got]
  | cons p t ih =>
    obtain ⟨x, u⟩ := p
    simp only [ins, got]
    split
    · simp
    · split
      · simp only [List.length_cons, ih]
        split <;> rfl
      · simp
theorem del_len {l : List (K × V)} (k : K) : (del l k).length = if (got l k).isSome then l.length - 1 else l.length := by
  induction l with
  | nil => simp [del, got]
  | cons p t ih =>
    obtain ⟨x, u⟩ := p
    simp only [del, got]
    split
    · simp
    · split
      · simp only [List.length_cons, ih]
        split
        · rename_i h
          cases t with
          | nil => simp [got] at h
          | cons _ _ => simp
        · rfl
      · simp
theorem rises_ext {a b : List (K × V)} (ha : Rises a) (hb : Rises b) (h : ∀ k, got a k = got b k) : a = b := by
  induction a generalizing b with
  | nil =>
    cases b with
    | nil => rfl
    | cons q t =>
      have := h q.1
      rw [show got (q :: t) q.1 = some q.2 from (got_mem hb).2 (by simp)] at this
      cases this
  | cons p s ih =>
    cases b with
    | nil =>
      have := h p.1
      rw [show got (p :: s) p.1 = some p.2 from (got_mem ha).2 (by simp)] at this
      cases this
    | cons q t =>
      obtain ⟨a1, a2⟩ := List.pairwise_cons.1 ha
      obtain ⟨b1, b2⟩ := List.pairwise_cons.1 hb
      have hp : (p.1, p.2) ∈ q :: t := (got_mem hb).1 ((h p.1).symm.trans ((got_mem ha).2 (by simp)))
      have hq : (q.1, q.2) ∈ p :: s := (got_mem ha).1 ((h q.1).trans ((got_mem hb).2 (by simp)))
      have e : p = q := by
        simp at hp hq
        rcases hp with hp | hp
        · exact hp
        · rcases hq with hq | hq
          · exact hq.symm
          · have c1 := b1 _ hp
            have c2 := a1 _ hq
            rw [lt_asymm c1] at c2
            cases c2
      subst e
      rw [ih a2 b2 fun k => ?_]
      have := h k
      simp only [got] at this
      by_cases e1 : lt k p.1 = true
      · rw [(got_none a2).2 fun x hx e => ?_, (got_none b2).2 fun x hx e => ?_]
        · have := b1 x hx; rw [e, lt_asymm e1] at this; cases this
        · have := a1 x hx; rw [e, lt_asymm e1] at this; cases this
      · by_cases e2 : lt p.1 k = true
        · simpa [e1, e2] using this
        · obtain rfl := Key.tri k p.1 (by simpa using e1) (by simpa using e2)
          rw [(got_none a2).2 fun x hx e => ?_, (got_none b2).2 fun x hx e => ?_]
          · have := b1 x hx; rw [e, Key.irr] at this; cases this
          · have := a1 x hx; rw [e, Key.irr] at this; cases this
end
end Go.Proofs.Ytogeifnkjckaiaa
