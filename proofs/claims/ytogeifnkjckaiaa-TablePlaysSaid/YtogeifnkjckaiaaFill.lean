/- Pure mathematics: a table that pairs were put in has the last one under each key. -/
import Derived.Test.YtogeifnkjckaiaaTr
namespace Go.Proofs.Ytogeifnkjckaiaa
open Key (lt)

section
variable {K V : Type} [Key K] [DecidableEq K]
omit [DecidableEq K] in
theorem lt_or {a b : K} : (lt a b = true ∨ lt b a = true) ↔ a ≠ b := by
  constructor
  · rintro (h | h)
    · exact lt_ne h
    · exact (lt_ne h).symm
  · intro h
    by_cases h1 : lt a b = true
    · exact .inl h1
    · by_cases h2 : lt b a = true
      · exact .inr h2
      · exact absurd (Key.tri a b (by simpa using h1) (by simpa using h2)) h
theorem got_ins' {l : List (K × V)} (k : K) (v : V) (q : K) : got (ins l k v) q = if q = k then some v else got l q := by
  rw [got_ins]
  by_cases h : q = k
  · rw [if_neg (fun e => lt_or.1 e h), if_pos h]
  · rw [if_pos (lt_or.2 h), if_neg h]
theorem got_del' {l : List (K × V)} (h : Rises l) (k q : K) : got (del l k) q = if q = k then none else got l q := by
  rw [got_del h]
  by_cases h : q = k
  · rw [if_neg (fun e => lt_or.1 e h), if_pos h]
  · rw [if_pos (lt_or.2 h), if_neg h]

def fillG (l : List (K × V)) : List (K × V) := l.foldl (fun xs p => ins xs p.1 p.2) []
/-- what stands last under a key -/
def last : List (K × V) → K → Option V
  | [], _ => none
  | p :: t, q => match last t q with
    | some v => some v
    | none => if p.1 = q then some p.2 else none
omit [Key K] in
theorem last_snoc (l : List (K × V)) (p : K × V) (q : K) : last (l ++ [p]) q = if p.1 = q then some p.2 else last l q := by
  induction l with
  | nil => simp [last]
  | cons x t ih =>
    simp only [List.cons_append, last, ih]
    by_cases h : p.1 = q
    · simp [h]
    · simp [h]
omit [DecidableEq K] in
theorem fill_rises (l : List (K × V)) : Rises (fillG l) := by
  have : ∀ (l acc : List (K × V)), Rises acc → Rises (l.foldl (fun xs p => ins xs p.1 p.2) acc) := by
    intro l
    induction l with
    | nil => exact fun acc h => h
    | cons p t ih => exact fun acc h => ih _ (ins_rises _ _ h)
  exact this l [] List.Pairwise.nil
omit [DecidableEq K] in
theorem fill_snoc (l : List (K × V)) (p : K × V) : fillG (l ++ [p]) = ins (fillG l) p.1 p.2 := by simp [fillG]
theorem got_fill (l : List (K × V)) (q : K) : got (fillG l) q = last l q := by
  have key : ∀ (n : Nat) (l : List (K × V)), l.length = n → got (fillG l) q = last l q := by
    intro n
    induction n with
    | zero =>
      intro l h
      rw [List.eq_nil_of_length_eq_zero h]
      rfl
    | succ n ih =>
      intro l h
      obtain ⟨a, p, rfl⟩ : ∃ a p, l = a ++ [p] := by
        refine ⟨l.dropLast, l.getLast (by intro e; rw [e] at h; cases h), (List.dropLast_concat_getLast _).symm⟩
      rw [fill_snoc, got_ins', last_snoc, ih a (by simpa using h)]
      by_cases e : q = p.1
      · rw [if_pos e, if_pos e.symm]
      · rw [if_neg e, if_neg (fun h => e h.symm)]
  exact key l.length l rfl
theorem fill_cons (p : K × V) (t : List (K × V)) : fillG (p :: t) = if (last t p.1).isSome then fillG t else ins (fillG t) p.1 p.2 := by
  refine rises_ext (fill_rises _) ?_ fun q => ?_
  · split
    · exact fill_rises _
    · exact ins_rises _ _ (fill_rises _)
  · rw [got_fill]
    split
    · rename_i h
      rw [got_fill]
      simp only [last]
      cases e : last t q with
      | some v => rfl
      | none =>
        rw [if_neg]
        rintro rfl
        rw [e] at h
        cases h
    · rename_i h
      rw [got_ins', got_fill]
      simp only [last]
      by_cases e : q = p.1
      · subst e
        have : last t p.1 = none := by simpa using h
        simp [this]
      · rw [if_neg e]
        cases e2 : last t q with
        | some v => rfl
        | none => simp only [if_neg (fun h : p.1 = q => e h.symm)]
theorem fill_len_cons (p : K × V) (t : List (K × V)) : (fillG (p :: t)).length = (fillG t).length + (if (last t p.1).isSome then 0 else 1) := by
  rw [fill_cons]
  split
  · rfl
  · rename_i h
    rw [ins_len, got_fill, if_neg h]
omit [Key K] in
theorem last_append (a b : List (K × V)) (q : K) : last (a ++ b) q = match last b q with
    | some v => some v
    | none => last a q := by
  induction a with
  | nil =>
    simp only [List.nil_append]
    cases last b q <;> rfl
  | cons p t ih =>
    simp only [List.cons_append, last, ih]
    cases last b q <;> rfl
omit [Key K] in
theorem last_here (a : List (K × V)) (p : K × V) (b : List (K × V)) : last (a ++ p :: b) p.1 = some ((last b p.1).getD p.2) := by
  rw [last_append]
  simp only [last]
  cases last b p.1 <;> simp
omit [Key K] in
theorem last_none {l : List (K × V)} {q : K} : last l q = none ↔ ∀ p ∈ l, p.1 ≠ q := by
  induction l with
  | nil => simp [last]
  | cons p t ih =>
    simp only [last]
    cases e : last t q with
    | some v =>
      simp only [List.mem_cons, reduceCtorEq, false_iff]
      intro h
      have := ih.2 fun x hx => h x (.inr hx)
      rw [e] at this
      cases this
    | none =>
      have h2 := ih.1 e
      simp only [List.mem_cons]
      constructor
      · intro h x hx
        rcases hx with rfl | hx
        · intro e2
          rw [if_pos e2] at h
          cases h
        · exact h2 x hx
      · intro h
        rw [if_neg (h p (.inl rfl))]
omit [Key K] in
theorem last_mem {l : List (K × V)} {q : K} {v : V} (h : last l q = some v) : (q, v) ∈ l := by
  induction l with
  | nil => cases h
  | cons p t ih =>
    simp only [last] at h
    cases e : last t q with
    | some u => rw [e] at h; injection h with h; subst h; exact List.mem_cons_of_mem _ (ih e)
    | none =>
      rw [e] at h
      simp only at h
      split at h
      · rename_i e2
        injection h with h
        subst h e2
        exact List.mem_cons_self ..
      · cases h
/-- unlike keys -/
abbrev Unlike (l : List (K × V)) : Prop := l.Pairwise fun a b => a.1 ≠ b.1
omit [Key K] in
theorem last_unlike {l : List (K × V)} (h : Unlike l) {p : K × V} (hp : p ∈ l) : last l p.1 = some p.2 := by
  induction l with
  | nil => cases hp
  | cons x t ih =>
    obtain ⟨h1, h2⟩ := List.pairwise_cons.1 h
    simp only [last]
    rcases List.mem_cons.1 hp with rfl | hp
    · rw [last_none.2 fun y hy e => h1 y hy e.symm]
      simp
    · rw [ih h2 hp]
theorem fill_turn {l : List (K × V)} (h : Unlike l) : fillG l.reverse = fillG l := by
  have hr : Unlike l.reverse := List.pairwise_reverse.2 (h.imp fun e => e.symm)
  refine rises_ext (fill_rises _) (fill_rises _) fun q => ?_
  rw [got_fill, got_fill]
  cases e : last l q with
  | none =>
    exact last_none.2 fun p hp => last_none.1 e p (List.mem_reverse.1 hp)
  | some v => exact last_unlike hr (p := (q, v)) (List.mem_reverse.2 (last_mem e))
theorem fill_len {l : List (K × V)} (h : Unlike l) : (fillG l).length = l.length := by
  induction l with
  | nil => rfl
  | cons p t ih =>
    obtain ⟨h1, h2⟩ := List.pairwise_cons.1 h
    rw [fill_len_cons, ih h2, last_none.2 fun y hy e => h1 y hy e.symm]
    rfl
theorem fill_nil {l xs : List (K × V)} (hr : Rises xs) (h : ∀ q, got xs q = if (last l q).isSome then none else got (fillG l) q) : xs = [] := by
  refine rises_ext hr List.Pairwise.nil fun q => ?_
  rw [h, got_fill]
  cases last l q <;> rfl
end
end Go.Proofs.Ytogeifnkjckaiaa
