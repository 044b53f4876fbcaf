/- Two rounds that saw the same: the mathematics; no condition. -/
import Derived.Test.YtalmadeibnekoaaMath
namespace Go.Proofs.Ytalmadeibnekoaa
/-- the words of the round under way, those of the round that was done last, how many rounds are done, and whether it is done -/
structure Tw where
  se : List Int
  ah : List Int
  ro : Nat
  dn : Bool
def stepT (n : Nat) (x : Tw) (v : Int) : Tw :=
  if x.dn then x else if x.se.length + 1 = n then ⟨[], x.se ++ [v], x.ro + 1, decide (x.se ++ [v] = x.ah)⟩ else ⟨x.se ++ [v], x.ah, x.ro, false⟩
theorem step_done {n : Nat} {x : Tw} {v : Int} (h : x.dn = true) : stepT n x v = x := if_pos h
theorem step_end {n : Nat} {x : Tw} {v : Int} (h : x.dn = false) (hn : x.se.length + 1 = n) : stepT n x v = ⟨[], x.se ++ [v], x.ro + 1, decide (x.se ++ [v] = x.ah)⟩ := by
  unfold stepT
  rw [if_neg (by rw [h]; decide), if_pos hn]
theorem step_mid {n : Nat} {x : Tw} {v : Int} (h : x.dn = false) (hn : ¬ x.se.length + 1 = n) : stepT n x v = ⟨x.se ++ [v], x.ah, x.ro, false⟩ := by
  unfold stepT
  rw [if_neg (by rw [h]; decide), if_neg hn]
structure Tw.Ok (n : Nat) (x : Tw) : Prop where
  se : x.se.length < n
  ah : (x.ro = 0 ∧ x.ah = []) ∨ (0 < x.ro ∧ x.ah.length = n)
  dn : x.dn = true → x.se = [] ∧ 2 ≤ x.ro
def newT : Tw := ⟨[], [], 0, false⟩
theorem new_ok {n : Nat} (h : 0 < n) : newT.Ok n := ⟨h, .inl ⟨rfl, rfl⟩, fun h => by cases h⟩
theorem step_ok {n : Nat} {x : Tw} (h : x.Ok n) (v : Int) : (stepT n x v).Ok n := by
  cases hd : x.dn with
  | true => rw [step_done hd]; exact h
  | false =>
    have h1 := h.se
    by_cases hn : x.se.length + 1 = n
    · rw [step_end hd hn]
      refine ⟨by simp; omega, .inr ⟨by simp, by simp; omega⟩, fun hh => ⟨rfl, ?_⟩⟩
      simp only [decide_eq_true_eq] at hh
      rcases h.ah with ⟨_, e⟩ | ⟨e, _⟩
      · rw [e] at hh; simp at hh
      · simp only; omega
    · rw [step_mid hd hn]
      exact ⟨by simp; omega, h.ah, fun hh => by cases hh⟩
/-- the words that are told -/
def tellsT (x : Tw) : List Int := if x.dn then x.ah else []
/-- all that was ever seen -/
def doneS (n : Nat) (S : List Int) : Bool := decide (S.length % n = 0) && (decide (2 * n ≤ S.length) && decide (S.drop (S.length - n) = (S.drop (S.length - 2 * n)).take n))
def stepS (n : Nat) (S : List Int) (v : Int) : List Int := if doneS n S then S else S ++ [v]
def tellsS (n : Nat) (S : List Int) : List Int := if doneS n S then S.drop (S.length - n) else []
structure Rel (n : Nat) (x : Tw) (S : List Int) : Prop where
  ok : x.Ok n
  pr : ∃ pre, S = pre ++ (x.ah ++ x.se) ∧ pre.length = (x.ro - 1) * n
  dn : x.dn = doneS n S
theorem Rel.len {n : Nat} {x : Tw} {S : List Int} (h : Rel n x S) : S.length = x.ro * n + x.se.length := by
  obtain ⟨pre, rfl, hp⟩ := h.pr
  rw [List.length_append, List.length_append, hp]
  rcases h.ok.ah with ⟨e, e2⟩ | ⟨e, e2⟩
  · rw [e, e2]; simp
  · rw [e2]
    obtain ⟨k, hk⟩ : ∃ k, x.ro = k + 1 := ⟨x.ro - 1, by omega⟩
    rw [hk, Nat.add_sub_cancel, Nat.succ_mul]; omega
theorem Rel.mod {n : Nat} {x : Tw} {S : List Int} (h : Rel n x S) : S.length % n = x.se.length := by
  rw [h.len, Nat.mul_comm, Nat.mul_add_mod, Nat.mod_eq_of_lt h.ok.se]
theorem Rel.div {n : Nat} {x : Tw} {S : List Int} (h : Rel n x S) : S.length / n = x.ro := by
  have h1 := h.ok.se
  rw [h.len, Nat.mul_comm, Nat.mul_add_div (by omega), Nat.div_eq_of_lt h1, Nat.add_zero]
theorem rel_new {n : Nat} (h : 0 < n) : Rel n newT [] := ⟨new_ok h, ⟨[], rfl, by simp [newT]⟩, by simp [doneS, newT]; omega⟩
theorem Rel.tells {n : Nat} {x : Tw} {S : List Int} (h : Rel n x S) : tellsS n S = tellsT x := by
  unfold tellsS tellsT
  rw [← h.dn]
  split
  · rename_i hd
    obtain ⟨e1, e2⟩ := h.ok.dn hd
    have hl := h.len
    obtain ⟨pre, e, hp⟩ := h.pr
    rcases h.ok.ah with ⟨e3, _⟩ | ⟨_, e4⟩
    · omega
    · rw [e1, List.append_nil] at e
      rw [e, List.length_append, e4, Nat.add_sub_cancel, List.drop_left]
  · rfl
theorem rel_step {n : Nat} {x : Tw} {S : List Int} (h : Rel n x S) (v : Int) : Rel n (stepT n x v) (stepS n S v) := by
  have hok := step_ok h.ok v
  have h1 := h.ok.se
  cases hd : x.dn with
  | true =>
    rw [step_done hd, stepS, if_pos (by rw [← h.dn, hd])]
    exact h
  | false =>
    have hl := h.len
    obtain ⟨pre, e, hp⟩ := h.pr
    have hS : stepS n S v = S ++ [v] := if_neg (by rw [← h.dn, hd]; decide)
    rw [hS]
    by_cases hn : x.se.length + 1 = n
    · rw [step_end hd hn] at hok ⊢
      have hpl : (pre ++ x.ah).length = (x.ro + 1 - 1) * n := by
        rw [List.length_append, hp, Nat.add_sub_cancel]
        rcases h.ok.ah with ⟨e1, e2⟩ | ⟨e1, e2⟩
        · rw [e1, e2]; simp
        · obtain ⟨k, hk⟩ : ∃ k, x.ro = k + 1 := ⟨x.ro - 1, by omega⟩
          rw [e2, hk, Nat.add_sub_cancel, Nat.succ_mul]
      refine ⟨hok, ⟨pre ++ x.ah, by rw [e]; simp, hpl⟩, ?_⟩
      have hl2 : (S ++ [v]).length = (x.ro + 1) * n := by rw [List.length_append, hl, Nat.succ_mul]; simp; omega
      unfold doneS
      rw [hl2, Nat.mul_mod_left, decide_eq_true (show (0 : Nat) = 0 from rfl), Bool.true_and]
      rcases h.ok.ah with ⟨e1, e2⟩ | ⟨e1, e2⟩
      · have h2 : ¬ 2 * n ≤ (x.ro + 1) * n := by rw [e1]; omega
        rw [decide_eq_false h2, Bool.false_and]
        simp [e2]
      · obtain ⟨k, hk⟩ : ∃ k, x.ro = k + 1 := ⟨x.ro - 1, by omega⟩
        have h2 : (x.ro + 1) * n = k * n + n + n := by rw [hk, Nat.succ_mul, Nat.succ_mul]
        have hpk : pre.length = k * n := by rw [hp, hk, Nat.add_sub_cancel]
        rw [h2, decide_eq_true (show 2 * n ≤ k * n + n + n by omega), Bool.true_and, Nat.add_sub_cancel, show k * n + n + n - 2 * n = k * n by omega, e]
        have q1 : (pre ++ (x.ah ++ x.se) ++ [v]).drop (k * n + n) = x.se ++ [v] := by
          rw [show pre ++ (x.ah ++ x.se) ++ [v] = (pre ++ x.ah) ++ (x.se ++ [v]) by simp, List.drop_left' (by rw [List.length_append, hpk, e2])]
        have q2 : ((pre ++ (x.ah ++ x.se) ++ [v]).drop (k * n)).take n = x.ah := by
          rw [show pre ++ (x.ah ++ x.se) ++ [v] = pre ++ (x.ah ++ (x.se ++ [v])) by simp, List.drop_left' hpk, List.take_left' e2]
        rw [q1, q2]
    · rw [step_mid hd hn] at hok ⊢
      refine ⟨hok, ⟨pre, by rw [e]; simp, hp⟩, ?_⟩
      have hl2 : (S ++ [v]).length = n * x.ro + (x.se.length + 1) := by rw [List.length_append, hl, Nat.mul_comm]; simp; omega
      unfold doneS
      rw [hl2, Nat.mul_add_mod, Nat.mod_eq_of_lt (by omega), decide_eq_false (by omega), Bool.false_and]
/-- where nobody else touches the words W -/
def aloneT (n : Nat) (W : List Int) (k : Nat) : Tw := if k < n then ⟨W.take k, [], 0, false⟩ else if k < 2 * n then ⟨W.take (k - n), W, 1, false⟩ else ⟨[], W, 2, true⟩
theorem alone1 {n : Nat} {W : List Int} {k : Nat} (h : k < n) : aloneT n W k = ⟨W.take k, [], 0, false⟩ := if_pos h
theorem alone2 {n : Nat} {W : List Int} {k : Nat} (h : n ≤ k) (h2 : k < 2 * n) : aloneT n W k = ⟨W.take (k - n), W, 1, false⟩ := by
  unfold aloneT
  rw [if_neg (by omega), if_pos h2]
theorem alone3 {n : Nat} {W : List Int} {k : Nat} (h : 2 * n ≤ k) (hn : 0 < n) : aloneT n W k = ⟨[], W, 2, true⟩ := by
  unfold aloneT
  rw [if_neg (by omega), if_neg (by omega)]
theorem alone_zero {n : Nat} {W : List Int} (hn : 0 < n) : aloneT n W 0 = newT := by rw [alone1 hn]; rfl
theorem alone_dn {n : Nat} {W : List Int} {k : Nat} (hn : 0 < n) : (aloneT n W k).dn = decide (2 * n ≤ k) := by
  by_cases h : k < n
  · rw [alone1 h]; exact (decide_eq_false (by omega)).symm
  · by_cases h2 : k < 2 * n
    · rw [alone2 (by omega) h2]; exact (decide_eq_false (by omega)).symm
    · rw [alone3 (by omega) hn]; exact (decide_eq_true (by omega)).symm
theorem alone_len {n : Nat} {W : List Int} {k : Nat} (hW : W.length = n) (h : k < 2 * n) : (aloneT n W k).se.length = if k < n then k else k - n := by
  by_cases h1 : k < n
  · rw [alone1 h1, if_pos h1, List.length_take]; omega
  · rw [alone2 (by omega) h, if_neg h1, List.length_take]; omega
theorem alone_step {n : Nat} {W : List Int} {k : Nat} {v : Int} (hW : W.length = n) (hn : 0 < n) (hv : k < 2 * n → W[(aloneT n W k).se.length]? = some v) : stepT n (aloneT n W k) v = aloneT n W (k + 1) := by
  by_cases h : 2 * n ≤ k
  · rw [alone3 h hn, alone3 (by omega) hn]; rfl
  · have hv := hv (by omega)
    rw [alone_len hW (by omega)] at hv
    by_cases h1 : k < n
    · rw [if_pos h1] at hv
      have ht : W.take k ++ [v] = W.take (k + 1) := by rw [List.take_add_one, hv]; rfl
      have hl : (W.take k).length = k := by rw [List.length_take]; omega
      rw [alone1 h1]
      by_cases h2 : k + 1 = n
      · rw [step_end rfl (by simp only [hl]; exact h2), alone2 (by omega) (by omega)]
        simp only [ht, h2, Nat.sub_self, List.take_zero, Nat.zero_add]
        rw [List.take_of_length_le (by omega), decide_eq_false (by intro e; rw [e] at hW; simp at hW; omega)]
      · rw [step_mid rfl (by simp only [hl]; exact h2), alone1 (by omega), ht]
    · rw [if_neg h1] at hv
      have ht : W.take (k - n) ++ [v] = W.take (k - n + 1) := by rw [List.take_add_one, hv]; rfl
      have hl : (W.take (k - n)).length = k - n := by rw [List.length_take]; omega
      rw [alone2 (by omega) (by omega)]
      by_cases h2 : k - n + 1 = n
      · rw [step_end rfl (by simp only [hl]; exact h2), alone3 (by omega) hn]
        simp only [ht, h2]
        rw [List.take_of_length_le (by omega), decide_eq_true rfl]
      · rw [step_mid rfl (by simp only [hl]; exact h2), alone2 (by omega) (by omega), ht]
        simp only [show k + 1 - n = k - n + 1 by omega]
/-- how many places are unlike -/
def dif : List Int → List Int → Nat
  | x :: xs, y :: ys => (if x = y then 0 else 1) + dif xs ys
  | _, _ => 0
theorem dif_nil (b : List Int) : dif [] b = 0 := by cases b <;> rfl
theorem dif_nil2 (b : List Int) : dif b [] = 0 := by cases b <;> rfl
theorem dif_cons (x y : Int) (xs ys : List Int) : dif (x :: xs) (y :: ys) = (if x = y then 0 else 1) + dif xs ys := rfl
theorem dif_append {a b : List Int} (h : a.length = b.length) (c d : List Int) : dif (a ++ c) (b ++ d) = dif a b + dif c d := by
  induction a generalizing b with
  | nil =>
    cases b with
    | nil => simp [dif]
    | cons y b => simp at h
  | cons x a ih =>
    cases b with
    | nil => simp at h
    | cons y b =>
      simp only [List.cons_append, dif_cons]
      rw [ih (by simpa using h)]
      omega
theorem dif_zero {a b : List Int} (h : a.length = b.length) (h0 : dif a b = 0) : a = b := by
  induction a generalizing b with
  | nil =>
    cases b with
    | nil => rfl
    | cons y b => simp at h
  | cons x a ih =>
    cases b with
    | nil => simp at h
    | cons y b =>
      rw [dif_cons] at h0
      by_cases e : x = y
      · rw [ih (by simpa using h) (by omega), e]
      · rw [if_neg e] at h0; omega
theorem dif_set (a b : List Int) (k : Nat) (v : Int) : dif a (b.set k v) ≤ dif a b + 1 := by
  induction a generalizing b k with
  | nil => simp [dif_nil]
  | cons x a ih =>
    cases b with
    | nil => simp [dif_nil2]
    | cons y b =>
      cases k with
      | zero => simp only [List.set_cons_zero, dif_cons]; split <;> split <;> omega
      | succ k => simp only [List.set_cons_succ, dif_cons]; have := ih b k; omega
def lastT (x : Tw) : List Int := x.se ++ x.ah.drop x.se.length
def pot (x : Tw) (W : List Int) : Nat := (x.ro - 1) + dif (lastT x) W + dif x.se x.ah
theorem split_at {l : List Int} {j : Nat} {v : Int} (h : l[j]? = some v) : ∃ a b, l = a ++ v :: b ∧ a.length = j ∧ b = l.drop (j + 1) := by
  have hl := (List.getElem?_eq_some_iff.1 h).1
  refine ⟨l.take j, l.drop (j + 1), ?_, by rw [List.length_take]; omega, rfl⟩
  have h2 : l.take (j + 1) = l.take j ++ [v] := by rw [List.take_add_one, h]; rfl
  have h3 := List.take_append_drop (j + 1) l
  rw [h2, List.append_assoc] at h3
  exact h3.symm
theorem pot_step {n : Nat} {x : Tw} {W : List Int} {v : Int} (h : x.Ok n) (hd : x.dn = false) (hv : W[x.se.length]? = some v) (hd2 : (stepT n x v).dn = false) : pot (stepT n x v) W ≤ pot x W := by
  obtain ⟨W1, W2, eW, hW1, _⟩ := split_at hv
  have h1 := h.se
  rcases h.ah with ⟨r0, a0⟩ | ⟨r0, a0⟩
  · have hx : pot x W = dif x.se W1 := by
      unfold pot lastT
      rw [a0, r0, eW, List.drop_nil, dif_append hW1.symm, dif_nil, dif_nil2]
      omega
    by_cases hn : x.se.length + 1 = n
    · rw [hx, step_end hd hn]
      unfold pot lastT
      simp only [List.length_nil, List.drop_zero, List.nil_append, dif_nil, r0]
      rw [eW, dif_append hW1.symm, dif_cons, if_pos rfl, dif_nil]
      omega
    · rw [hx, step_mid hd hn]
      unfold pot lastT
      simp only [a0, List.drop_nil, List.append_nil, dif_nil2, r0]
      rw [eW, dif_append hW1.symm, dif_cons, if_pos rfl, dif_nil]
      omega
  · obtain ⟨a, ha⟩ : ∃ a, x.ah[x.se.length]? = some a := ⟨x.ah[x.se.length]'(by omega), by simp⟩
    obtain ⟨A1, A2, eA, hA1, _⟩ := split_at ha
    have hdr : x.ah.drop x.se.length = a :: A2 := by rw [eA, List.drop_left' hA1]
    have hdr2 : x.ah.drop (x.se.length + 1) = A2 := by
      rw [← List.drop_drop, hdr]; rfl
    have hx : pot x W = (x.ro - 1) + (dif x.se W1 + ((if a = v then 0 else 1) + dif A2 W2)) + dif x.se A1 := by
      unfold pot lastT
      rw [hdr, eW, dif_append hW1.symm, dif_cons, eA]
      rw [show dif x.se (A1 ++ a :: A2) = dif x.se A1 by
        have := dif_append hA1.symm [] (a :: A2)
        rw [List.append_nil, dif_nil] at this
        omega]
    by_cases hn : x.se.length + 1 = n
    · have hA2 : A2 = [] := by
        have := congrArg List.length eA
        rw [List.length_append, List.length_cons] at this
        exact List.eq_nil_of_length_eq_zero (by omega)
      rw [step_end hd hn] at hd2 ⊢
      simp only [decide_eq_false_iff_not] at hd2
      have hne : 1 ≤ dif x.se A1 + (if a = v then 0 else 1) := by
        by_cases e : dif x.se A1 + (if a = v then 0 else 1) = 0
        · exfalso
          have e1 : x.se = A1 := dif_zero hA1.symm (by omega)
          have e2 : a = v := by by_cases e3 : a = v; exact e3; rw [if_neg e3] at e; omega
          exact hd2 (by rw [eA, hA2, e1, e2])
        · omega
      rw [hx]
      unfold pot lastT
      simp only [List.length_nil, List.drop_zero, List.nil_append, dif_nil]
      rw [eW, dif_append hW1.symm, dif_cons, if_pos rfl, dif_nil, hA2, dif_nil]
      omega
    · rw [hx, step_mid hd hn]
      unfold pot lastT
      simp only [List.length_append, List.length_cons, List.length_nil, Nat.zero_add, hdr2]
      rw [eW, List.append_assoc, dif_append hW1.symm]
      simp only [List.cons_append, List.nil_append, dif_cons, if_true]
      rw [eA, dif_append hA1.symm, dif_cons, dif_nil]
      by_cases e : a = v
      · rw [if_pos e, if_pos e.symm]; omega
      · rw [if_neg e, if_neg (Ne.symm e)]; omega
/-- moments, what each cell had, and the words that are there: no word comes back -/
structure Mo (H had : List (List Int)) (ws : List Int) : Prop where
  len : had.length = ws.length
  lens : ∀ (k : Nat) A, H[k]? = some A → A.length = ws.length
  cv : ∀ (a b c : Nat) (A B C : List Int), a ≤ b → b ≤ c → H[a]? = some A → H[b]? = some B → H[c]? = some C → ∀ p : Nat, A[p]? = C[p]? → B[p]? = A[p]?
  hi : ∀ (k : Nat) A, H[k]? = some A → ∀ (p : Nat) v hp, A[p]? = some v → had[p]? = some hp → v ∈ hp
  wi : ∀ (p : Nat) v hp, ws[p]? = some v → had[p]? = some hp → v ∈ hp
  cw : ∀ (a b : Nat) A B, a ≤ b → H[a]? = some A → H[b]? = some B → ∀ p : Nat, A[p]? = ws[p]? → B[p]? = ws[p]?
theorem mo_start (ws : List Int) : Mo [] (ws.map fun v => [v]) ws := by
  refine ⟨by simp, fun k A h => by simp at h, fun a b c A B C _ _ h => by simp at h, fun k A h => by simp at h, fun p v hp h h2 => ?_, fun a b A B _ h => by simp at h⟩
  rw [List.getElem?_map, h] at h2
  injection h2 with h2
  subst h2
  simp
theorem Mo.push {H had : List (List Int)} {ws : List Int} (h : Mo H had ws) : Mo (H ++ [ws]) had ws := by
  have hg : ∀ (k : Nat) A, (H ++ [ws])[k]? = some A → (H[k]? = some A) ∨ (k = H.length ∧ A = ws) := by
    intro k A hk
    by_cases e : k < H.length
    · rw [List.getElem?_append_left e] at hk; exact .inl hk
    · have hl := (List.getElem?_eq_some_iff.1 hk).1
      simp only [List.length_append, List.length_cons, List.length_nil] at hl
      obtain rfl : k = H.length := by omega
      simp at hk
      exact .inr ⟨rfl, hk.symm⟩
  have hlt : ∀ (k : Nat) A, H[k]? = some A → k < H.length := fun k A hk => (List.getElem?_eq_some_iff.1 hk).1
  refine ⟨h.len, fun k A hk => ?_, fun a b c A B C hab hbc ha hb hc p hp => ?_, fun k A hk p v hp h1 h2 => ?_, h.wi, fun a b A B hab ha hb p hp => ?_⟩
  · rcases hg k A hk with h1 | ⟨_, rfl⟩
    · exact h.lens k A h1
    · rfl
  · rcases hg c C hc with hc | ⟨ec, rfl⟩
    · have lc := hlt c C hc
      rcases hg a A ha with ha | ⟨ea, _⟩
      · rcases hg b B hb with hb | ⟨eb, _⟩
        · exact h.cv a b c A B C hab hbc ha hb hc p hp
        · omega
      · omega
    · rcases hg b B hb with hb | ⟨eb, rfl⟩
      · have lb := hlt b B hb
        rcases hg a A ha with ha | ⟨ea, _⟩
        · rw [hp]; exact h.cw a b A B hab ha hb p hp
        · omega
      · exact hp.symm
  · rcases hg k A hk with hk | ⟨_, rfl⟩
    · exact h.hi k A hk p v hp h1 h2
    · exact h.wi p v hp h1 h2
  · rcases hg b B hb with hb | ⟨eb, rfl⟩
    · have lb := hlt b B hb
      rcases hg a A ha with ha | ⟨ea, _⟩
      · exact h.cw a b A B hab ha hb p hp
      · omega
    · rfl
theorem Mo.store {H had : List (List Int)} {ws hp0 : List Int} {p0 : Nat} {v0 : Int} (h : Mo H had ws) (h0 : had[p0]? = some hp0) (hn : ∀ u ∈ hp0, u ≠ v0) : Mo H (had.set p0 (hp0 ++ [v0])) (ws.set p0 v0) := by
  have hl0 := (List.getElem?_eq_some_iff.1 h0).1
  have hle := h.len
  have hw0 : (ws.set p0 v0)[p0]? = some v0 := List.getElem?_set_self (by omega)
  have hd0 : (had.set p0 (hp0 ++ [v0]))[p0]? = some (hp0 ++ [v0]) := List.getElem?_set_self hl0
  refine ⟨by simp [hle], fun k A hk => by rw [List.length_set]; exact h.lens k A hk, h.cv, fun k A hk p v hp h1 h2 => ?_, fun p v hp h1 h2 => ?_, fun a b A B hab ha hb p hp => ?_⟩
  · by_cases e : p0 = p
    · subst e
      rw [hd0] at h2
      injection h2 with h2
      subst h2
      exact List.mem_append_left _ (h.hi k A hk p0 v hp0 h1 h0)
    · rw [List.getElem?_set_ne e] at h2
      exact h.hi k A hk p v hp h1 h2
  · by_cases e : p0 = p
    · subst e
      rw [hd0] at h2
      injection h2 with h2
      subst h2
      rw [hw0] at h1
      injection h1 with h1
      subst h1
      simp
    · rw [List.getElem?_set_ne e] at h2 h1
      exact h.wi p v hp h1 h2
  · by_cases e : p0 = p
    · subst e
      rw [hw0] at hp
      exact absurd rfl (hn v0 (h.hi a A ha p0 v0 hp0 hp h0))
    · rw [List.getElem?_set_ne e] at hp ⊢
      exact h.cw a b A B hab ha hb p hp
/-- what was seen stood there at its moment -/
structure Sn (n F : Nat) (x : Tw) (H : List (List Int)) : Prop where
  se : ∀ (j : Nat) v, x.se[j]? = some v → ∃ A, H[H.length - x.se.length + j]? = some A ∧ A[F + j]? = some v
  ah : ∀ (j : Nat) v, x.ah[j]? = some v → ∃ A, H[H.length - x.se.length - n + j]? = some A ∧ A[F + j]? = some v
  le : x.se.length + (if x.ro = 0 then 0 else n) ≤ H.length
theorem sn_new (n F : Nat) : Sn n F newT [] := ⟨fun j v h => by simp [newT] at h, fun j v h => by simp [newT] at h, by simp [newT]⟩
theorem push_at {H : List (List Int)} {ws A : List Int} {k : Nat} (h : H[k]? = some A) : (H ++ [ws])[k]? = some A := by
  rw [List.getElem?_append_left (List.getElem?_eq_some_iff.1 h).1, h]
theorem snoc_at {l : List Int} {v u : Int} {j : Nat} (h : (l ++ [v])[j]? = some u) : l[j]? = some u ∨ (j = l.length ∧ u = v) := by
  by_cases e : j < l.length
  · rw [List.getElem?_append_left e] at h; exact .inl h
  · have hl := (List.getElem?_eq_some_iff.1 h).1
    simp only [List.length_append, List.length_cons, List.length_nil] at hl
    obtain rfl : j = l.length := by omega
    simp at h
    exact .inr ⟨rfl, h.symm⟩
theorem sn_step {n F : Nat} {x : Tw} {H : List (List Int)} {ws : List Int} {v : Int} (h : Sn n F x H) (hok : x.Ok n) (hd : x.dn = false) (hv : ws[F + x.se.length]? = some v) : Sn n F (stepT n x v) (H ++ [ws]) := by
  have h1 := hok.se
  have h3 := h.le
  have hlast : (H ++ [ws])[H.length]? = some ws := by simp
  have hl : (H ++ [ws]).length = H.length + 1 := by simp
  by_cases hn : x.se.length + 1 = n
  · rw [step_end hd hn]
    refine ⟨fun j u hu => by simp at hu, fun j u hu => ?_, ?_⟩
    · simp only [hl, List.length_nil, Nat.sub_zero]
      rcases snoc_at hu with hu | ⟨rfl, rfl⟩
      · obtain ⟨A, k1, k2⟩ := h.se j u hu
        exact ⟨A, push_at (by rw [← k1]; congr 1; omega), k2⟩
      · exact ⟨ws, by rw [← hlast]; congr 1; omega, hv⟩
    · simp only [hl, List.length_nil]; split <;> omega
  · rw [step_mid hd hn]
    have hl2 : H.length + 1 - (x.se.length + 1) = H.length - x.se.length := by omega
    refine ⟨fun j u hu => ?_, fun j u hu => ?_, ?_⟩
    · simp only [hl, List.length_append, List.length_cons, List.length_nil, Nat.zero_add, hl2]
      rcases snoc_at hu with hu | ⟨rfl, rfl⟩
      · obtain ⟨A, k1, k2⟩ := h.se j u hu
        exact ⟨A, push_at k1, k2⟩
      · refine ⟨ws, ?_, hv⟩
        rw [← hlast]; congr 1
        split at h3 <;> omega
    · simp only [hl, List.length_append, List.length_cons, List.length_nil, Nat.zero_add, hl2]
      obtain ⟨A, k1, k2⟩ := h.ah j u hu
      exact ⟨A, push_at k1, k2⟩
    · simp only [hl, List.length_append, List.length_cons, List.length_nil]; split at h3 <;> split <;> omega
/-- behind the last step: all stood there at one moment -/
theorem moment {n F : Nat} {x : Tw} {H had : List (List Int)} {ws : List Int} {v : Int} (hM : Mo (H ++ [ws]) had ws) (h : Sn n F x H) (hok : x.Ok n) (hd : x.dn = false) (hv : ws[F + x.se.length]? = some v) (hF : F + n = ws.length) (hd2 : (stepT n x v).dn = true) :
    ∃ (k : Nat) (B : List Int), (H ++ [ws])[k]? = some B ∧ B.drop F = (stepT n x v).ah := by
  have h1 := hok.se
  have h3 := h.le
  have hn : x.se.length + 1 = n := by
    by_cases hn : x.se.length + 1 = n
    · exact hn
    · rw [step_mid hd hn] at hd2; cases hd2
  have hr : x.ro ≠ 0 := by
    intro e
    rw [step_end hd hn] at hd2
    simp only [decide_eq_true_eq] at hd2
    rcases hok.ah with ⟨_, e2⟩ | ⟨e2, _⟩
    · rw [e2] at hd2; simp at hd2
    · omega
  rw [if_neg hr] at h3
  have hs := sn_step h hok hd hv
  rw [step_end hd hn] at hd2 hs ⊢
  simp only [decide_eq_true_eq] at hd2
  have hl : (H ++ [ws]).length = H.length + 1 := by simp
  have hb : H.length + 1 - n < (H ++ [ws]).length := by omega
  obtain ⟨B, hB⟩ : ∃ B, (H ++ [ws])[H.length + 1 - n]? = some B := ⟨_, List.getElem?_eq_getElem hb⟩
  refine ⟨_, B, hB, ?_⟩
  have hBl := hM.lens _ B hB
  have hlen2 : (x.se ++ [v]).length = n := by simp; omega
  apply List.ext_getElem?
  intro j
  by_cases hj : j < n
  · obtain ⟨u, hu⟩ : ∃ u, (x.se ++ [v])[j]? = some u := ⟨(x.se ++ [v])[j]'(by omega), by simp⟩
    obtain ⟨C, c1, c2⟩ := hs.ah j u hu
    simp only [hl, List.length_nil, Nat.sub_zero] at c1
    rw [hd2] at hu
    obtain ⟨A, a1, a2⟩ := h.ah j u hu
    have q := hM.cv _ _ _ A B C (by omega) (by omega) (push_at a1) hB c1 (F + j) (by rw [a2, c2])
    rw [List.getElem?_drop, q, a2, hd2, hu]
  · rw [List.getElem?_eq_none (by rw [List.length_drop]; omega), List.getElem?_eq_none (by show (x.se ++ [v]).length ≤ j; omega)]
end Go.Proofs.Ytalmadeibnekoaa
