/- Words of pins: what blocks, what is free, the least one; lists of them. -/
import Derived.Test.YtfddeiodihhblaaNums
namespace Go.Proofs.Ytfddeiodihhblaa
open Go.RowKit

/-- a word that may be -/
abbrev Wd (x : Int) : Prop := 0 ≤ x ∧ x ≤ 1099511627777
def Rng (l : List Int) : Prop := ∀ x ∈ l, Wd x
theorem Rng.at {l : List Int} (h : Rng l) {k : Nat} {x : Int} (hk : l[k]? = some x) : Wd x := h x (List.mem_of_getElem? hk)
def blk (x e : Int) : Bool := decide (0 < x ∧ x - 1 ≤ e)
theorem blk_zero (e : Int) : blk 0 e = false := by simp [blk]
theorem blk_pos {x : Int} (e : Int) (h : 0 < x) : blk x e = decide (x - 1 ≤ e) := by simp [blk, h]
theorem blk_iff {x e : Int} : blk x e = true ↔ 0 < x ∧ x - 1 ≤ e := by simp [blk]
/-- a word's epoch, and whether somebody is pinned -/
def epN (x : Int) : Int := if x = 0 then 0 else x - 1
def epB (x : Int) : Bool := x != 0
theorem epN_zero : epN 0 = 0 := rfl
theorem epB_zero : epB 0 = false := rfl
theorem epN_pos {x : Int} (h : x ≠ 0) : epN x = x - 1 := if_neg h
theorem epB_pos {x : Int} (h : x ≠ 0) : epB x = true := by simpa [epB] using h

/-- the words with their places -/
abbrev PL := List (Int × Int)
def pl (l : List Int) : PL := l.mapIdx fun i x => ((i : Int), x)
theorem pl_len (l : List Int) : (pl l).length = l.length := by simp [pl]
theorem pl_at {l : List Int} {k : Nat} {x : Int} (h : l[k]? = some x) : (pl l)[k]? = some ((k : Int), x) := by simp [pl, h]
theorem pl_mem {l : List Int} {y : Int × Int} : y ∈ pl l ↔ ∃ k : Nat, y.1 = k ∧ l[k]? = some y.2 := by
  constructor
  · intro h
    obtain ⟨k, hk⟩ := List.mem_iff_getElem?.1 h
    simp only [pl, List.getElem?_mapIdx, Option.map_eq_some_iff] at hk
    obtain ⟨x, hx, rfl⟩ := hk
    exact ⟨k, rfl, hx⟩
  · rintro ⟨k, h1, h2⟩
    obtain ⟨i, x⟩ := y
    simp only at h1 h2
    subst h1
    exact List.mem_of_getElem? (pl_at h2)
/-- of those who are pinned -/
def isP (y : Int × Int) : Bool := y.2 != 0
def pn (l : List Int) : PL := (pl l).filter isP
theorem take_snoc {α : Type} {l : List α} {k : Nat} {x : α} (h : l[k]? = some x) : l.take (k + 1) = l.take k ++ [x] := by rw [List.take_add_one, h]; rfl
theorem pn_take0 {l : List Int} {k : Nat} (h : l[k]? = some 0) : ((pl l).take (k + 1)).filter isP = ((pl l).take k).filter isP := by
  rw [take_snoc (pl_at h), List.filter_append]
  simp [isP]
theorem pn_take {l : List Int} {k : Nat} {x : Int} (h : l[k]? = some x) (hx : x ≠ 0) : ((pl l).take (k + 1)).filter isP = ((pl l).take k).filter isP ++ [((k : Int), x)] := by
  rw [take_snoc (pl_at h), List.filter_append]
  simp [isP, hx]
theorem pn_pre (l : List Int) (k : Nat) : ((pl l).take k).filter isP <+: pn l := (List.take_prefix k (pl l)).filter _
theorem pn_all (l : List Int) : ((pl l).take l.length).filter isP = pn l := by rw [← pl_len, List.take_length]; rfl
theorem pn_mem {l : List Int} {y : Int × Int} : y ∈ pn l ↔ y.2 ≠ 0 ∧ ∃ k : Nat, y.1 = k ∧ l[k]? = some y.2 := by
  unfold pn
  rw [List.mem_filter, pl_mem]
  simp [isP, and_comm]

/-- whether it blocks, and isn't the place s -/
def bad (s e : Int) (y : Int × Int) : Bool := blk y.2 e && y.1 != s
def freeB (l : List Int) (s e : Int) : Bool := !(pl l).any (bad s e)
theorem free_true {l : List Int} {s e : Int} : freeB l s e = true ↔ ∀ (k : Nat) x, l[k]? = some x → blk x e = true → (k : Int) = s := by
  unfold freeB
  rw [Bool.not_eq_true', List.any_eq_false]
  constructor
  · intro h k x hk hb
    have := h ((k : Int), x) (pl_mem.2 ⟨k, rfl, hk⟩)
    simpa [bad, hb] using this
  · rintro h y hy
    obtain ⟨k, h1, h2⟩ := pl_mem.1 hy
    intro hb
    simp [bad] at hb
    exact hb.2 (by rw [h1]; exact h k y.2 h2 hb.1)
theorem free_mem {l : List Int} {e : Int} : freeB l (-1) e = true ↔ ∀ x ∈ l, blk x e = false := by
  rw [free_true]
  constructor
  · intro h x hx
    obtain ⟨k, hk⟩ := List.mem_iff_getElem?.1 hx
    cases hb : blk x e with
    | false => rfl
    | true => have := h k x hk hb; omega
  · intro h k x hk hb
    rw [h x (List.mem_of_getElem? hk)] at hb
    cases hb
theorem free_false {l : List Int} {s e : Int} {y : Int × Int} (h : y ∈ pn l) (hb : bad s e y = true) : freeB l s e = false := by
  obtain ⟨_, k, h1, h2⟩ := pn_mem.1 h
  unfold freeB
  rw [Bool.not_eq_false', List.any_eq_true]
  exact ⟨y, pl_mem.2 ⟨k, h1, h2⟩, hb⟩
theorem free_none {l : List Int} {s e : Int} (h : ∀ y ∈ pn l, bad s e y = false) : freeB l s e = true := by
  rw [free_true]
  intro k x hk hb
  have := h ((k : Int), x) (pn_mem.2 ⟨by have := (blk_iff.1 hb).1; simp only; omega, k, rfl, hk⟩)
  simpa [bad, hb] using this

/-- the least word of those who are pinned, or 0 -/
def lst1 (m x : Int) : Int := if m = 0 ∨ x < m then x else m
def lwP (l : PL) : Int := l.foldl (fun m y => lst1 m y.2) 0
def lw (l : List Int) : Int := lwP (pn l)
theorem lwP_snoc (l : PL) (y : Int × Int) : lwP (l ++ [y]) = lst1 (lwP l) y.2 := by simp [lwP]
structure IsL (l : List Int) (m : Int) : Prop where
  zero : m = 0 → ∀ x ∈ l, x = 0
  pos : m ≠ 0 → m ∈ l ∧ 0 < m
  le : m ≠ 0 → ∀ x ∈ l, x ≠ 0 → m ≤ x
theorem IsL.uniq {l : List Int} {m n : Int} (h : IsL l m) (k : IsL l n) : m = n := by
  by_cases hm : m = 0
  · by_cases hn : n = 0
    · omega
    · exact absurd (h.zero hm n (k.pos hn).1) hn
  · by_cases hn : n = 0
    · exact absurd (k.zero hn m (h.pos hm).1) hm
    · have h1 := h.le hm n (k.pos hn).1 hn
      have h2 := k.le hn m (h.pos hm).1 hm
      omega
theorem snoc_ind {α : Type} {P : List α → Prop} (h0 : P []) (h1 : ∀ t x, P t → P (t ++ [x])) (l : List α) : P l := by
  have : ∀ l : List α, P l.reverse := by
    intro l
    induction l with
    | nil => exact h0
    | cons x t ih => rw [List.reverse_cons]; exact h1 _ _ ih
  simpa using this l.reverse
theorem lwP_is : ∀ (l : PL), (∀ y ∈ l, 0 < y.2) → (lwP l = 0 → l = []) ∧ (lwP l ≠ 0 → (∃ y ∈ l, y.2 = lwP l) ∧ ∀ y ∈ l, lwP l ≤ y.2) := by
  refine snoc_ind ?_ ?_
  · intro _; exact ⟨fun _ => rfl, fun h => absurd rfl h⟩
  · intro t y ih h
    have hy := h y (by simp)
    obtain ⟨i1, i2⟩ := ih fun z hz => h z (by simp [hz])
    rw [lwP_snoc]
    unfold lst1
    by_cases h0 : lwP t = 0
    · obtain rfl := i1 h0
      rw [if_pos (.inl h0)]
      exact ⟨fun e => by omega, fun _ => ⟨⟨y, by simp, rfl⟩, by simp⟩⟩
    · obtain ⟨⟨z, hz, hz2⟩, i3⟩ := i2 h0
      by_cases hlt : y.2 < lwP t
      · rw [if_pos (.inr hlt)]
        refine ⟨fun e => by omega, fun _ => ⟨⟨y, by simp, rfl⟩, fun u hu => ?_⟩⟩
        rcases List.mem_append.1 hu with hu | hu
        · have := i3 u hu; omega
        · simp at hu; subst hu; omega
      · rw [if_neg (by omega)]
        refine ⟨fun e => absurd e h0, fun _ => ⟨⟨z, by simp [hz], hz2⟩, fun u hu => ?_⟩⟩
        rcases List.mem_append.1 hu with hu | hu
        · exact i3 u hu
        · simp at hu; subst hu; omega
theorem lw_is {l : List Int} (h : Rng l) : IsL l (lw l) := by
  have hp : ∀ y ∈ pn l, 0 < y.2 := fun y hy => by
    obtain ⟨h1, k, h2, h3⟩ := pn_mem.1 hy
    have := (h.at h3).1
    omega
  obtain ⟨h1, h2⟩ := lwP_is (pn l) hp
  refine ⟨fun e x hx => ?_, fun e => ?_, fun e x hx hx0 => ?_⟩
  · have h3 := h1 e
    obtain ⟨k, hk⟩ := List.mem_iff_getElem?.1 hx
    apply Classical.byContradiction
    intro hn
    have : ((k : Int), x) ∈ pn l := pn_mem.2 ⟨hn, k, rfl, hk⟩
    rw [h3] at this
    cases this
  · obtain ⟨⟨y, hy, he⟩, _⟩ := h2 e
    obtain ⟨h4, k, h5, h6⟩ := pn_mem.1 hy
    have := hp y hy
    refine ⟨?_, ?_⟩
    · show lwP (pn l) ∈ l
      rw [← he]; exact List.mem_of_getElem? h6
    · show 0 < lwP (pn l)
      omega
  · obtain ⟨k, hk⟩ := List.mem_iff_getElem?.1 hx
    exact (h2 e).2 ((k : Int), x) (pn_mem.2 ⟨hx0, k, rfl, hk⟩)
theorem lw_eq {l : List Int} {m : Int} (h : Rng l) (k : IsL l m) : lw l = m := (lw_is h).uniq k
theorem lw_wd {l : List Int} (h : Rng l) : Wd (lw l) := by
  by_cases h0 : lw l = 0
  · rw [h0]; exact ⟨by omega, by omega⟩
  · exact h _ ((lw_is h).pos h0).1
/-- free is what is below the least one -/
theorem free_lw {l : List Int} {e m : Int} (h : IsL l m) : freeB l (-1) e = decide (m = 0 ∨ e < m - 1) := by
  rw [Bool.eq_iff_iff, free_mem, decide_eq_true_eq]
  constructor
  · intro hf
    by_cases h0 : m = 0
    · exact .inl h0
    · have := hf m (h.pos h0).1
      rw [blk_pos _ (h.pos h0).2, decide_eq_false_iff_not] at this
      exact .inr (by omega)
  · rintro h1 x hx
    by_cases hx0 : x = 0
    · rw [hx0, blk_zero]
    · rcases h1 with h1 | h1
      · exact absurd (h.zero h1 x hx) hx0
      · have h0 : m ≠ 0 := fun e => hx0 (h.zero e x hx)
        have := h.le h0 x hx hx0
        have := (h.pos h0).2
        rw [blk_pos _ (by omega), decide_eq_false_iff_not]
        omega
/-- the same words, in whatever order -/
theorem IsL.same {l l' : List Int} {m : Int} (h : IsL l m) (hm : ∀ x, x ∈ l' ↔ x ∈ l) : IsL l' m :=
  ⟨fun e x hx => h.zero e x ((hm x).1 hx), fun e => ⟨(hm m).2 (h.pos e).1, (h.pos e).2⟩, fun e x hx => h.le e x ((hm x).1 hx)⟩
end Go.Proofs.Ytfddeiodihhblaa
