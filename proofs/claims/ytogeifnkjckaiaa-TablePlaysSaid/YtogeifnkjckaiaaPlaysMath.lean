/- The document's table and the program's: what is put in one, and dropped, is so in the other. -/
import Derived.Test.YtogeifnkjckaiaaRef
import Derived.Test.YtogeifnkjckaiaaTabE
namespace Go.Proofs.Ytogeifnkjckaiaa
open Go.RowKit
attribute [local go_sem ↓] Go.wp_at_zero Go.wp_at_succ

theorem last_iff {l : IP} (h : Unlike l) {q v : Int} : last l q = some v ↔ (q, v) ∈ l := ⟨last_mem, fun hm => last_unlike h hm⟩
theorem unlike_at {l : IP} (h : Unlike l) {i j : Nat} {p q : Int × Int} (hi : l[i]? = some p) (hj : l[j]? = some q) (e : p.1 = q.1) : i = j := by
  obtain ⟨h1, rfl⟩ := List.getElem?_eq_some_iff.1 hi
  obtain ⟨h2, rfl⟩ := List.getElem?_eq_some_iff.1 hj
  rcases Nat.lt_trichotomy i j with h3 | h3 | h3
  · exact absurd e (List.pairwise_iff_getElem.1 h i j h1 h2 h3)
  · exact h3
  · exact absurd e.symm (List.pairwise_iff_getElem.1 h j i h2 h1 h3)
theorem unlike_snoc' {l : IP} (h : Unlike l) {k v : Int} (hk : ∀ p ∈ l, p.1 ≠ k) : Unlike (l ++ [(k, v)]) := by
  rw [Unlike, List.pairwise_append]
  exact ⟨h, by simp, fun a ha b hb => by simp at hb; subst hb; exact hk a ha⟩
theorem unlike_set {l : IP} (h : Unlike l) {i : Nat} {p : Int × Int} (hi : l[i]? = some p) (v : Int) : Unlike (l.set i (p.1, v)) := by
  obtain ⟨h1, rfl⟩ := List.getElem?_eq_some_iff.1 hi
  rw [Unlike, List.pairwise_iff_getElem]
  intro a b ha hb hab
  rw [List.length_set] at ha hb
  have h2 := List.pairwise_iff_getElem.1 h a b ha hb hab
  rw [List.getElem_set, List.getElem_set]
  by_cases e1 : i = a
  · subst e1
    rw [if_pos rfl, if_neg (by omega)]
    exact h2
  · by_cases e2 : i = b
    · subst e2
      rw [if_neg e1, if_pos rfl]
      exact h2
    · rw [if_neg e1, if_neg e2]
      exact h2
theorem fill_set {l : IP} (h : Unlike l) {i : Nat} {p : Int × Int} (hi : l[i]? = some p) (v : Int) : fillG (l.set i (p.1, v)) = ins (fillG l) p.1 v := by
  have hu := unlike_set h hi v
  have hil := (List.getElem?_eq_some_iff.1 hi).1
  refine rises_ext (fill_rises _) (ins_rises _ _ (fill_rises _)) fun q => ?_
  rw [got_ins', got_fill, got_fill]
  by_cases e : q = p.1
  · rw [if_pos e, e]
    refine (last_iff hu).2 (List.mem_iff_getElem?.2 ⟨i, ?_⟩)
    rw [List.getElem?_set, if_pos rfl, if_pos hil]
  · rw [if_neg e]
    refine Option.ext fun u => ?_
    rw [last_iff hu, last_iff h]
    constructor
    · intro hm
      rcases List.mem_or_eq_of_mem_set hm with hm | hm
      · exact hm
      · injection hm with hm; exact absurd hm e
    · intro hm
      obtain ⟨j, hj⟩ := List.mem_iff_getElem?.1 hm
      refine List.mem_iff_getElem?.2 ⟨j, ?_⟩
      rw [List.getElem?_set, if_neg]
      · exact hj
      · rintro rfl
        rw [hi] at hj
        injection hj with hj
        rw [hj] at e
        exact e rfl
theorem fill_erase {l : IP} (h : Unlike l) {i : Nat} {p : Int × Int} (hi : l[i]? = some p) : fillG (l.eraseIdx i) = del (fillG l) p.1 := by
  have hu : Unlike (l.eraseIdx i) := h.sublist (List.eraseIdx_sublist _ _)
  refine rises_ext (fill_rises _) (del_rises _ (fill_rises _)) fun q => ?_
  rw [got_del' (fill_rises _), got_fill, got_fill]
  by_cases e : q = p.1
  · rw [if_pos e, e]
    refine last_none.2 fun x hx e2 => ?_
    obtain ⟨j, hj⟩ := List.mem_iff_getElem?.1 hx
    rw [List.getElem?_eraseIdx] at hj
    split at hj
    · have := unlike_at h hj hi e2; omega
    · have := unlike_at h hj hi e2; omega
  · rw [if_neg e]
    refine Option.ext fun u => ?_
    rw [last_iff hu, last_iff h]
    constructor
    · exact fun hm => List.mem_of_mem_eraseIdx hm
    · intro hm
      obtain ⟨j, hj⟩ := List.mem_iff_getElem?.1 hm
      have hne : j ≠ i := by
        rintro rfl
        rw [hi] at hj
        injection hj with hj
        rw [hj] at e
        exact e rfl
      rcases Nat.lt_or_ge j i with h1 | h1
      · exact List.mem_iff_getElem?.2 ⟨j, by rw [List.getElem?_eraseIdx, if_pos h1]; exact hj⟩
      · exact List.mem_iff_getElem?.2 ⟨j - 1, by rw [List.getElem?_eraseIdx, if_neg (by omega), show j - 1 + 1 = j by omega]; exact hj⟩
/-- the program's table and the document's, side by side -/
structure Both (n0 : Nat) (R : Set') (w : World) (g gr : Nat) (ps : IP) : Prop where
  ref : RefT R w gr ps
  tab : TabE vI vI (fun j => j ≠ g ∧ ¬ R j) w g (fillG ps)
  un : Unlike ps
  rn : ∀ j, R j → n0 ≤ j ∧ j ≠ g
theorem Both.below {n0 : Nat} {R : Set'} {w w' : World} {g gr : Nat} {ps : IP} (h : Both n0 R w g gr ps) (hb : Below w.heap.size w w') : Both n0 R w' g gr ps :=
  ⟨h.ref.below hb, h.tab.kept hb.size (hb.block _ h.tab.lg) (fun k hk hl => ⟨hb.block k hl, hk⟩) h.tab.ge (fun j hj => h.tab.new j (Nat.le_trans hb.size hj)), h.un, h.rn⟩
theorem Both.tab1 {n0 : Nat} {R : Set'} {w : World} {g gr : Nat} {ps : IP} (h : Both n0 R w g gr ps) : Tab1 [g] w g (fillG ps) := by
  obtain ⟨A, t, h⟩ := h.tab
  exact ⟨A, t, by simp, fun k hk => by simp at hk; rw [hk]; exact h.lg, h.c0, h.c1, h.fz, h.tr.less fun k h1 _ => by simp [h1.1], h.tl, h.rs⟩
/-- behind the program's call: the document's table is as it was -/
theorem Both.ref_sp {n0 : Nat} {R : Set'} {w w5 : World} {g gr : Nat} {ps : IP} (h : Both n0 R w g gr ps) (hs : Sp g w w5) : RefT R w5 gr ps :=
  h.ref.kept hs.size fun k hk => hs.block k (h.ref.rl k hk) (h.rn k hk).2
/-- behind both calls -/
theorem Both.next {n0 : Nat} {R R' : Set'} {w w5 w6 : World} {g gr : Nat} {ps qs xs : IP} (h : Both n0 R w g gr ps) (hs : Sp g w w5) (ht : TabE vI vI (fun j => j ≠ g ∧ ¬ R j) w5 g xs) (hr : RefT R' w6 gr qs) (hg : Grow R w5 R' w6) (hn : n0 ≤ w.heap.size) (hu : Unlike qs) (hx : xs = fillG qs) : Both n0 R' w6 g gr qs := by
  subst hx
  have hgR : ¬ R g := fun e => (h.rn g e).2 rfl
  refine ⟨hr, ht.kept hg.size (hg.block g ht.lg hgR) (fun k hk hl => ⟨hg.block k hl hk.2, hk.1, fun e => (hg.new k e).elim hk.2 fun e => by omega⟩) (fun e => e.1 rfl) (fun j hj => ⟨fun e => ?_, fun e => ?_⟩), hu, fun j hj => ?_⟩
  · have := ht.lg; have := hg.size; omega
  · have := hr.rl j e; omega
  · rcases hg.new j hj with e | e
    · exact h.rn j e
    · have := ht.lg; have := hs.size; omega
theorem Both.got {n0 : Nat} {R : Set'} {w : World} {g gr : Nat} {ps : IP} (_ : Both n0 R w g gr ps) (k : Int) : got (fillG ps) k = last ps k := got_fill ps k
theorem key_or {ps : IP} (k : Int) : (∀ p ∈ ps, p.1 ≠ k) ∨ ∃ (i : Nat) (p : Int × Int), ps[i]? = some p ∧ p.1 = k := by
  by_cases h : ∃ p ∈ ps, p.1 = k
  · obtain ⟨p, hp, e⟩ := h
    obtain ⟨i, hi⟩ := List.mem_iff_getElem?.1 hp
    exact .inr ⟨i, p, hi, e⟩
  · exact .inl fun p hp e => h ⟨p, hp, e⟩
end Go.Proofs.Ytogeifnkjckaiaa
