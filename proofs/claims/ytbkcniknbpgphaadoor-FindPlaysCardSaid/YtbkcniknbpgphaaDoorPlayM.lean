/- What a play needs; no condition. -/
import Derived.Test.YtbkcniknbpgphaaDoorPrel2
import Derived.Test.YtbkcniknbpgphaaDoorWr2
import Derived.Test.YtbkcniknbpgphaaDoorRStep
namespace Go.Proofs.YtbkcniknbpgphaaDoor
open Go.RowKit
attribute [local go_sem ↓] Go.wp_at_zero Go.wp_at_succ

theorem held_mono {P : Program} {md : Region.Mode} {ops : Array Oper} {Q : Exit → Act → World → Prop} {S S2 : World → Prop} (h : ∀ w, S2 w → S w) : ∀ (fuel : Nat) (listed : Array Bool) (a : Act) (w : World), wpAnyH P md ops Q S2 fuel listed a w → wpAnyH P md ops Q S fuel listed a w
  | 0, _, _, _, hh => hh
  | fuel + 1, _, _, _, hh => ⟨hh.1, fun i hi => wpOp_mono (fun a' w' h' => ⟨h _ h'.1, held_mono h fuel _ a' w' h'.2⟩) (hh.2 i hi)⟩
theorem Mine.mem {w0 w : World} {A : Option Addr} {n c : Nat} {xs : List Int} (h : Mine w0 w (.slice A n c) xs) (h1 : 0 < xs.length) : ∃ g, A = some ⟨g, 0, none⟩ ∧ w0.heap.size ≤ g ∧ WB w g xs := by
  have hi := h.inv.2.1
  rcases h.own.2 with ⟨e, _⟩ | ⟨g, cap, cur, e, hg, hh, _⟩
  · injection e with e1
    subst e1
    obtain ⟨b, off, e, _⟩ := hi 0 xs[0] (by simp)
    cases e
  · injection e with e1
    subst e1
    exact ⟨g, rfl, hg, .of_is hi (Nat.le_refl _) h1, fun j => frozen_of_row w g j cur 3 hh⟩
theorem wrS_ws (ws : List Int) (t t2 : Nat) (l : List Wr) (i : Int) : (wrS ⟨ws, t⟩ l i).ws = (wrS ⟨ws, t2⟩ l i).ws := by
  unfold wrS
  induction l generalizing ws t t2 with
  | nil => rfl
  | cons x l ih =>
    simp only [List.foldl_cons]
    by_cases h : x.wh = i
    · rw [wr1_hit h, wr1_hit h]
      exact ih _ _ _
    · rw [wr1_miss h, wr1_miss h]
      exact ih _ _ _
/-- what one that looks may be at -/
def Okx (c : Cf) (x : Fs) : Prop := 0 ≤ x.po ∧ (x.is = true → x.po < c.sl)
theorem step_ok {c : Cf} {k o : Int} {x : Fs} {ws : List Int} (h : Okx c x) : Okx c (stepF c k o x ws) := by
  cases hd : doneB c x with
  | true => rw [step_done hd]; exact h
  | false =>
    obtain ⟨h1, h2⟩ := done_parts hd
    cases hf : wfitB (lookI c x ws) k o with
    | true => rw [step_hit hd hf]; exact ⟨h.1, fun _ => h2⟩
    | false => rw [step_miss hd hf]; exact ⟨by have := h.1; simp only; omega, fun h => by cases h⟩
theorem again_ok {c : Cf} {x : Fs} (h : Okx c x) : Okx c (againF x) := ⟨h.1, fun h => by cases h⟩
theorem go_ok {c : Cf} {x : Fs} (h : Okx c x) : Okx c (goF x) := ⟨by have := h.1; unfold goF; simp only; split <;> omega, fun h => by cases h⟩
theorem tch_le (c : Cf) (x : Fs) : tch c x ≤ 1 := by
  unfold tch
  split <;> omega
end Go.Proofs.YtbkcniknbpgphaaDoor
