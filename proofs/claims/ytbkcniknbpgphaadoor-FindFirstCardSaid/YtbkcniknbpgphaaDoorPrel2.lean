/- Slots of words, and what keeps them; no condition. -/
import Derived.Test.YtbkcniknbpgphaaDoorPrel
import Derived.Test.YtbkcniknbpgphaaDoorInts
namespace Go.Proofs.YtbkcniknbpgphaaDoor
open Go.RowKit
attribute [local go_sem ↓] Go.wp_at_zero Go.wp_at_succ

theorem slotsL_at {c : Cf} {xs : List Int} {F i : Nat} {v : Int} (hF : (3 + c.wo + c.wo).toNat = F) (hlen : xs.length = cellsN c) (hi : (i : Int) < c.sl) (h : xs[F + i]? = some v) : (slotsL c xs)[i]? = some (decS v) := by
  rw [slotsL_yes hlen, hF, List.getElem?_map, List.getElem?_take_of_lt (by omega), List.getElem?_drop, h]
  rfl
theorem slotsL_length {c : Cf} {xs : List Int} (hlen : xs.length = cellsN c) (hc : Rc c) : (slotsL c xs).length = c.sl.toNat := by
  have q1 := hc.wo
  have q2 := hc.sl
  have q3 := (cellsN_eq hc).1
  unfold cellsI at q3
  rw [slotsL_yes hlen, List.length_map, List.length_take, List.length_drop]
  omega
theorem LS.keep {X : List Nat} {a b : World} {M : Nat} {A : Option Addr} {xs : List Sl} (h : LS a M A xs) (hM : M ≤ a.heap.size) (hs : SpX X a b) (hx : ∀ g off, A = some ⟨g, off, none⟩ → g ∉ X) : LS b M A xs := by
  intro k x hk
  obtain ⟨g, off, e, hg, hc⟩ := h k x hk
  have hc' : ∀ j, b.cell? ⟨g, j, none⟩ = a.cell? ⟨g, j, none⟩ := fun j => hs.cell j (by omega) (hx g off e)
  simp only [← hc'] at hc
  exact ⟨g, off, e, hg, hc⟩
theorem ints_same (A A2 : Option Addr) (c c2 n : Nat) (xs : List Int) (w : World) (hn : xs.length = n) (h : IS w w.heap.size A xs) (h2 : IS w w.heap.size A2 xs) (hl : n ≤ 1000000) :
    Calls Tryd.prog 27 #[.slice A n c, .slice A2 n c2] w (fun e w' => e = .returned (.bool true) ∧ Below w.heap.size w w') := by
  subst hn
  have h3 := ints_any A A2 c c2 xs xs w h h2 hl
  rwa [decide_eq_true rfl] at h3
theorem wfit_of {v k o : Int} (h : decB v = true) : wfitB v k o = fitsB (decS v) k o := by
  rw [wfitB, h]
  rfl
end Go.Proofs.YtbkcniknbpgphaaDoor
