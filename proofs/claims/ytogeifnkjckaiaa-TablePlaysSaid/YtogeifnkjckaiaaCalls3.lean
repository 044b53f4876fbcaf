/- What a table's calls tell and leave (of texts by numbers). -/
import Derived.Test.YtogeifnkjckaiaaDo3
import Derived.Test.YtogeifnkjckaiaaTab
namespace Go.Proofs.Ytogeifnkjckaiaa
open Go.RowKit
attribute [local go_sem ↓] Go.wp_at_zero Go.wp_at_succ

abbrev Tab3 (Z : List Nat) (w : World) (g : Nat) (xs : List (Int × ByteArray)) : Prop := Tab vI vS Z w g xs
abbrev Turned3 (Z : List Nat) (w : World) (g : Nat) (r : Value) (xs : List (Int × ByteArray)) : Ending → World → Prop := Turned vI vS Z w g r xs
def RetNew3 (w : World) (e : Ending) (w' : World) : Prop := e = .returned (.pointer (some ⟨w.heap.size, 0, none⟩)) ∧ Tab3 [w.heap.size] w' w.heap.size [] ∧ Below w.heap.size w w' ∧ w'.heap.size = w.heap.size + 1
theorem new3_any (w : World) : Calls Try.prog 29 #[] w (RetNew3 w) := by
  go_enter Try.func29, Try.ntmps29
  go_wp2
  go_ret
  exact ⟨rfl, tab_new _ _, bnew _ _, by simp⟩

section
variable {Z : List Nat} {w : World} {g : Nat} {xs : List (Int × ByteArray)}
set_option maxHeartbeats 400000 in
theorem put3_new (h : Tab3 Z w g xs) (k : Int) (v : ByteArray) (hl : xs.length ≤ 10000) (hk : got xs k = none) :
    Calls Try.prog 30 #[.pointer (some ⟨g, 0, none⟩), vI k, vS v] w (Turned3 Z w g (.bool false) (ins xs k v)) := by
  obtain ⟨A, t, h⟩ := h
  have c0 := h.c0
  have c1 := h.c1
  have f0 := h.fz 0
  have f1 := h.fz 1
  have hlg := h.zl g h.gz
  have hr2 : Rises t.toL := by rw [h.tl]; exact h.rs
  have e1 := find3_any A t k w h.tr
  rw [look_eq t k hr2, h.tl, hk] at e1
  have e2 := put3_any t k v A w h.new h.tr (by rw [h.tl]; omega)
  have hrise : Rises (t.put k v).toL := by rw [toL_put t k v hr2]; exact ins_rises k v hr2
  have hx : (t.put k v).toL = ins xs k v := by rw [toL_put t k v hr2, h.tl]
  have hlen : (xs.length : Int) + 1 = ((t.put k v).toL.length : Int) := by rw [hx, ins_len, hk]; simp
  have H := Lib.hid (And.intro hrise (And.intro hx hlen))
  clear hrise hx hlen hr2 hk
  go_enter Try.func30, Try.ntmps30
  go_wp2_with (first
    | (go_at_call 44; refine e1.mono ?_; rintro e w1 ⟨A1, rfl, hA1, rfl⟩; obtain rfl := hA1)
    | (go_at_call 45; refine e2.mono ?_; rintro e w3 ⟨A3, rfl, hT3, hB3⟩; have d1 := (hB3.cell (p := ⟨g, 1, none⟩) hlg).trans c1; have d0 := (hB3.cell (p := ⟨g, 0, none⟩) hlg).trans c0; have g0 := (hB3.frozen (p := ⟨g, 0, none⟩) hlg).trans f0; have g1 := (hB3.frozen (p := ⟨g, 1, none⟩) hlg).trans f1))
  go_ret
  have ht := h.turn hB3 hT3 H.out.1 _ H.out.2.2
  rw [H.out.2.1] at ht
  exact ⟨rfl, ⟨_, _, ht.1⟩, ht.2⟩
set_option maxHeartbeats 400000 in
theorem put3_had (h : Tab3 Z w g xs) (k : Int) (v : ByteArray) (hl : xs.length ≤ 10000) {u : ByteArray} (hk : got xs k = some u) :
    Calls Try.prog 30 #[.pointer (some ⟨g, 0, none⟩), vI k, vS v] w (Turned3 Z w g (.bool true) (ins xs k v)) := by
  obtain ⟨A, t, h⟩ := h
  have c0 := h.c0
  have f0 := h.fz 0
  have hlg := h.zl g h.gz
  have hr2 : Rises t.toL := by rw [h.tl]; exact h.rs
  have e1 := find3_any A t k w h.tr
  rw [look_eq t k hr2, h.tl, hk] at e1
  have e2 := put3_any t k v A w h.new h.tr (by rw [h.tl]; omega)
  have hrise : Rises (t.put k v).toL := by rw [toL_put t k v hr2]; exact ins_rises k v hr2
  have hx : (t.put k v).toL = ins xs k v := by rw [toL_put t k v hr2, h.tl]
  have hlen : xs.length = (t.put k v).toL.length := by rw [hx, ins_len, hk]; simp
  have H := Lib.hid (And.intro hrise (And.intro hx hlen))
  clear hrise hx hlen hr2 hk
  go_enter Try.func30, Try.ntmps30
  go_wp2_with (first
    | (go_at_call 44; refine e1.mono ?_; rintro e w1 ⟨A1, rfl, ⟨bb, pp, rfl, hP⟩, rfl⟩)
    | (go_at_call 45; refine e2.mono ?_; rintro e w3 ⟨A3, rfl, hT3, hB3⟩; have d0 := (hB3.cell (p := ⟨g, 0, none⟩) hlg).trans c0; have g0 := (hB3.frozen (p := ⟨g, 0, none⟩) hlg).trans f0))
  go_ret
  have ht := h.turn1 hB3 hT3 H.out.1 H.out.2.2
  rw [H.out.2.1] at ht
  exact ⟨rfl, ⟨_, _, ht.1⟩, ht.2⟩
theorem tput3_any (h : Tab3 Z w g xs) (k : Int) (v : ByteArray) (hl : xs.length ≤ 10000) :
    Calls Try.prog 30 #[.pointer (some ⟨g, 0, none⟩), vI k, vS v] w (Turned3 Z w g (.bool (got xs k).isSome) (ins xs k v)) := by
  cases e : got xs k with
  | none => exact put3_new h k v hl e
  | some u => exact put3_had h k v hl e


theorem len3_any (h : Tab3 Z w g xs) : Calls Try.prog 32 #[.pointer (some ⟨g, 0, none⟩)] w (fun e w' => e = .returned (.int .i64 xs.length) ∧ w = w') := by
  obtain ⟨A, t, h⟩ := h
  have c1 := h.c1
  go_enter Try.func32, Try.ntmps32
  go_wp2
  go_ret
  exact ⟨rfl, rfl⟩
end
end Go.Proofs.Ytogeifnkjckaiaa
