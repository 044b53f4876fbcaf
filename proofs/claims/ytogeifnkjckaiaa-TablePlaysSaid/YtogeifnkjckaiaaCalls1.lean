/- What a table's calls tell and leave (of numbers by numbers). -/
import Derived.Test.YtogeifnkjckaiaaDo1
import Derived.Test.YtogeifnkjckaiaaTab
namespace Go.Proofs.Ytogeifnkjckaiaa
open Go.RowKit
attribute [local go_sem ↓] Go.wp_at_zero Go.wp_at_succ

abbrev Tab1 (Z : List Nat) (w : World) (g : Nat) (xs : List (Int × Int)) : Prop := Tab vI vI Z w g xs
abbrev Turned1 (Z : List Nat) (w : World) (g : Nat) (r : Value) (xs : List (Int × Int)) : Ending → World → Prop := Turned vI vI Z w g r xs
def RetNew1 (w : World) (e : Ending) (w' : World) : Prop := e = .returned (.pointer (some ⟨w.heap.size, 0, none⟩)) ∧ Tab1 [w.heap.size] w' w.heap.size [] ∧ Below w.heap.size w w' ∧ w'.heap.size = w.heap.size + 1
theorem new1_any (w : World) : Calls Try.prog 10 #[] w (RetNew1 w) := by
  go_enter Try.func10, Try.ntmps10
  go_wp2
  go_ret
  exact ⟨rfl, tab_new _ _, bnew _ _, by simp⟩

section
variable {Z : List Nat} {w : World} {g : Nat} {xs : List (Int × Int)}
set_option maxHeartbeats 400000 in
theorem put1_new (h : Tab1 Z w g xs) (k : Int) (v : Int) (hl : xs.length ≤ 10000) (hk : got xs k = none) :
    Calls Try.prog 11 #[.pointer (some ⟨g, 0, none⟩), vI k, vI v] w (Turned1 Z w g (.bool false) (ins xs k v)) := by
  obtain ⟨A, t, h⟩ := h
  have c0 := h.c0
  have c1 := h.c1
  have f0 := h.fz 0
  have f1 := h.fz 1
  have hlg := h.zl g h.gz
  have hr2 : Rises t.toL := by rw [h.tl]; exact h.rs
  have e1 := find1_any A t k w h.tr
  rw [look_eq t k hr2, h.tl, hk] at e1
  have e2 := put1_any t k v A w h.new h.tr (by rw [h.tl]; omega)
  have hrise : Rises (t.put k v).toL := by rw [toL_put t k v hr2]; exact ins_rises k v hr2
  have hx : (t.put k v).toL = ins xs k v := by rw [toL_put t k v hr2, h.tl]
  have hlen : (xs.length : Int) + 1 = ((t.put k v).toL.length : Int) := by rw [hx, ins_len, hk]; simp
  have H := Lib.hid (And.intro hrise (And.intro hx hlen))
  clear hrise hx hlen hr2 hk
  go_enter Try.func11, Try.ntmps11
  go_wp2_with (first
    | (go_at_call 33; refine e1.mono ?_; rintro e w1 ⟨A1, rfl, hA1, rfl⟩; obtain rfl := hA1)
    | (go_at_call 34; refine e2.mono ?_; rintro e w3 ⟨A3, rfl, hT3, hB3⟩; have d1 := (hB3.cell (p := ⟨g, 1, none⟩) hlg).trans c1; have d0 := (hB3.cell (p := ⟨g, 0, none⟩) hlg).trans c0; have g0 := (hB3.frozen (p := ⟨g, 0, none⟩) hlg).trans f0; have g1 := (hB3.frozen (p := ⟨g, 1, none⟩) hlg).trans f1))
  go_ret
  have ht := h.turn hB3 hT3 H.out.1 _ H.out.2.2
  rw [H.out.2.1] at ht
  exact ⟨rfl, ⟨_, _, ht.1⟩, ht.2⟩
set_option maxHeartbeats 400000 in
theorem put1_had (h : Tab1 Z w g xs) (k : Int) (v : Int) (hl : xs.length ≤ 10000) {u : Int} (hk : got xs k = some u) :
    Calls Try.prog 11 #[.pointer (some ⟨g, 0, none⟩), vI k, vI v] w (Turned1 Z w g (.bool true) (ins xs k v)) := by
  obtain ⟨A, t, h⟩ := h
  have c0 := h.c0
  have f0 := h.fz 0
  have hlg := h.zl g h.gz
  have hr2 : Rises t.toL := by rw [h.tl]; exact h.rs
  have e1 := find1_any A t k w h.tr
  rw [look_eq t k hr2, h.tl, hk] at e1
  have e2 := put1_any t k v A w h.new h.tr (by rw [h.tl]; omega)
  have hrise : Rises (t.put k v).toL := by rw [toL_put t k v hr2]; exact ins_rises k v hr2
  have hx : (t.put k v).toL = ins xs k v := by rw [toL_put t k v hr2, h.tl]
  have hlen : xs.length = (t.put k v).toL.length := by rw [hx, ins_len, hk]; simp
  have H := Lib.hid (And.intro hrise (And.intro hx hlen))
  clear hrise hx hlen hr2 hk
  go_enter Try.func11, Try.ntmps11
  go_wp2_with (first
    | (go_at_call 33; refine e1.mono ?_; rintro e w1 ⟨A1, rfl, ⟨bb, pp, rfl, hP⟩, rfl⟩)
    | (go_at_call 34; refine e2.mono ?_; rintro e w3 ⟨A3, rfl, hT3, hB3⟩; have d0 := (hB3.cell (p := ⟨g, 0, none⟩) hlg).trans c0; have g0 := (hB3.frozen (p := ⟨g, 0, none⟩) hlg).trans f0))
  go_ret
  have ht := h.turn1 hB3 hT3 H.out.1 H.out.2.2
  rw [H.out.2.1] at ht
  exact ⟨rfl, ⟨_, _, ht.1⟩, ht.2⟩
theorem tput1_any (h : Tab1 Z w g xs) (k : Int) (v : Int) (hl : xs.length ≤ 10000) :
    Calls Try.prog 11 #[.pointer (some ⟨g, 0, none⟩), vI k, vI v] w (Turned1 Z w g (.bool (got xs k).isSome) (ins xs k v)) := by
  cases e : got xs k with
  | none => exact put1_new h k v hl e
  | some u => exact put1_had h k v hl e
set_option maxHeartbeats 400000 in
theorem drop1_none (h : Tab1 Z w g xs) (k : Int) (hk : got xs k = none) :
    Calls Try.prog 15 #[.pointer (some ⟨g, 0, none⟩), vI k] w (Turned1 Z w g (.bool false) (del xs k)) := by
  have hd : del xs k = xs := by
    have := del_len (l := xs) k
    rw [hk] at this
    exact (del_sub xs k).eq_of_length (by simpa using this)
  rw [hd]
  obtain ⟨A, t, h⟩ := h
  have c0 := h.c0
  have hr2 : Rises t.toL := by rw [h.tl]; exact h.rs
  have e1 := find1_any A t k w h.tr
  rw [look_eq t k hr2, h.tl, hk] at e1
  clear hk hr2 hd
  go_enter Try.func15, Try.ntmps15
  go_wp2_with (first
    | (go_at_call 33; refine e1.mono ?_; rintro e w1 ⟨A1, rfl, hA1, rfl⟩; obtain rfl := hA1))
  go_ret
  exact ⟨rfl, ⟨_, _, h⟩, Sp.refl _ _⟩
set_option maxHeartbeats 400000 in
theorem drop1_had (h : Tab1 Z w g xs) (k : Int) (hl : xs.length ≤ 10000) {u : Int} (hk : got xs k = some u) :
    Calls Try.prog 15 #[.pointer (some ⟨g, 0, none⟩), vI k] w (Turned1 Z w g (.bool true) (del xs k)) := by
  obtain ⟨A, t, h⟩ := h
  have c0 := h.c0
  have c1 := h.c1
  have f0 := h.fz 0
  have f1 := h.fz 1
  have hlg := h.zl g h.gz
  have hr2 : Rises t.toL := by rw [h.tl]; exact h.rs
  have e1 := find1_any A t k w h.tr
  rw [look_eq t k hr2, h.tl, hk] at e1
  have e2 := drop1_any (E := fun k => k ∉ Z) t k A w h.new h.tr hr2 (by rw [h.tl]; omega) (by rw [look_eq t k hr2, h.tl, hk]; simp)
  have hrise : Rises (t.drop k).toL := by rw [toL_drop t k hr2]; exact del_rises k hr2
  have hx : (t.drop k).toL = del xs k := by rw [toL_drop t k hr2, h.tl]
  have hpos : 0 < xs.length := by
    cases xs with
    | nil => simp [got] at hk
    | cons _ _ => simp
  have hlen : (xs.length : Int) - 1 = ((t.drop k).toL.length : Int) := by rw [hx, del_len, hk]; simp; omega
  have H := Lib.hid (And.intro hrise (And.intro hx hlen))
  clear hrise hx hlen hr2 hk
  go_enter Try.func15, Try.ntmps15
  go_wp2_with (first
    | (go_at_call 33; refine e1.mono ?_; rintro e w1 ⟨A1, rfl, ⟨bb, pp, rfl, hP⟩, rfl⟩)
    | (go_at_call 36; refine e2.mono ?_; rintro e w3 ⟨A3, rfl, hT3, hB3⟩; have d1 := (hB3.cell (p := ⟨g, 1, none⟩) hlg).trans c1; have d0 := (hB3.cell (p := ⟨g, 0, none⟩) hlg).trans c0; have g0 := (hB3.frozen (p := ⟨g, 0, none⟩) hlg).trans f0; have g1 := (hB3.frozen (p := ⟨g, 1, none⟩) hlg).trans f1))
  go_ret
  have ht := h.turn hB3 hT3 H.out.1 _ H.out.2.2
  rw [H.out.2.1] at ht
  exact ⟨rfl, ⟨_, _, ht.1⟩, ht.2⟩
theorem tdrop1_any (h : Tab1 Z w g xs) (k : Int) (hl : xs.length ≤ 10000) :
    Calls Try.prog 15 #[.pointer (some ⟨g, 0, none⟩), vI k] w (Turned1 Z w g (.bool (got xs k).isSome) (del xs k)) := by
  cases e : got xs k with
  | none => exact drop1_none h k e
  | some u => exact drop1_had h k hl e
theorem get1_any (h : Tab1 Z w g xs) (k : Int) :
    Calls Try.prog 13 #[.pointer (some ⟨g, 0, none⟩), vI k] w (fun e w' => e = .returned (.tuple #[vI ((got xs k).getD (0 : Int)), .bool (got xs k).isSome]) ∧ w = w') := by
  obtain ⟨A, t, h⟩ := h
  have c0 := h.c0
  have hr2 : Rises t.toL := by rw [h.tl]; exact h.rs
  have e1 := find1_any A t k w h.tr
  rw [look_eq t k hr2, h.tl] at e1
  clear hr2
  cases e : got xs k with
  | none =>
    rw [e] at e1
    clear e
    go_enter Try.func13, Try.ntmps13
    go_wp2_with (first
      | (go_at_call 33; refine e1.mono ?_; rintro e w1 ⟨A1, rfl, hA1, rfl⟩; obtain rfl := hA1))
    go_ret2
    exact ⟨rfl, rfl⟩
  | some u =>
    rw [e] at e1
    clear e
    go_enter Try.func13, Try.ntmps13
    go_wp2_with (first
      | (go_at_call 33; refine e1.mono ?_; rintro e w1 ⟨A1, rfl, ⟨bb, pp, rfl, hP⟩, rfl⟩; have p0 := hP.c0; have p1 := hP.k1))
    go_ret2
    exact ⟨rfl, rfl⟩
theorem len1_any (h : Tab1 Z w g xs) : Calls Try.prog 17 #[.pointer (some ⟨g, 0, none⟩)] w (fun e w' => e = .returned (.int .i64 xs.length) ∧ w = w') := by
  obtain ⟨A, t, h⟩ := h
  have c1 := h.c1
  go_enter Try.func17, Try.ntmps17
  go_wp2
  go_ret
  exact ⟨rfl, rfl⟩
end
end Go.Proofs.Ytogeifnkjckaiaa
