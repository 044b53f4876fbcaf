/- What the program answers on whether fields are apart: 'field.Apart', for any fields (at most 1000); nothing that was there changes. -/
import Derived.RangeFuncNested
import Derived.RangeFuncBound
import Derived.RangeFuncCalls
import Derived.RangeFuncLeaves
import Derived.Shelf.Abstract
import Derived.Shelf.RegionOpen
import Derived.WalkKit
import Derived.OwnWalkIn
import Derived.TacticsInMore
import Derived.LoopNIn
import Derived.LoopIn
import Derived.Lib.Hide
import Derived.Test.YtoffliekebpmlaaLow
namespace Go.Proofs.Ytoffliekebpmlaa
open Go.RowKit Go.Shelf
attribute [local go_sem] Oper.semAt_some

/-- what a round of the loop keeps: all below n0, and all cells -/
structure KC (n0 : Nat) (A W : World) : Prop where
  below : Below n0 A W
  cells : ∀ (k : Nat) (cs : Array Value) (t : TypeId) (fr : Nat × Nat), A.heap[k]? = some (.cells cs t fr) → W.heap[k]? = some (.cells cs t fr)
theorem KC.refl (n0 : Nat) (A : World) : KC n0 A A := ⟨Below.refl _ _, fun _ _ _ _ h => h⟩
theorem KC.trans {n0 : Nat} {A W V : World} (h : KC n0 A W) (k : KC n0 W V) : KC n0 A V := ⟨h.below.trans k.below, fun i _ _ _ hi => k.cells i _ _ _ (h.cells i _ _ _ hi)⟩
theorem KC.of_below {n0 : Nat} {A W : World} (hn : n0 ≤ A.heap.size) (h : Below A.heap.size A W) : KC n0 A W :=
  ⟨h.mono hn, fun k _ _ _ hk => (h.block k (Array.getElem?_eq_some_iff.1 hk).1).trans hk⟩
theorem KC.putObj {n0 : Nat} {w : World} (hn : n0 ≤ w.heap.size) (W : World) (l : Nat) (o o' : Obj) (hl : w.heap.size ≤ l) (h : W.heap[l]? = some o) (ho : o.isCells = false) (hw : o.isWalk = false) : KC n0 W (W.putObj l o') :=
  ⟨belowK_b hn W l o o' hl h ho hw, fun k _ _ _ hk => (World.putObj_heap_other (fun e => by subst e; rw [h] at hk; cases hk; cases ho)).trans hk⟩

theorem others_of_below {A W : World} (h : Below A.heap.size A W) : KeepsOthers A W :=
  ⟨h.size, fun k _ hk _ => (h.block k (Array.getElem?_eq_some_iff.1 hk).1).trans hk⟩
/-- block b is a box with the field f in it -/
def FBox (W : World) (b : Nat) (x y : Int) : Prop := W.heap[b]? = some (.cells #[.int .i64 x, .int .i64 y] 23 (0, 0))
theorem FBox.new (W : World) (x y : Int) : FBox (W.alloc (.cells #[.int .i64 x, .int .i64 y] 23)) W.heap.size x y := World.alloc_heap_new W _
theorem FBox.lt {W : World} {b : Nat} {x y : Int} (h : FBox W b x y) : b < W.heap.size := (Array.getElem?_eq_some_iff.1 h).1
theorem FBox.cell0 {W : World} {b : Nat} {x y : Int} (h : FBox W b x y) : W.cell? ⟨b, 0, none⟩ = some (.int .i64 x) := by simp [World.cell?, show W.heap[b]? = _ from h]
theorem FBox.cell1 {W : World} {b : Nat} {x y : Int} (h : FBox W b x y) : W.cell? ⟨b, 1, none⟩ = some (.int .i64 y) := by simp [World.cell?, show W.heap[b]? = _ from h]
theorem FBox.keep {n0 : Nat} {A W : World} {b : Nat} {x y : Int} (h : FBox A b x y) (k : KC n0 A W) : FBox W b x y := k.cells _ _ _ _ h
theorem FBox.alloc {W : World} {b : Nat} {x y : Int} (h : FBox W b x y) (o : Obj) : FBox (W.alloc o) b x y := (Below.heap_alloc W o b h.lt).trans h
theorem FBox.own {β : Type} (b : Nat) (x y : Int) : Own (fun (_ : β) W => FBox W b x y) := fun s X Y row hs hg hrow =>
  (hg.block b hs.lt (fun e' => by obtain ⟨o, ho, hc⟩ := hrow b e'.symm; rw [show X.heap[b]? = _ from hs] at ho; cases ho; cases hc)).trans hs

abbrev fv (f : Int × Int) : Value := .agg #[.int .i64 f.1, .int .i64 f.2]
abbrev Pr := (Int × Int) × (Int × Int)
/-- p is two of the fields, in their order -/
def IsPair (fs : List (Int × Int)) (p : Pr) : Prop := ∃ (j i : Nat), j < i ∧ fs[j]? = some p.1 ∧ fs[i]? = some p.2
/-- all pairs up to the i-th field's first j -/
def AllTo (fs : List (Int × Int)) (i j : Nat) (pre : List Pr) : Prop :=
  (∀ p ∈ pre, IsPair fs p) ∧ pre.length ≤ i * fs.length + j ∧ ∀ (j' i' : Nat) f g, j' < i' → (i' < i ∨ (i' = i ∧ j' < j)) → fs[j']? = some f → fs[i']? = some g → (f, g) ∈ pre

theorem AllTo.step {fs : List (Int × Int)} {i j : Nat} {pre : List Pr} {f g : Int × Int} (h : AllTo fs i j pre) (hf : fs[j]? = some f) (hg : fs[i]? = some g) (hji : j < i) : AllTo fs i (j + 1) (pre ++ [(f, g)]) := by
  obtain ⟨h1, h2, h3⟩ := h
  refine ⟨fun p hp => ?_, by simp; omega, fun j' i' f' g' a b c d => ?_⟩
  · rcases List.mem_append.1 hp with hp | hp
    · exact h1 p hp
    · obtain rfl : p = (f, g) := by simpa using hp
      exact ⟨j, i, hji, hf, hg⟩
  · by_cases e : i' = i ∧ j' = j
    · obtain ⟨rfl, rfl⟩ := e
      rw [hf] at c; rw [hg] at d
      cases c; cases d
      simp
    · exact List.mem_append.2 (.inl (h3 j' i' f' g' a (by omega) c d))
theorem AllTo.next {fs : List (Int × Int)} {i : Nat} {pre : List Pr} (h : AllTo fs i i pre) (hi : i < fs.length) : AllTo fs (i + 1) 0 pre :=
  ⟨h.1, by have := h.2.1; rw [Nat.add_mul]; omega, fun j' i' f g a b c d => h.2.2 j' i' f g a (by omega) c d⟩

set_option maxRecDepth 100000 in
set_option maxHeartbeats 2000000 in
theorem pairs1_in (F : Fence) (n : Nat) (h31 : F.fn 31) (hro : F.round = none) (hn : 1 ≤ n) (l Bs n0 b off c : Nat) (fs : List (Int × Int)) (hlen : fs.length ≤ 1000) (hcap : fs.length ≤ c) (hb : b < n0) (hBn : Bs < n0) (J Jx : List Pr → World → Prop)
    (hY : ∀ pre x W, J pre W → pre.length < fs.length * fs.length → YieldAt F (n - 1) Try.prog l #[fv x.1, fv x.2] W fun e W' =>
      (e = .returned (.bool true) ∧ J (pre ++ [x]) W' ∧ KC n0 W W') ∨ (e = .returned (.bool false) ∧ Jx (pre ++ [x]) W'))
    (W : World) (hJ : AbidesFrom W.heap.size J) (hn0 : n0 ≤ W.heap.size) (hBs : W.cell? ⟨Bs, 0, none⟩ = some (.slice (some ⟨b, off, none⟩) fs.length c)) (hc : FC W b off fs) (h0 : J [] W) :
    CallsIn F n Try.prog 31 #[.func (.yield l) #[] #[], .pointer (some ⟨Bs, 0, none⟩)] W fun e W' => (∃ v, e = .returned v) ∧
      ((∃ ys, AllTo fs fs.length 0 ys ∧ J ys W') ∨ (∃ pre, (∀ p ∈ pre, IsPair fs p) ∧ Jx pre W')) := by
  refine callsIn_of_wp Try.func31 rfl h31 ?_ hro
  simp only [Try.ntmps31, List.size_toArray, List.length_cons, List.length_nil, Nat.reduceAdd, Nat.reduceSub, Array.replicate_succ, Array.replicate_zero, List.push_toArray, List.append_toArray, List.nil_append, List.cons_append]
  gi_wp2
  gi_loopw [9] (fun i wr => ∃ (k : Nat) (pre : List Pr), k ≤ fs.length ∧ i = .int .i64 k ∧ AllTo fs k 0 pre ∧ J pre wr ∧ Below n0 W wr)
    (fun i _ => fs.length - (intOf i).toNat)
  case atStart => exact ⟨0, [], Nat.zero_le _, rfl, ⟨by simp, by simp, fun j' i' f g h1 h2 => by omega⟩, h0, Below.refl _ _⟩
  case round =>
    obtain ⟨k, pre, hk, rfl, hA, hJs, hB⟩ := hrel
    have HA := Lib.hid hA
    clear hA
    by_cases hlt : k < fs.length
    · obtain ⟨x, y, hxy⟩ := at_some hlt
      obtain ⟨hc1, hc2⟩ := hc.below hb hB k x y hxy
      have Hxy := Lib.hid hxy
      clear hxy
      have hS := (hB.cell (p := ⟨Bs, 0, none⟩) hBn).trans hBs
      have hsz := hB.size
      have hcap' : (fs.length : Int) ≤ c := by omega
      have hS2 : (wr.alloc (.cells #[.int .i64 x, .int .i64 y] 23)).cell? ⟨Bs, 0, none⟩ = some (.slice (some ⟨b, off, none⟩) fs.length c) := by
        rw [World.cell?_alloc_lt _ _ _ (by show Bs < _; omega)]; exact hS
      have hJ1 : J pre (wr.alloc (.cells #[.int .i64 x, .int .i64 y] 23)) := hJ _ _ _ none hJs (World.grownBy_alloc wr _ none) (fun r e => by cases e)
      have hB1 : Below n0 W (wr.alloc (.cells #[.int .i64 x, .int .i64 y] 23)) := hB.alloc (by omega) _
      have hX := FBox.new wr x y
      gi_wp2
      obtain ⟨Bb, hBb⟩ : ∃ Bb, Bb = wr.heap.size := ⟨_, rfl⟩
      obtain ⟨wo, hwo⟩ : ∃ wo, wo = wr.alloc (.cells #[.int .i64 x, .int .i64 y] 23) := ⟨_, rfl⟩
      rw [← hBb, ← hwo] at hX
      rw [← hwo] at hJ1 hB1
      rw [← hBb, ← hwo]
      clear hwo hS2 hc1 hc2 hS hBb
      gi_loopw [18] (fun i wr => ∃ (j : Nat) (pre' : List Pr), j ≤ k ∧ i = .int .i64 j ∧ AllTo fs k j pre' ∧ J pre' wr ∧ Below n0 W wr ∧ FBox wr Bb x y)
        (fun i _ => k - (intOf i).toNat)
      case atStart => exact ⟨0, pre, Nat.zero_le _, rfl, HA.out, hJ1, hB1, hX⟩
      case round =>
        obtain ⟨j, pre', hjk, rfl, hA2, hJ2, hB2, hX2⟩ := hrel
        have HA2 := Lib.hid hA2
        clear hA2
        by_cases hlt2 : j < k
        · obtain ⟨x2, y2, hxy2⟩ := at_some (k := j) (fs := fs) (by omega)
          obtain ⟨hd1, hd2⟩ := hc.below hb hB2 j x2 y2 hxy2
          have Hxy2 := Lib.hid hxy2
          clear hxy2
          have hsz2 := hB2.size
          have hJ3 : J pre' (wr.alloc (.cells #[.int .i64 x2, .int .i64 y2] 23)) := hJ _ _ _ none hJ2 (World.grownBy_alloc wr _ none) (fun r e => by cases e)
          have hX3 := hX2.alloc (.cells #[.int .i64 x2, .int .i64 y2] 23)
          obtain ⟨fn, tmps, assign, body, hy, hR⟩ := hY pre' ((x2, y2), (x, y)) _ hJ3 (by have := HA2.out.2.1; have := Nat.mul_le_mul_right fs.length (show k + 1 ≤ fs.length by omega); rw [Nat.add_mul] at this; omega)
          dsimp only [fv] at hy
          have hx0 := hX3.cell0
          have hx1 := hX3.cell1
          gi_wp2
          refine hR.mono ?_
          rintro e W3 (⟨rfl, hJ4, hk4⟩ | ⟨rfl, hJx4⟩)
          · gi_wp2
            go_roundw
            case rel => exact ⟨j + 1, pre' ++ [((x2, y2), (x, y))], by omega, by go_num, HA2.out.step Hxy2.out Hxy.out hlt2, hJ4, (hB2.alloc (Nat.le_trans hn0 hsz2) _).trans hk4.below, hX3.keep hk4⟩
            case measure => simp [intOf]; omega
          · gi_wp2
            refine bodyPost_ret (results_none rfl _ _ _) rfl ?_
            exact ⟨⟨_, rfl⟩, .inr ⟨pre' ++ [((x2, y2), (x, y))], (HA2.out.step Hxy2.out Hxy.out hlt2).1, hJx4⟩⟩
        · obtain rfl : j = k := by omega
          gi_wp2
          go_roundw
          case rel => exact ⟨j + 1, pre', by omega, by go_num, HA2.out.next hlt, hJ2, hB2⟩
          case measure => simp [intOf]; omega
    · obtain rfl : k = fs.length := by omega
      gi_wp2
      go_end0
      exact ⟨⟨_, rfl⟩, .inl ⟨pre, HA.out, hJs⟩⟩

set_option maxRecDepth 100000 in
set_option maxHeartbeats 1000000 in
theorem pairs1_nil_in (F : Fence) (n : Nat) (h31 : F.fn 31) (hro : F.round = none) (l Bs c : Nat) (A : Option Addr) (J : List Pr → World → Prop) (W : World)
    (hBs : W.cell? ⟨Bs, 0, none⟩ = some (.slice A 0 c)) (h0 : J [] W) :
    CallsIn F n Try.prog 31 #[.func (.yield l) #[] #[], .pointer (some ⟨Bs, 0, none⟩)] W fun e W' => (∃ v, e = .returned v) ∧ J [] W' := by
  refine callsIn_of_wp Try.func31 rfl h31 ?_ hro
  simp only [Try.ntmps31, List.size_toArray, List.length_cons, List.length_nil, Nat.reduceAdd, Nat.reduceSub, Array.replicate_succ, Array.replicate_zero, List.push_toArray, List.append_toArray, List.nil_append, List.cons_append]
  gi_wp2
  gi_loopw [9] (fun i wr => i = .int .i64 0 ∧ J [] wr) (fun _ _ => 0)
  case atStart => exact ⟨rfl, h0⟩
  case round =>
    obtain ⟨rfl, hJs⟩ := hrel
    gi_wp2
    go_end0
    exact ⟨⟨_, rfl⟩, hJs⟩

set_option maxHeartbeats 1000000 in
theorem pairs_in (F : Fence) (n : Nat) (h30 : F.fn 30) (hro : F.round = none) (A : Option Addr) (len cap : Nat) (w : World) :
    CallsIn F n Try.prog 30 #[.slice A len cap] w fun e w' => e = .returned (.func (.func 31) #[] #[.pointer (some ⟨w.heap.size, 0, none⟩)]) ∧ w' = w.alloc (.cells #[.slice A len cap] 30) := by
  refine callsIn_of_wp Try.func30 rfl h30 ?_ hro
  simp only [Try.ntmps30, List.size_toArray, List.length_cons, List.length_nil, Nat.reduceAdd, Nat.reduceSub, Array.replicate_succ, Array.replicate_zero, List.push_toArray, List.append_toArray, List.nil_append, List.cons_append]
  gi_wp2
  go_ret
  exact ⟨rfl, rfl⟩

theorem pairs_stops (F : Fence) (n : Nat) (h31 : F.fn 31) (hro : F.round = none) (hn : 1 ≤ n) (Bs n0 len c : Nat) (A : Option Addr) (fs : List (Int × Int)) (hlen : fs.length = len) (hl : len ≤ 1000) (hcap : len ≤ c) (w : World) (hBn : Bs < n0) (hn0 : n0 ≤ w.heap.size)
    (hBs : w.cell? ⟨Bs, 0, none⟩ = some (.slice A len c)) (hS : Fds w n0 A fs) :
    SeqStopsK F n Try.prog 31 #[.pointer (some ⟨Bs, 0, none⟩)] (fun x : Pr => #[fv x.1, fv x.2]) (KC n0) (AllTo fs fs.length 0) (fun pre => ∀ p ∈ pre, IsPair fs p) (fs.length * fs.length) w := fun l J Jx W hW hJ _ hY h0 => by
  subst hlen
  have hc' := (hW.cell (p := ⟨Bs, 0, none⟩) (show Bs < _ by omega)).trans hBs
  rcases hS with rfl | ⟨b, off, rfl, h2, h3⟩
  · exact (pairs1_nil_in F n h31 hro l Bs c A J W hc' h0).mono fun e W' ⟨he, hj⟩ => ⟨he, .inl ⟨[], ⟨by simp, by simp, fun _ _ _ _ _ _ h => by simp at h⟩, hj⟩⟩
  · exact pairs1_in F n h31 hro hn l Bs n0 b off c fs hl hcap h2 hBn J Jx hY W hJ (Nat.le_trans hn0 hW.size) hc' (h3.below (n0 := w.heap.size) (by omega) hW) h0

def clashB (p : Pr) : Bool := !(bits .and .i64 (mskG p.1.1 p.1.2) (mskG p.2.1 p.2.2) == 0)
/-- no two of them, in their order, have a bit in common -/
def NoClash (fs : List (Int × Int)) : Prop := ∀ p, IsPair fs p → clashB p = false
def apartB (fs : List (Int × Int)) : Bool := rightsB fs && decide (fs.Pairwise fun f g => clashB (f, g) = false)
theorem noClash_iff {fs : List (Int × Int)} : NoClash fs ↔ fs.Pairwise fun f g => clashB (f, g) = false := by
  rw [List.pairwise_iff_getElem]
  constructor
  · intro h i j hi hj hij
    exact h (fs[i], fs[j]) ⟨i, j, hij, by simp [hi], by simp [hj]⟩
  · rintro h ⟨f, g⟩ ⟨j, i, hji, hf, hg⟩
    obtain ⟨hj, rfl⟩ := List.getElem?_eq_some_iff.1 hf
    obtain ⟨hi, rfl⟩ := List.getElem?_eq_some_iff.1 hg
    exact h j i hj hi hji
theorem apartB_of {fs : List (Int × Int)} (h : rightsB fs = true) (h2 : NoClash fs) : apartB fs = true := by
  rw [apartB, h, Bool.true_and, decide_eq_true_eq]; exact noClash_iff.1 h2
theorem apartB_clash {fs : List (Int × Int)} {p : Pr} (h : IsPair fs p) (h2 : clashB p = true) : apartB fs = false := by
  rw [apartB, Bool.and_eq_false_iff]
  right
  rw [decide_eq_false_iff_not]
  intro hp
  have := noClash_iff.2 hp p h
  rw [h2] at this
  cases this
theorem rights_pair {fs : List (Int × Int)} {p : Pr} (h : rightsB fs = true) (h2 : IsPair fs p) : rightB p.1.1 p.1.2 = true ∧ rightB p.2.1 p.2.2 = true := by
  obtain ⟨j, i, _, hf, hg⟩ := h2
  rw [rightsB, List.all_eq_true] at h
  exact ⟨h _ (List.mem_of_getElem? hf), h _ (List.mem_of_getElem? hg)⟩

set_option maxRecDepth 100000 in
set_option maxHeartbeats 2000000 in
theorem apart_yes (A : Option Addr) (n c : Nat) (fs : List (Int × Int)) (w : World) (hn : fs.length = n) (hl : n ≤ 1000) (hcap : n ≤ c) (hS : Fds w w.heap.size A fs) (hr : rightsB fs = true) :
    Calls Try.prog 22 #[.slice A n c] w fun e w' => e = .returned (.bool (apartB fs)) ∧ Below w.heap.size w w' := by
  have Hr := Lib.hid hr
  clear hr
  refine (callsIn_wide (n := 6)).1 ?_
  refine callsIn_of_wp_marks Try.func22 rfl trivial ?_ rfl
  simp only [Try.ntmps22, List.size_toArray, List.length_cons, List.length_nil, Nat.reduceAdd, Nat.reduceSub, Array.replicate_succ, Array.replicate_zero, List.push_toArray, List.append_toArray, List.nil_append, List.cons_append]
  have hS1 : Fds (w.alloc (.cells #[.bool false] 4)) (w.alloc (.cells #[.bool false] 4)).heap.size A fs := (hS.below ((Below.refl _ w).alloc (Nat.le_refl _) _)).more (by simp)
  gi_wp2_with (first
    | (refine ⟨trivial, ?_⟩; gi_at_call 29; refine (callsIn_wide.2 (allRight_any A n c fs _ hn hl hS1)).mono ?_; rintro e w1 ⟨rfl, hb1⟩; rw [Hr.out])
    | (refine ⟨trivial, ?_⟩; gi_at_call 30; refine (pairs_in Fence.wide _ trivial rfl A n c _).mono ?_; rintro e w2 ⟨rfl, rfl⟩))
  have bR : Boxed (w1.alloc (.cells #[.slice A n c] 30)) w.heap.size 4 (.bool false) :=
    Boxed.alloc ((hb1.block w.heap.size (by simp)).trans (Boxed.new w 4 (.bool false))) _
  have bS := Boxed.new w1 30 (.slice A n c)
  have hz1 : w.heap.size < w1.heap.size := by (have := hb1.size; simp at this; omega)
  have hB0 : Below w.heap.size w (w1.alloc (.cells #[.slice A n c] 30)) := (((Below.refl _ w).alloc (Nat.le_refl _) _).trans (hb1.mono (by simp))).alloc (by omega) _
  have hsz : (w1.alloc (.cells #[.slice A n c] 30)).heap.size = w1.heap.size + 1 := by simp
  obtain ⟨W0, hW0⟩ : ∃ W0, w1.alloc (.cells #[.slice A n c] 30) = W0 := ⟨_, rfl⟩
  rw [hW0] at bR bS hB0 hsz ⊢
  have hS0 : Fds W0 W0.heap.size A fs := (hS.below hB0).more (by omega)
  clear hW0 hS1
  refine wpIn_rangeFunc_ownH rfl (by omega) (gf := 31) (lb := #[.pointer (some ⟨w1.heap.size, 0, none⟩)]) rfl trivial (enters_of Try.func31 (by kernel_rfl) rfl)
    (pairs_stops Fence.wide 5 trivial rfl (by omega) w1.heap.size W0.heap.size n c A fs hn hl hcap W0 (by omega) (Nat.le_refl _) bS.cell hS0) KC.trans (KC.putObj (Nat.le_refl _)) (Below.refl _ _) (fun _ => rfl)
    (fun pre W => (((∀ p ∈ pre, clashB p = false) ∧ Boxed W w.heap.size 4 (.bool false)) ∧ W0.heap.size ≤ W.heap.size) ∧ Below w.heap.size w W)
    (fun c pre W => ((c = .ret ∧ ∃ p ∈ pre, clashB p = true) ∧ Boxed W w.heap.size 4 (.bool false)) ∧ Below w.heap.size w W)
    (OwnFrom.and (OwnFrom.and (OwnFrom.and (ownFrom_pure _ _) (Own.from (boxed_own _ _ _) _)) (fun _ _ _ _ hs hg _ => Nat.le_trans hs hg.size)) (ownFrom_below (Nat.le_refl _) (by omega)))
    (fun c => OwnFrom.and (OwnFrom.and (ownFrom_pure _ _) (Own.from (boxed_own _ _ _) _)) (ownFrom_below (Nat.le_refl _) (by omega)))
    ⟨⟨⟨by simp, bR⟩, Nat.le_refl _⟩, hB0⟩
    (fun x a' W => ∃ Bx By, w.heap.size < Bx ∧ w.heap.size < By ∧ FBox W Bx x.1.1 x.1.2 ∧ FBox W By x.2.1 x.2.2 ∧ a' = { tmps := #[.slice A n c, undef, .pointer (some ⟨w.heap.size, 0, none⟩), .pointer (some ⟨Bx, 0, none⟩), .pointer (some ⟨By, 0, none⟩), .slice A n c, .bool true, .bool false, .slice A n c,
      .func (.func 31) #[] #[.pointer (some ⟨w1.heap.size, 0, none⟩)], fv x.1, fv x.2, undef, undef, undef, undef, undef, undef], defers := [] })
    (fun x a' _ X Y row hs hg hr => by
      obtain ⟨Bx, By, e1, e2, e3, e4, e5⟩ := hs
      exact ⟨Bx, By, e1, e2, FBox.own Bx _ _ () X Y row e3 hg (fun r e => (hr r e).2), FBox.own By _ _ () X Y row e4 hg (fun r e => (hr r e).2), e5⟩)
    ?assign ?body ?done ?stop
  case assign =>
    rintro l pre x W K ⟨⟨⟨hp, bR1⟩, hsW⟩, hB1⟩ hK
    have hs1 := hB1.size
    gi_wp2
    exact hK _ _ (((KeepsOthers.alloc _ _).trans (KeepsOthers.alloc _ _)).from _) (KC.of_below hsW (((Below.refl _ W).alloc (Nat.le_refl _) _).alloc (by simp) _))
      ⟨⟨⟨hp, (bR1.alloc _).alloc _⟩, by simp; omega⟩, (hB1.alloc hs1 _).alloc (by simp; omega) _⟩
      ⟨W.heap.size, W.heap.size + 1, by omega, by omega, (FBox.new W _ _).alloc _, by (have := FBox.new (W.alloc (.cells #[.int .i64 x.1.1, .int .i64 x.1.2] 23)) x.2.1 x.2.2; simpa using this), rfl⟩
  case body =>
    rintro l pre x a' W hl2 ⟨r, hr⟩ ⟨⟨⟨hp, bR1⟩, hsW⟩, hB1⟩ ⟨Bx, By, h1, h2, bX, bY, rfl⟩ hlt
    have x0 := bX.cell0
    have x1 := bX.cell1
    have y0 := bY.cell0
    have y1 := bY.cell1
    have lx := bX.lt
    have ly := bY.lt
    have lr := bR1.lt
    have cR := bR1.cell
    have fR := bR1.frozen
    have hmx : Try.prog.follows .mixedOrders = true := by kernel_rfl
    have hd : (1 : Nat) ≤ 6 - 1 - 1 := by omega
    gi_wp2
    have hB0' : Below W.heap.size W W.drew := (Below.refl _ _).drew
    have hf28 : Fence.wide.fn 28 := trivial
    gi_region_with_o (gi_at_call 28; refine (CallsIn.inRound l (callsIn_wide.2 (mask_gen _ _ _))).mono ?_; rintro e w3 ⟨rfl, hb⟩; obtain ⟨hbc, hbf, hz, hB⟩ := bstep (w0 := W) (by assumption) hb; clear hb; (try simp at hbc); (try simp at hbf); (try simp at hz); have hzx : Bx < w3.heap.size := (by omega); have hzy : By < w3.heap.size := (by omega); have hzr : w.heap.size < w3.heap.size := (by omega))
    all_goals
      have bR3 : Boxed w3 w.heap.size 4 (.bool false) := (hB.block _ lr).trans bR1
      have cR3 := bR3.cell
      have fR3 := bR3.frozen
      have hB3 : Below w.heap.size w w3 := hB1.trans (hB.mono hB1.size)
      gi_wp2
      · have ht : (bits BinOp.and IntKind.i64 (mskG x.1.1 x.1.2) (mskG x.2.1 x.2.2) != 0) = true := by assumption
        exact ⟨((others_of_below hB).trans (KeepsOthers.setCell _ _ _)).from _, ⟨⟨rfl, x, by simp, by simpa [clashB] using ht⟩, bR3.set _⟩, hB3.setCell (p := ⟨w.heap.size, 0, none⟩) (Nat.le_refl _) _⟩
      · have ht : (bits BinOp.and IntKind.i64 (mskG x.1.1 x.1.2) (mskG x.2.1 x.2.2) != 0) = false := by assumption
        refine ⟨(others_of_below hB).from _, KC.of_below hsW hB, ⟨⟨fun p hp' => (List.mem_append.1 hp').elim (hp p) (fun e => ?_), bR3⟩, Nat.le_trans hsW hB.size⟩, hB3⟩
        obtain rfl : p = x := by simpa using e
        simpa [clashB] using ht
  case done =>
    rintro D ys W hD hA ⟨⟨⟨hp, bR1⟩, hsW⟩, hB1⟩ hK
    have cR := bR1.cell
    have fR := bR1.frozen
    gi_wp2
    have hK' := (KeepsOthers.setCell W ⟨w.heap.size, 0, none⟩ (.bool true)).same D _ hK rfl
    refine ⟨by simp, .inl ⟨_, _, rfl, run_takeDeferred hK', ?_⟩⟩
    have hc5 := cell_kept (bR1.set (.bool true)).cell (grownBy_putObj' _ D (.deferred none)) (fun r e => by cases e; exact ⟨_, hK', rfl⟩)
    have hap : apartB fs = true := apartB_of Hr.out (fun p ⟨j, i, h1, h2, h3⟩ => hp p (hA.2.2 j i p.1 p.2 h1 (by have := (List.getElem?_eq_some_iff.1 h3).1; omega) h2 h3))
    refine ⟨.bool true, ?_, by rw [hap], (hB1.setCell (p := ⟨w.heap.size, 0, none⟩) (Nat.le_refl _) _).trans (belowK_b (w := w) (Nat.le_refl _) _ D _ _ (by omega) hK' rfl rfl)⟩
    simp [results, Try.f22, go_sem, hc5]
  case stop =>
    rintro D c' pre W hD hpre ⟨⟨⟨rfl, x, hx, hcl⟩, bR1⟩, hB1⟩ hK
    gi_wp2
    refine ⟨by simp, .inl ⟨_, _, rfl, run_takeDeferred hK, ?_⟩⟩
    have hc5 := cell_kept bR1.cell (grownBy_putObj' _ D (.deferred none)) (fun r e => by cases e; exact ⟨_, hK, rfl⟩)
    have hap : apartB fs = false := apartB_clash (hpre x hx) hcl
    refine ⟨.bool false, ?_, by rw [hap], hB1.trans (belowK_b (w := w) (Nat.le_refl _) _ D _ _ (by omega) hK rfl rfl)⟩
    simp [results, Try.f22, go_sem, hc5]

set_option maxRecDepth 100000 in
set_option maxHeartbeats 2000000 in
theorem apart_no (A : Option Addr) (n c : Nat) (fs : List (Int × Int)) (w : World) (hn : fs.length = n) (hl : n ≤ 1000) (hS : Fds w w.heap.size A fs) (hr : rightsB fs = false) :
    Calls Try.prog 22 #[.slice A n c] w fun e w' => e = .returned (.bool (apartB fs)) ∧ Below w.heap.size w w' := by
  have hap : apartB fs = false := by rw [apartB, hr]; rfl
  have Hr := Lib.hid hr
  have Hap := Lib.hid hap
  clear hr hap
  have hS1 : Fds (w.alloc (.cells #[.bool false] 4)) (w.alloc (.cells #[.bool false] 4)).heap.size A fs := (hS.below ((Below.refl _ w).alloc (Nat.le_refl _) _)).more (by simp)
  refine (callsIn_wide (n := 6)).1 ?_
  refine callsIn_of_wp_marks Try.func22 rfl trivial ?_ rfl
  simp only [Try.ntmps22, List.size_toArray, List.length_cons, List.length_nil, Nat.reduceAdd, Nat.reduceSub, Array.replicate_succ, Array.replicate_zero, List.push_toArray, List.append_toArray, List.nil_append, List.cons_append]
  gi_wp2_with (refine ⟨trivial, ?_⟩; gi_at_call 29; refine (callsIn_wide.2 (allRight_any A n c fs _ hn hl hS1)).mono ?_; rintro e w1 ⟨rfl, hb1⟩; rw [Hr.out]; have bR1 : Boxed w1 w.heap.size 4 (.bool false) := (hb1.block w.heap.size (by simp)).trans (Boxed.new w 4 (.bool false)); have cR := bR1.cell; have fR := bR1.frozen)
  refine ⟨.bool false, ?_, by rw [Hap.out], (((Below.refl _ w).alloc (Nat.le_refl _) _).trans (hb1.mono (by simp))).setCell (p := ⟨w.heap.size, 0, none⟩) (Nat.le_refl _) _⟩
  have hc5 := (bR1.set (.bool false)).cell
  simp [results, Try.f22, go_sem, hc5]
theorem apart_any (A : Option Addr) (n c : Nat) (fs : List (Int × Int)) (w : World) (hn : fs.length = n) (hl : n ≤ 1000) (hcap : n ≤ c) (hS : Fds w w.heap.size A fs) :
    Calls Try.prog 22 #[.slice A n c] w fun e w' => e = .returned (.bool (apartB fs)) ∧ Below w.heap.size w w' := by
  cases hr : rightsB fs with
  | true => exact apart_yes A n c fs w hn hl hcap hS hr
  | false => exact apart_no A n c fs w hn hl hS hr
end Go.Proofs.Ytoffliekebpmlaa
