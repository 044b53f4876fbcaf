/- The document's own table: pairs in any order, in a list behind a pointer. -/
import Derived.Test.YtogeifnkjckaiaaOwnP
import Derived.Test.YtogeifnkjckaiaaFill
import Derived.Laws.OwnMore
namespace Go.Proofs.Ytogeifnkjckaiaa
open Go.RowKit
attribute [local go_sem ↓] Go.wp_at_zero Go.wp_at_succ

/-- the list ps in block gr; R: the blocks that are its own -/
structure RefAt (R : Set') (w : World) (gr : Nat) (v : Value) (ps : IP) : Prop where
  rg : R gr
  rl : ∀ k, R k → k < w.heap.size
  box : Boxed w gr 29 v
  own : OwnP w 0 v ps
  rv : ∀ b, v.ownBlock = some b → R b
def RefT (R : Set') (w : World) (gr : Nat) (ps : IP) : Prop := ∃ v, RefAt R w gr v ps
theorem RefAt.form {R : Set'} {w : World} {gr : Nat} {v : Value} {ps : IP} (h : RefAt R w gr v ps) : ∃ A c, v = .slice A ps.length c ∧ PS w w.heap.size A ps ∧ ps.length ≤ c := by
  obtain ⟨A, c, e⟩ := own_form h.own
  have h2 := h.own
  rw [e] at h2
  obtain ⟨h3, _, h4⟩ := own_ps h2
  exact ⟨A, c, e, h3, h4⟩
theorem RefAt.kept {R : Set'} {w w' : World} {gr : Nat} {v : Value} {ps : IP} (h : RefAt R w gr v ps) (hs : w.heap.size ≤ w'.heap.size) (hk : ∀ k, R k → w'.heap[k]? = w.heap[k]?) : RefAt R w' gr v ps := by
  refine ⟨h.rg, fun k hk => Nat.lt_of_lt_of_le (h.rl k hk) hs, (hk gr h.rg).trans h.box, ⟨h.own.1, h.own.2.imp id fun ⟨g, cap, cur, h1, h2, h3⟩ => ⟨g, cap, cur, h1, h2, (hk g (h.rv g (by rw [h1]; rfl))).trans h3.1, h3.2⟩⟩, h.rv⟩
theorem RefT.kept {R : Set'} {w w' : World} {gr : Nat} {ps : IP} (h : RefT R w gr ps) (hs : w.heap.size ≤ w'.heap.size) (hk : ∀ k, R k → w'.heap[k]? = w.heap[k]?) : RefT R w' gr ps := by
  obtain ⟨v, h⟩ := h; exact ⟨v, h.kept hs hk⟩
theorem RefT.below {R : Set'} {w w' : World} {gr : Nat} {ps : IP} (h : RefT R w gr ps) (hb : Below w.heap.size w w') : RefT R w' gr ps := by
  obtain ⟨v, h⟩ := h; exact ⟨v, h.kept hb.size fun k hk => hb.block k (h.rl k hk)⟩
theorem RefT.rl {R : Set'} {w : World} {gr : Nat} {ps : IP} (h : RefT R w gr ps) : ∀ k, R k → k < w.heap.size := by obtain ⟨v, h⟩ := h; exact h.rl
/-- a call turned the document's table alone -/
def RTurned (R : Set') (w : World) (gr : Nat) (r : Value) (ps : IP) (e : Ending) (w' : World) : Prop := e = .returned r ∧ ∃ R', RefT R' w' gr ps ∧ Grow R w R' w'
theorem ref_new (w : World) : RefT (fun k => k = w.heap.size) (w.alloc (.cells #[.slice none 0 0] 29)) w.heap.size [] :=
  ⟨_, rfl, fun k hk => by rw [hk]; simp, Boxed.new w 29 _, World.ownsRow_nil _ _ _ _, fun b hb => by cases hb⟩
theorem pair_some' {l : IP} {k : Nat} (h : k < l.length) : ∃ x, l[k]? = some x := ⟨l[k], by simp⟩

section
variable {R : Set'} {w : World} {gr : Nat} {ps : IP}
set_option maxHeartbeats 400000 in
theorem at_none (h : RefT R w gr ps) (k : Int) (hl : ps.length ≤ 1000) (hk : ∀ p ∈ ps, p.1 ≠ k) :
    Calls Try.prog 35 #[.pointer (some ⟨gr, 0, none⟩), vI k] w (fun e w' => e = .returned (.int .i64 (-1)) ∧ w = w') := by
  obtain ⟨v, h⟩ := h
  obtain ⟨A, c, rfl, hP, hc⟩ := h.form
  have c0 := h.box.cell
  have Hk := Lib.hid hk
  clear hk
  go_enter Try.func35, Try.ntmps35
  go_wp2
  go_loop [5] (fun i => ∃ j : Nat, i = .int .i64 j ∧ j ≤ ps.length) (fun i => ps.length - (intOf i).toNat)
  case atStart => exact ⟨0, rfl, Nat.zero_le _⟩
  case round =>
    obtain ⟨j, rfl, hj⟩ := hrel
    by_cases hlt : j < ps.length
    · obtain ⟨p, hp⟩ := pair_some' hlt
      obtain ⟨b, off, rfl, hb, d1, d2⟩ := hP j p hp
      have hne := Hk.out p (List.mem_of_getElem? hp)
      have hd : (p.1 == k) = false := by simpa using hne
      have hj1 : (j : Int) < (ps.length : Int) := by omega
      have hj0 : (0 : Int) ≤ (j : Int) := Int.natCast_nonneg _
      clear hp
      go_wp2
      go_round
      case rel => exact ⟨j + 1, by go_num, by omega⟩
      case measure => simp [intOf]; omega
    · obtain rfl : j = ps.length := by omega
      go_wp2
      go_ret
      exact ⟨rfl, rfl⟩
set_option maxHeartbeats 400000 in
theorem at_some (h : RefT R w gr ps) (k : Int) (hl : ps.length ≤ 1000) {i : Nat} {p : Int × Int} (hi : ps[i]? = some p) (hpk : p.1 = k) (hu : Unlike ps) :
    Calls Try.prog 35 #[.pointer (some ⟨gr, 0, none⟩), vI k] w (fun e w' => e = .returned (.int .i64 i) ∧ w = w') := by
  obtain ⟨v, h⟩ := h
  obtain ⟨A, c, rfl, hP, hc⟩ := h.form
  have c0 := h.box.cell
  have hil := (List.getElem?_eq_some_iff.1 hi).1
  have hother : ∀ (j : Nat) q, j < i → ps[j]? = some q → q.1 ≠ k := fun j q hj hq => by
    obtain ⟨h1, rfl⟩ := List.getElem?_eq_some_iff.1 hq
    obtain ⟨h2, rfl⟩ := List.getElem?_eq_some_iff.1 hi
    rw [← hpk]
    exact List.pairwise_iff_getElem.1 hu j i h1 h2 hj
  have Ho := Lib.hid hother
  have Hi := Lib.hid hi
  have Hpk := Lib.hid hpk
  clear hother hi hu hpk
  go_enter Try.func35, Try.ntmps35
  go_wp2
  go_loop [5] (fun x => ∃ j : Nat, x = .int .i64 j ∧ j ≤ i) (fun x => i - (intOf x).toNat)
  case atStart => exact ⟨0, rfl, Nat.zero_le _⟩
  case round =>
    obtain ⟨j, rfl, hj⟩ := hrel
    obtain ⟨q, hq⟩ := pair_some' (l := ps) (k := j) (by omega)
    obtain ⟨b, off, rfl, hb, d1, d2⟩ := hP j q hq
    have hj1 : (j : Int) < (ps.length : Int) := by omega
    have hj0 : (0 : Int) ≤ (j : Int) := Int.natCast_nonneg _
    by_cases hlt : j < i
    · have hne := Ho.out j q hlt hq
      have hd : (q.1 == k) = false := by simpa using hne
      clear hq
      go_wp2
      go_round
      case rel => exact ⟨j + 1, by go_num, by omega⟩
      case measure => simp [intOf]; omega
    · obtain rfl : j = i := by omega
      have hqp : q.1 = k := by rw [Hi.out] at hq; injection hq with hq; rw [← hq]; exact Hpk.out
      have hd : (q.1 == k) = true := by simpa using hqp
      clear hq hqp
      go_wp2
      go_ret
      exact ⟨rfl, rfl⟩
set_option maxHeartbeats 400000 in
theorem rget_none (h : RefT R w gr ps) (k : Int) (hl : ps.length ≤ 1000) (hk : ∀ p ∈ ps, p.1 ≠ k) :
    Calls Try.prog 14 #[.pointer (some ⟨gr, 0, none⟩), vI k] w (fun e w' => e = .returned (.tuple #[vI 0, .bool false]) ∧ w = w') := by
  have e1 := at_none h k hl hk
  clear hk
  go_enter Try.func14, Try.ntmps14
  go_wp2_with (first | (go_at_call 35; refine e1.mono ?_; rintro e w1 ⟨rfl, rfl⟩))
  go_ret2
  exact ⟨rfl, rfl⟩
set_option maxHeartbeats 400000 in
theorem rget_some (h : RefT R w gr ps) (k : Int) (hl : ps.length ≤ 1000) {i : Nat} {p : Int × Int} (hi : ps[i]? = some p) (hpk : p.1 = k) (hu : Unlike ps) :
    Calls Try.prog 14 #[.pointer (some ⟨gr, 0, none⟩), vI k] w (fun e w' => e = .returned (.tuple #[vI p.2, .bool true]) ∧ w = w') := by
  have e1 := at_some h k hl hi hpk hu
  obtain ⟨v, h⟩ := h
  obtain ⟨A, c, rfl, hP, hc⟩ := h.form
  have c0 := h.box.cell
  obtain ⟨b, off, rfl, hb, d1, d2⟩ := hP i p hi
  have hil := (List.getElem?_eq_some_iff.1 hi).1
  have hj1 : (i : Int) < (ps.length : Int) := by omega
  have hj0 : (0 : Int) ≤ (i : Int) := Int.natCast_nonneg _
  clear hi hpk hu
  go_enter Try.func14, Try.ntmps14
  go_wp2_with (first | (go_at_call 35; refine e1.mono ?_; rintro e w1 ⟨rfl, rfl⟩))
  go_ret2
  exact ⟨rfl, rfl⟩
set_option maxHeartbeats 400000 in
theorem rput_new (h : RefT R w gr ps) (k v : Int) (hl : ps.length ≤ 1000) (hk : ∀ p ∈ ps, p.1 ≠ k) :
    Calls Try.prog 12 #[.pointer (some ⟨gr, 0, none⟩), vI k, vI v] w (RTurned R w gr (.bool false) (ps ++ [(k, v)])) := by
  have e1 := at_none h k hl hk
  obtain ⟨v0, h⟩ := h
  obtain ⟨A, c, rfl, hP, hc⟩ := h.form
  have c0 := h.box.cell
  have f0 := h.box.frozen
  have hb := heap_alloc_new w (.cells #[vI k, vI v] 43)
  clear hk hP
  go_enter Try.func12, Try.ntmps12
  go_wp2_with (first
    | (go_at_call 35; refine e1.mono ?_; rintro e w1 ⟨rfl, rfl⟩)
    | (at_builtin; refine wpList_append_pair _ rfl _ _ rfl 0 _ _ _ rfl (h.own.alloc _) ⟨w.heap.size, 0, none⟩ 1 (k, v) rfl (cell_of_row _ _ 0 _ 43 (0, 0) hb) (cell_of_row _ _ 1 _ 43 (0, 0) hb) (by omega) (Nat.zero_le _) ?_))
  intro v' w4 hown4 hgrow4 hwhere
  have hap := Boxed.appended h.box (show (29 : TypeId) ≠ 43 by decide) h.own (Nat.zero_le _) (Nat.zero_le _) hown4 hgrow4
  have cO4 := hap.1.cell
  have fO4 := hap.1.frozen
  obtain ⟨A2, c2, rfl⟩ := own_form hown4
  go_wp2
  go_ret
  have hsz : w.heap.size + 1 ≤ w4.heap.size := by have := hgrow4.size; simpa using this
  have hlt : ∀ b, (Value.slice A2 (ps.length + 1) c2).ownBlock = some b → b < (w4.setCell ⟨gr, 0, none⟩ (.slice A2 (ps.length + 1) c2)).heap.size := fun b hb => (own_lt hap.2.2.1 hb).2
  have hz2 : w4.heap.size ≤ (w4.setCell ⟨gr, 0, none⟩ (.slice A2 (ps.length + 1) c2)).heap.size := (by simp [World.setCell])
  refine ⟨rfl, fun b => R b ∨ (w.heap.size ≤ b ∧ (Value.slice A2 (ps.length + 1) c2).ownBlock = some b), ⟨_, .inl h.rg, fun b hb => ?_, hap.2.1, ?_, fun b hb => ?_⟩, ⟨hgrow4.os, hgrow4.tape, hgrow4.output, by omega, fun b hb hR => ?_, fun b h => .inl h, fun b hb => hb.imp id fun e => ⟨e.1, hlt b e.2⟩⟩⟩
  · rcases hb with hb | hb
    · have := h.rl b hb; omega
    · exact hlt b hb.2
  · rw [OwnP, flat_snoc, List.length_append]
    exact hap.2.2.1
  · rcases hwhere with e | ⟨b', e, hlt'⟩
    · exact .inl (h.rv b (e ▸ hb))
    · rw [e] at hb
      injection hb with hb
      subst hb
      exact .inr ⟨by have : w.heap.size + 1 ≤ b' := by simpa using hlt'
                     omega, e⟩
  · refine (Below.heap_setCell _ _ _ _ (by intro e; exact hR (by rw [show b = gr from e]; exact h.rg))).trans ((hgrow4.block b (by simp; omega) (fun e => hR (h.rv b e.symm))).trans (Below.heap_alloc w _ b hb))
theorem flat_set : ∀ (ps : IP) (i : Nat) (p : Int × Int) (v : Int), ps[i]? = some p → (flat ps).set (i * 2 + 1) (vI v) = flat (ps.set i (p.1, v))
  | [], i, p, v, h => by simp at h
  | q :: t, 0, p, v, h => by
    simp at h
    subst h
    rfl
  | q :: t, i + 1, p, v, h => by
    have := flat_set t i p v (by simpa using h)
    rw [show (i + 1) * 2 + 1 = (i * 2 + 1) + 1 + 1 by omega]
    simp only [flat, List.flatMap_cons, List.cons_append, List.nil_append, List.set_cons_succ] at this ⊢
    rw [this]
set_option maxHeartbeats 400000 in
theorem rput_had (h : RefT R w gr ps) (k v : Int) (hl : ps.length ≤ 1000) {i : Nat} {p : Int × Int} (hi : ps[i]? = some p) (hpk : p.1 = k) (hu : Unlike ps) :
    Calls Try.prog 12 #[.pointer (some ⟨gr, 0, none⟩), vI k, vI v] w (RTurned R w gr (.bool true) (ps.set i (p.1, v))) := by
  have e1 := at_some h k hl hi hpk hu
  obtain ⟨v0, h⟩ := h
  obtain ⟨A, c, rfl, hP, hc⟩ := h.form
  have c0 := h.box.cell
  obtain ⟨b, off, rfl, hb, d1, d2⟩ := hP i p hi
  obtain rfl : off = 0 := by
    rcases h.own.2 with ⟨e, _⟩ | ⟨g, cap, cur, e, _⟩
    · cases e
    · injection e with e; injection e with e; injection e
  have hil := (List.getElem?_eq_some_iff.1 hi).1
  have hj1 : (i : Int) < (ps.length : Int) := by omega
  have hj0 : (0 : Int) ≤ (i : Int) := Int.natCast_nonneg _
  have hst := World.ownsRow.stored h.own (i * 2 + 1) (vI v)
  rw [flat_set ps i p v hi] at hst
  have hbR : R b := h.rv b rfl
  have hfz := World.ownsRow.frozenAt h.own (i * 2 + 1)
  have hbg : b ≠ gr := fun e => h.box.not_row (show (29 : TypeId) ≠ 43 by decide) h.own (by rw [← e]; rfl)
  rw [Nat.zero_add] at d1 d2
  have Hi := Lib.hid hi
  clear hi hpk hu hP
  go_enter Try.func12, Try.ntmps12
  go_wp2_with (first
    | (go_at_call 35; refine e1.mono ?_; rintro e w1 ⟨rfl, rfl⟩))
  go_ret
  refine ⟨rfl, R, ⟨_, h.rg, fun b hb => by have := h.rl b hb; simpa [World.setCell] using this, ?_, ?_, h.rv⟩, Grow.setCell _ _ _ hbR⟩
  · exact h.box.kept hst.2 (by intro e; injection e with e; exact hbg e.symm)
  · rw [OwnP, List.length_set]
    exact hst.1
set_option maxHeartbeats 400000 in
theorem rdrop_none (h : RefT R w gr ps) (k : Int) (hl : ps.length ≤ 1000) (hk : ∀ p ∈ ps, p.1 ≠ k) :
    Calls Try.prog 16 #[.pointer (some ⟨gr, 0, none⟩), vI k] w (RTurned R w gr (.bool false) ps) := by
  have e1 := at_none h k hl hk
  clear hk
  go_enter Try.func16, Try.ntmps16
  go_wp2_with (first | (go_at_call 35; refine e1.mono ?_; rintro e w1 ⟨rfl, rfl⟩))
  go_ret
  exact ⟨rfl, R, h, Grow.refl _ _⟩
theorem erase_take {ps : IP} {i j : Nat} {q : Int × Int} (hq : ps[j]? = some q) : (ps.eraseIdx i).take (if i < j + 1 then j else j + 1) = if j = i then (ps.eraseIdx i).take (if i < j then j - 1 else j) else (ps.eraseIdx i).take (if i < j then j - 1 else j) ++ [q] := by
  by_cases e : j = i
  · subst e
    simp
  · rw [if_neg e]
    by_cases h : i < j
    · obtain ⟨m, rfl⟩ : ∃ m, j = m + 1 := ⟨j - 1, by omega⟩
      rw [if_pos (by omega), if_pos h, Nat.add_sub_cancel, List.take_add_one, List.getElem?_eraseIdx, if_neg (by omega), hq]
      rfl
    · rw [if_neg (by omega), if_neg h, List.take_add_one, List.getElem?_eraseIdx, if_pos (by omega), hq]
      rfl
set_option maxHeartbeats 1000000 in
theorem rdrop_had (h : RefT R w gr ps) (k : Int) (hl : ps.length ≤ 1000) {i : Nat} {p : Int × Int} (hi : ps[i]? = some p) (hpk : p.1 = k) (hu : Unlike ps) :
    Calls Try.prog 16 #[.pointer (some ⟨gr, 0, none⟩), vI k] w (RTurned R w gr (.bool true) (ps.eraseIdx i)) := by
  have e1 := at_some h k hl hi hpk hu
  obtain ⟨v0, h⟩ := h
  obtain ⟨A, c, rfl, hP, hc⟩ := h.form
  have hil := (List.getElem?_eq_some_iff.1 hi).1
  have c0 := h.box.cell
  clear hi hpk hu
  go_enter Try.func16, Try.ntmps16
  go_wp2_with (first
    | (go_at_call 35; refine e1.mono ?_; rintro e w1 ⟨rfl, rfl⟩))
  go_loopw [6, 7] (fun lv x wr => ∃ (j n1 : Nat) (A1 : Option Addr) (c1 : Nat) (ms : IP), lv = .slice A1 n1 c1 ∧ x = .int .i64 j ∧ j ≤ ps.length ∧ n1 ≤ 1000 ∧ MineP w wr (.slice A1 n1 c1) ms ∧ RowKit.Hid (ms = (ps.eraseIdx i).take (if i < j then j - 1 else j))) (fun _ x _ => ps.length - (intOf x).toNat)
  case atStart => exact ⟨0, 0, none, 0, [], rfl, rfl, Nat.zero_le _, Nat.zero_le _, MineP.nil (Below.refl _ w), Lib.hid (by simp)⟩
  case round =>
    obtain ⟨j, n1, A1, c1, ms, rfl, rfl, hj, hn1, hM, hms⟩ := hrel
    have hB := hM.below
    have c0' := (hB.cell (p := ⟨gr, 0, none⟩) h.box.lt).trans c0
    by_cases hlt : j < ps.length
    · obtain ⟨q, hq⟩ := pair_some' hlt
      obtain ⟨b, off, rfl, hb, d1, d2⟩ := hP j q hq
      have k1 := (hB.cell (p := ⟨b, off + j * 2, none⟩) hb).trans d1
      have k2 := (hB.cell (p := ⟨b, off + j * 2 + 1, none⟩) hb).trans d2
      have hj1 : (j : Int) < (ps.length : Int) := by omega
      have hj0 : (0 : Int) ≤ (j : Int) := Int.natCast_nonneg _
      have het := erase_take (i := i) hq
      rw [← hms.out] at het
      have hlen := hM.inv.2.1
      have Hlen := Lib.hid hlen
      clear hq d1 d2
      by_cases hji : j = i
      · rw [if_pos hji] at het
        have Het := Lib.hid het
        have hd : ((j : Int) != (i : Int)) = false := by simp [hji]
        have hd2 : (j != i) = false := by simp [hji]
        have Hji := Lib.hid hji
        clear het hlen hji
        go_wp2
        go_roundw
        case rel => exact ⟨j + 1, n1, A1, c1, ms, rfl, by go_num, by omega, hn1, hM, Lib.hid (by
          have e := Het.out
          have e2 := Hji.out
          rw [if_pos (show i < j + 1 by omega)] at e
          rw [if_pos (show i < j + 1 by omega), Nat.add_sub_cancel, e])⟩
        case measure => simp [intOf]; omega
      · rw [if_neg hji] at het
        have Het := Lib.hid het
        have hd : ((j : Int) != (i : Int)) = true := by simp; omega
        have hd2 : (j != i) = true := by simpa using hji
        have hn2 : n1 + 1 ≤ 1000 := by
          have h1 := congrArg List.length het
          rw [List.length_append, hlen, List.length_take] at h1
          have h3 := List.length_eraseIdx_le ps i
          simp only [List.length_cons, List.length_nil] at h1
          omega
        clear het hlen
        go_wp2_with (at_builtin; refine hM.app Hlen.out (by omega) rfl _ _ rfl rfl q 1 rfl ?_)
        intro A2 c2 w2 hM2
        go_wp2
        go_roundw
        case rel => exact ⟨j + 1, n1 + 1, A2, c2, ms ++ [q], rfl, by go_num, by omega, hn2, hM2, Lib.hid (by
          have e := Het.out
          rw [← e]
          by_cases h1 : i < j + 1
          · rw [if_pos h1, if_pos h1, Nat.add_sub_cancel]
          · rw [if_neg h1, if_neg h1])⟩
        case measure => simp [intOf]; omega
    · obtain rfl : j = ps.length := by omega
      have hms2 := hms.out
      rw [if_pos hil, List.take_of_length_le (by rw [List.length_eraseIdx]; split <;> omega)] at hms2
      rw [hms2] at hM
      have hlen := hM.inv.2.1
      clear hms hms2
      have f0 := (hB.frozen (p := ⟨gr, 0, none⟩) h.box.lt).trans h.box.frozen
      have bx := (hB.block gr h.box.lt).trans h.box
      go_wp2
      go_ret
      have hz : w.heap.size ≤ wr.heap.size := hB.size
      have hg2 : (wr.setCell ⟨gr, 0, none⟩ (.slice A1 n1 c1)).heap.size = wr.heap.size := by simp [World.setCell]
      have hown : (wr.setCell ⟨gr, 0, none⟩ (.slice A1 n1 c1)).ownsRow 0 43 2 (.slice A1 n1 c1) (ps.eraseIdx i).length (flat (ps.eraseIdx i)) :=
        own_mono (hM.own.kept (grownBy_setCell' wr gr _) (.inr (Boxed.not_row (W := wr) (B := gr) (t := 29) bx (show (29 : TypeId) ≠ 43 by decide) hM.own).symm)) (Nat.zero_le _)
      refine ⟨rfl, fun b => R b ∨ (w.heap.size ≤ b ∧ (Value.slice A1 n1 c1).ownBlock = some b), ⟨_, .inl h.rg, fun b hb => ?_, Boxed.set (W := wr) (B := gr) (t := 29) _ bx, hown, fun b hb => .inr ⟨(own_lt hM.own hb).1, hb⟩⟩, ⟨hB.os, hB.tape, hB.output, by omega, fun b hb hR => ?_, fun b h => .inl h, fun b hb => hb.imp id fun e => ⟨e.1, by have := (own_lt hM.own e.2).2; omega⟩⟩⟩
      · rcases hb with hb | hb
        · have := h.rl b hb; omega
        · have := (own_lt hM.own hb.2).2; omega
      · exact (Below.heap_setCell _ _ _ _ (by intro e; exact hR (by rw [show b = gr from e]; exact h.rg))).trans (hB.block b hb)
end
end Go.Proofs.Ytogeifnkjckaiaa
