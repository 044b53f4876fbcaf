/- The document's answer: the least epoch. -/
import Derived.Test.YtfddeiodihhblaaRef
namespace Go.Proofs.Ytfddeiodihhblaa
open Go.RowKit
attribute [local go_sem ↓] Go.wp_at_zero Go.wp_at_succ

theorem ret_V {a b : Value} (h : a = b) : Ending.returned a = .returned b := by rw [h]
/-- x is above 0, and none of the first j is one and below it -/
def LsU (l : List Int) (x : Int) (j : Nat) (b : Bool) : Prop := b = true ↔ (0 < x ∧ ∀ (i : Nat) y, i < j → l[i]? = some y → ¬ (0 < y ∧ y < x))
theorem LsU.zero (l : List Int) (x : Int) : LsU l x 0 (decide (0 < x)) := by
  unfold LsU
  rw [decide_eq_true_eq]
  exact ⟨fun h => ⟨h, fun i y hi => by omega⟩, fun h => h.1⟩
theorem LsU.no {l : List Int} {x y : Int} {j : Nat} {b : Bool} (h : LsU l x j b) (hy : l[j]? = some y) (hn : ¬ (0 < y ∧ y < x)) : LsU l x (j + 1) b :=
  ⟨fun e => ⟨(h.1 e).1, upto_step (P := fun _ y => ¬ (0 < y ∧ y < x)) (h.1 e).2 hy hn⟩, fun e => h.2 ⟨e.1, fun i z hi => e.2 i z (by omega)⟩⟩
theorem LsU.go {l : List Int} {x y : Int} {j : Nat} (hy : l[j]? = some y) (hn : 0 < y ∧ y < x) : LsU l x (j + 1) false :=
  ⟨fun e => (by cases e), fun e => absurd hn (e.2 j y (by omega) hy)⟩
theorem LsU.yes {l : List Int} {x : Int} {k : Nat} (hR : Rng l) (hx : l[k]? = some x) (h : LsU l x l.length true) : lw l = x := by
  obtain ⟨h1, h2⟩ := h.1 rfl
  refine lw_eq hR ⟨fun e => by omega, fun _ => ⟨List.mem_of_getElem? hx, h1⟩, fun _ y hy hy0 => ?_⟩
  obtain ⟨i, hi⟩ := List.mem_iff_getElem?.1 hy
  have := h2 i y (List.getElem?_eq_some_iff.1 hi).1 hi
  have := (hR.at hi).1
  omega
theorem LsU.not {l : List Int} {x : Int} (hR : Rng l) (h : LsU l x l.length false) : ¬ (0 < x ∧ x = lw l) := by
  rintro ⟨h0, h1⟩
  have : false = true := h.2 ⟨h0, fun i y hi hy hn => by
    have := (lw_is hR).le (by omega) y (List.mem_of_getElem? hy) (by omega)
    omega⟩
  cases this
theorem none_zero {l : List Int} (hR : Rng l) (h : ∀ (j : Nat) x, j < l.length → l[j]? = some x → ¬ (0 < x ∧ x = lw l)) : lw l = 0 := by
  apply Classical.byContradiction
  intro h0
  have h1 := (lw_is hR).pos h0
  obtain ⟨k, hk⟩ := List.mem_iff_getElem?.1 h1.1
  exact h k _ (List.getElem?_eq_some_iff.1 hk).1 hk ⟨h1.2, rfl⟩
set_option maxRecDepth 100000 in
set_option maxHeartbeats 2000000 in
theorem rleast_any (A : Option Addr) (c : Nat) (l : List Int) (w : World) (h : IS w w.heap.size A l) (hR : Rng l) (hlen : l.length ≤ 1000000) :
    Calls Try.prog 13 #[.slice A l.length c] w fun r w' => r = .returned (.tuple #[vI (epN (lw l)), .bool (epB (lw l))]) ∧ Below w.heap.size w w' := by
  obtain ⟨v, ev⟩ : ∃ v : Value, v = .tuple #[vI (epN (lw l)), .bool (epB (lw l))] := ⟨_, rfl⟩
  rw [← ev]
  have Ev := Lib.hid ev
  clear ev
  go_enter Try.func13, Try.ntmps13
  go_wp2_with fail
  go_loopw [4] (fun i wr => ∃ k : Nat, k ≤ l.length ∧ i = .int .i64 k ∧ (∀ (j : Nat) x, j < k → l[j]? = some x → ¬ (0 < x ∧ x = lw l)) ∧ Below w.heap.size w wr) (fun i => fun _ => l.length - (intOf i).toNat)
  case atStart => exact ⟨0, Nat.zero_le _, rfl, fun j x hj => by omega, Below.refl _ _⟩
  case round =>
    obtain ⟨k, hk, rfl, hO, hB⟩ := hrel
    have Ho := Lib.hid hO
    clear hO
    by_cases hlt : k < l.length
    · obtain ⟨x, hx⟩ := num_some hlt
      obtain ⟨b, off, rfl, hb, hd⟩ := h k x hx
      have hc := (hB.cell (p := ⟨b, off + k, none⟩) hb).trans hd
      have hk1 : (k : Int) < (l.length : Int) := by omega
      have hk0 : (0 : Int) ≤ (k : Int) := Int.natCast_nonneg _
      obtain ⟨hw0, hw1⟩ := hR.at hx
      have Hx := Lib.hid hx
      clear hx hd
      go_wp2_with fail
      go_loopw [5, 6] (fun v5 i wr => ∃ (j : Nat) (b : Bool), j ≤ l.length ∧ i = .int .i64 j ∧ v5 = .bool b ∧ LsU l x j b ∧ Below w.heap.size w wr) (fun _ i => fun _ => l.length - (intOf i).toNat)
      case atStart => exact ⟨0, _, Nat.zero_le _, rfl, rfl, LsU.zero l x, hB⟩
      case round =>
        obtain ⟨j, q, hj, rfl, rfl, hn, hB2⟩ := hrel
        have Hn := Lib.hid hn
        clear hc hn
        by_cases hjk : j < l.length
        · obtain ⟨y, hy⟩ := num_some hjk
          have hcx := (hB2.cell (p := ⟨b, off + k, none⟩) hb).trans (h.at Hx.out).2
          have hcy := (hB2.cell (p := ⟨b, off + j, none⟩) hb).trans (h.at hy).2
          have hj1 : (j : Int) < (l.length : Int) := by omega
          have hj0 : (0 : Int) ≤ (j : Int) := Int.natCast_nonneg _
          have Hy := Lib.hid hy
          clear hy
          by_cases hy0 : 0 < y
          · by_cases hyx : y < x
            · have Hg := Lib.hid (LsU.go (l := l) (x := x) Hy.out ⟨hy0, hyx⟩)
              have a0 : decide (0 < y) = true := by simpa using hy0
              have a1 : decide (y < x) = true := by simpa using hyx
              go_wp2_with fail
              go_quiet (fail)
              go_wp2
              go_roundw
              case rel => exact ⟨j + 1, false, by omega, by go_num, rfl, Hg.out, bdrew hB2 _⟩
              case measure => simp [intOf]; omega
            · have Hg := Lib.hid (LsU.no Hn.out Hy.out (by omega))
              have a0 : decide (0 < y) = true := by simpa using hy0
              have a1 : decide (y < x) = false := by simpa using hyx
              go_wp2_with fail
              go_quiet (fail)
              go_wp2
              go_roundw
              case rel => exact ⟨j + 1, q, by omega, by go_num, rfl, Hg.out, bdrew hB2 _⟩
              case measure => simp [intOf]; omega
          · have Hg := Lib.hid (LsU.no Hn.out Hy.out (by omega))
            have a0 : decide (0 < y) = false := by simpa using hy0
            go_wp2_with fail
            go_quiet (fail)
            go_wp2
            go_roundw
            case rel => exact ⟨j + 1, q, by omega, by go_num, rfl, Hg.out, bdrew hB2 _⟩
            case measure => simp [intOf]; omega
        · obtain rfl : j = l.length := by omega
          cases q with
          | true =>
            have Hm := Lib.hid (LsU.yes hR Hx.out Hn.out)
            have h0 : 0 < x := (Hn.out.1 rfl).1
            have Hr := Lib.hid (show Value.tuple #[vI (x - 1), .bool true] = v by rw [Ev.out, Hm.out, epN_pos (by omega), epB_pos (by omega)])
            have hcx := (hB2.cell (p := ⟨b, off + k, none⟩) hb).trans (h.at Hx.out).2
            go_wp2_with fail
            go_ret2
            exact ⟨ret_V Hr.out, hB2⟩
          | false =>
            have Hm := Lib.hid (LsU.not hR Hn.out)
            go_wp2_with fail
            go_roundw
            case rel => exact ⟨k + 1, by omega, by go_num, upto_step (P := fun _ x => ¬ (0 < x ∧ x = lw l)) Ho.out Hx.out Hm.out, hB2⟩
            case measure => simp [intOf]; omega
    · obtain rfl : k = l.length := by omega
      have Hm := Lib.hid (none_zero hR Ho.out)
      have Hr := Lib.hid (show Value.tuple #[.int .i64 0, .bool false] = v by rw [Ev.out, Hm.out]; rfl)
      go_wp2_with fail
      go_ret2
      exact ⟨ret_V Hr.out, hB⟩
end Go.Proofs.Ytfddeiodihhblaa
