/- The document's answers: words that may be, and few; whether all are free; the least one. -/
import Derived.Test.YtfddeiodihhblaaLeast
namespace Go.Proofs.Ytfddeiodihhblaa
open Go.RowKit
attribute [local go_sem ↓] Go.wp_at_zero Go.wp_at_succ

theorem IS.at {w : World} {M b off : Nat} {xs : List Int} (h : IS w M (some ⟨b, off, none⟩) xs) {j : Nat} {y : Int} (hy : xs[j]? = some y) : b < M ∧ w.cell? ⟨b, off + j, none⟩ = some (vI y) := by
  obtain ⟨b2, off2, e, h1, h2⟩ := h j y hy
  injection e with e
  injection e with e1 e2
  subst e1 e2
  exact ⟨h1, h2⟩
theorem rng_to {l : List Int} (h : ∀ (j : Nat) x, j < l.length → l[j]? = some x → Wd x) : Rng l := fun x hx => by
  obtain ⟨k, hk⟩ := List.mem_iff_getElem?.1 hx
  exact h k x (List.getElem?_eq_some_iff.1 hk).1 hk
theorem upto_step {l : List Int} {k : Nat} {x : Int} {P : Nat → Int → Prop} (h : ∀ (j : Nat) x, j < k → l[j]? = some x → P j x) (hx : l[k]? = some x) (hp : P k x) : ∀ (j : Nat) x, j < k + 1 → l[j]? = some x → P j x := by
  intro j y hj hy
  by_cases e : j = k
  · subst e
    rw [hx] at hy
    injection hy with hy
    subst hy
    exact hp
  · exact h j y (by omega) hy

def FewR (l : List Int) (r : Ending) : Prop := ∃ b : Bool, r = .returned (.bool b) ∧ (b = true → Rng l ∧ l.length ≤ 20)
set_option maxHeartbeats 400000 in
theorem few_any (A : Option Addr) (c : Nat) (l : List Int) (w : World) (hI : IS w w.heap.size A l) (hlen : l.length ≤ 9223372036854775807) :
    Calls Try.prog 8 #[.slice A l.length c] w fun r w' => FewR l r ∧ w = w' := by
  go_enter Try.func8, Try.ntmps8
  go_wp2
  go_loopw [3] (fun i wr => ∃ k : Nat, k ≤ l.length ∧ i = .int .i64 k ∧ (∀ (j : Nat) x, j < k → l[j]? = some x → Wd x) ∧ w = wr) (fun i _ => l.length - (intOf i).toNat)
  case atStart => exact ⟨0, Nat.zero_le _, rfl, fun j x hj => by omega, rfl⟩
  case round =>
    obtain ⟨k, hk, rfl, hr, rfl⟩ := hrel
    have Hr := Lib.hid hr
    clear hr
    by_cases hlt : k < l.length
    · obtain ⟨x, hx⟩ := num_some hlt
      obtain ⟨b, off, rfl, _, hd1⟩ := hI k _ hx
      have Hx := Lib.hid hx
      clear hx
      have hk1 : (k : Int) < (l.length : Int) := by omega
      by_cases h0 : x < 0
      · go_wp2
        go_ret
        exact ⟨⟨false, rfl, fun h => by cases h⟩, rfl⟩
      · by_cases h1 : 1099511627777 < x
        · go_wp2
          go_ret
          exact ⟨⟨false, rfl, fun h => by cases h⟩, rfl⟩
        · have Hw := Lib.hid (show Wd x from ⟨by omega, by omega⟩)
          go_wp2
          go_roundw
          case rel => exact ⟨k + 1, by omega, by go_num, upto_step (P := fun _ x => Wd x) Hr.out Hx.out Hw.out, trivial⟩
          case measure => simp [intOf]; omega
    · obtain rfl : k = l.length := by omega
      go_wp2
      go_ret
      refine ⟨⟨_, rfl, fun h => ⟨rng_to Hr.out, ?_⟩⟩, rfl⟩
      simp at h
      omega
theorem free_bad {l : List Int} {k : Nat} {x s e : Int} (hx : l[k]? = some x) (hb : blk x e = true) (hs : (k : Int) ≠ s) : freeB l s e = false := by
  cases h : freeB l s e with
  | false => rfl
  | true => exact absurd (free_true.1 h k x hx hb) hs
theorem free_good {l : List Int} {s e : Int} (h : ∀ (j : Nat) x, j < l.length → l[j]? = some x → blk x e = true → (j : Int) = s) : freeB l s e = true := free_true.2 fun k x hk => h k x (List.getElem?_eq_some_iff.1 hk).1 hk

set_option maxHeartbeats 400000 in
theorem rfree_any (A : Option Addr) (c : Nat) (l : List Int) (s e : Int) (w : World) (hI : IS w w.heap.size A l) (hR : Rng l) (hlen : l.length ≤ 1000000) :
    Calls Try.prog 15 #[.slice A l.length c, vI s, vI e] w fun r w' => r = .returned (.bool (freeB l s e)) ∧ w = w' := by
  go_enter Try.func15, Try.ntmps15
  go_wp2
  go_loopw [7] (fun i wr => ∃ k : Nat, k ≤ l.length ∧ i = .int .i64 k ∧ (∀ (j : Nat) x, j < k → l[j]? = some x → blk x e = true → (j : Int) = s) ∧ w = wr) (fun i _ => l.length - (intOf i).toNat)
  case atStart => exact ⟨0, Nat.zero_le _, rfl, fun j x hj => by omega, rfl⟩
  case round =>
    obtain ⟨k, hk, rfl, hr, rfl⟩ := hrel
    have Hr := Lib.hid hr
    clear hr
    by_cases hlt : k < l.length
    · obtain ⟨x, hx⟩ := num_some hlt
      obtain ⟨b, off, rfl, _, hd1⟩ := hI k _ hx
      have hw := hR.at hx
      have Hx := Lib.hid hx
      clear hx
      have hk1 : (k : Int) < (l.length : Int) := by omega
      have hc := fun w => rblocks_any x e w hw
      cases hb : blk x e with
      | false =>
        rw [hb] at hc
        have Hb := Lib.hid hb
        clear hb
        go_wp2_with (first | (go_at_call 11; refine (hc _).mono ?_; rintro r w1 ⟨rfl, rfl⟩))
        go_roundw
        case rel => exact ⟨k + 1, by omega, by go_num, upto_step (P := fun j x => blk x e = true → (j : Int) = s) Hr.out Hx.out (fun h => by rw [Hb.out] at h; cases h), trivial⟩
        case measure => simp [intOf]; omega
      | true =>
        rw [hb] at hc
        have Hb := Lib.hid hb
        clear hb
        by_cases hs : (k : Int) = s
        · have hs2 : ((k : Int) != s) = false := by simpa using hs
          have Hs := Lib.hid hs
          clear hs
          go_wp2_with (first | (go_at_call 11; refine (hc _).mono ?_; rintro r w1 ⟨rfl, rfl⟩))
          go_roundw
          case rel => exact ⟨k + 1, by omega, by go_num, upto_step (P := fun j x => blk x e = true → (j : Int) = s) Hr.out Hx.out (fun _ => Hs.out), trivial⟩
          case measure => simp [intOf]; omega
        · have hs2 : ((k : Int) != s) = true := by simpa using hs
          have Hf := Lib.hid (free_bad Hx.out Hb.out hs)
          clear hs
          go_wp2_with (first | (go_at_call 11; refine (hc _).mono ?_; rintro r w1 ⟨rfl, rfl⟩))
          go_ret
          exact ⟨ret_bool Hf.out.symm, rfl⟩
    · obtain rfl : k = l.length := by omega
      go_wp2
      go_ret
      exact ⟨ret_bool (free_good Hr.out).symm, rfl⟩
end Go.Proofs.Ytfddeiodihhblaa
