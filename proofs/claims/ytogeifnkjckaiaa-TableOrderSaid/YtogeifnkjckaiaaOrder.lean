/- TableOrder's walk. -/
import Derived.Test.YtogeifnkjckaiaaLatest
import Derived.Test.YtogeifnkjckaiaaLaw
import Derived.Test.YtogeifnkjckaiaaOwnP
import Derived.IntWalk
namespace Go.Proofs.Ytogeifnkjckaiaa
open Go.RowKit
attribute [local go_sem ↓] Go.wp_at_zero Go.wp_at_succ

theorem unlike_snoc {l : IP} {k : Nat} {p : Int × Int} (h : Unlike (l.take k)) (hp : l[k]? = some p) (hall : ∀ (j : Nat) q, j < k → l[j]? = some q → q.1 ≠ p.1) : Unlike (l.take (k + 1)) := by
  rw [take_snoc' hp, Unlike, List.pairwise_append]
  refine ⟨h, by simp, fun a ha b hb => ?_⟩
  obtain ⟨j, hj, rfl⟩ := List.mem_iff_getElem.1 ha
  have hj2 : j < k ∧ j < l.length := by rw [List.length_take] at hj; omega
  simp at hb
  subst hb
  exact hall j _ hj2.1 (by rw [List.getElem_take]; exact List.getElem?_eq_getElem hj2.2)
theorem back_snoc {l : IP} {k j : Nat} {q : Int × Int} (hk : k < l.length) (hj : j + k + 1 = l.length) (hq : l[j]? = some q) : l.reverse.take (k + 1) = l.reverse.take k ++ [q] := by
  refine take_snoc' ?_
  rw [List.getElem?_reverse hk, show l.length - 1 - k = j by omega]
  exact hq
theorem rises_at {xs : IP} (h : Rises xs) {i : Nat} {p q : Int × Int} (h1 : xs[i]? = some p) (h2 : xs[i + 1]? = some q) : p.1 < q.1 := by
  obtain ⟨l1, rfl⟩ := List.getElem?_eq_some_iff.1 h1
  obtain ⟨l2, rfl⟩ := List.getElem?_eq_some_iff.1 h2
  have := List.pairwise_iff_getElem.1 h i (i + 1) l1 l2 (by omega)
  simpa [Key.lt] using this

set_option maxRecDepth 100000 in
set_option maxHeartbeats 4000000 in
theorem order_any (A : Option Addr) (n c : Nat) (l : IP) (w : World) (hl : l.length = n) (hc : n ≤ c) (hs : PS w w.heap.size A l) :
    Calls Try.prog 4 #[.slice A n c] w (fun e w' => e = .returned (.bool true) ∧ Below w.heap.size w w') := by
  by_cases hn : n ≤ 60
  · subst hl
    go_enter Try.func4, Try.ntmps4
    go_wp2_with fail
    refine (awake_any w).mono ?_
    rintro e w1 ⟨rfl, hB1⟩
    go_wp2_with fail
    go_loopw [4, 5] (fun bk i wr => ∃ (k : Nat) (A1 : Option Addr) (c1 : Nat), bk = .slice A1 k c1 ∧ i = .int .i64 k ∧ k ≤ l.length ∧ MineP w wr (.slice A1 k c1) (l.reverse.take k) ∧ RowKit.Hid (Unlike (l.take k))) (fun _ i _ => l.length - (intOf i).toNat)
    case atStart => exact ⟨0, none, 0, rfl, rfl, Nat.zero_le _, .nil hB1, Lib.hid (by simp)⟩
    case round =>
      obtain ⟨k, A1, c1, rfl, rfl, hk, hM, hU⟩ := hrel
      by_cases hlt : k < l.length
      · obtain ⟨p, hp⟩ := pair_some hlt
        obtain ⟨b, off, rfl, hb, d1, d2⟩ := hs k p hp
        obtain ⟨j, hj⟩ : ∃ j, j + k + 1 = l.length := ⟨l.length - 1 - k, by omega⟩
        obtain ⟨q, hq⟩ := pair_some (l := l) (k := j) (by omega)
        obtain ⟨b', off', e', _, d3, d4⟩ := hs j q hq
        simp only [Option.some.injEq, Addr.mk.injEq, and_true] at e'
        obtain ⟨rfl, rfl⟩ := e'
        have hB := hM.below
        have e3 := (hB.cell (p := ⟨b, off + j * 2, none⟩) hb).trans d3
        have e4 := (hB.cell (p := ⟨b, off + j * 2 + 1, none⟩) hb).trans d4
        have hk1 : (k : Int) < (l.length : Int) := by omega
        have hk0 : (0 : Int) ≤ (k : Int) := Int.natCast_nonneg _
        have hjz : (l.length : Int) - 1 - (k : Int) = (j : Int) := by omega
        have hj1 : (j : Int) < (l.length : Int) := by omega
        have hj0 : (0 : Int) ≤ (j : Int) := Int.natCast_nonneg _
        have hback := back_snoc hlt hj hq
        have hlen : (l.reverse.take k).length = k := by simp; omega
        have Hlen := Lib.hid hlen
        have Hback := Lib.hid hback
        have Hp := Lib.hid hp
        have Hq := Lib.hid hq
        clear hlen hback hp hq d3 d4 hj
        go_wp2_with (at_builtin; refine hM.app Hlen.out (by omega) rfl _ _ rfl rfl q 1 rfl ?_)
        intro A2 c2 w2 hM2
        rw [← Hback.out] at hM2
        clear hM hB e3 e4 hjz
        go_wp2_with fail
        go_loopw [6] (fun i wr2 => ∃ j : Nat, i = .int .i64 j ∧ j ≤ k ∧ MineP w wr2 (.slice A2 (k + 1) c2) (l.reverse.take (k + 1)) ∧ RowKit.Hid (∀ (m : Nat) r, m < j → l[m]? = some r → r.1 ≠ p.1)) (fun i _ => k - (intOf i).toNat)
        case atStart => exact ⟨0, rfl, Nat.zero_le _, hM2, Lib.hid fun m r h => absurd h (Nat.not_lt_zero _)⟩
        case round =>
          obtain ⟨j, rfl, hjk, hM3, hall⟩ := hrel
          by_cases hjl : j < k
          · obtain ⟨r, hr⟩ := pair_some (l := l) (k := j) (by omega)
            obtain ⟨b', off', e', _, d3, _⟩ := hs j r hr
            simp only [Option.some.injEq, Addr.mk.injEq, and_true] at e'
            obtain ⟨rfl, rfl⟩ := e'
            have hB := hM3.below
            have f1 := (hB.cell (p := ⟨b, off + k * 2, none⟩) hb).trans d1
            have f3 := (hB.cell (p := ⟨b, off + j * 2, none⟩) hb).trans d3
            have hj3 : (j : Int) < (k : Int) := by omega
            have hj4 : (j : Int) < (l.length : Int) := by omega
            have hj0 : (0 : Int) ≤ (j : Int) := Int.natCast_nonneg _
            have Hr := Lib.hid hr
            clear hr d3
            by_cases hrp : r.1 = p.1
            · have hd : decide (r.1 = p.1) = true := decide_eq_true hrp
              have hbq : (r.1 == p.1) = true := by simpa using hrp
              clear hrp
              go_wp2_with fail
              go_quiet (fail)
              go_wp2_with fail
              go_ret
              exact ⟨rfl, bdrew hB _⟩
            · have hd : decide (r.1 = p.1) = false := decide_eq_false hrp
              have hbq : (r.1 == p.1) = false := by simpa using hrp
              go_wp2_with fail
              go_quiet (fail)
              go_wp2_with fail
              go_roundw
              case rel => exact ⟨j + 1, by go_num, by omega, hM3.same (bself _ _), Lib.hid fun m s hm hms => by
                rcases Nat.lt_or_ge m j with h | h
                · exact hall.out m s h hms
                · obtain rfl : m = j := by omega
                  rw [Hr.out] at hms
                  injection hms with hms
                  subst hms
                  exact hrp⟩
              case measure => simp [intOf]; omega
          · obtain rfl : j = k := by omega
            have hU2 := unlike_snoc hU.out Hp.out hall.out
            have HU2 := Lib.hid hU2
            clear hU2 hall hU
            go_wp2_with fail
            go_roundw
            case rel => exact ⟨j + 1, A2, c2, rfl, by go_num, by omega, hM3, HU2⟩
            case measure => simp [intOf]; omega
      · obtain rfl : k = l.length := by omega
        have hU2 := hU.out
        rw [List.take_length] at hU2
        rw [List.take_of_length_le (by simp)] at hM
        have HU := Lib.hid hU2
        obtain ⟨hP, hPl, hPc⟩ := hM.inv
        have hB := hM.below
        clear hU hU2 hM hB1
        go_wp2_with fail
        refine (filled_any A c l wr hn ((hs.below hB).more hB.size)).mono ?_
        obtain ⟨xs, ex⟩ : ∃ xs, xs = fillT l := ⟨_, rfl⟩
        have hxl : xs.length ≤ 60 := by rw [ex]; have := fillT_len l; omega
        have hxn : xs.length = l.length := by rw [ex]; exact fill_len HU.out
        have hgot : ∀ p ∈ l, got xs p.1 = some p.2 := fun p hp => by rw [ex]; exact (got_fill l p.1).trans (last_unlike HU.out hp)
        have hxu : fillT l.reverse = xs := by rw [ex]; exact fill_turn HU.out
        rw [← ex]
        have Hxn := Lib.hid hxn
        have Hgot := Lib.hid hgot
        have Hxu := Lib.hid hxu
        clear ex hxn hgot hxu
        rintro e w2 ⟨g, rfl, hg, hT2, hB2⟩
        have hgw : w.heap.size ≤ g := Nat.le_trans hB.size hg
        have hP2 := hP.on hB2
        have hB3 := bthen hB hB2 hB.size
        clear hg hP
        go_wp2_with fail
        have hrl : l.reverse.length = l.length := by simp
        have hf := filled_any A1 c1 l.reverse w2 (by omega) hP2
        rw [hrl, Hxu.out] at hf
        clear hrl
        refine hf.mono ?_
        clear hf
        rintro e w3 ⟨g2, rfl, hg2, hU3, hB4⟩
        have hT3 := hT2.below hB4
        have hB5 := bthen hB3 hB4 hB3.size
        have hg2w : w.heap.size ≤ g2 := Nat.le_trans hB3.size hg2
        clear hT2 hP2 hB2 hB4 hB3 hg2 hB
        go_wp2_with fail
        go_loop [9] (fun i => ∃ k : Nat, i = .int .i64 k ∧ k ≤ l.length) (fun i => l.length - (intOf i).toNat)
        case atStart => exact ⟨0, rfl, Nat.zero_le _⟩
        case round =>
          obtain ⟨k, rfl, hk⟩ := hrel
          by_cases hlt : k < l.length
          · obtain ⟨p, hp⟩ := pair_some hlt
            obtain ⟨b, off, rfl, hb, d1, d2⟩ := hs k p hp
            have e1 := (hB5.cell (p := ⟨b, off + k * 2, none⟩) hb).trans d1
            have e2 := (hB5.cell (p := ⟨b, off + k * 2 + 1, none⟩) hb).trans d2
            have hk1 : (k : Int) < (l.length : Int) := by omega
            have hk0 : (0 : Int) ≤ (k : Int) := Int.natCast_nonneg _
            have hge := get1_any hT3 p.1
            rw [Hgot.out p (List.mem_of_getElem? hp)] at hge
            clear hp d1 d2
            go_wp2_with (first | (go_at_call 13; refine hge.mono ?_; rintro e w5 ⟨rfl, rfl⟩))
            go_round
            case rel => exact ⟨k + 1, by go_num, by omega⟩
            case measure => simp [intOf]; omega
          · obtain rfl : k = l.length := by omega
            go_wp2_with fail
            refine (all_any hT3 hxl).mono ?_
            rintro e w6 ⟨A6, c6, rfl, hc6, hP6, hA6, hB6⟩
            have hU6 := hU3.below hB6
            have hB7 := bthen hB5 hB6 hB5.size
            have hr := hT3.rs
            have Hr := Lib.hid hr
            clear hT3 hU3 hB5 hB6 hr
            go_wp2_with fail
            go_loopw [13] (fun i wr => ∃ k : Nat, i = .int .i64 k ∧ 1 ≤ k ∧ (k ≤ xs.length ∨ k = 1) ∧ Below w6.heap.size w6 wr) (fun i _ => xs.length + 1 - (intOf i).toNat)
            case atStart => exact ⟨1, rfl, Nat.le_refl _, .inr rfl, Below.refl _ _⟩
            case round =>
              obtain ⟨k, rfl, hk1, hk2, hB8⟩ := hrel
              have hk0 : (0 : Int) ≤ (k : Int) := Int.natCast_nonneg _
              have hk3 : (1 : Int) ≤ (k : Int) := by omega
              by_cases hkl : k < xs.length
              · obtain ⟨m, hm⟩ : ∃ m, m + 1 = k := ⟨k - 1, by omega⟩
                obtain ⟨p, hp⟩ := pair_some (l := xs) (k := m) (by omega)
                obtain ⟨q, hq⟩ := pair_some hkl
                obtain ⟨b, off, rfl, hb, d1, _⟩ := hP6 m p hp
                obtain ⟨b', off', e', _, d3, _⟩ := hP6 k q hq
                simp only [Option.some.injEq, Addr.mk.injEq, and_true] at e'
                obtain ⟨rfl, rfl⟩ := e'
                have hpq := rises_at Hr.out hp (hm ▸ hq)
                have f1 := (hB8.cell (p := ⟨b, off + m * 2, none⟩) hb).trans d1
                have f3 := (hB8.cell (p := ⟨b, off + k * 2, none⟩) hb).trans d3
                have hm1 : (k : Int) < (xs.length : Int) := by omega
                have hm3 : (m : Int) < (xs.length : Int) := by omega
                have hm4 : (k : Int) - 1 = (m : Int) := by omega
                have hm0 : (0 : Int) ≤ (m : Int) := Int.natCast_nonneg _
                have hd : decide (q.1 ≤ p.1) = false := decide_eq_false (by omega)
                have hd2 : ¬ q.1 ≤ p.1 := by omega
                have hw : IntKind.i64.wrap ((k : Int) - 1) = (m : Int) := by rw [IntWalk.i64_in _ (by omega)]; exact hm4
                have Hm := Lib.hid hm
                clear hp hq d1 d3 hpq hm4 hm
                go_wp2_with fail
                go_quiet (fail)
                go_wp2_with fail
                go_roundw
                case rel => exact ⟨k + 1, by go_num, by omega, by omega, bdrew hB8 _⟩
                case measure => simp [intOf]; omega
              · have hU8 := hU6.below hB8
                have hP8 := hP6.on hB8
                have hB9 := bthen hB7 hB8 hB7.size
                have hle : (xs.length : Int) ≤ (k : Int) := by omega
                have hxl2 := Hxn.out
                have he : ((xs.length : Int) == (l.length : Int)) = true := by rw [hxl2]; simp
                have he2 : (xs.length == l.length) = true := by rw [hxl2]; simp
                clear hU6 hP6 hB8 hB7 hxl2
                go_wp2_with (first
                  | (go_at_call 19; refine (all_any hU8 hxl).mono ?_; rintro e w10 ⟨A10, c10, rfl, hc10, hP10, hA10, hB10⟩)
                  | (go_at_call 18; refine (same_any A6 A10 c6 c10 xs xs w10 (hP8.on hB10) hP10 (by omega)).mono ?_; rintro e w11 ⟨rfl, hB11⟩))
                go_ret
                exact ⟨ret_bool (by simp), bthen (bthen hB9 hB10 hB9.size) hB11 (Nat.le_trans hB9.size hB10.size)⟩
  · have hn2 : (60 : Int) < (n : Int) := by omega
    go_enter Try.func4, Try.ntmps4
    go_wp2_with fail
    refine (awake_any w).mono ?_
    rintro e w1 ⟨rfl, hB1⟩
    go_wp2_with fail
    go_ret
    exact ⟨rfl, hB1⟩
end Go.Proofs.Ytogeifnkjckaiaa
