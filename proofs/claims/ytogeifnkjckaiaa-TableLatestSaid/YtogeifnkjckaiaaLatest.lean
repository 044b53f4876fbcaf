/- TableLatest's walk. -/
import Derived.Test.YtogeifnkjckaiaaSmall
import Derived.Test.YtogeifnkjckaiaaFill
namespace Go.Proofs.Ytogeifnkjckaiaa
open Go.RowKit
attribute [local go_sem ↓] Go.wp_at_zero Go.wp_at_succ

theorem seg_snoc {l : IP} {i j : Nat} {q : Int × Int} (h : l[j]? = some q) (hi : i ≤ j) : (l.take (j + 1)).drop i = (l.take j).drop i ++ [q] := by
  rw [List.take_add_one, h, List.drop_append_of_le_length (by have := (List.getElem?_eq_some_iff.1 h).1; simp; omega)]
  rfl
theorem drop_cons' {l : IP} {i : Nat} {p : Int × Int} (h : l[i]? = some p) : l.drop i = p :: l.drop (i + 1) := by
  obtain ⟨hl, rfl⟩ := List.getElem?_eq_some_iff.1 h
  exact List.drop_eq_getElem_cons hl
theorem last_at {l : IP} {i : Nat} {p : Int × Int} (h : l[i]? = some p) : last l p.1 = some ((last (l.drop (i + 1)) p.1).getD p.2) := by
  have e : l = l.take i ++ p :: l.drop (i + 1) := by rw [← drop_cons' h, List.take_append_drop]
  have h2 := last_here (l.take i) p (l.drop (i + 1))
  rw [← e] at h2
  exact h2
theorem take_snoc' {l : IP} {k : Nat} {p : Int × Int} (h : l[k]? = some p) : l.take (k + 1) = l.take k ++ [p] := by rw [List.take_add_one, h]; rfl

set_option maxRecDepth 100000 in
set_option maxHeartbeats 2000000 in
theorem latest_any (A : Option Addr) (n c : Nat) (l : IP) (w : World) (hl : l.length = n) (hc : n ≤ c) (hs : PS w w.heap.size A l) :
    Calls Try.prog 7 #[.slice A n c] w (fun e w' => e = .returned (.bool true) ∧ Below w.heap.size w w') := by
  by_cases hn : n ≤ 60
  · subst hl
    go_enter Try.func7, Try.ntmps7
    go_wp2_with fail
    refine (awake_any w).mono ?_
    rintro e w1 ⟨rfl, hB1⟩
    go_wp2_with fail
    refine (filled_any A c l w1 hn (hs.on hB1)).mono ?_
    obtain ⟨xs, ex⟩ : ∃ xs, xs = fillT l := ⟨_, rfl⟩
    have hxl : xs.length ≤ 60 := by rw [ex]; have := fillT_len l; omega
    have hgot : ∀ q, got xs q = last l q := fun q => by rw [ex]; exact got_fill l q
    have hxn : xs.length = (fillG l).length := by rw [ex]; rfl
    rw [← ex]
    rintro e w2 ⟨g, rfl, hg, hT2, hB2⟩
    have hN := hB1.size
    have hgw : w.heap.size ≤ g := Nat.le_trans hB1.size hg
    replace hB2 := bstep hB1 hB2
    have Hgot := Lib.hid hgot
    have Hxn := Lib.hid hxn
    have Hx := Lib.hid ex
    clear hB1 hg hgot hxn ex
    go_wp2_with fail
    go_loopw [5, 6] (fun m i wr => ∃ (a k : Nat), m = .int .i64 a ∧ i = .int .i64 k ∧ k ≤ l.length ∧ a ≤ 60 ∧ RowKit.Hid (a + (fillG (l.drop k)).length = xs.length) ∧ Tab1 [g] wr g xs ∧ Below w.heap.size w wr) (fun _ i _ => l.length - (intOf i).toNat)
    case atStart => exact ⟨0, 0, rfl, rfl, Nat.zero_le _, Nat.zero_le _, Lib.hid (by rw [Hxn.out]; simp), hT2, hB2⟩
    case round =>
      obtain ⟨a, k, rfl, rfl, hk, ha, hsum, hT, hB⟩ := hrel
      by_cases hlt : k < l.length
      · obtain ⟨p, hp⟩ := pair_some hlt
        obtain ⟨b, off, rfl, hb, d1, d2⟩ := hs k p hp
        have e1 := (hB.cell (p := ⟨b, off + k * 2, none⟩) hb).trans d1
        have e2 := (hB.cell (p := ⟨b, off + k * 2 + 1, none⟩) hb).trans d2
        have hk1 : (k : Int) < (l.length : Int) := by omega
        have hk0 : (0 : Int) ≤ (k : Int) := Int.natCast_nonneg _
        have hla : got xs p.1 = some ((last (l.drop (k + 1)) p.1).getD p.2) := (Hgot.out p.1).trans (last_at hp)
        have hdr := fill_len_cons p (l.drop (k + 1))
        rw [← drop_cons' hp] at hdr
        have Hla := Lib.hid hla
        have Hdr := Lib.hid hdr
        have Hp := Lib.hid hp
        clear hla hdr hp
        go_wp2_with fail
        go_loopw [7, 8, 9] (fun las ag j wr2 => ∃ (z : Int) (o : Bool) (j0 : Nat), las = .int .i64 z ∧ ag = .bool o ∧ j = .int .i64 j0 ∧ k + 1 ≤ j0 ∧ j0 ≤ l.length ∧ RowKit.Hid (o = (last ((l.take j0).drop (k + 1)) p.1).isSome ∧ z = (last ((l.take j0).drop (k + 1)) p.1).getD p.2) ∧ Tab1 [g] wr2 g xs ∧ Below w.heap.size w wr2) (fun _ _ j _ => l.length - (intOf j).toNat)
        case atStart => exact ⟨p.2, false, k + 1, rfl, rfl, by go_num, Nat.le_refl _, hlt, Lib.hid (by rw [List.drop_eq_nil_of_le (by simp; omega)]; exact ⟨rfl, rfl⟩), hT, hB⟩
        case round =>
          obtain ⟨z, o, j, rfl, rfl, rfl, hj1, hj2, hzo, hT2, hB2⟩ := hrel
          by_cases hjl : j < l.length
          · obtain ⟨q, hq⟩ := pair_some hjl
            obtain ⟨b', off', e', _, d3, d4⟩ := hs j q hq
            simp only [Option.some.injEq, Addr.mk.injEq, and_true] at e'
            obtain ⟨rfl, rfl⟩ := e'
            have f1 := (hB2.cell (p := ⟨b, off + k * 2, none⟩) hb).trans d1
            have f3 := (hB2.cell (p := ⟨b, off + j * 2, none⟩) hb).trans d3
            have f4 := (hB2.cell (p := ⟨b, off + j * 2 + 1, none⟩) hb).trans d4
            have hj3 : (j : Int) < (l.length : Int) := by omega
            have hj0 : (0 : Int) ≤ (j : Int) := Int.natCast_nonneg _
            have hseg := last_snoc ((l.take j).drop (k + 1)) q p.1
            rw [← seg_snoc hq hj1] at hseg
            clear hq d3 d4 d1 d2 e1 e2
            by_cases hqp : q.1 = p.1
            · rw [if_pos hqp] at hseg
              have hd : decide (q.1 = p.1) = true := decide_eq_true hqp
              have Hseg := Lib.hid hseg
              have Hqp := Lib.hid hqp
              have hbq : (q.1 == p.1) = true := by simpa using hqp
              clear hseg hqp
              go_wp2_with fail
              go_quiet (fail)
              go_wp2_with fail
              go_roundw
              case rel => exact ⟨q.2, true, j + 1, rfl, rfl, by go_num, by omega, by omega, Lib.hid (by rw [Hseg.out]; exact ⟨rfl, rfl⟩), hT2.below (bself _ _), bdrew hB2 _⟩
              case measure => simp [intOf]; omega
            · rw [if_neg hqp] at hseg
              have hd : decide (q.1 = p.1) = false := decide_eq_false hqp
              have Hseg := Lib.hid hseg
              have hbq : (q.1 == p.1) = false := by simpa using hqp
              clear hseg
              go_wp2_with fail
              go_quiet (fail)
              go_wp2_with fail
              go_roundw
              case rel => exact ⟨z, o, j + 1, rfl, rfl, by go_num, by omega, by omega, Lib.hid (by rw [Hseg.out]; exact hzo.out), hT2.below (bself _ _), bdrew hB2 _⟩
              case measure => simp [intOf]; omega
          · obtain rfl : j = l.length := by omega
            have hzo2 := hzo.out
            rw [List.take_length] at hzo2
            have f1 := (hB2.cell (p := ⟨b, off + k * 2, none⟩) hb).trans d1
            have hg1 := Hla.out
            rw [← hzo2.2] at hg1
            have hge := get1_any hT2 p.1
            rw [hg1] at hge
            have hsm := hsum.out
            rw [Hdr.out, ← hzo2.1] at hsm
            have Hsm := Lib.hid hsm
            clear hzo hzo2 hg1 d1 d2 e1 e2 hsum hsm
            cases o with
            | true =>
              go_wp2_with (first | (go_at_call 13; refine hge.mono ?_; rintro e w5 ⟨rfl, rfl⟩))
              go_roundw
              case rel => exact ⟨a, k + 1, rfl, by go_num, by omega, ha, Lib.hid (by have := Hsm.out; simpa using this), hT2, hB2⟩
              case measure => simp [intOf]; omega
            | false =>
              go_wp2_with (first | (go_at_call 13; refine hge.mono ?_; rintro e w5 ⟨rfl, rfl⟩))
              go_roundw
              case rel => exact ⟨a + 1, k + 1, by go_num, by go_num, by omega, by have := Hsm.out; simp at this; omega, Lib.hid (by have := Hsm.out; simp at this; omega), hT2, hB2⟩
              case measure => simp [intOf]; omega
      · obtain rfl : k = l.length := by omega
        have hax : a = xs.length := by have := hsum.out; rw [List.drop_length] at this; exact this
        subst hax
        clear hsum
        go_wp2_with (first | (go_at_call 17; refine (len1_any hT).mono ?_; rintro e w5 ⟨rfl, rfl⟩))
        go_loopw [12] (fun i wr3 => ∃ (k : Nat) (ys : IP), i = .int .i64 k ∧ k ≤ l.length ∧ ys.length ≤ 60 ∧ RowKit.Hid (∀ q, got ys q = if (last (l.take k) q).isSome then none else got (fillG l) q) ∧ Tab1 [g] wr3 g ys ∧ Below w.heap.size w wr3) (fun i _ => l.length - (intOf i).toNat)
        case atStart => exact ⟨0, xs, rfl, Nat.zero_le _, hxl, Lib.hid fun q => by rw [Hx.out]; simp [last]; rfl, hT, hB⟩
        case round =>
          obtain ⟨k, ys, rfl, hk, hyl, hys, hT3, hB3⟩ := hrel
          by_cases hlt : k < l.length
          · obtain ⟨p, hp⟩ := pair_some hlt
            obtain ⟨b, off, rfl, hb, d1, d2⟩ := hs k p hp
            have e1 := (hB3.cell (p := ⟨b, off + k * 2, none⟩) hb).trans d1
            have hk1 : (k : Int) < (l.length : Int) := by omega
            have hk0 : (0 : Int) ≤ (k : Int) := Int.natCast_nonneg _
            have hdrop := tdrop1_any hT3 p.1 (by omega)
            have hr3 := hT3.rs
            have hnone : got (del ys p.1) p.1 = none := by rw [got_del' hr3]; simp
            have hnext : ∀ q, got (del ys p.1) q = if (last (l.take (k + 1)) q).isSome then none else got (fillG l) q := fun q => by
              rw [got_del' hr3, take_snoc' hp, last_snoc, hys.out q]
              by_cases e : q = p.1
              · subst e; simp
              · rw [if_neg e, if_neg (fun h : p.1 = q => e h.symm)]
            have hdl : (del ys p.1).length ≤ 60 := Nat.le_trans (del_sub ys p.1).length_le hyl
            obtain ⟨zs, ez⟩ : ∃ zs, zs = del ys p.1 := ⟨_, rfl⟩
            rw [← ez] at hdrop hnone hnext hdl
            have Hnext := Lib.hid hnext
            have Hnone := Lib.hid hnone
            clear hnext hnone ez hp hr3 hys d1 d2
            go_wp2_with fail
            refine hdrop.mono ?_
            rintro e w5 ⟨rfl, hT5, hS5⟩
            have hB5 := Sp.below hB3 hS5 hB3.size hgw
            have e5 := (Sp.cell hS5 (k := b) (off + k * 2) (Nat.lt_of_lt_of_le hb hB3.size) (by omega)).trans e1
            have hge := get1_any hT5 p.1
            rw [Hnone.out] at hge
            clear hdrop hT3 hS5 e1
            go_wp2_with fail
            refine hge.mono ?_
            rintro e w6 ⟨rfl, rfl⟩
            go_wp2_with fail
            go_roundw
            case rel => exact ⟨k + 1, zs, by go_num, by omega, hdl, Hnext, hT5, hB5⟩
            case measure => simp [intOf]; omega
          · obtain rfl : k = l.length := by omega
            have hys2 := hys.out
            rw [List.take_length] at hys2
            obtain rfl : ys = [] := fill_nil hT3.rs hys2
            clear hys hys2
            go_wp2_with (first | (go_at_call 17; refine (len1_any hT3).mono ?_; rintro e w5 ⟨rfl, rfl⟩))
            go_ret
            exact ⟨ret_bool (by simp), hB3⟩
  · have hn2 : (60 : Int) < (n : Int) := by omega
    go_enter Try.func7, Try.ntmps7
    go_wp2_with fail
    refine (awake_any w).mono ?_
    rintro e w1 ⟨rfl, hB1⟩
    go_wp2_with fail
    go_ret
    exact ⟨rfl, hB1⟩
end Go.Proofs.Ytogeifnkjckaiaa
