/- The law FieldParts, walked: for any fields and numbers it answers true, and nothing that was there changes. -/
import Derived.Test.YtoffliekebpmlaaSum
namespace Go.Proofs.Ytoffliekebpmlaa
open Go.RowKit
attribute [local go_sem ↓] Go.wp_at_zero Go.wp_at_succ

theorem packI_bd (fs : List (Int × Int)) (vs : List Int) : -9223372036854775808 ≤ packI fs vs ∧ packI fs vs ≤ 9223372036854775807 := by
  unfold packI
  split
  · exact foldP_bd _
  · exact ⟨by omega, by omega⟩
theorem pack_nonneg {fs : List (Int × Int)} {vs : List Int} (h : apartB fs = true) : 0 ≤ packI fs vs := by
  unfold packI
  split
  · rw [(good_zip vs h).nat.1]; omega
  · omega
theorem apart_rights {fs : List (Int × Int)} (h : apartB fs = true) : rightsB fs = true := by
  rw [apartB, Bool.and_eq_true] at h
  exact h.1
theorem pack_parts {fs : List (Int × Int)} {vs : List Int} (h : packOk fs vs = true) : partsI (packI fs vs) fs = vs := by
  obtain ⟨h1, h2, h3⟩ := packOk_iff.1 h
  have hg := good_zip vs h2
  rw [packI, if_pos h, partsI, if_pos (apart_rights h2)]
  have key : ∀ p ∈ fs.zip vs, getI (foldP (fs.zip vs)) p.1.1 p.1.2 = p.2 := fun p hp => hg.got hp (List.all_eq_true.1 h3 p hp)
  generalize foldP (fs.zip vs) = y at key ⊢
  apply List.ext_getElem
  · simp [h1]
  · intro k hk1 hk2
    simp at hk1
    have hm : (fs[k], vs[k]) ∈ fs.zip vs := by
      rw [List.mem_iff_getElem]
      exact ⟨k, by simp; omega, by simp⟩
    rw [List.getElem_map]
    exact (key (fs[k], vs[k]) hm : getI y (fs[k]).1 (fs[k]).2 = vs[k])
theorem parts_packOk {fs : List (Int × Int)} (x : Int) (h : apartB fs = true) : packOk fs (partsI x fs) = true := by
  have hr := apart_rights h
  rw [packOk_iff, partsI, if_pos hr]
  refine ⟨by simp, h, List.all_eq_true.2 fun p hp => ?_⟩
  obtain ⟨k, hk, rfl⟩ := List.mem_iff_getElem.1 hp
  rw [List.getElem_zip, List.getElem_map]
  simp at hk
  rw [rightsB, List.all_eq_true] at hr
  have h3 := rightB_true.1 (hr fs[k] (List.getElem_mem hk))
  have h4 := get_bd (x := x) h3.1 h3.2.1 h3.2.2
  simp [okP, h4]
theorem intsB_same (xs : List Int) : intsB xs xs = true := by simp [intsB]

set_option maxHeartbeats 400000 in
theorem partsL_long (A A2 : Option Addr) (n c n2 c2 : Nat) (x : Int) (w : World) (h : 20 < n ∨ 20 < n2) :
    Calls Try.prog 7 #[.slice A n c, .slice A2 n2 c2, .int .i64 x] w fun e w' => e = .returned (.bool true) ∧ Below w.heap.size w w' := by
  by_cases h1 : 20 < n
  · clear h
    go_enter Try.func7, Try.ntmps7
    go_wp2_with fail
    refine (awake_any _).mono ?_
    rintro e w1 ⟨rfl, hb⟩
    go_wp2_with fail
    go_ret
    exact ⟨rfl, hb⟩
  · have h2 : 20 < n2 := by omega
    clear h
    go_enter Try.func7, Try.ntmps7
    go_wp2_with fail
    refine (awake_any _).mono ?_
    rintro e w1 ⟨rfl, hb⟩
    go_wp2_with fail
    go_ret
    exact ⟨rfl, hb⟩
set_option maxHeartbeats 1000000 in
theorem partsL_no (A A2 : Option Addr) (n c n2 c2 : Nat) (fs : List (Int × Int)) (vs : List Int) (x : Int) (w : World) (hn : fs.length = n) (hcap : n ≤ c) (hS : Fds w w.heap.size A fs) (hn2 : vs.length = n2) (hI : IS w w.heap.size A2 vs) (_hx1 : -9223372036854775808 ≤ x) (_hx2 : x ≤ 9223372036854775807) (h1 : ¬ 20 < n) (h2 : ¬ 20 < n2) (ha : apartB fs = false) :
    Calls Try.prog 7 #[.slice A n c, .slice A2 n2 c2, .int .i64 x] w fun e w' => e = .returned (.bool true) ∧ Below w.heap.size w w' := by
  have ho : packOk fs vs = false := by
    cases hq : packOk fs vs with
    | false => rfl
    | true => rw [(packOk_iff.1 hq).2.1] at ha; cases ha
  have Ha := Lib.hid ha
  have Ho := Lib.hid ho
  clear ha ho
  have Hn := Lib.hid hn
  have Hn2 := Lib.hid hn2
  clear hn hn2
  go_enter Try.func7, Try.ntmps7
  go_wp2_with fail
  refine (awake_any _).mono ?_
  rintro e w1 ⟨rfl, hB⟩
  go_wp2_with fail
  refine (pack_all A A2 n c n2 c2 fs vs _ Hn.out Hn2.out (by omega) hcap ((hS.below hB).more hB.size) ((hI.below hB).more hB.size)).mono ?_
  rintro e w2 ⟨rfl, hb⟩
  rw [Ho.out]
  replace hB := hB.trans (hb.mono hB.size)
  go_wp2_with fail
  refine (apart_any A n c fs _ Hn.out (by omega) hcap ((hS.below hB).more hB.size)).mono ?_
  rintro e w3 ⟨rfl, hb⟩
  rw [Ha.out]
  replace hB := hB.trans (hb.mono hB.size)
  go_wp2_with fail
  go_ret
  exact ⟨rfl, hB⟩
set_option maxHeartbeats 2000000 in
theorem partsL_half (A A2 : Option Addr) (n c n2 c2 : Nat) (fs : List (Int × Int)) (vs : List Int) (x : Int) (w : World) (hn : fs.length = n) (hcap : n ≤ c) (hS : Fds w w.heap.size A fs) (hn2 : vs.length = n2) (hI : IS w w.heap.size A2 vs) (hx1 : -9223372036854775808 ≤ x) (hx2 : x ≤ 9223372036854775807) (h1 : ¬ 20 < n) (h2 : ¬ 20 < n2) (ha : apartB fs = true) (ho : packOk fs vs = false) :
    Calls Try.prog 7 #[.slice A n c, .slice A2 n2 c2, .int .i64 x] w fun e w' => e = .returned (.bool true) ∧ Below w.heap.size w w' := by
  have Ha := Lib.hid ha
  have Ho := Lib.hid ho
  have Hp := Lib.hid (parts_packOk x ha)
  have Hpp := Lib.hid (pack_parts (parts_packOk x ha))
  have t0 : decide (0 ≤ packI fs (partsI x fs)) = true := by simpa using pack_nonneg ha
  clear ha ho
  have Hn := Lib.hid hn
  have Hn2 := Lib.hid hn2
  clear hn hn2
  go_enter Try.func7, Try.ntmps7
  go_wp2_with fail
  refine (awake_any _).mono ?_
  rintro e w1 ⟨rfl, hB⟩
  go_wp2_with fail
  refine (pack_all A A2 n c n2 c2 fs vs _ Hn.out Hn2.out (by omega) hcap ((hS.below hB).more hB.size) ((hI.below hB).more hB.size)).mono ?_
  rintro e w2 ⟨rfl, hb⟩
  rw [Ho.out]
  replace hB := hB.trans (hb.mono hB.size)
  go_wp2_with fail
  refine (apart_any A n c fs _ Hn.out (by omega) hcap ((hS.below hB).more hB.size)).mono ?_
  rintro e w5 ⟨rfl, hb⟩
  rw [Ha.out]
  replace hB := hB.trans (hb.mono hB.size)
  go_wp2_with fail
  refine (parts_any x A n c fs _ hx1 hx2 Hn.out (by omega) ((hS.below hB).more hB.size)).mono ?_
  rintro e w6 ⟨A6, n6, c6, rfl, hn6, hc6, hI6, hb⟩
  replace hB := hB.trans (hb.mono hB.size)
  have Hn6 := Lib.hid hn6
  clear hn6 hb
  go_wp2_with fail
  refine (pack_all A A6 n c n6 c6 fs (partsI x fs) _ Hn.out Hn6.out (by omega) hcap ((hS.below hB).more hB.size) hI6).mono ?_
  rw [Hp.out]
  rintro e w7 ⟨rfl, hb⟩
  replace hB := hB.trans (hb.mono hB.size)
  replace hI6 := (hI6.below hb).more hb.size
  clear hb
  go_wp2_with fail
  refine (parts_any (packI fs (partsI x fs)) A n c fs _ (packI_bd fs _).1 (packI_bd fs _).2 Hn.out (by omega) ((hS.below hB).more hB.size)).mono ?_
  rw [Hpp.out]
  rintro e w8 ⟨A8, n8, c8, rfl, hn8, hc8, hI8, hb⟩
  replace hB := hB.trans (hb.mono hB.size)
  replace hI6 := (hI6.below hb).more hb.size
  have Hn8 := Lib.hid hn8
  clear hn8 hb
  have hlen : (partsI x fs).length ≤ 1000 := by
    unfold partsI
    have := Hn.out
    split
    · simp; omega
    · simp
  go_wp2_with fail
  refine (ints_any A8 A6 n8 c8 n6 c6 (partsI x fs) (partsI x fs) _ Hn8.out Hn6.out (by have := Hn8.out; omega) hI8 hI6).mono ?_
  rw [intsB_same]
  rintro e w9 ⟨rfl, hb⟩
  replace hB := hB.trans (hb.mono hB.size)
  go_wp2_with fail
  go_ret
  exact ⟨rfl, hB⟩
set_option maxHeartbeats 2000000 in
theorem partsL_yes (A A2 : Option Addr) (n c n2 c2 : Nat) (fs : List (Int × Int)) (vs : List Int) (x : Int) (w : World) (hn : fs.length = n) (hcap : n ≤ c) (hS : Fds w w.heap.size A fs) (hn2 : vs.length = n2) (hI : IS w w.heap.size A2 vs) (hx1 : -9223372036854775808 ≤ x) (hx2 : x ≤ 9223372036854775807) (h1 : ¬ 20 < n) (h2 : ¬ 20 < n2) (ha : apartB fs = true) (ho : packOk fs vs = true) :
    Calls Try.prog 7 #[.slice A n c, .slice A2 n2 c2, .int .i64 x] w fun e w' => e = .returned (.bool true) ∧ Below w.heap.size w w' := by
  have Ha := Lib.hid ha
  have Ho := Lib.hid ho
  have Hp := Lib.hid (parts_packOk x ha)
  have Hpp := Lib.hid (pack_parts (parts_packOk x ha))
  have Hv := Lib.hid (pack_parts ho)
  have t0 : decide (0 ≤ packI fs (partsI x fs)) = true := by simpa using pack_nonneg ha
  clear ha ho
  have Hn := Lib.hid hn
  have Hn2 := Lib.hid hn2
  clear hn hn2
  go_enter Try.func7, Try.ntmps7
  go_wp2_with fail
  refine (awake_any _).mono ?_
  rintro e w1 ⟨rfl, hB⟩
  go_wp2_with fail
  refine (pack_all A A2 n c n2 c2 fs vs _ Hn.out Hn2.out (by omega) hcap ((hS.below hB).more hB.size) ((hI.below hB).more hB.size)).mono ?_
  rintro e w2 ⟨rfl, hb⟩
  rw [Ho.out]
  replace hB := hB.trans (hb.mono hB.size)
  go_wp2_with fail
  refine (parts_any (packI fs vs) A n c fs _ (packI_bd fs vs).1 (packI_bd fs vs).2 Hn.out (by omega) ((hS.below hB).more hB.size)).mono ?_
  rw [Hv.out]
  rintro e w3 ⟨A3, n3, c3, rfl, hn3, hc3, hI3, hb⟩
  replace hB := hB.trans (hb.mono hB.size)
  have Hn3 := Lib.hid hn3
  clear hn3 hb
  go_wp2_with fail
  refine (ints_any A3 A2 n3 c3 n2 c2 vs vs _ Hn3.out Hn2.out (by have := Hn3.out; have := Hn2.out; omega) hI3 ((hI.below hB).more hB.size)).mono ?_
  rw [intsB_same]
  rintro e w4 ⟨rfl, hb⟩
  replace hB := hB.trans (hb.mono hB.size)
  go_wp2_with fail
  refine (apart_any A n c fs _ Hn.out (by omega) hcap ((hS.below hB).more hB.size)).mono ?_
  rintro e w5 ⟨rfl, hb⟩
  rw [Ha.out]
  replace hB := hB.trans (hb.mono hB.size)
  go_wp2_with fail
  refine (parts_any x A n c fs _ hx1 hx2 Hn.out (by omega) ((hS.below hB).more hB.size)).mono ?_
  rintro e w6 ⟨A6, n6, c6, rfl, hn6, hc6, hI6, hb⟩
  replace hB := hB.trans (hb.mono hB.size)
  have Hn6 := Lib.hid hn6
  clear hn6 hb
  go_wp2_with fail
  refine (pack_all A A6 n c n6 c6 fs (partsI x fs) _ Hn.out Hn6.out (by omega) hcap ((hS.below hB).more hB.size) hI6).mono ?_
  rw [Hp.out]
  rintro e w7 ⟨rfl, hb⟩
  replace hB := hB.trans (hb.mono hB.size)
  replace hI6 := (hI6.below hb).more hb.size
  clear hb
  go_wp2_with fail
  refine (parts_any (packI fs (partsI x fs)) A n c fs _ (packI_bd fs _).1 (packI_bd fs _).2 Hn.out (by omega) ((hS.below hB).more hB.size)).mono ?_
  rw [Hpp.out]
  rintro e w8 ⟨A8, n8, c8, rfl, hn8, hc8, hI8, hb⟩
  replace hB := hB.trans (hb.mono hB.size)
  replace hI6 := (hI6.below hb).more hb.size
  have Hn8 := Lib.hid hn8
  clear hn8 hb
  have hlen : (partsI x fs).length ≤ 1000 := by
    unfold partsI
    have := Hn.out
    split
    · simp; omega
    · simp
  go_wp2_with fail
  refine (ints_any A8 A6 n8 c8 n6 c6 (partsI x fs) (partsI x fs) _ Hn8.out Hn6.out (by have := Hn8.out; omega) hI8 hI6).mono ?_
  rw [intsB_same]
  rintro e w9 ⟨rfl, hb⟩
  replace hB := hB.trans (hb.mono hB.size)
  go_wp2_with fail
  go_ret
  exact ⟨rfl, hB⟩
theorem partsL_any (A : Option Addr) (n c : Nat) (fs : List (Int × Int)) (A2 : Option Addr) (n2 c2 : Nat) (vs : List Int) (x : Int) (w : World) (hn : fs.length = n) (hcap : n ≤ c) (hS : Fds w w.heap.size A fs) (hn2 : vs.length = n2) (hI : IS w w.heap.size A2 vs) (hx1 : -9223372036854775808 ≤ x) (hx2 : x ≤ 9223372036854775807) :
    Calls Try.prog 7 #[.slice A n c, .slice A2 n2 c2, .int .i64 x] w fun e w' => e = .returned (.bool true) ∧ Below w.heap.size w w' := by
  by_cases h1 : 20 < n
  · exact partsL_long A A2 n c n2 c2 x w (.inl h1)
  · by_cases h2 : 20 < n2
    · exact partsL_long A A2 n c n2 c2 x w (.inr h2)
    · cases ha : apartB fs with
      | false => exact partsL_no A A2 n c n2 c2 fs vs x w hn hcap hS hn2 hI hx1 hx2 h1 h2 ha
      | true =>
        cases ho : packOk fs vs with
        | false => exact partsL_half A A2 n c n2 c2 fs vs x w hn hcap hS hn2 hI hx1 hx2 h1 h2 ha ho
        | true => exact partsL_yes A A2 n c n2 c2 fs vs x w hn hcap hS hn2 hI hx1 hx2 h1 h2 ha ho
end Go.Proofs.Ytoffliekebpmlaa
