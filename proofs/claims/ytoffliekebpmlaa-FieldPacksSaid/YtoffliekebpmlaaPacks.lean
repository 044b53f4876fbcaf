/- The law FieldPacks, walked: for any fields, numbers and word it answers true, and nothing that was there changes. -/
import Derived.Test.YtoffliekebpmlaaRefList
import Derived.Test.YtoffliekebpmlaaPartsL
namespace Go.Proofs.Ytoffliekebpmlaa
open Go.RowKit
attribute [local go_sem ↓] Go.wp_at_zero Go.wp_at_succ

set_option maxHeartbeats 400000 in
theorem packs_long (A A2 : Option Addr) (n c n2 c2 : Nat) (x : Int) (w : World) (h : 20 < n ∨ 20 < n2) :
    Calls Try.prog 4 #[.slice A n c, .slice A2 n2 c2, .int .i64 x] w fun e w' => e = .returned (.bool true) ∧ Below w.heap.size w w' := by
  by_cases h1 : 20 < n
  · clear h
    go_enter Try.func4, Try.ntmps4
    go_wp2_with fail
    refine (awake_any _).mono ?_
    rintro e w1 ⟨rfl, hb⟩
    go_wp2_with fail
    go_ret
    exact ⟨rfl, hb⟩
  · have h2 : 20 < n2 := by omega
    clear h
    go_enter Try.func4, Try.ntmps4
    go_wp2_with fail
    refine (awake_any _).mono ?_
    rintro e w1 ⟨rfl, hb⟩
    go_wp2_with fail
    go_ret
    exact ⟨rfl, hb⟩
set_option maxHeartbeats 2000000 in
theorem packs_go (A A2 : Option Addr) (n c n2 c2 : Nat) (fs : List (Int × Int)) (vs : List Int) (x : Int) (w : World) (hn : fs.length = n) (hcap : n ≤ c) (hS : Fds w w.heap.size A fs) (hn2 : vs.length = n2) (hI : IS w w.heap.size A2 vs) (hx1 : -9223372036854775808 ≤ x) (hx2 : x ≤ 9223372036854775807) (h1 : ¬ 20 < n) (h2 : ¬ 20 < n2) :
    Calls Try.prog 4 #[.slice A n c, .slice A2 n2 c2, .int .i64 x] w fun e w' => e = .returned (.bool true) ∧ Below w.heap.size w w' := by
  have Hn := Lib.hid hn
  have Hn2 := Lib.hid hn2
  clear hn hn2
  go_enter Try.func4, Try.ntmps4
  go_wp2_with fail
  refine (awake_any _).mono ?_
  rintro e w1 ⟨rfl, hB⟩
  go_wp2_with fail
  refine (pack_all A A2 n c n2 c2 fs vs _ Hn.out Hn2.out (by omega) hcap ((hS.below hB).more hB.size) ((hI.below hB).more hB.size)).mono ?_
  rintro e w2 ⟨rfl, hb⟩
  replace hB := hB.trans (hb.mono hB.size)
  clear hb
  go_wp2_with fail
  refine (refPack_any A A2 n c n2 c2 fs vs _ Hn.out Hn2.out (by omega) ((hS.below hB).more hB.size) ((hI.below hB).more hB.size)).mono ?_
  rintro e w3 ⟨rfl, hb⟩
  replace hB := hB.trans (hb.mono hB.size)
  clear hb
  go_wp2_with fail
  refine (apart_any A n c fs _ Hn.out (by omega) hcap ((hS.below hB).more hB.size)).mono ?_
  rintro e w4 ⟨rfl, hb⟩
  replace hB := hB.trans (hb.mono hB.size)
  clear hb
  go_wp2_with fail
  refine (refApart_any A n c fs _ Hn.out (by omega) ((hS.below hB).more hB.size)).mono ?_
  rintro e w5 ⟨rfl, hb⟩
  replace hB := hB.trans (hb.mono hB.size)
  clear hb
  have hlen : (partsI x fs).length ≤ 1000 := by
    unfold partsI
    have := Hn.out
    split
    · simp; omega
    · simp
  go_wp2_with fail
  refine (parts_any x A n c fs _ hx1 hx2 Hn.out (by omega) ((hS.below hB).more hB.size)).mono ?_
  rintro e w6 ⟨A6, n6, c6, rfl, hn6, hc6, hI6, hb⟩
  replace hB := hB.trans (hb.mono hB.size)
  have Hn6 := Lib.hid hn6
  clear hn6 hb
  go_wp2_with fail
  refine (refParts_any x A n c fs _ Hn.out (by omega) ((hS.below hB).more hB.size)).mono ?_
  rintro e w7 ⟨A7, n7, c7, rfl, hn7, hc7, hI7, hb⟩
  replace hB := hB.trans (hb.mono hB.size)
  replace hI6 := (hI6.below hb).more hb.size
  have Hn7 := Lib.hid hn7
  clear hn7 hb
  go_wp2_with fail
  refine (ints_any A6 A7 n6 c6 n7 c7 (partsI x fs) (partsI x fs) _ Hn6.out Hn7.out (by have := Hn6.out; omega) hI6 hI7).mono ?_
  rw [intsB_same]
  rintro e w8 ⟨rfl, hb⟩
  replace hB := hB.trans (hb.mono hB.size)
  go_wp2_with fail
  go_ret
  exact ⟨rfl, hB⟩
theorem packs_any (A : Option Addr) (n c : Nat) (fs : List (Int × Int)) (A2 : Option Addr) (n2 c2 : Nat) (vs : List Int) (x : Int) (w : World) (hn : fs.length = n) (hcap : n ≤ c) (hS : Fds w w.heap.size A fs) (hn2 : vs.length = n2) (hI : IS w w.heap.size A2 vs) (hx1 : -9223372036854775808 ≤ x) (hx2 : x ≤ 9223372036854775807) :
    Calls Try.prog 4 #[.slice A n c, .slice A2 n2 c2, .int .i64 x] w fun e w' => e = .returned (.bool true) ∧ Below w.heap.size w w' := by
  by_cases h1 : 20 < n
  · exact packs_long A A2 n c n2 c2 x w (.inl h1)
  · by_cases h2 : 20 < n2
    · exact packs_long A A2 n c n2 c2 x w (.inr h2)
    · exact packs_go A A2 n c n2 c2 fs vs x w hn hcap hS hn2 hI hx1 hx2 h1 h2
end Go.Proofs.Ytoffliekebpmlaa
