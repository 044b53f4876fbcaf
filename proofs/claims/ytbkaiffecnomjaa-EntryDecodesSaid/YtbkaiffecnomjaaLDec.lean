/- The law EntryDecodes, walked. -/
import Derived.Test.YtbkaiffecnomjaaAwake
namespace Go.Proofs.Ytbkaiffecnomjaa
open Go.RowKit
attribute [local go_sem ↓] Go.wp_at_zero Go.wp_at_succ

set_option maxRecDepth 100000 in
set_option maxHeartbeats 2000000 in
theorem ldec_any (A : Option Addr) (n c : Nat) (l : List Int) (w : World) (hn : l.length = n) (hcap : n ≤ c) (hI : BS w w.heap.size A l) (hR : Bys l) :
    Calls Try.prog 4 #[.slice A n c] w fun e w' => e = .returned (.bool true) ∧ Below w.heap.size w w' := by
  have Hn := Lib.hid hn
  have HI := Lib.hid hI
  have HR := Lib.hid hR
  clear hn hI hR
  go_enter Try.func4, Try.ntmps4
  go_wp2_with fail
  refine (awake_any _).mono ?_
  rintro e w1 ⟨rfl, hB⟩
  by_cases h30 : 400 < n
  · have h31 : (400 : Int) < (n : Int) := by omega
    go_wp2_with fail
    go_ret
    exact ⟨rfl, hB⟩
  · have h31 : ¬ (400 : Int) < (n : Int) := by omega
    obtain ⟨z, hz⟩ : ∃ z, z = decE l := ⟨_, rfl⟩
    obtain ⟨ys, hys⟩ : ∃ ys, ys = decL l := ⟨_, rfl⟩
    obtain ⟨m, hm⟩ : ∃ m, m = ys.length := ⟨_, rfl⟩
    have HZ := Lib.hid (And.intro hz.symm (And.intro hys.symm hm.symm))
    have hm9 : m ≤ 1000000 := by rw [hm, hys]; have := decL_len l; have := Hn.out; omega
    clear hz hys hm
    go_wp2_with fail
    refine (dec_is A n c l _ Hn.out hcap (HI.out.on hB) HR.out (by omega) z ys m HZ.out.1 HZ.out.2.1 HZ.out.2.2).mono ?_
    rintro e w2 ⟨A1, c1, rfl, hc1, hS1, hb⟩
    replace hB := bstep hB hb
    have HS1 := Lib.hid hS1
    clear hb hS1
    go_wp2_with fail
    refine (RetDec_is (refDec_any A n c l _ Hn.out (HI.out.on hB) HR.out (by omega)) z ys m HZ.out.1 HZ.out.2.1 HZ.out.2.2).mono ?_
    rintro e w3 ⟨A2, c2, rfl, hc2, hS2, hb⟩
    replace hB := bstep hB hb
    replace HS1 := Lib.hid (HS1.out.on hb)
    have HS2 := Lib.hid hS2
    clear hb hS2
    go_wp2_with fail
    refine (same_is A1 A2 m m c1 c2 ys ys _ HS1.out HS2.out hm9 HZ.out.2.2 HZ.out.2.2 true (decide_eq_true rfl)).mono ?_
    rintro e w4 ⟨rfl, hb⟩
    replace hB := bstep hB hb
    go_wp2_with fail
    go_ret
    exact ⟨rfl, hB⟩
end Go.Proofs.Ytbkaiffecnomjaa
