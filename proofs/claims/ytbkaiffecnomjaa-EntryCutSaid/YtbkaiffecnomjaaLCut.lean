/- The law EntryCut, walked. -/
import Derived.Test.YtbkaiffecnomjaaAwake
namespace Go.Proofs.Ytbkaiffecnomjaa
open Go.RowKit
attribute [local go_sem ↓] Go.wp_at_zero Go.wp_at_succ

theorem head_bytes {A : Option Addr} {n c r : Nat} (h : r ≤ c) (W : World) : (Instr.slice 24 (.slice A n c) none (some (.int .i64 (r : Int))) none).run Try.prog W = .ok (.slice A r c) W := by
  have hu : Try.prog.underlying 24 = some (.slice (Try.prog.elem 24)) := by kernel_rfl
  have e3 : Try.prog.elem 24 = 5 := by kernel_rfl
  obtain ⟨i0, hi, hz0, hz1, hz2⟩ := info_parts infoB
  rw [run_slice_h W 24 A n c hu .i64 _ (by omega) (by omega), e3]
  cases A <;> simp [sizeOf, typeInfo, hi, hz1, Result.andThen, sliced, Addr.add_zero']
theorem head_entries {A : Option Addr} {n c r : Nat} (h : r ≤ c) (W : World) : (Instr.slice 22 (.slice A n c) none (some (.int .i64 (r : Int))) none).run Try.prog W = .ok (.slice A r c) W := by
  have hu : Try.prog.underlying 22 = some (.slice (Try.prog.elem 22)) := by kernel_rfl
  have e3 : Try.prog.elem 22 = 32 := by kernel_rfl
  obtain ⟨i0, hi, hz0, hz1, hz2⟩ := info_parts infoE
  rw [run_slice_h W 22 A n c hu .i64 _ (by omega) (by omega), e3]
  cases A <;> simp [sizeOf, typeInfo, hi, hz1, Result.andThen, sliced, Addr.add_zero']
set_option maxRecDepth 100000 in
set_option maxHeartbeats 2000000 in
theorem lcut_any (A : Option Addr) (n c : Nat) (xs : List En) (y : Int) (w : World) (hn : xs.length = n) (hcap : n ≤ c) (hI : LS w w.heap.size A xs) (hy0 : 0 ≤ y) (hy1 : y ≤ 65535) :
    Calls Try.prog 8 #[.slice A n c, .int .u16 y] w fun e w' => e = .returned (.bool true) ∧ Below w.heap.size w w' := by
  have Hn := Lib.hid hn
  have HI := Lib.hid hI
  clear hn hI
  go_enter Try.func8, Try.ntmps8
  go_wp2_with fail
  refine (awake_any _).mono ?_
  rintro e w1 ⟨rfl, hB⟩
  by_cases h30 : 30 < n
  · have h31 : (30 : Int) < (n : Int) := by omega
    go_wp2_with fail
    go_ret
    exact ⟨rfl, hB⟩
  · have h31 : ¬ (30 : Int) < (n : Int) := by omega
    have hl1 : n ≤ 1000000 := by omega
    by_cases hall : xs.all rtB = true
    · have HA := Lib.hid (enc_yes (l := xs) (by rw [Hn.out]; omega) hall)
      obtain ⟨m, hm⟩ : ∃ m, m = 12 * n := ⟨_, rfl⟩
      have HLa := Lib.hid (show (enc xs).length = m by rw [enc_len, Hn.out, hm])
      have hmn : ((m : Int) != 12 * (n : Int)) = false := by simp; omega
      have Hm := Lib.hid hm
      have Hall := Lib.hid hall
      have hm9 : m ≤ 360 := by omega
      clear hm hall
      obtain ⟨r, hr⟩ : ∃ r : Nat, y % ((m : Int) + 1) = (r : Int) := ⟨(y % ((m : Int) + 1)).toNat, by have := Int.emod_nonneg y (show (m : Int) + 1 ≠ 0 by omega); omega⟩
      have hrm : r ≤ m := by have := Int.emod_lt_of_pos y (show 0 < (m : Int) + 1 by omega); omega
      have hr2 : y.tmod ((m : Int) + 1) = (r : Int) := by rw [Int.tmod_eq_emod_of_nonneg hy0]; exact hr
      obtain ⟨q, hq⟩ : ∃ q, q = r / 12 := ⟨_, rfl⟩
      have hq1 : (r : Int) / 12 = (q : Int) := by omega
      have hqn : q ≤ n := by have := Hm.out; omega
      go_wp2_with fail
      refine (enc_is A n c xs _ Hn.out (HI.out.on hB) hl1 0 (enc xs) m HA.out.1 HA.out.2 HLa.out).mono ?_
      rintro e w2 ⟨A1, c1, rfl, hc1, hS1, hb⟩
      replace hB := bstep hB hb
      have HS1 := Lib.hid hS1
      clear hb hS1
      have hs1 := fun W => head_bytes (A := A1) (n := m) (c := c1) (r := r) (by omega) W
      have hs2 := fun W => head_entries (A := A) (n := n) (c := c) (r := q) (by omega) W
      have HT := Lib.hid (show ((enc xs).take r).length = r by rw [List.length_take, HLa.out]; omega)
      by_cases h12 : r % 12 = 0
      · have h12b : ((r : Int) % 12 != 0) = false := by simp; omega
        have ht : (enc xs).take r = enc (xs.take q) := by rw [← enc_take]; congr 1; omega
        have HD := Lib.hid (dec_enc (l := xs.take q) (by rw [take_len (by rw [Hn.out]; exact hqn)]; omega) (all_take Hall.out q))
        rw [← ht] at HD
        have HL := Lib.hid (show (xs.take q).length = q from take_len (by rw [Hn.out]; exact hqn))
        clear h12 ht hq
        go_wp2_with fail
        refine (dec_is A1 r c1 ((enc xs).take r) _ HT.out (by omega) (HS1.out.take r) (bys_take (bys_enc xs) r) (by omega) 0 (xs.take q) q HD.out.1 HD.out.2 HL.out).mono ?_
        rintro e w3 ⟨A2, c2, rfl, hc2, hS2, hb⟩
        replace hB := bstep hB hb
        have HS2 := Lib.hid hS2
        clear hb hS2
        go_wp2_with fail
        refine (same_is A2 A q q c2 c (xs.take q) (xs.take q) _ HS2.out ((HI.out.on hB).take q) (by omega) HL.out HL.out true (decide_eq_true rfl)).mono ?_
        rintro e w4 ⟨rfl, hb⟩
        replace hB := bstep hB hb
        go_wp2_with fail
        go_ret
        exact ⟨rfl, hB⟩
      · have h12b : ((r : Int) % 12 != 0) = true := by simp; omega
        have HD := Lib.hid (dec_form (b := (enc xs).take r) (by rw [HT.out]; exact h12))
        clear h12 hq
        go_wp2_with fail
        refine (dec_is A1 r c1 ((enc xs).take r) _ HT.out (by omega) (HS1.out.take r) (bys_take (bys_enc xs) r) (by omega) 12 [] 0 HD.out.1 HD.out.2 rfl).mono ?_
        rintro e w3 ⟨A2, c2, rfl, hc2, hS2, hb⟩
        replace hB := bstep hB hb
        clear hb hS2
        go_wp2_with fail
        go_ret
        exact ⟨rfl, hB⟩
    · have HA := Lib.hid (enc_no (l := xs) (by rw [Hn.out]; omega) (by simpa using hall))
      clear hall
      go_wp2_with fail
      refine (enc_is A n c xs _ Hn.out (HI.out.on hB) hl1 1 [] 0 HA.out.1 HA.out.2 rfl).mono ?_
      rintro e w2 ⟨A1, c1, rfl, hc1, hS1, hb⟩
      replace hB := bstep hB hb
      clear hb hS1
      go_wp2_with fail
      go_ret
      exact ⟨rfl, hB⟩
end Go.Proofs.Ytbkaiffecnomjaa
