/- The law EntryBack, walked. -/
import Derived.Test.YtbkaiffecnomjaaAwake
namespace Go.Proofs.Ytbkaiffecnomjaa
open Go.RowKit
attribute [local go_sem ↓] Go.wp_at_zero Go.wp_at_succ

theorem enc_nil2 : encE [] = 0 ∧ encL [] = [] := by decide
set_option maxRecDepth 100000 in
set_option maxHeartbeats 2000000 in
theorem lback_any (A : Option Addr) (n c : Nat) (xs : List En) (Ab : Option Addr) (nb cb : Nat) (l : List Int) (w : World) (hn : xs.length = n) (hI : LS w w.heap.size A xs) (hnb : l.length = nb) (hcapb : nb ≤ cb) (hIb : BS w w.heap.size Ab l) (hR : Bys l) :
    Calls Try.prog 5 #[.slice A n c, .slice Ab nb cb] w fun e w' => e = .returned (.bool true) ∧ Below w.heap.size w w' := by
  have Hn := Lib.hid hn
  have HI := Lib.hid hI
  have Hnb := Lib.hid hnb
  have HIb := Lib.hid hIb
  have HR := Lib.hid hR
  clear hn hI hnb hIb hR
  go_enter Try.func5, Try.ntmps5
  go_wp2_with fail
  refine (awake_any _).mono ?_
  rintro e w1 ⟨rfl, hB⟩
  by_cases h30 : 30 < n
  · have h31 : (30 : Int) < (n : Int) := by omega
    go_wp2_with fail
    go_ret
    exact ⟨rfl, hB⟩
  · have h31 : ¬ (30 : Int) < (n : Int) := by omega
    by_cases h40 : 400 < nb
    · have h41 : (400 : Int) < (nb : Int) := by omega
      go_wp2_with fail
      go_ret
      exact ⟨rfl, hB⟩
    · have h41 : ¬ (400 : Int) < (nb : Int) := by omega
      have hl1 : n ≤ 1000000 := by omega
      obtain ⟨z2, hz2⟩ : ∃ z2, z2 = decE l := ⟨_, rfl⟩
      obtain ⟨ys2, hys2⟩ : ∃ ys2, ys2 = decL l := ⟨_, rfl⟩
      obtain ⟨m2, hm2⟩ : ∃ m2, m2 = ys2.length := ⟨_, rfl⟩
      have hm29 : m2 ≤ 1000000 := by rw [hm2, hys2]; have := decL_len l; have := Hnb.out; omega
      have HZ2 := Lib.hid (And.intro hz2.symm (And.intro hys2.symm hm2.symm))
      clear hz2 hys2 hm2
      by_cases hz : encE xs = 0
      · obtain ⟨hl9, hall⟩ := encE_zero hz
        have HY := Lib.hid (enc_yes hl9 hall)
        have HD := Lib.hid (dec_enc hl9 hall)
        obtain ⟨m, hm⟩ : ∃ m, m = 12 * n := ⟨_, rfl⟩
        have hmn : ((m : Int) != 12 * (n : Int)) = false := by simp; omega
        have HM := Lib.hid (show (enc xs).length = m by rw [enc_len, Hn.out, hm])
        have hm8 : m ≤ 100000 := by omega
        clear hz hl9 hall hm
        go_wp2_with fail
        refine (enc_is A n c xs _ Hn.out (HI.out.on hB) hl1 0 (enc xs) m HY.out.1 HY.out.2 HM.out).mono ?_
        rintro e w2 ⟨A1, c1, rfl, hc1, hS1, hb⟩
        replace hB := bstep hB hb
        have HS1 := Lib.hid hS1
        clear hb hS1
        go_wp2_with fail
        refine (dec_is A1 m c1 (enc xs) _ HM.out hc1 HS1.out (bys_enc xs) hm8 0 xs n HD.out.1 HD.out.2 Hn.out).mono ?_
        rintro e w3 ⟨A2, c2, rfl, hc2, hS2, hb⟩
        replace hB := bstep hB hb
        have HS2 := Lib.hid hS2
        clear hb hS2 HS1
        go_wp2_with fail
        refine (same_is A A2 n n c c2 xs xs _ (HI.out.on hB) HS2.out hl1 Hn.out Hn.out true (decide_eq_true rfl)).mono ?_
        rintro e w4 ⟨rfl, hb⟩
        replace hB := bstep hB hb
        clear hb HS2
        go_wp2_with fail
        refine (dec_is Ab nb cb l _ Hnb.out hcapb (HIb.out.on hB) HR.out (by omega) z2 ys2 m2 HZ2.out.1 HZ2.out.2.1 HZ2.out.2.2).mono ?_
        rintro e w5 ⟨A3, c3, rfl, hc3, hS3, hb⟩
        replace hB := bstep hB hb
        have HS3 := Lib.hid hS3
        clear hb hS3
        by_cases hz3 : z2 = 0
        · subst hz3
          have HE := Lib.hid (enc_dec HR.out HZ2.out.1)
          go_wp2_with fail
          refine (enc_is A3 m2 c3 ys2 _ HZ2.out.2.2 HS3.out hm29 0 l nb (by rw [← HZ2.out.2.1]; exact HE.out.1) (by rw [← HZ2.out.2.1]; exact HE.out.2) Hnb.out).mono ?_
          rintro e w6 ⟨A4, c4, rfl, hc4, hS4, hb⟩
          replace hB := bstep hB hb
          have q1 := conv_any (c := c4) hS4 Hnb.out
          have q2 := conv_any (c := cb) (HIb.out.on hB) Hnb.out
          clear hb hS4
          go_wp2_with fail
          go_ret
          exact ⟨rfl, hB⟩
        · have hz4 : (z2 != 0) = true := by simpa using hz3
          have hz5 : (z2 == 0) = false := by simpa using hz3
          have hys0 : ys2 = [] := by rw [← HZ2.out.2.1]; exact decL_err (by rw [HZ2.out.1]; exact hz3)
          have hm0 : m2 = 0 := by rw [← HZ2.out.2.2, hys0]; rfl
          subst hys0
          subst hm0
          clear hz3
          go_wp2_with fail
          refine (enc_is A3 0 c3 [] _ rfl HS3.out (by omega) 0 [] 0 enc_nil2.1 enc_nil2.2 rfl).mono ?_
          rintro e w6 ⟨A4, c4, rfl, hc4, hS4, hb⟩
          replace hB := bstep hB hb
          clear hb hS4
          go_wp2_with fail
          go_ret
          exact ⟨rfl, hB⟩
      · obtain ⟨z, hz1⟩ : ∃ z, z = encE xs := ⟨_, rfl⟩
        obtain ⟨ys, hys⟩ : ∃ ys, ys = encL xs := ⟨_, rfl⟩
        obtain ⟨m, hm⟩ : ∃ m, m = ys.length := ⟨_, rfl⟩
        have hz0 : (z == 0) = false := by rw [hz1]; simpa using hz
        have HZ := Lib.hid (And.intro hz1.symm (And.intro hys.symm hm.symm))
        clear hz1 hys hm hz
        go_wp2_with fail
        refine (enc_is A n c xs _ Hn.out (HI.out.on hB) hl1 z ys m HZ.out.1 HZ.out.2.1 HZ.out.2.2).mono ?_
        rintro e w4 ⟨A1, c1, rfl, hc1, hS1, hb⟩
        replace hB := bstep hB hb
        clear hb hS1
        go_wp2_with fail
        refine (dec_is Ab nb cb l _ Hnb.out hcapb (HIb.out.on hB) HR.out (by omega) z2 ys2 m2 HZ2.out.1 HZ2.out.2.1 HZ2.out.2.2).mono ?_
        rintro e w5 ⟨A3, c3, rfl, hc3, hS3, hb⟩
        replace hB := bstep hB hb
        have HS3 := Lib.hid hS3
        clear hb hS3
        by_cases hz3 : z2 = 0
        · subst hz3
          have HE := Lib.hid (enc_dec HR.out HZ2.out.1)
          go_wp2_with fail
          refine (enc_is A3 m2 c3 ys2 _ HZ2.out.2.2 HS3.out hm29 0 l nb (by rw [← HZ2.out.2.1]; exact HE.out.1) (by rw [← HZ2.out.2.1]; exact HE.out.2) Hnb.out).mono ?_
          rintro e w6 ⟨A4, c4, rfl, hc4, hS4, hb⟩
          replace hB := bstep hB hb
          have q1 := conv_any (c := c4) hS4 Hnb.out
          have q2 := conv_any (c := cb) (HIb.out.on hB) Hnb.out
          clear hb hS4
          go_wp2_with fail
          go_ret
          exact ⟨rfl, hB⟩
        · have hz4 : (z2 != 0) = true := by simpa using hz3
          have hz5 : (z2 == 0) = false := by simpa using hz3
          have hys0 : ys2 = [] := by rw [← HZ2.out.2.1]; exact decL_err (by rw [HZ2.out.1]; exact hz3)
          have hm0 : m2 = 0 := by rw [← HZ2.out.2.2, hys0]; rfl
          subst hys0
          subst hm0
          clear hz3
          go_wp2_with fail
          refine (enc_is A3 0 c3 [] _ rfl HS3.out (by omega) 0 [] 0 enc_nil2.1 enc_nil2.2 rfl).mono ?_
          rintro e w6 ⟨A4, c4, rfl, hc4, hS4, hb⟩
          replace hB := bstep hB hb
          clear hb hS4
          go_wp2_with fail
          go_ret
          exact ⟨rfl, hB⟩
end Go.Proofs.Ytbkaiffecnomjaa
