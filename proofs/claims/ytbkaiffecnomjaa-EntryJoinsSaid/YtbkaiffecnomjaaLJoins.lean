/- The law EntryJoins, walked. -/
import Derived.Test.YtbkaiffecnomjaaAwake
import Derived.Test.YtbkaiffecnomjaaApp
namespace Go.Proofs.Ytbkaiffecnomjaa
open Go.RowKit
attribute [local go_sem ↓] Go.wp_at_zero Go.wp_at_succ

theorem str_app (x y : List Int) : strOfNums (x ++ y) = strOfNums x ++ strOfNums y := by
  apply ByteArray.ext
  simp [strOfNums, ByteArray.data_append]
theorem run_join {x y : List Int} (hx : x.length ≤ 10000) (hy : y.length ≤ 10000) (W : World) : (Op.stringOp .add (strOfNums x) (strOfNums y)).run Try.prog W = .ok (.string (strOfNums (x ++ y))) W := by
  rw [run_string_add_sum W _ _ (by rw [strOfNums_size, strOfNums_size]; omega), str_app]
set_option maxRecDepth 100000 in
set_option maxHeartbeats 2000000 in
theorem ljoins_any (A : Option Addr) (n c : Nat) (xs : List En) (Ab : Option Addr) (m cb : Nat) (ys : List En) (w : World) (hn : xs.length = n) (hI : LS w w.heap.size A xs) (hm : ys.length = m) (hIb : LS w w.heap.size Ab ys) :
    Calls Try.prog 7 #[.slice A n c, .slice Ab m cb] w fun e w' => e = .returned (.bool true) ∧ Below w.heap.size w w' := by
  have Hn := Lib.hid hn
  have HI := Lib.hid hI
  have Hm := Lib.hid hm
  have HIb := Lib.hid hIb
  clear hn hI hm hIb
  go_enter Try.func7, Try.ntmps7
  go_wp2_with fail
  refine (awake_any _).mono ?_
  rintro e w1 ⟨rfl, hB⟩
  by_cases h30 : 30 < n
  · have h31 : (30 : Int) < (n : Int) := by omega
    go_wp2_with fail
    go_ret
    exact ⟨rfl, hB⟩
  · have h31 : ¬ (30 : Int) < (n : Int) := by omega
    by_cases h40 : 30 < m
    · have h41 : (30 : Int) < (m : Int) := by omega
      go_wp2_with fail
      go_ret
      exact ⟨rfl, hB⟩
    · have h41 : ¬ (30 : Int) < (m : Int) := by omega
      have hl1 : n ≤ 1000000 := by omega
      have hl2 : m ≤ 1000000 := by omega
      obtain ⟨k, hk⟩ : ∃ k, k = n + m := ⟨_, rfl⟩
      have Hk := Lib.hid hk
      have hk9 : k ≤ 60 := by omega
      have HK := Lib.hid (show (xs ++ ys).length = k by rw [List.length_append, Hn.out, Hm.out, hk])
      clear hk
      by_cases hall : xs.all rtB = true ∧ ys.all rtB = true
      · have HA := Lib.hid (enc_yes (l := xs) (by rw [Hn.out]; omega) hall.1)
        have HBb := Lib.hid (enc_yes (l := ys) (by rw [Hm.out]; omega) hall.2)
        have hall2 : (xs ++ ys).all rtB = true := by rw [List.all_append, hall.1, hall.2]; rfl
        have HC := Lib.hid (enc_yes (l := xs ++ ys) (by rw [HK.out]; omega) hall2)
        have HD := Lib.hid (dec_enc (l := xs ++ ys) (by rw [HK.out]; omega) hall2)
        obtain ⟨na, hna⟩ : ∃ na, na = 12 * n := ⟨_, rfl⟩
        obtain ⟨nb, hnb⟩ : ∃ nb, nb = 12 * m := ⟨_, rfl⟩
        obtain ⟨nk, hnk⟩ : ∃ nk, nk = na + nb := ⟨_, rfl⟩
        have Hnk := Lib.hid hnk
        have HLa := Lib.hid (show (enc xs).length = na by rw [enc_len, Hn.out, hna])
        have HLb := Lib.hid (show (enc ys).length = nb by rw [enc_len, Hm.out, hnb])
        have HLk := Lib.hid (show (enc (xs ++ ys)).length = nk by rw [enc_app, List.length_append, HLa.out, HLb.out, hnk])
        have hna9 : na ≤ 360 := by omega
        have hnb9 : nb ≤ 360 := by omega
        have hnk9 : nk ≤ 100000 := by omega
        clear hall hall2 hna hnb hnk
        go_wp2_with fail
        refine (enc_is A n c xs _ Hn.out (HI.out.on hB) hl1 0 (enc xs) na HA.out.1 HA.out.2 HLa.out).mono ?_
        rintro e w2 ⟨A1, c1, rfl, hc1, hS1, hb⟩
        replace hB := bstep hB hb
        have HS1 := Lib.hid hS1
        clear hb hS1
        go_wp2_with fail
        refine (enc_is Ab m cb ys _ Hm.out (HIb.out.on hB) hl2 0 (enc ys) nb HBb.out.1 HBb.out.2 HLb.out).mono ?_
        rintro e w3 ⟨A2, c2, rfl, hc2, hS2, hb⟩
        replace hB := bstep hB hb
        replace HS1 := Lib.hid (HS1.out.on hb)
        have HS2 := Lib.hid hS2
        clear hb hS2
        have HE3 := Lib.hid (lmine_empty w3)
        have HI3 := Lib.hid ((HI.out.on hB).on (bnew w3 (.cells #[] 32)))
        have HI3b := Lib.hid (HIb.out.on hB)
        go_wp2_with (first
          | (refine HE3.out.appAny (n := 0) (m := n) (k := n) (zs := xs) rfl (by omega) (Nat.zero_add _) rfl _ _ rfl rfl A c xs Hn.out rfl HI3.out rfl ?_; intro A3 c3 w4 hM3; have HM3 := Lib.hid hM3; clear hM3)
          | (refine HM3.out.appAny (n := n) (m := m) (k := k) (zs := xs ++ ys) Hn.out (by omega) Hk.out.symm rfl _ _ rfl rfl Ab cb ys Hm.out rfl (HI3b.out.on HM3.out.below) rfl ?_; intro A4 c4 w4b hM))
        refine (enc_is A4 k c4 (xs ++ ys) _ HK.out hM.inv.1 (by omega) 0 (enc (xs ++ ys)) nk HC.out.1 HC.out.2 HLk.out).mono ?_
        rintro e w5 ⟨A5, c5, rfl, hc5, hS5, hb⟩
        have HL4 := Lib.hid (hM.inv.1.on hb)
        have hb2 := bstep hM.below hb
        replace hB := bstep hB hb2
        replace HS1 := Lib.hid (HS1.out.on hb2)
        replace HS2 := Lib.hid (HS2.out.on hb2)
        have HS5 := Lib.hid hS5
        clear hb hb2 hS5 hM
        have HE6 := Lib.hid (bmine_empty w5)
        have HS1b := Lib.hid (HS1.out.on (bnew w5 (.cells #[] 5)))
        go_wp2_with (first
          | (refine HE6.out.appAny (n := 0) (m := na) (k := na) (zs := enc xs) rfl (by omega) (Nat.zero_add _) rfl _ _ rfl rfl A1 c1 (enc xs) HLa.out rfl HS1b.out rfl ?_; intro A6 c6 w6 hM6; have HM6 := Lib.hid hM6; clear hM6)
          | (refine HM6.out.appAny (n := na) (m := nb) (k := nk) (zs := enc (xs ++ ys)) HLa.out (by omega) Hnk.out.symm rfl _ _ rfl rfl A2 c2 (enc ys) HLb.out rfl (HS2.out.on HM6.out.below) (enc_app xs ys).symm ?_; intro A7 c7 w7 hM7; have HM7 := Lib.hid hM7; clear hM7))
        refine (dec_is A7 nk c7 (enc (xs ++ ys)) _ HLk.out HM7.out.inv.2.2 HM7.out.inv.1 (bys_enc _) hnk9 0 (xs ++ ys) k HD.out.1 HD.out.2 HK.out).mono ?_
        rintro e w8 ⟨A8, c8, rfl, hc8, hS8, hb⟩
        have hb2 := bstep HM7.out.below hb
        replace hB := bstep hB hb2
        replace HL4 := Lib.hid (HL4.out.on hb2)
        have q1 := conv_any (c := c1) (HS1.out.on hb2) HLa.out
        have q2 := conv_any (c := c2) (HS2.out.on hb2) HLb.out
        have q3 := conv_any (c := c5) (HS5.out.on hb2) HLk.out
        have q4 := run_join (x := enc xs) (y := enc ys) (by rw [HLa.out]; omega) (by rw [HLb.out]; omega) w8
        rw [← enc_app] at q4
        have HS8 := Lib.hid hS8
        clear hb hb2 hS8
        go_wp2_with fail
        refine (same_is A8 A4 k k c8 c4 (xs ++ ys) (xs ++ ys) _ HS8.out HL4.out (by omega) HK.out HK.out true (decide_eq_true rfl)).mono ?_
        rintro e w9 ⟨rfl, hb⟩
        replace hB := bstep hB hb
        go_wp2_with fail
        go_ret
        exact ⟨rfl, hB⟩
      · have HC := Lib.hid (enc_no (l := xs ++ ys) (by rw [HK.out]; omega) (by rw [List.all_append]; cases h1 : xs.all rtB <;> cases h2 : ys.all rtB <;> first | rfl | exact absurd ⟨h1, h2⟩ hall))
        have hbad : ¬ encE xs = 0 ∨ ¬ encE ys = 0 := by
          by_cases h1 : encE xs = 0
          · exact .inr fun h2 => hall ⟨(encE_zero h1).2, (encE_zero h2).2⟩
          · exact .inl h1
        obtain ⟨z, hz⟩ : ∃ z, z = encE xs := ⟨_, rfl⟩
        obtain ⟨bs, hbs⟩ : ∃ bs, bs = encL xs := ⟨_, rfl⟩
        obtain ⟨na, hna⟩ : ∃ na, na = bs.length := ⟨_, rfl⟩
        obtain ⟨z2, hz2⟩ : ∃ z2, z2 = encE ys := ⟨_, rfl⟩
        obtain ⟨bs2, hbs2⟩ : ∃ bs2, bs2 = encL ys := ⟨_, rfl⟩
        obtain ⟨nb, hnb⟩ : ∃ nb, nb = bs2.length := ⟨_, rfl⟩
        rw [← hz, ← hz2] at hbad
        have HZ := Lib.hid (And.intro hz.symm (And.intro hbs.symm hna.symm))
        have HZ2 := Lib.hid (And.intro hz2.symm (And.intro hbs2.symm hnb.symm))
        have HBad := Lib.hid hbad
        clear hz hbs hna hz2 hbs2 hnb hall hbad
        go_wp2_with fail
        refine (enc_is A n c xs _ Hn.out (HI.out.on hB) hl1 z bs na HZ.out.1 HZ.out.2.1 HZ.out.2.2).mono ?_
        rintro e w2 ⟨A1, c1, rfl, hc1, hS1, hb⟩
        replace hB := bstep hB hb
        clear hb hS1
        go_wp2_with fail
        refine (enc_is Ab m cb ys _ Hm.out (HIb.out.on hB) hl2 z2 bs2 nb HZ2.out.1 HZ2.out.2.1 HZ2.out.2.2).mono ?_
        rintro e w3 ⟨A2, c2, rfl, hc2, hS2, hb⟩
        replace hB := bstep hB hb
        clear hb hS2
        have HE3 := Lib.hid (lmine_empty w3)
        have HI3 := Lib.hid ((HI.out.on hB).on (bnew w3 (.cells #[] 32)))
        have HI3b := Lib.hid (HIb.out.on hB)
        go_wp2_with (first
          | (refine HE3.out.appAny (n := 0) (m := n) (k := n) (zs := xs) rfl (by omega) (Nat.zero_add _) rfl _ _ rfl rfl A c xs Hn.out rfl HI3.out rfl ?_; intro A3 c3 w4 hM3; have HM3 := Lib.hid hM3; clear hM3)
          | (refine HM3.out.appAny (n := n) (m := m) (k := k) (zs := xs ++ ys) Hn.out (by omega) Hk.out.symm rfl _ _ rfl rfl Ab cb ys Hm.out rfl (HI3b.out.on HM3.out.below) rfl ?_; intro A4 c4 w4b hM))
        refine (enc_is A4 k c4 (xs ++ ys) _ HK.out hM.inv.1 (by omega) 1 [] 0 HC.out.1 HC.out.2 rfl).mono ?_
        rintro e w5 ⟨A5, c5, rfl, hc5, hS5, hb⟩
        replace hB := bstep hB (bstep hM.below hb)
        clear hb hS5 hM
        rcases HBad.out with h1 | h1
        · have h2 : (z != 0) = true := by simpa using h1
          clear h1
          go_wp2_with fail
          go_ret
          exact ⟨rfl, hB⟩
        · have h2 : (z2 != 0) = true := by simpa using h1
          clear h1
          by_cases h3 : z = 0
          · have h4 : (z != 0) = false := by simpa using h3
            clear h3
            go_wp2_with fail
            go_ret
            exact ⟨rfl, hB⟩
          · have h4 : (z != 0) = true := by simpa using h3
            clear h3
            go_wp2_with fail
            go_ret
            exact ⟨rfl, hB⟩
end Go.Proofs.Ytbkaiffecnomjaa
