/- The law FieldSum, walked: for any fields and numbers it answers true, and nothing that was there changes. -/
import Derived.Test.YtoffliekebpmlaaAwake
import Derived.Test.YtoffliekebpmlaaFold
namespace Go.Proofs.Ytoffliekebpmlaa
open Go.RowKit
attribute [local go_sem ↓] Go.wp_at_zero Go.wp_at_succ

theorem packOk_iff {fs : List (Int × Int)} {vs : List Int} : packOk fs vs = true ↔ fs.length = vs.length ∧ apartB fs = true ∧ (fs.zip vs).all okP = true := by
  simp [packOk, and_assoc]
set_option maxHeartbeats 400000 in
/-- lists of unlike lengths, however long -/
theorem pack_unlike (A A2 : Option Addr) (n c n2 c2 : Nat) (fs : List (Int × Int)) (vs : List Int) (w : World) (hn : fs.length = n) (hn2 : vs.length = n2) (h : n ≠ n2) :
    Calls Try.prog 20 #[.slice A n c, .slice A2 n2 c2] w fun e w' => e = .returned (.tuple #[.int .i64 (packI fs vs), .bool (packOk fs vs)]) ∧ Below w.heap.size w w' := by
  have ho : packOk fs vs = false := by
    cases hq : packOk fs vs with
    | false => rfl
    | true => exact absurd ((packOk_iff.1 hq).1) (by omega)
  have Ho := Lib.hid ho
  clear ho hn hn2
  have h2 : ((n : Int) != (n2 : Int)) = true := by rw [bne_iff_ne]; omega
  have h3 : (n != n2) = true := by rw [bne_iff_ne]; omega
  clear h
  go_enter Try.func20, Try.ntmps20
  go_wp2
  go_ret2
  exact ⟨ret_pack (by rw [packI, Ho.out]; rfl) Ho.out.symm, Below.refl _ _⟩
theorem pack_all (A A2 : Option Addr) (n c n2 c2 : Nat) (fs : List (Int × Int)) (vs : List Int) (w : World) (hn : fs.length = n) (hn2 : vs.length = n2) (hl : n ≤ 1000) (hcap : n ≤ c) (hS : Fds w w.heap.size A fs) (hI : IS w w.heap.size A2 vs) :
    Calls Try.prog 20 #[.slice A n c, .slice A2 n2 c2] w fun e w' => e = .returned (.tuple #[.int .i64 (packI fs vs), .bool (packOk fs vs)]) ∧ Below w.heap.size w w' := by
  by_cases h : n = n2
  · exact pack_any A A2 n c n2 c2 fs vs w hn hn2 hl (by omega) hcap hS hI
  · exact pack_unlike A A2 n c n2 c2 fs vs w hn hn2 h

set_option maxHeartbeats 400000 in
theorem sum_long (A A2 : Option Addr) (n c n2 c2 : Nat) (w : World) (h : 20 < n) :
    Calls Try.prog 9 #[.slice A n c, .slice A2 n2 c2] w fun e w' => e = .returned (.bool true) ∧ Below w.heap.size w w' := by
  go_enter Try.func9, Try.ntmps9
  go_wp2_with fail
  refine (awake_any _).mono ?_
  rintro e w1 ⟨rfl, hb⟩
  go_wp2_with fail
  go_ret
  exact ⟨rfl, hb⟩
set_option maxHeartbeats 400000 in
theorem sum_no (A A2 : Option Addr) (n c n2 c2 : Nat) (fs : List (Int × Int)) (vs : List Int) (w : World) (hn : fs.length = n) (hn2 : vs.length = n2) (hcap : n ≤ c) (hS : Fds w w.heap.size A fs) (hI : IS w w.heap.size A2 vs) (h : n ≤ 20) (ho : packOk fs vs = false) :
    Calls Try.prog 9 #[.slice A n c, .slice A2 n2 c2] w fun e w' => e = .returned (.bool true) ∧ Below w.heap.size w w' := by
  have Ho := Lib.hid ho
  have Hi := Lib.hid (show packI fs vs = 0 by rw [packI, ho]; rfl)
  have Hn := Lib.hid hn
  have Hn2 := Lib.hid hn2
  clear ho hn hn2
  go_enter Try.func9, Try.ntmps9
  go_wp2_with fail
  refine (awake_any _).mono ?_
  rintro e w1 ⟨rfl, hb⟩
  go_wp2_with fail
  refine (pack_all A A2 n c n2 c2 fs vs _ Hn.out Hn2.out (by omega) hcap ((hS.below hb).more hb.size) ((hI.below hb).more hb.size)).mono ?_
  rintro e w2 ⟨rfl, hb2⟩
  rw [Ho.out, Hi.out]
  go_wp2_with fail
  go_ret
  exact ⟨rfl, hb.trans (hb2.mono hb.size)⟩
theorem sum_step {fs : List (Int × Int)} {vs : List Int} (h : packOk fs vs = true) {k : Nat} {x y v : Int} (h1 : fs[k]? = some (x, y)) (h2 : vs[k]? = some v) :
    0 ≤ x ∧ x ≤ 62 ∧ foldP ((fs.zip vs).take (k + 1)) = foldP ((fs.zip vs).take k) + v * 2 ^ x.toNat ∧ 0 ≤ foldP ((fs.zip vs).take k) ∧ foldP ((fs.zip vs).take k) < 4611686018427387904 ∧ 0 ≤ v * 2 ^ x.toNat ∧ v * 2 ^ x.toNat < 4611686018427387904 := by
  obtain ⟨h3, h4, h5⟩ := packOk_iff.1 h
  have hz := zip_take h1 h2
  have hg := (good_zip vs h4).take (k + 1)
  rw [hz] at hg ⊢
  have hmem : ((x, y), v) ∈ fs.zip vs := by
    have : (fs.zip vs)[k]? = some ((x, y), v) := by rw [List.getElem?_zip_eq_some]; exact ⟨h1, h2⟩
    exact List.mem_of_getElem? this
  have hr := hg.right ((x, y), v) (by simp)
  exact ⟨hr.1, by have := hr.2.1; have := hr.2.2; simp only at *; omega, hg.add (List.all_eq_true.1 h5 _ hmem)⟩
set_option maxRecDepth 100000 in
set_option maxHeartbeats 1000000 in
theorem sum_go (b off c b2 off2 c2 : Nat) (fs : List (Int × Int)) (vs : List Int) (w : World) (hcap : fs.length ≤ c) (hl : fs.length ≤ 20) (hb : b < w.heap.size) (hc : FC w b off fs) (hb2 : b2 < w.heap.size) (hc2 : IC w b2 off2 vs) (ho : packOk fs vs = true) :
    Calls Try.prog 9 #[.slice (some ⟨b, off, none⟩) fs.length c, .slice (some ⟨b2, off2, none⟩) fs.length c2] w fun e w' => e = .returned (.bool true) ∧ Below w.heap.size w w' := by
  have Ho := Lib.hid ho
  have Hi := Lib.hid (show packI fs vs = foldP (fs.zip vs) by rw [packI, ho]; rfl)
  have He := Lib.hid (packOk_iff.1 ho).1
  clear ho
  go_enter Try.func9, Try.ntmps9
  go_wp2_with fail
  refine (awake_any _).mono ?_
  rintro e w1 ⟨rfl, hw1⟩
  go_wp2_with fail
  refine (pack_any _ _ _ c _ c2 fs vs _ rfl He.out.symm (by omega) (by omega) hcap (.inr ⟨b, off, rfl, Nat.lt_of_lt_of_le hb hw1.size, hc.below hb hw1⟩) (.inr ⟨b2, off2, rfl, Nat.lt_of_lt_of_le hb2 hw1.size, hc2.below hb2 hw1⟩)).mono ?_
  rintro e w2 ⟨rfl, hw2⟩
  rw [Ho.out, Hi.out]
  have hB2 := hw1.trans (hw2.mono hw1.size)
  clear hw1 hw2
  go_wp2
  go_loopw [8, 9] (fun s i wr => ∃ k : Nat, k ≤ fs.length ∧ i = .int .i64 k ∧ s = .int .i64 (foldP ((fs.zip vs).take k)) ∧ Below w.heap.size w wr) (fun _ i _ => fs.length - (intOf i).toNat)
  case atStart => exact ⟨0, Nat.zero_le _, rfl, rfl, hB2⟩
  case round =>
    obtain ⟨k, hk, rfl, rfl, hB⟩ := hrel
    by_cases hlt : k < fs.length
    · obtain ⟨x, y, hxy⟩ := at_some hlt
      obtain ⟨v, hv⟩ : ∃ v, vs[k]? = some v := ⟨vs[k]'(by rw [← He.out]; exact hlt), by simp⟩
      obtain ⟨hd1, hd2⟩ := hc.below hb hB k x y hxy
      have hd3 := hc2.below hb2 hB k v hv
      obtain ⟨s1, s2, s3, s4, s5, s6, s7⟩ := sum_step Ho.out hxy hv
      have e : wrap64 (foldP ((fs.zip vs).take k) + wrap64 (v * 2 ^ x.toNat)) = foldP ((fs.zip vs).take (k + 1)) := by rw [s3]; unfold wrap64; omega
      have HE := Lib.hid e
      have hi0 : (0 : Int) ≤ (k : Int) := Int.natCast_nonneg _
      have hi1 : (k : Int) < (fs.length : Int) := by omega
      clear s3 s4 s5 s6 s7 hxy hv e
      go_wp2
      go_quiet (fail)
      go_wp2
      go_roundw
      case rel => exact ⟨k + 1, by omega, by go_num, by rw [← HE.out], bdrew hB _⟩
      case measure => simp [intOf]; omega
    · obtain rfl : k = fs.length := by omega
      have Ht := Lib.hid (show (fs.zip vs).take fs.length = fs.zip vs from List.take_of_length_le (by simp; omega))
      rw [Ht.out]
      go_wp2
      go_ret
      exact ⟨rfl, hB⟩
set_option maxHeartbeats 400000 in
theorem sum_nil (A A2 : Option Addr) (c c2 : Nat) (vs : List Int) (w : World) (hv : vs.length = 0) :
    Calls Try.prog 9 #[.slice A 0 c, .slice A2 0 c2] w fun e w' => e = .returned (.bool true) ∧ Below w.heap.size w w' := by
  obtain rfl : vs = [] := List.eq_nil_of_length_eq_zero hv
  clear hv
  go_enter Try.func9, Try.ntmps9
  go_wp2_with fail
  refine (awake_any _).mono ?_
  rintro e w1 ⟨rfl, hw1⟩
  go_wp2_with fail
  refine (pack_nil A A2 c c2 _).mono ?_
  rintro e w2 ⟨rfl, hw2⟩
  rw [show packOk [] [] = true from by decide, show packI [] [] = 0 from by decide]
  have hB2 := hw1.trans (hw2.mono hw1.size)
  clear hw1 hw2
  go_wp2
  go_loopw [8, 9] (fun s i wr => i = .int .i64 0 ∧ s = .int .i64 0 ∧ Below w.heap.size w wr) (fun _ _ _ => 0)
  case atStart => exact ⟨rfl, rfl, hB2⟩
  case round =>
    obtain ⟨rfl, rfl, hB⟩ := hrel
    go_wp2
    go_ret
    exact ⟨rfl, hB⟩
theorem sum_any (A : Option Addr) (n c : Nat) (fs : List (Int × Int)) (A2 : Option Addr) (n2 c2 : Nat) (vs : List Int) (w : World) (hn : fs.length = n) (hcap : n ≤ c) (hS : Fds w w.heap.size A fs) (hn2 : vs.length = n2) (_hcap2 : n2 ≤ c2) (hI : IS w w.heap.size A2 vs) :
    Calls Try.prog 9 #[.slice A n c, .slice A2 n2 c2] w fun e w' => e = .returned (.bool true) ∧ Below w.heap.size w w' := by
  by_cases h : 20 < n
  · exact sum_long A A2 n c n2 c2 w h
  · cases ho : packOk fs vs with
    | false => exact sum_no A A2 n c n2 c2 fs vs w hn hn2 hcap hS hI (by omega) ho
    | true =>
      have he := (packOk_iff.1 ho).1
      obtain rfl : n = n2 := by omega
      subst hn
      rcases hS with rfl | ⟨b, off, rfl, g2, g3⟩
      · exact sum_nil A A2 c c2 vs w hn2
      · rcases hI with rfl | ⟨b2, off2, rfl, g4, g5⟩
        · obtain rfl : fs = [] := List.eq_nil_of_length_eq_zero (by simpa using he)
          exact sum_nil _ A2 c c2 [] w rfl
        · exact sum_go b off c b2 off2 c2 fs vs w hcap (by omega) g2 g3 g4 g5 ho
end Go.Proofs.Ytoffliekebpmlaa
