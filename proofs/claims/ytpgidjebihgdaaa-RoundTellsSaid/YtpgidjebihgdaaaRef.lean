/- The document's own lists: Of, Second, Even. -/
import Derived.Test.YtpgidjebihgdaaaChains
namespace Go.Proofs.Ytpgidjebihgdaaa
open Go.RowKit
attribute [local go_sem ↓] Go.wp_at_zero Go.wp_at_succ

/-- a list of numbers that was made since w0, its slice v -/
structure Mine (w0 w : World) (v : Value) (xs : List Int) : Prop where
  own : w.ownsRow w0.heap.size 3 1 v xs.length (xs.map vI)
  below : Below w0.heap.size w0 w
theorem Mine.form {w0 w : World} {v : Value} {xs : List Int} (h : Mine w0 w v xs) : ∃ A c, v = .slice A xs.length c := own_form h.own
theorem Mine.ret {w0 w : World} {A : Option Addr} {n c : Nat} {xs : List Int} (h : Mine w0 w (.slice A n c) xs) : RetInts w0 xs (.returned (.slice A n c)) w := by
  obtain ⟨A2, c2, e⟩ := h.form
  injection e with e1 e2 e3
  subst e1 e2 e3
  obtain ⟨h1, h2, h3⟩ := own_is h.own
  exact ⟨A, c, rfl, h3, h1, h.below⟩
theorem Mine.inv {w0 w : World} {A : Option Addr} {n c : Nat} {xs : List Int} (h : Mine w0 w (.slice A n c) xs) : xs.length = n ∧ IS w w.heap.size A xs ∧ Below w0.heap.size w0 w ∧ ((A = none ∧ n = 0 ∧ c = 0) ∨ (∃ g, A = some ⟨g, 0, none⟩ ∧ n ≤ c)) := by
  obtain ⟨A2, c2, e⟩ := h.form
  injection e with e1 e2 e3
  subst e1 e2 e3
  obtain ⟨h1, h2, h3⟩ := own_is h.own
  refine ⟨rfl, h1, h.below, ?_⟩
  rcases h.own.2 with ⟨e, hn⟩ | ⟨g, cap, cur, e, _⟩
  · injection e with e1 e2 e3
    exact .inl ⟨e1, e2, e3⟩
  · injection e with e1 e2 e3
    exact .inr ⟨g, e1, h3⟩
/-- a number more: what the walk is asked at an append -/
theorem Mine.app {w0 w : World} {v : Value} {xs : List Int} (h : Mine w0 w v xs) {ops : Array Oper} {rest : List Oper} {o : Oper} {a : Act} {Q : Exit → Act → World → Prop} {n : Nat} (hn : xs.length = n) (hn2 : n ≤ 1000000)
    (hg : o.guard = none) (s t : Operand) (hop : o.op = Op.call { callee := Callee.builtin Builtin.append, args := #[s, t], argTypes := #[23, 23] }) (hs : a.eval s = v) (y : Int) (c : Nat) (hx : a.eval t = .slice (some ⟨w.heap.size, 0, none⟩) 1 c)
    (hK : ∀ A' c' w', Mine w0 w' (.slice A' (n + 1) c') (xs ++ [y]) → wpList Try.prog ops Q rest (a.put o.dst (.slice A' (n + 1) c')) w') :
    wpList Try.prog ops Q (o :: rest) a (w.alloc (.cells #[vI y] 3)) := by
  obtain ⟨i0, hi, hz0, hz1, hz2⟩ := info_parts infoI2
  have hsz := h.below.size
  refine wpList_append_own _ hg _ _ 23 hop w0.heap.size 3 i0 (.int .i64 0) 1 8 Try.underlying23 hi hz0 hz1 hz2 rfl (by decide) _ _ _ hs (h.own.alloc _) ⟨w.heap.size, 0, none⟩ 1 c [vI y] hx rfl (cell_one_new _ _ _) (by simp [Value.oneCell']) (by unfold maxLen; omega) (by omega) (by simp; omega) ?_
  intro v' w4 hown4 hgrow4 _
  have hlen : (xs ++ [y]).length = n + 1 := by simp [hn]
  rw [hn] at hown4
  obtain ⟨A', c', rfl⟩ := own_form hown4
  exact hK A' c' w4 ⟨by rw [hlen]; simpa using hown4, (h.below.alloc hsz _).grown hgrow4 (by simp; omega) (fun j e => (h.own.lt j e).1)⟩
theorem Mine.nil {w0 w : World} (h : Below w0.heap.size w0 w) : Mine w0 w (.slice none 0 0) [] := ⟨World.ownsRow_nil _ _ _ _, h⟩

set_option maxRecDepth 100000 in
set_option maxHeartbeats 2000000 in
theorem refOf_any (many frm : Int) (w : World) (hm : many ≤ 100) : Calls Try.prog 9 #[vI many, vI frm] w fun e w' => ∃ A n c, e = .returned (.slice A n c) ∧ Mine w w' (.slice A n c) (ofL many frm) := by
  have hmin : min many 100000 = many := by omega
  by_cases hf : 0 ≤ frm ∧ frm < many
  · have hz : ofL many frm = upto frm many ++ upto 0 frm := by unfold ofL; rw [hmin, if_pos hf]
    rw [hz]
    obtain ⟨hf1, hf2⟩ := hf
    clear hz hmin
    go_enter Try.func9, Try.ntmps9
    go_wp2
    go_loopw [6, 7] (fun v i wr => ∃ k : Nat, k ≤ (many - frm).toNat ∧ i = .int .i64 (frm + k) ∧ Mine w wr v ((upto frm many).take k)) (fun _ i _ => (many - intOf i).toNat)
    case atStart => exact ⟨0, Nat.zero_le _, by simp, Mine.nil (Below.refl _ _)⟩
    case round =>
      obtain ⟨k, hk, rfl, hM⟩ := hrel
      obtain ⟨A, c, rfl⟩ := hM.form
      have hkl : ((upto frm many).take k).length = k := by rw [List.length_take, upto_len]; omega
      rw [hkl] at hM ⊢
      have Hkl := Lib.hid hkl
      clear hkl
      by_cases hlt : k < (many - frm).toNat
      · have hx := Lib.hid (upto_at frm many k hlt)
        have hc : frm + (k : Int) < many := by omega
        have Hlt := Lib.hid hlt
        go_wp2_with (at_builtin; refine hM.app Hkl.out (by omega) rfl _ _ rfl rfl _ _ rfl ?_)
        intro A2 c2 w2 hM2
        have hx1 := hx.out
        rw [← take_snoc hx1] at hM2
        clear hx1
        go_wp2
        go_roundw
        case rel => exact ⟨k + 1, by omega, by go_num, hM2⟩
        case measure => simp [intOf]; omega
      · obtain rfl : k = (many - frm).toNat := by omega
        have hc : ¬ frm + (((many - frm).toNat : Nat) : Int) < many := by omega
        rw [List.take_of_length_le (by rw [upto_len]; exact Nat.le_refl _)] at hM Hkl
        go_wp2
        go_loopw [6, 8] (fun v i wr => ∃ k : Nat, k ≤ (frm - 0).toNat ∧ i = .int .i64 k ∧ Mine w wr v (upto frm many ++ (upto 0 frm).take k)) (fun _ i _ => (frm - intOf i).toNat)
        case atStart => exact ⟨0, Nat.zero_le _, rfl, by simpa using hM⟩
        case round =>
          obtain ⟨j, hj, rfl, hM3⟩ := hrel
          obtain ⟨A3, c3, rfl⟩ := hM3.form
          obtain ⟨n3, hn3⟩ : ∃ n3, n3 = (upto frm many ++ (upto 0 frm).take j).length := ⟨_, rfl⟩
          rw [← hn3] at hM3 ⊢
          have hn4 : n3 ≤ 200 := by rw [hn3, List.length_append, List.length_take, upto_len, upto_len]; omega
          have Hn3 := Lib.hid hn3
          clear hn3 hM hc
          by_cases hlj : j < (frm - 0).toNat
          · have hx := Lib.hid (upto_at 0 frm j hlj)
            have hc : (j : Int) < frm := by omega
            have Hlj := Lib.hid hlj
            go_wp2_with (at_builtin; refine hM3.app Hn3.out.symm (by omega) rfl _ _ rfl rfl _ _ rfl ?_)
            intro A2 c2 w2 hM2
            have hx2 := hx.out
            rw [Int.zero_add] at hx2
            rw [← take_snoc hx2] at hM2
            clear hx2
            go_wp2
            go_roundw
            case rel => exact ⟨j + 1, by omega, by go_num, hM2⟩
            case measure => simp [intOf]; omega
          · obtain rfl : j = (frm - 0).toNat := by omega
            have hc : ¬ (((frm - 0).toNat : Nat) : Int) < frm := by omega
            rw [List.take_of_length_le (by rw [upto_len]; exact Nat.le_refl _)] at hM3
            go_wp2
            go_ret
            exact ⟨_, _, _, rfl, hM3⟩
  by_cases hlo : frm < 0
  · have hz : ofL many frm = upto (0 : Int) many ++ upto 0 (0 : Int) := by unfold ofL; rw [hmin, if_neg hf]
    rw [hz]
    have hf1 : frm < 0 := hlo
    clear hz hmin
    go_enter Try.func9, Try.ntmps9
    go_wp2
    go_loopw [6, 7] (fun v i wr => ∃ k : Nat, k ≤ (many - (0 : Int)).toNat ∧ i = .int .i64 ((0 : Int) + k) ∧ Mine w wr v ((upto (0 : Int) many).take k)) (fun _ i _ => (many - intOf i).toNat)
    case atStart => exact ⟨0, Nat.zero_le _, rfl, Mine.nil (Below.refl _ _)⟩
    case round =>
      obtain ⟨k, hk, rfl, hM⟩ := hrel
      obtain ⟨A, c, rfl⟩ := hM.form
      have hkl : ((upto (0 : Int) many).take k).length = k := by rw [List.length_take, upto_len]; omega
      rw [hkl] at hM ⊢
      have Hkl := Lib.hid hkl
      clear hkl
      by_cases hlt : k < (many - (0 : Int)).toNat
      · have hx := Lib.hid (upto_at (0 : Int) many k hlt)
        have hc : (0 : Int) + (k : Int) < many := by omega
        have Hlt := Lib.hid hlt
        go_wp2_with (at_builtin; refine hM.app Hkl.out (by omega) rfl _ _ rfl rfl _ _ rfl ?_)
        intro A2 c2 w2 hM2
        have hx1 := hx.out
        rw [Int.zero_add] at hx1
        rw [← take_snoc hx1] at hM2
        clear hx1
        go_wp2
        go_roundw
        case rel => exact ⟨k + 1, by omega, by go_num, hM2⟩
        case measure => simp [intOf]; omega
      · obtain rfl : k = (many - (0 : Int)).toNat := by omega
        have hc : ¬ (0 : Int) + (((many - (0 : Int)).toNat : Nat) : Int) < many := by omega
        rw [List.take_of_length_le (by rw [upto_len]; exact Nat.le_refl _)] at hM Hkl
        go_wp2
        go_loopw [6, 8] (fun v i wr => ∃ k : Nat, k ≤ ((0 : Int) - 0).toNat ∧ i = .int .i64 k ∧ Mine w wr v (upto (0 : Int) many ++ (upto 0 (0 : Int)).take k)) (fun _ i _ => ((0 : Int) - intOf i).toNat)
        case atStart => exact ⟨0, Nat.zero_le _, rfl, by simpa using hM⟩
        case round =>
          obtain ⟨j, hj, rfl, hM3⟩ := hrel
          obtain ⟨A3, c3, rfl⟩ := hM3.form
          obtain ⟨n3, hn3⟩ : ∃ n3, n3 = (upto (0 : Int) many ++ (upto 0 (0 : Int)).take j).length := ⟨_, rfl⟩
          rw [← hn3] at hM3 ⊢
          have hn4 : n3 ≤ 200 := by rw [hn3, List.length_append, List.length_take, upto_len, upto_len]; omega
          have Hn3 := Lib.hid hn3
          clear hn3 hM hc
          by_cases hlj : j < ((0 : Int) - 0).toNat
          · omega
          · obtain rfl : j = ((0 : Int) - 0).toNat := by omega
            have hc : ¬ ((((0 : Int) - 0).toNat : Nat) : Int) < (0 : Int) := by omega
            rw [List.take_of_length_le (by rw [upto_len]; exact Nat.le_refl _)] at hM3
            go_wp2
            go_ret
            exact ⟨_, _, _, rfl, hM3⟩
  · have hz : ofL many frm = upto (0 : Int) many ++ upto 0 (0 : Int) := by unfold ofL; rw [hmin, if_neg hf]
    rw [hz]
    have hf1 : 0 ≤ frm := by omega
    have hf2 : many ≤ frm := by omega
    clear hz hmin
    go_enter Try.func9, Try.ntmps9
    go_wp2
    go_loopw [6, 7] (fun v i wr => ∃ k : Nat, k ≤ (many - (0 : Int)).toNat ∧ i = .int .i64 ((0 : Int) + k) ∧ Mine w wr v ((upto (0 : Int) many).take k)) (fun _ i _ => (many - intOf i).toNat)
    case atStart => exact ⟨0, Nat.zero_le _, rfl, Mine.nil (Below.refl _ _)⟩
    case round =>
      obtain ⟨k, hk, rfl, hM⟩ := hrel
      obtain ⟨A, c, rfl⟩ := hM.form
      have hkl : ((upto (0 : Int) many).take k).length = k := by rw [List.length_take, upto_len]; omega
      rw [hkl] at hM ⊢
      have Hkl := Lib.hid hkl
      clear hkl
      by_cases hlt : k < (many - (0 : Int)).toNat
      · have hx := Lib.hid (upto_at (0 : Int) many k hlt)
        have hc : (0 : Int) + (k : Int) < many := by omega
        have Hlt := Lib.hid hlt
        go_wp2_with (at_builtin; refine hM.app Hkl.out (by omega) rfl _ _ rfl rfl _ _ rfl ?_)
        intro A2 c2 w2 hM2
        have hx1 := hx.out
        rw [Int.zero_add] at hx1
        rw [← take_snoc hx1] at hM2
        clear hx1
        go_wp2
        go_roundw
        case rel => exact ⟨k + 1, by omega, by go_num, hM2⟩
        case measure => simp [intOf]; omega
      · obtain rfl : k = (many - (0 : Int)).toNat := by omega
        have hc : ¬ (0 : Int) + (((many - (0 : Int)).toNat : Nat) : Int) < many := by omega
        rw [List.take_of_length_le (by rw [upto_len]; exact Nat.le_refl _)] at hM Hkl
        go_wp2
        go_loopw [6, 8] (fun v i wr => ∃ k : Nat, k ≤ ((0 : Int) - 0).toNat ∧ i = .int .i64 k ∧ Mine w wr v (upto (0 : Int) many ++ (upto 0 (0 : Int)).take k)) (fun _ i _ => ((0 : Int) - intOf i).toNat)
        case atStart => exact ⟨0, Nat.zero_le _, rfl, by simpa using hM⟩
        case round =>
          obtain ⟨j, hj, rfl, hM3⟩ := hrel
          obtain ⟨A3, c3, rfl⟩ := hM3.form
          obtain ⟨n3, hn3⟩ : ∃ n3, n3 = (upto (0 : Int) many ++ (upto 0 (0 : Int)).take j).length := ⟨_, rfl⟩
          rw [← hn3] at hM3 ⊢
          have hn4 : n3 ≤ 200 := by rw [hn3, List.length_append, List.length_take, upto_len, upto_len]; omega
          have Hn3 := Lib.hid hn3
          clear hn3 hM hc
          by_cases hlj : j < ((0 : Int) - 0).toNat
          · omega
          · obtain rfl : j = ((0 : Int) - 0).toNat := by omega
            have hc : ¬ ((((0 : Int) - 0).toNat : Nat) : Int) < (0 : Int) := by omega
            rw [List.take_of_length_le (by rw [upto_len]; exact Nat.le_refl _)] at hM3
            go_wp2
            go_ret
            exact ⟨_, _, _, rfl, hM3⟩

set_option maxRecDepth 100000 in
set_option maxHeartbeats 2000000 in
theorem refSecond_any (A : Option Addr) (c : Nat) (xs : List Int) (w : World) (hl : xs.length ≤ 1000) (hI : IS w w.heap.size A xs) : Calls Try.prog 16 #[.slice A xs.length c] w (RetInts w (sec xs)) := by
  have Hs := Lib.hid (fun k => sec_at xs k)
  have hn := sec_len xs
  obtain ⟨ys, ey⟩ : ∃ ys, ys = sec xs := ⟨_, rfl⟩
  rw [← ey] at Hs hn ⊢
  clear ey
  have hn1 : 2 * ys.length ≤ xs.length + 1 := by omega
  have hn2 : xs.length ≤ 2 * ys.length := by omega
  clear hn
  go_enter Try.func16, Try.ntmps16
  go_wp2
  go_loopw [3, 4] (fun v i wr => ∃ k : Nat, k ≤ ys.length ∧ i = .int .i64 (2 * k) ∧ Mine w wr v (ys.take k)) (fun _ i _ => xs.length + 1 - (intOf i).toNat)
  case atStart => exact ⟨0, Nat.zero_le _, rfl, Mine.nil (Below.refl _ _)⟩
  case round =>
    obtain ⟨k, hk, rfl, hM⟩ := hrel
    obtain ⟨A2, c2, rfl⟩ := hM.form
    have hkl : (ys.take k).length = k := by rw [List.length_take]; omega
    rw [hkl] at hM ⊢
    have Hkl := Lib.hid hkl
    clear hkl
    by_cases hlt : k < ys.length
    · obtain ⟨x, hx⟩ := num_some hlt
      have hx2 := (Hs.out k).symm.trans hx
      obtain ⟨b, off, rfl, _, hd⟩ := (hI.on hM.below) _ _ hx2
      have Hx := Lib.hid hx
      clear hx hx2
      have hc : 2 * (k : Int) < (xs.length : Int) := by omega
      go_wp2_with (at_builtin; refine hM.app Hkl.out (by omega) rfl _ _ rfl rfl _ _ rfl ?_)
      intro A3 c3 w3 hM3
      rw [← take_snoc Hx.out] at hM3
      go_wp2
      go_roundw
      case rel => exact ⟨k + 1, by omega, by go_num, hM3⟩
      case measure => simp [intOf]; omega
    · obtain rfl : k = ys.length := by omega
      have hc : ¬ 2 * (ys.length : Int) < (xs.length : Int) := by omega
      rw [List.take_length] at hM
      go_wp2
      go_ret
      exact hM.ret

set_option maxRecDepth 100000 in
set_option maxHeartbeats 2000000 in
theorem refEven_any (A : Option Addr) (c : Nat) (xs : List Int) (w : World) (hl : xs.length ≤ 1000) (hI : IS w w.heap.size A xs) : Calls Try.prog 17 #[.slice A xs.length c] w (RetInts w (xs.filter fun x => x.tmod 2 == 0)) := by
  obtain ⟨p, ep⟩ : ∃ p : Int → Bool, p = fun x => x.tmod 2 == 0 := ⟨_, rfl⟩
  rw [← ep]
  have Hp := Lib.hid (show ∀ x, p x = (x.tmod 2 == 0) from fun x => by rw [ep])
  clear ep
  go_enter Try.func17, Try.ntmps17
  go_wp2
  go_loopw [3, 4] (fun v i wr => ∃ j : Nat, j ≤ xs.length ∧ i = .int .i64 j ∧ Mine w wr v ((xs.take j).filter p)) (fun _ i _ => xs.length - (intOf i).toNat)
  case atStart => exact ⟨0, Nat.zero_le _, rfl, Mine.nil (Below.refl _ _)⟩
  case round =>
    obtain ⟨j, hj, rfl, hM⟩ := hrel
    obtain ⟨A2, c2, rfl⟩ := hM.form
    obtain ⟨n, hn⟩ : ∃ n, ((xs.take j).filter p).length = n := ⟨_, rfl⟩
    have hn2 : n ≤ 1000 := by
      rw [← hn]
      have := List.length_filter_le p (xs.take j)
      rw [List.length_take] at this
      omega
    rw [hn] at hM ⊢
    have Hn := Lib.hid hn
    clear hn
    by_cases hlt : j < xs.length
    · obtain ⟨x, hx⟩ := num_some hlt
      obtain ⟨b, off, rfl, _, hd⟩ := (hI.on hM.below) _ _ hx
      have Hx := Lib.hid (take_snoc hx)
      clear hx
      have hc : (j : Int) < (xs.length : Int) := by omega
      cases hpx : p x with
      | true =>
        have hpy : (x.tmod 2 == 0) = true := (Hp.out x).symm.trans hpx
        have hf : (xs.take (j + 1)).filter p = (xs.take j).filter p ++ [x] := by rw [Hx.out, List.filter_append, List.filter_cons_of_pos hpx, List.filter_nil]
        have Hf := Lib.hid hf
        clear hf hpx
        go_wp2_with (at_builtin; refine hM.app Hn.out (by omega) rfl _ _ rfl rfl _ _ rfl ?_)
        intro A3 c3 w3 hM3
        rw [← Hf.out] at hM3
        go_wp2
        go_roundw
        case rel => exact ⟨j + 1, by omega, by go_num, hM3⟩
        case measure => simp [intOf]; omega
      | false =>
        have hpy : (x.tmod 2 == 0) = false := (Hp.out x).symm.trans hpx
        have hf : (xs.take (j + 1)).filter p = (xs.take j).filter p := by rw [Hx.out, List.filter_append, List.filter_cons_of_neg (by rw [hpx]; exact Bool.false_ne_true), List.filter_nil, List.append_nil]
        have Hf := Lib.hid hf
        clear hf hpx
        go_wp2
        go_roundw
        case rel => exact ⟨j + 1, by omega, by go_num, by rw [Hf.out]; exact hM⟩
        case measure => simp [intOf]; omega
    · obtain rfl : j = xs.length := by omega
      rw [List.take_length] at hM
      go_wp2
      go_ret
      exact hM.ret
end Go.Proofs.Ytpgidjebihgdaaa
