/- RoundTells: the law answers true, whatever its numbers; nothing that was there changes. -/
import Derived.Test.YtpgidjebihgdaaaRef
namespace Go.Proofs.Ytpgidjebihgdaaa
open Go.RowKit
attribute [local go_sem ↓] Go.wp_at_zero Go.wp_at_succ

theorem tells_many (many frm first : Int) (w : World) (h : 100 < many) :
    Calls Try.prog 3 #[vI many, vI frm, vI first] w (fun e w' => e = .returned (.bool true) ∧ Below w.heap.size w w') := by
  go_enter Try.func3, Try.ntmps3
  go_wp2_with fail
  refine (awake_any w).mono ?_
  rintro e w1 ⟨rfl, hB⟩
  go_wp2_with fail
  go_ret
  exact ⟨rfl, hB⟩

theorem IS.take {w : World} {M : Nat} {A : Option Addr} {xs : List Int} (h : IS w M A xs) (k : Nat) : IS w M A (xs.take k) := fun j x hj => h j x (by
  rw [List.getElem?_take] at hj
  split at hj
  · exact hj
  · cases hj)
/-- what the law made, and still has: the numbers told, the even ones told, the list -/
structure Has (w0 : World) (lb le : Array Value) (A : Option Addr) (xs ys : List Int) (w : World) : Prop where
  s : Seq w 31 lb xs
  e : Seq w 28 le ys
  l : IS w w.heap.size A xs
  b : Below w0.heap.size w0 w
theorem Has.on {w0 w w' : World} {lb le : Array Value} {A : Option Addr} {xs ys : List Int} (h : Has w0 lb le A xs ys w) (hb : Below w.heap.size w w') : Has w0 lb le A xs ys w' :=
  ⟨h.s.below hb, h.e.below hb, h.l.on hb, bthen h.b hb⟩
theorem Has.drew {w0 w : World} {lb le : Array Value} {A : Option Addr} {xs ys : List Int} (h : Has w0 lb le A xs ys w) : Has w0 lb le A xs ys w.drew := h.on (Below.refl _ w).drew

theorem ints_eq (A A2 : Option Addr) (c c2 n n2 : Nat) (xs : List Int) (w : World) (hn : xs.length = n) (hn2 : xs.length = n2) (h : IS w w.heap.size A xs) (h2 : IS w w.heap.size A2 xs) (hl : xs.length ≤ 1000000) :
    Calls Try.prog 13 #[.slice A n c, .slice A2 n2 c2] w (fun e w' => e = .returned (.bool true) ∧ Below w.heap.size w w') := by
  subst hn
  subst hn2
  refine (ints_any A A2 c c2 xs xs w h h2 hl).mono ?_
  rw [decide_eq_true rfl]
  exact fun _ _ h => h

set_option maxRecDepth 100000 in
set_option maxHeartbeats 16000000 in
theorem tells_go (many frm first : Int) (w : World) (hm : many ≤ 100) :
    Calls Try.prog 3 #[vI many, vI frm, vI first] w (fun e w' => e = .returned (.bool true) ∧ Below w.heap.size w w') := by
  go_enter Try.func3, Try.ntmps3
  go_wp2_with fail
  refine (awake_any w).mono ?_
  rintro e w1 ⟨rfl, hB⟩
  go_wp2_with fail
  refine (refOf_any many frm w1 hm).mono ?_
  obtain ⟨xs, exs⟩ : ∃ xs, xs = ofL many frm := ⟨_, rfl⟩
  have hl : xs.length ≤ 100 := by rw [exs, ofL_len]; omega
  rw [← exs]
  have Exs := Lib.hid exs
  clear exs
  rintro e w2 ⟨A, n, c, rfl, hM⟩
  obtain ⟨hn, hI, hB2, hA⟩ := hM.inv
  replace hB := bthen hB hB2
  clear hM hB2
  subst hn
  go_wp2_with fail
  refine (of_any many frm w2).mono ?_
  rw [← Exs.out]
  rintro e w3 ⟨lb, rfl, hS, hB3⟩
  replace hB := bthen hB hB3
  replace hI := hI.on hB3
  clear hB3 Exs
  go_wp2_with fail
  refine (hS.filter (fits_even w3) (enters_of Try.func12 (by kernel_rfl) rfl)).mono ?_
  obtain ⟨ys, ey⟩ : ∃ ys, ys = xs.filter fun x => x.tmod 2 == 0 := ⟨_, rfl⟩
  rw [← ey]
  rintro e w4 ⟨le, rfl, hE, hB4⟩
  have hK4 : Has w lb le A xs ys w4 := ⟨hS.below hB4, hE, hI.on hB4, bthen hB hB4⟩
  have Ey := Lib.hid ey
  have hyl : ys.length ≤ 1000000 := by rw [ey]; have := List.length_filter_le (fun x : Int => x.tmod 2 == 0) xs; omega
  clear hS hB hI hE hB4 ey
  rcases hA with ⟨rfl, hz, rfl⟩ | ⟨g, rfl, hc⟩
  · obtain rfl : xs = [] := List.eq_nil_of_length_eq_zero hz
    obtain ⟨ss, es⟩ : ∃ ss, ss = sec ([] : List Int) := ⟨_, rfl⟩
    have hsl : ss.length ≤ 1000000 := by rw [es]; simp [sec]
    have Es := Lib.hid es
    clear es
    obtain ⟨ts, et⟩ : ∃ ts, ts = ([] : List Int).take first.toNat := ⟨_, rfl⟩
    have ht : ts.length = 0 := by rw [et]; simp
    have Et := Lib.hid et
    clear et
    obtain ⟨m, hmn⟩ : ∃ m : Int, (if (0 : Int) < first then (0 : Int) else first) = m := ⟨_, rfl⟩
    have hmx : (if (0 : Int) < m then m else 0) = 0 := by split at hmn <;> split <;> omega
    go_wp2_with fail
    go_region_held3 (fun _ => True) (exact trivial)
    (first
    | (go_at_call_of 14 (fv 31 lb); refine hK4.drew.s.list.mono ?_; rintro e w5 ⟨A5, c5, rfl, hc5, hI5, hB5⟩; have hK5 := hK4.drew.on hB5)
            | (go_at_call_of 13 (Value.slice A5 0 c5); refine (ints_eq A5 none c5 0 _ _ [] w5 rfl rfl hI5 hK5.l (by first | omega | simp)).mono ?_; rintro e w6 ⟨rfl, hB6⟩; have hK6 := hK5.on hB6)
            | (go_at_call 15; refine hK6.s.second.mono ?_; rintro e w7 ⟨lb7, rfl, hS7, hB7⟩; have hK7 := hK6.on hB7)
            | (go_at_call_of 14 (fv 29 lb7); refine hS7.list.mono ?_; rw [← Es.out]; rintro e w8 ⟨A8, c8, rfl, hc8, hI8, hB8⟩; have hK8 := hK7.on hB8)
            | (go_at_call 16; refine (refSecond_any none 0 [] w8 (by first | omega | simp) hK8.l).mono ?_; rw [← Es.out]; rintro e w9 ⟨A9, c9, rfl, hc9, hI9, hB9⟩; have hK9 := hK8.on hB9; have hJ9 := hI8.on hB9)
            | (go_at_call_of 13 (Value.slice A8 ss.length c8); refine (ints_eq A8 A9 c8 c9 _ _ ss w9 rfl rfl hJ9 hI9 hsl).mono ?_; rintro e w10 ⟨rfl, hB10⟩; have hK10 := hK9.on hB10)
            | (go_at_call_of 14 (fv 28 le); refine hK10.e.list.mono ?_; rintro e w11 ⟨A11, c11, rfl, hc11, hI11, hB11⟩; have hK11 := hK10.on hB11)
            | (go_at_call 17; refine (refEven_any none 0 [] w11 (by first | omega | simp) hK11.l).mono ?_; rw [← Ey.out]; rintro e w12 ⟨A12, c12, rfl, hc12, hI12, hB12⟩; have hK12 := hK11.on hB12; have hJ12 := hI11.on hB12)
            | (go_at_call_of 13 (Value.slice A11 ys.length c11); refine (ints_eq A11 A12 c11 c12 _ _ ys w12 rfl rfl hJ12 hI12 hyl).mono ?_; rintro e w13 ⟨rfl, hB13⟩; have hK13 := hK12.on hB13)
            | (go_at_call 18; refine (hK13.s.first _).mono ?_; rw [← Et.out]; rintro e w14 ⟨lb14, rfl, hS14, hB14⟩; have hK14 := hK13.on hB14)
            | (go_at_call_of 14 (fv 30 lb14); refine hS14.list.mono ?_; rintro e w15 ⟨A15, c15, rfl, hc15, hI15, hB15⟩; have hK15 := hK14.on hB15; have hT15 := hK15.l.take first.toNat; rw [← Et.out] at hT15)
            | (go_at_call 13; refine (ints_eq A15 none c15 0 _ _ ts w15 (by omega) (by omega) hI15 hT15 (by omega)).mono ?_; rintro e w16 ⟨rfl, hB16⟩; have hK16 := hK15.on hB16))
    all_goals
      go_wp2
      go_ret
      exact ⟨ret_bool (by simp), hK16.b⟩
  · have h0 := hc
    obtain ⟨ss, es⟩ : ∃ ss, ss = sec xs := ⟨_, rfl⟩
    have hsl : ss.length ≤ 1000000 := by rw [es]; have := sec_le xs; omega
    have Es := Lib.hid es
    clear es
    obtain ⟨ts, et⟩ : ∃ ts, ts = xs.take first.toNat := ⟨_, rfl⟩
    have htl : ts.length = min first.toNat xs.length := by rw [et, List.length_take]
    have Et := Lib.hid et
    clear et
    obtain ⟨m, hmn⟩ : ∃ m : Int, (if (xs.length : Int) < first then (xs.length : Int) else first) = m := ⟨_, rfl⟩
    have hmx : (if (0 : Int) < m then m else 0) = (ts.length : Int) := by split at hmn <;> split <;> omega
    have h5 : (ts.length : Int) ≤ (c : Int) := by omega
    have h6 : ts.length ≤ c := by omega
    have h8 : (0 : Int) ≤ (ts.length : Int) := by omega
    have h9 : ts.length ≤ 100 := by omega
    clear htl
    go_wp2_with fail
    go_region_held3 (fun _ => True) (exact trivial)
    (first
    | (go_at_call_of 14 (fv 31 lb); refine hK4.drew.s.list.mono ?_; rintro e w5 ⟨A5, c5, rfl, hc5, hI5, hB5⟩; have hK5 := hK4.drew.on hB5)
            | (go_at_call_of 13 (Value.slice A5 xs.length c5); refine (ints_eq A5 (some ⟨g, 0, none⟩) c5 c _ _ xs w5 rfl rfl hI5 hK5.l (by first | omega | simp)).mono ?_; rintro e w6 ⟨rfl, hB6⟩; have hK6 := hK5.on hB6)
            | (go_at_call 15; refine hK6.s.second.mono ?_; rintro e w7 ⟨lb7, rfl, hS7, hB7⟩; have hK7 := hK6.on hB7)
            | (go_at_call_of 14 (fv 29 lb7); refine hS7.list.mono ?_; rw [← Es.out]; rintro e w8 ⟨A8, c8, rfl, hc8, hI8, hB8⟩; have hK8 := hK7.on hB8)
            | (go_at_call 16; refine (refSecond_any (some ⟨g, 0, none⟩) c xs w8 (by first | omega | simp) hK8.l).mono ?_; rw [← Es.out]; rintro e w9 ⟨A9, c9, rfl, hc9, hI9, hB9⟩; have hK9 := hK8.on hB9; have hJ9 := hI8.on hB9)
            | (go_at_call_of 13 (Value.slice A8 ss.length c8); refine (ints_eq A8 A9 c8 c9 _ _ ss w9 rfl rfl hJ9 hI9 hsl).mono ?_; rintro e w10 ⟨rfl, hB10⟩; have hK10 := hK9.on hB10)
            | (go_at_call_of 14 (fv 28 le); refine hK10.e.list.mono ?_; rintro e w11 ⟨A11, c11, rfl, hc11, hI11, hB11⟩; have hK11 := hK10.on hB11)
            | (go_at_call 17; refine (refEven_any (some ⟨g, 0, none⟩) c xs w11 (by first | omega | simp) hK11.l).mono ?_; rw [← Ey.out]; rintro e w12 ⟨A12, c12, rfl, hc12, hI12, hB12⟩; have hK12 := hK11.on hB12; have hJ12 := hI11.on hB12)
            | (go_at_call_of 13 (Value.slice A11 ys.length c11); refine (ints_eq A11 A12 c11 c12 _ _ ys w12 rfl rfl hJ12 hI12 hyl).mono ?_; rintro e w13 ⟨rfl, hB13⟩; have hK13 := hK12.on hB13)
            | (go_at_call 18; refine (hK13.s.first _).mono ?_; rw [← Et.out]; rintro e w14 ⟨lb14, rfl, hS14, hB14⟩; have hK14 := hK13.on hB14)
            | (go_at_call_of 14 (fv 30 lb14); refine hS14.list.mono ?_; rintro e w15 ⟨A15, c15, rfl, hc15, hI15, hB15⟩; have hK15 := hK14.on hB15; have hT15 := hK15.l.take first.toNat; rw [← Et.out] at hT15)
            | (go_at_call 13; refine (ints_eq A15 (some ⟨g, 0, none⟩) c15 c _ _ ts w15 (by omega) (by omega) hI15 hT15 (by omega)).mono ?_; rintro e w16 ⟨rfl, hB16⟩; have hK16 := hK15.on hB16))
    all_goals
      go_wp2
      go_ret
      exact ⟨ret_bool (by simp), hK16.b⟩
theorem tells_any (many frm first : Int) (w : World) :
    Calls Try.prog 3 #[vI many, vI frm, vI first] w (fun e w' => e = .returned (.bool true) ∧ Below w.heap.size w w') := by
  by_cases h : 100 < many
  · exact tells_many many frm first w h
  · exact tells_go many frm first w (by omega)
end Go.Proofs.Ytpgidjebihgdaaa
