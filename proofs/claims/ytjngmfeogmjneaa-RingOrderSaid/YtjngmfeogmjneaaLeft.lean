/- The law RingLeft, walked. -/
import Derived.Test.YtjngmfeogmjneaaRoom
namespace Go.Proofs.Ytjngmfeogmjneaa
open Go.RowKit
attribute [local go_sem ↓] Go.wp_at_zero Go.wp_at_succ

set_option maxRecDepth 100000 in
set_option maxHeartbeats 1000000 in
theorem left_long (few p : Nat) (A : Option Addr) (n c : Nat) (w : World) (hl : 80 < n) :
    Calls Try.prog 5 #[.slice A n c, .int .u8 few, .int .u8 p] w (fun e w' => e = .returned (.bool true) ∧ Below w.heap.size w w') := by
  go_enter Try.func5, Try.ntmps5
  go_wp2_with fail
  refine (awake_any _).mono ?_
  rintro e w1 ⟨rfl, hB1⟩
  go_wp2_with fail
  go_ret
  exact ⟨rfl, hB1⟩
theorem is_map {w : World} {N : Nat} {A : Option Addr} {xs : List Int} (h : IS w N A xs) (m : Nat) : IS w N (A.map (fun x => x.add m)) (xs.drop m) := by
  intro k x hk
  rw [List.getElem?_drop] at hk
  obtain ⟨b', off', rfl, h1, h2⟩ := h (m + k) x hk
  have ha : (⟨b', off', none⟩ : Addr).add m = ⟨b', off' + m, none⟩ := by unfold Addr.add; split <;> simp_all
  exact ⟨b', off' + m, by rw [Option.map_some, ha], h1, by rw [Nat.add_assoc]; exact h2⟩
theorem is_vac (w : World) (N : Nat) (A : Option Addr) {xs : List Int} {m : Nat} (h : xs.length ≤ m) : IS w N A (xs.drop m) := by
  rw [List.drop_eq_nil_of_le h]
  intro k x hk
  simp at hk
theorem ints_same (A A2 : Option Addr) (n c n2 c2 : Nat) (xs ys : List Int) (w : World) (hn : xs.length = n) (hn2 : ys.length = n2) (h : IS w w.heap.size A xs) (h2 : IS w w.heap.size A2 ys) (hl : n ≤ 1000000) (he : xs = ys) :
    Calls Try.prog 18 #[.slice A n c, .slice A2 n2 c2] w (fun e w' => e = .returned (.bool true) ∧ Below w.heap.size w w') := by
  have := ints_at A A2 n c n2 c2 xs ys w hn hn2 h h2 hl
  rwa [decide_eq_true he] at this
theorem left_head {l : List Int} {k : Nat} {x : Int} (h : l[k]? = some x) : l.drop k = x :: l.drop (k + 1) := by
  obtain ⟨hk, rfl⟩ := List.getElem?_eq_some_iff.1 h
  exact List.drop_eq_getElem_cons hk
set_option maxRecDepth 100000 in
set_option maxHeartbeats 2000000 in
theorem left_go (few p : Nat) (A : Option Addr) (c : Nat) (l : List Int) (w : World) (hf : few < 256) (hp : p < 256) (hc : l.length ≤ c) (hl : l.length ≤ 80) (hI : IS w w.heap.size A l) :
    Calls Try.prog 5 #[.slice A l.length c, .int .u8 few, .int .u8 p] w (fun e w' => e = .returned (.bool true) ∧ Below w.heap.size w w') := by
  go_enter Try.func5, Try.ntmps5
  go_wp2_with fail
  refine (awake_any _).mono ?_
  rintro e w1 ⟨rfl, hB1⟩
  go_wp2_with fail
  refine (new_mine _ w _ hB1).mono ?_
  rw [show roomN 80 = 80 from rfl]
  rintro e w2 ⟨g, rfl, hM⟩
  clear hB1
  go_wp2_with fail
  go_loopw [9] (fun i wr => ∃ (k gb : Nat), k ≤ l.length ∧ i = .int .i64 k ∧ Mine w wr g gb 80 (l.take k)) (fun i _ => l.length - (intOf i).toNat)
  case atStart => exact ⟨0, g, Nat.zero_le _, rfl, by simpa using hM⟩
  case round =>
    obtain ⟨k, gb, hk, rfl, hM2⟩ := hrel
    clear hM
    by_cases hlt : k < l.length
    · obtain ⟨x, hx⟩ := num_some hlt
      obtain ⟨b, off, rfl, _, hd1⟩ := (hI.below hM2.below) k _ hx
      have Hx := Lib.hid hx
      clear hx
      have hk1 : (k : Int) < (l.length : Int) := by omega
      go_wp2_with fail
      refine (push_mine w g gb 80 x _ _ hM2).mono ?_
      rw [pushL_room (by simp; omega), decide_eq_true (by simp; omega), ← take_snoc Hx.out]
      rintro e w3 ⟨rfl, gb3, hM3⟩
      go_wp2_with fail
      go_roundw
      case rel => exact ⟨k + 1, gb3, by omega, by go_num, hM3⟩
      case measure => simp [intOf]; omega
    · obtain rfl : k = l.length := by omega
      rw [List.take_length] at hM2
      have hk1 : ¬ (l.length : Int) < (l.length : Int) := by omega
      by_cases hpl : p ≤ l.length
      · have hpl2 : (p : Int) ≤ (l.length : Int) := by omega
        go_wp2_with fail
        go_loopw [11] (fun i wr => ∃ (k gb : Nat), k ≤ p ∧ i = .int .i64 k ∧ Mine w wr g gb 80 (l.drop k)) (fun i _ => p - (intOf i).toNat)
        case atStart => exact ⟨0, gb, Nat.zero_le _, rfl, by simpa using hM2⟩
        case round =>
          obtain ⟨k, gb4, hk, rfl, hM4⟩ := hrel
          clear hM2 hk1
          by_cases hlt : k < p
          · obtain ⟨x, hx⟩ := num_some (xs := l) (k := k) (by omega)
            have hk1 : (k : Int) < (p : Int) := by omega
            go_wp2_with fail
            refine (pop_mine w g gb4 80 _ _ hM4).mono ?_
            rw [left_head hx, List.tail_cons]
            rintro e w5 ⟨rfl, gb5, hM5⟩
            go_wp2_with fail
            go_roundw
            case rel => exact ⟨k + 1, gb5, by omega, by go_num, hM5⟩
            case measure => simp [intOf]; omega
          · have ek : p = k := by omega
            subst ek
            have hk1 : ¬ (p : Int) < (p : Int) := by omega
            obtain ⟨D, hD⟩ : ∃ D, (l.drop p).length = D := ⟨_, rfl⟩
            have hDe : (l.length : Int) - (p : Int) = (D : Int) := by rw [← hD, List.length_drop]; omega
            have hD0 : D ≤ 80 := by omega
            obtain ⟨E, hE⟩ : ∃ E, ((l.drop p).take few).length = E := ⟨_, rfl⟩
            have ht100 : (l.drop p).take 100 = l.drop p := List.take_of_length_le (by omega)
            have hH0 : (0 : Int) ≤ (p : Int) := by omega
            have hH1 : (p : Int) ≤ (l.length : Int) := by omega
            go_wp2_with fail
            refine (all_any g gb4 80 few _ _ hM4.line (by omega)).mono ?_
            rintro e w5 ⟨A5, n5, c5, rfl, hn5, hc5, hI5, hB5⟩
            have e5 : E = n5 := by rw [← hn5, hE]
            subst e5
            have hM5 := hM4.on hB5
            clear hM4 hB5
            go_wp2_with fail
            refine (all_any g gb4 80 100 _ _ hM5.line (by omega)).mono ?_
            rw [ht100]
            rintro e w6 ⟨A6, n6, c6, rfl, hn6, hc6, hI6, hB6⟩
            have e6 : D = n6 := by rw [← hn6, hD]
            subst e6
            have hI5' := (hI5.below hB6).more hB6.size
            have hM6 := hM5.on hB6
            clear hM5 hB6 hI5
            have hIl := hI.below hM6.below
            go_wp2_with fail
            all_goals
              refine (ints_same A6 _ D c6 _ _ (l.drop p) (l.drop p) _ hD (by simp) hI6 ?is (by omega) rfl).mono ?_
              case is => first | exact (is_map hIl _).more hM6.below.size | exact is_vac _ _ _ (by omega)
              rintro e w7 ⟨rfl, hB7⟩
              have hM7 := hM6.on hB7
              have hI57 := (hI5'.below hB7).more hB7.size
              have hI67 := (hI6.below hB7).more hB7.size
              clear hM6 hI5' hI6 hB7
              by_cases hfD : few ≤ D
              · have hfD2 : (few : Int) ≤ (D : Int) := by omega
                have hlM : ((l.drop p).take few).length = few := by rw [List.length_take, hD]; omega
                have hMc : (few : Int) ≤ (c6 : Int) := by omega
                have hM0 : (0 : Int) ≤ (few : Int) := by omega
                go_wp2_with fail
                refine (ints_same A5 A6 E c5 _ c6 ((l.drop p).take few) ((l.drop p).take few) _ hE hlM hI57 (is_take hI67 few) (by rw [List.length_take] at hE; omega) rfl).mono ?_
                rintro e w8 ⟨rfl, hB8⟩
                have hM8 := hM7.on hB8
                clear hM7 hB8 hI57 hI67
                go_wp2_with fail
                refine (len_line g gb4 80 _ _ hM8.line).mono ?_
                rw [hD]
                rintro e w9 ⟨rfl, rfl⟩
                go_wp2_with fail
                go_ret
                exact ⟨ret_bool (by simp), hM8.below⟩
              · have hfD2 : ¬ (few : Int) ≤ (D : Int) := by omega
                have Htk := Lib.hid (show (l.drop p).take few = (l.drop p).take D by rw [List.take_of_length_le (by omega), List.take_of_length_le (by omega)])
                have hlM : ((l.drop p).take D).length = D := by rw [List.length_take, hD]; omega
                have hMc : (D : Int) ≤ (c6 : Int) := by omega
                have hM0 : (0 : Int) ≤ (D : Int) := by omega
                go_wp2_with fail
                refine (ints_same A5 A6 E c5 _ c6 ((l.drop p).take few) ((l.drop p).take D) _ hE hlM hI57 (is_take hI67 D) (by rw [List.length_take] at hE; omega) Htk.out).mono ?_
                rintro e w8 ⟨rfl, hB8⟩
                have hM8 := hM7.on hB8
                clear hM7 hB8 hI57 hI67
                go_wp2_with fail
                refine (len_line g gb4 80 _ _ hM8.line).mono ?_
                rw [hD]
                rintro e w9 ⟨rfl, rfl⟩
                go_wp2_with fail
                go_ret
                exact ⟨ret_bool (by simp), hM8.below⟩
      · have hpl2 : ¬ (p : Int) ≤ (l.length : Int) := by omega
        go_wp2_with fail
        go_loopw [11] (fun i wr => ∃ (k gb : Nat), k ≤ l.length ∧ i = .int .i64 k ∧ Mine w wr g gb 80 (l.drop k)) (fun i _ => l.length - (intOf i).toNat)
        case atStart => exact ⟨0, gb, Nat.zero_le _, rfl, by simpa using hM2⟩
        case round =>
          obtain ⟨k, gb4, hk, rfl, hM4⟩ := hrel
          clear hM2 hk1
          by_cases hlt : k < l.length
          · obtain ⟨x, hx⟩ := num_some (xs := l) (k := k) (by omega)
            have hk1 : (k : Int) < (l.length : Int) := by omega
            go_wp2_with fail
            refine (pop_mine w g gb4 80 _ _ hM4).mono ?_
            rw [left_head hx, List.tail_cons]
            rintro e w5 ⟨rfl, gb5, hM5⟩
            go_wp2_with fail
            go_roundw
            case rel => exact ⟨k + 1, gb5, by omega, by go_num, hM5⟩
            case measure => simp [intOf]; omega
          · have ek : l.length = k := by omega
            subst ek
            have hk1 : ¬ (l.length : Int) < (l.length : Int) := by omega
            obtain ⟨D, hD⟩ : ∃ D, (l.drop l.length).length = D := ⟨_, rfl⟩
            have hDe : (l.length : Int) - (l.length : Int) = (D : Int) := by rw [← hD, List.length_drop]; omega
            have hD0 : D ≤ 80 := by omega
            obtain ⟨E, hE⟩ : ∃ E, ((l.drop l.length).take few).length = E := ⟨_, rfl⟩
            have ht100 : (l.drop l.length).take 100 = l.drop l.length := List.take_of_length_le (by omega)
            have hH0 : (0 : Int) ≤ (l.length : Int) := by omega
            have hH1 : (l.length : Int) ≤ (l.length : Int) := by omega
            go_wp2_with fail
            refine (all_any g gb4 80 few _ _ hM4.line (by omega)).mono ?_
            rintro e w5 ⟨A5, n5, c5, rfl, hn5, hc5, hI5, hB5⟩
            have e5 : E = n5 := by rw [← hn5, hE]
            subst e5
            have hM5 := hM4.on hB5
            clear hM4 hB5
            go_wp2_with fail
            refine (all_any g gb4 80 100 _ _ hM5.line (by omega)).mono ?_
            rw [ht100]
            rintro e w6 ⟨A6, n6, c6, rfl, hn6, hc6, hI6, hB6⟩
            have e6 : D = n6 := by rw [← hn6, hD]
            subst e6
            have hI5' := (hI5.below hB6).more hB6.size
            have hM6 := hM5.on hB6
            clear hM5 hB6 hI5
            have hIl := hI.below hM6.below
            go_wp2_with fail
            all_goals
              refine (ints_same A6 _ D c6 _ _ (l.drop l.length) (l.drop l.length) _ hD (by simp) hI6 ?is (by omega) rfl).mono ?_
              case is => first | exact (is_map hIl _).more hM6.below.size | exact is_vac _ _ _ (by omega)
              rintro e w7 ⟨rfl, hB7⟩
              have hM7 := hM6.on hB7
              have hI57 := (hI5'.below hB7).more hB7.size
              have hI67 := (hI6.below hB7).more hB7.size
              clear hM6 hI5' hI6 hB7
              by_cases hfD : few ≤ D
              · have hfD2 : (few : Int) ≤ (D : Int) := by omega
                have hlM : ((l.drop l.length).take few).length = few := by rw [List.length_take, hD]; omega
                have hMc : (few : Int) ≤ (c6 : Int) := by omega
                have hM0 : (0 : Int) ≤ (few : Int) := by omega
                go_wp2_with fail
                refine (ints_same A5 A6 E c5 _ c6 ((l.drop l.length).take few) ((l.drop l.length).take few) _ hE hlM hI57 (is_take hI67 few) (by rw [List.length_take] at hE; omega) rfl).mono ?_
                rintro e w8 ⟨rfl, hB8⟩
                have hM8 := hM7.on hB8
                clear hM7 hB8 hI57 hI67
                go_wp2_with fail
                refine (len_line g gb4 80 _ _ hM8.line).mono ?_
                rw [hD]
                rintro e w9 ⟨rfl, rfl⟩
                go_wp2_with fail
                go_ret
                exact ⟨ret_bool (by simp), hM8.below⟩
              · have hfD2 : ¬ (few : Int) ≤ (D : Int) := by omega
                have Htk := Lib.hid (show (l.drop l.length).take few = (l.drop l.length).take D by rw [List.take_of_length_le (by omega), List.take_of_length_le (by omega)])
                have hlM : ((l.drop l.length).take D).length = D := by rw [List.length_take, hD]; omega
                have hMc : (D : Int) ≤ (c6 : Int) := by omega
                have hM0 : (0 : Int) ≤ (D : Int) := by omega
                go_wp2_with fail
                refine (ints_same A5 A6 E c5 _ c6 ((l.drop l.length).take few) ((l.drop l.length).take D) _ hE hlM hI57 (is_take hI67 D) (by rw [List.length_take] at hE; omega) Htk.out).mono ?_
                rintro e w8 ⟨rfl, hB8⟩
                have hM8 := hM7.on hB8
                clear hM7 hB8 hI57 hI67
                go_wp2_with fail
                refine (len_line g gb4 80 _ _ hM8.line).mono ?_
                rw [hD]
                rintro e w9 ⟨rfl, rfl⟩
                go_wp2_with fail
                go_ret
                exact ⟨ret_bool (by simp), hM8.below⟩
theorem left_any (A : Option Addr) (n c : Nat) (l : List Int) (few p : Int) (w : World) (hn : l.length = n) (hc : n ≤ c) (hI : IS w w.heap.size A l) (h1 : 0 ≤ few ∧ few ≤ 255) (h2 : 0 ≤ p ∧ p ≤ 255) :
    Calls Try.prog 5 #[.slice A n c, .int .u8 few, .int .u8 p] w (fun e w' => e = .returned (.bool true) ∧ Below w.heap.size w w') := by
  subst hn
  obtain ⟨few, rfl⟩ := Int.eq_ofNat_of_zero_le h1.1
  obtain ⟨p, rfl⟩ := Int.eq_ofNat_of_zero_le h2.1
  by_cases hl : 80 < l.length
  · exact left_long few p A _ c w hl
  · exact left_go few p A c l w (by omega) (by omega) hc (by omega) hI
end Go.Proofs.Ytjngmfeogmjneaa
