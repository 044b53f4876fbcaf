/- The law's own small functions: the chapter's example, a table of pairs; two lists compared. -/
import Derived.Test.YtogeifnkjckaiaaPairs
import Derived.Test.YtogeifnkjckaiaaCalls1
import Derived.Test.YtogeifnkjckaiaaCalls3
import Derived.Test.YtogeifnkjckaiaaLeast3
namespace Go.Proofs.Ytogeifnkjckaiaa
open Go.RowKit
attribute [local go_sem ↓] Go.wp_at_zero Go.wp_at_succ

theorem awake_any (w : World) : Calls Try.prog 9 #[] w fun e w' => e = .returned (.bool true) ∧ Below w.heap.size w w' := by
  go_enter Try.func9, Try.ntmps9
  go_wp2_with fail
  refine (new3_any w).mono ?_
  rintro e w1 ⟨rfl, hT1, hB1, hs1⟩
  have c2 : Calls Try.prog 30 #[.pointer (some ⟨w.heap.size, 0, none⟩), vI 3, vS ⟨#[99]⟩] w1 (Turned3 [w.heap.size] w1 w.heap.size (.bool false) [(3, ⟨#[99]⟩)]) := tput3_any hT1 3 ⟨#[99]⟩ (by simp)
  go_wp2_with fail
  refine c2.mono ?_
  clear c2
  rintro e w2 ⟨rfl, hT2, hS2⟩
  have c3 : Calls Try.prog 30 #[.pointer (some ⟨w.heap.size, 0, none⟩), vI 1, vS ⟨#[97]⟩] w2 (Turned3 [w.heap.size] w2 w.heap.size (.bool false) [(1, ⟨#[97]⟩), (3, ⟨#[99]⟩)]) := tput3_any hT2 1 ⟨#[97]⟩ (by decide)
  go_wp2_with fail
  refine c3.mono ?_
  clear c3
  rintro e w3 ⟨rfl, hT3, hS3⟩
  have c4 : Calls Try.prog 31 #[.pointer (some ⟨w.heap.size, 0, none⟩)] w3 (fun e w' => e = .returned (.tuple #[vI 1, vS ⟨#[97]⟩, .bool true]) ∧ Below w3.heap.size w3 w') := least3_any hT3
  go_wp2_with fail
  refine c4.mono ?_
  clear c4
  rintro e w4 ⟨rfl, hB4⟩
  have hT4 := hT3.below hB4
  have c5 : Calls Try.prog 32 #[.pointer (some ⟨w.heap.size, 0, none⟩)] w4 (fun e w' => e = .returned (.int .i64 2) ∧ w4 = w') := len3_any hT4
  have hB3 : Below w.heap.size w w4 := (Sp.below (Sp.below hB1 hS2 hB1.size (Nat.le_refl _)) hS3 (Nat.le_trans hB1.size hS2.size) (Nat.le_refl _)).trans (hB4.mono (Nat.le_trans hB1.size (Nat.le_trans hS2.size hS3.size)))
  have ha : (ByteArray.toList ⟨#[97]⟩ == ByteArray.toList ⟨#[97]⟩) = true := by simp
  go_wp2_with (first | (go_at_call 32; refine c5.mono ?_; rintro e w5 ⟨rfl, rfl⟩))
  go_ret
  exact ⟨ret_bool (by simp), hB3⟩

def fillT (l : IP) : IP := l.foldl (fun xs p => ins xs p.1 p.2) []
theorem fillT_take {l : IP} {k : Nat} {p : Int × Int} (h : l[k]? = some p) : fillT (l.take (k + 1)) = ins (fillT (l.take k)) p.1 p.2 := by
  rw [fillT, List.take_add_one, h]; simp [fillT]
theorem fillT_rises (l : IP) : Rises (fillT l) := by
  have : ∀ (l acc : IP), Rises acc → Rises (l.foldl (fun xs p => ins xs p.1 p.2) acc) := by
    intro l
    induction l with
    | nil => exact fun acc h => h
    | cons p t ih => exact fun acc h => ih _ (ins_rises _ _ h)
  exact this l [] List.Pairwise.nil
theorem fillT_len (l : IP) : (fillT l).length ≤ l.length := by
  have : ∀ (l acc : IP), (l.foldl (fun xs p => ins xs p.1 p.2) acc).length ≤ acc.length + l.length := by
    intro l
    induction l with
    | nil => exact fun acc => Nat.le_refl _
    | cons p t ih =>
      intro acc
      have h1 := ih (ins acc p.1 p.2)
      have h2 := ins_len (l := acc) p.1 p.2
      simp only [List.foldl_cons, List.length_cons]
      split at h2 <;> omega
  simpa [fillT] using this l []
def RetTab (w : World) (xs : IP) (e : Ending) (w' : World) : Prop := ∃ g, e = .returned (.pointer (some ⟨g, 0, none⟩)) ∧ w.heap.size ≤ g ∧ Tab1 [g] w' g xs ∧ Below w.heap.size w w'
theorem pair_some {l : IP} {k : Nat} (h : k < l.length) : ∃ x, l[k]? = some x := ⟨l[k], by simp⟩
set_option maxHeartbeats 1000000 in
theorem filled_any (A : Option Addr) (c : Nat) (l : IP) (w : World) (hl : l.length ≤ 60) (h : PS w w.heap.size A l) : Calls Try.prog 22 #[.slice A l.length c] w (RetTab w (fillT l)) := by
  go_enter Try.func22, Try.ntmps22
  go_wp2_with fail
  refine (new1_any w).mono ?_
  rintro e w1 ⟨rfl, hT1, hB1, hs1⟩
  obtain ⟨g, eg⟩ : ∃ g, g = w.heap.size := ⟨_, rfl⟩
  rw [← eg] at hT1 ⊢
  have Eg := Lib.hid eg
  clear eg hs1
  go_wp2_with fail
  go_loopw [4] (fun i wr => ∃ k : Nat, k ≤ l.length ∧ i = .int .i64 k ∧ Tab1 [g] wr g (fillT (l.take k)) ∧ Below w.heap.size w wr) (fun i _ => l.length - (intOf i).toNat)
  case atStart => exact ⟨0, Nat.zero_le _, rfl, hT1, hB1⟩
  case round =>
    obtain ⟨k, hk, rfl, hT, hB⟩ := hrel
    by_cases hlt : k < l.length
    · obtain ⟨p, hp⟩ := pair_some hlt
      obtain ⟨b, off, rfl, hb, d1, d2⟩ := h k p hp
      have hx := fillT_take hp
      have hn : (fillT (l.take k)).length ≤ 10000 := by have := fillT_len (l.take k); have := List.length_take_le k l; omega
      have e1 := (hB.cell (p := ⟨b, off + k * 2, none⟩) hb).trans d1
      have e2 := (hB.cell (p := ⟨b, off + k * 2 + 1, none⟩) hb).trans d2
      have hk1 : (k : Int) < (l.length : Int) := by omega
      have hk0 : (0 : Int) ≤ (k : Int) := Int.natCast_nonneg _
      have hput := fun (W : World) (hW : Tab1 [g] W g (fillT (l.take k))) => tput1_any hW p.1 p.2 hn
      have Hx := Lib.hid hx
      clear hp hx hn d1 d2
      go_wp2_with fail
      go_region_held3 (fun w' => w'.cell? ⟨b, off + k * 2, none⟩ = some (vI p.1) ∧ w'.cell? ⟨b, off + k * 2 + 1, none⟩ = some (vI p.2)) (first | exact ⟨e1, e2⟩ | go_keep)
        (first
        | (go_at_call 11; refine (hput wr.drew (hT.below (bdrew1 (Below.refl _ _)))).mono ?_; rintro e w3 ⟨rfl, hT3, hS3⟩; have hB3 : Below w.heap.size w w3 := Sp.below (bdrew1 hB) hS3 hB.size (by rw [Eg.out]; exact Nat.le_refl _); have f1 := (Sp.cell hS3 (k := b) (off + k * 2) (Nat.lt_of_lt_of_le hb hB.size) (by rw [Eg.out]; omega)).trans e1; have f2 := (Sp.cell hS3 (k := b) (off + k * 2 + 1) (Nat.lt_of_lt_of_le hb hB.size) (by rw [Eg.out]; omega)).trans e2))
      go_wp2
      go_roundw
      case rel => exact ⟨k + 1, by omega, by go_num, by rw [Hx.out]; exact hT3, hB3⟩
      case measure => simp [intOf]; omega
    · obtain rfl : k = l.length := by omega
      rw [List.take_length] at hT
      go_wp2
      go_ret
      exact ⟨g, rfl, by rw [Eg.out]; exact Nat.le_refl _, hT, hB⟩

theorem take_eqP {xs ys : IP} {k : Nat} {x y : Int × Int} (h : xs.take k = ys.take k) (h1 : xs[k]? = some x) (h2 : ys[k]? = some y) (h3 : x = y) : xs.take (k + 1) = ys.take (k + 1) := by
  rw [List.take_add_one, List.take_add_one, h, h1, h2, h3]
set_option maxHeartbeats 1000000 in
theorem same_any (A A2 : Option Addr) (c c2 : Nat) (xs ys : IP) (w : World) (h : PS w w.heap.size A xs) (h2 : PS w w.heap.size A2 ys) (hl : xs.length ≤ 1000000) :
    Calls Try.prog 18 #[.slice A xs.length c, .slice A2 ys.length c2] w (fun e w' => e = .returned (.bool (decide (xs = ys))) ∧ Below w.heap.size w w') := by
  by_cases he : xs.length = ys.length
  · have He := Lib.hid he
    rw [← he]
    clear he
    go_enter Try.func18, Try.ntmps18
    go_wp2
    go_loopw [5] (fun i wr => ∃ k : Nat, k ≤ xs.length ∧ i = .int .i64 k ∧ xs.take k = ys.take k ∧ Below w.heap.size w wr) (fun i _ => xs.length - (intOf i).toNat)
    case atStart => exact ⟨0, Nat.zero_le _, rfl, rfl, Below.refl _ _⟩
    case round =>
      obtain ⟨k, hk, rfl, hr, hB⟩ := hrel
      have Hr := Lib.hid hr
      clear hr
      by_cases hlt : k < xs.length
      · obtain ⟨x, hx⟩ := pair_some hlt
        obtain ⟨y, hy⟩ := pair_some (l := ys) (k := k) (by rw [← He.out]; exact hlt)
        obtain ⟨b, off, rfl, _, hd1, hd2⟩ := (h.below hB) k _ hx
        obtain ⟨b2, off2, rfl, _, hd3, hd4⟩ := (h2.below hB) k _ hy
        have Hx := Lib.hid hx
        have Hy := Lib.hid hy
        clear hx hy
        have hk1 : (k : Int) < (xs.length : Int) := by omega
        by_cases hq : x = y
        · have Hq := Lib.hid hq
          subst hq
          go_wp2
          go_quiet (fail)
          go_wp2
          go_roundw
          case rel => exact ⟨k + 1, by omega, by go_num, take_eqP Hr.out Hx.out Hy.out rfl, bdrew hB _⟩
          case measure => simp [intOf]; omega
        · obtain ⟨x1, x2⟩ := x
          obtain ⟨y1, y2⟩ := y
          have Hq := Lib.hid hq
          by_cases q1 : x1 = y1
          · subst q1
            have q2 : ¬ x2 = y2 := fun e => hq (by rw [e])
            clear hq
            go_wp2
            go_quiet (fail)
            go_wp2
            go_ret
            refine ⟨ret_bool (decide_eq_false ?_).symm, bdrew hB _⟩
            intro e
            have h3 := Hx.out
            rw [e, Hy.out] at h3
            injection h3 with h3
            exact Hq.out h3.symm
          · clear hq
            go_wp2
            go_quiet (fail)
            go_wp2
            go_ret
            refine ⟨ret_bool (decide_eq_false ?_).symm, bdrew hB _⟩
            intro e
            have h3 := Hx.out
            rw [e, Hy.out] at h3
            injection h3 with h3
            exact Hq.out h3.symm
      · obtain rfl : k = xs.length := by omega
        go_wp2
        go_ret
        refine ⟨ret_bool (decide_eq_true ?_).symm, hB⟩
        have h3 := Hr.out
        rwa [List.take_length, He.out, List.take_length] at h3
  · have hn : ((xs.length : Int) != (ys.length : Int)) = true := by rw [bne_iff_ne]; omega
    have hn2 : (xs.length != ys.length) = true := by rw [bne_iff_ne]; omega
    have Hf := Lib.hid (decide_eq_false (show ¬ xs = ys from fun e => he (by rw [e])))
    clear he
    go_enter Try.func18, Try.ntmps18
    go_wp2
    go_ret
    exact ⟨ret_bool Hf.out.symm, Below.refl _ _⟩
end Go.Proofs.Ytogeifnkjckaiaa
