/- Lists of numbers that were made by appends; two lists compared. -/
import Derived.Test.YtgeddciipcbepaaNums
namespace Go.Proofs.Ytgeddciipcbepaa
open Go.RowKit
attribute [local go_sem ↓] Go.wp_at_zero Go.wp_at_succ

def RetInts (w : World) (xs : List Int) (e : Ending) (w' : World) : Prop := ∃ A c, e = .returned (.slice A xs.length c) ∧ xs.length ≤ c ∧ IS w' w'.heap.size A xs ∧ Below w.heap.size w w'
/-- a list of numbers that was made since w0, its slice v -/
structure Mine (w0 w : World) (v : Value) (xs : List Int) : Prop where
  own : w.ownsRow w0.heap.size 3 1 v xs.length (xs.map vI)
  below : Below w0.heap.size w0 w
theorem Mine.form {w0 w : World} {v : Value} {xs : List Int} (h : Mine w0 w v xs) : ∃ A c, v = .slice A xs.length c := own_form h.own
theorem Mine.ret {w0 w : World} {A : Option Addr} {n c : Nat} {xs : List Int} (h : Mine w0 w (.slice A n c) xs) : RetInts w0 xs (.returned (.slice A n c)) w := by
  obtain ⟨A2, c2, e⟩ := h.form
  injection e with e1 e2 e3
  subst e1 e2 e3
  obtain ⟨h1, h2, h3⟩ := own_is h.own
  exact ⟨A, c, rfl, h3, h1, h.below⟩
theorem Mine.inv {w0 w : World} {A : Option Addr} {n c : Nat} {xs : List Int} (h : Mine w0 w (.slice A n c) xs) : xs.length = n ∧ IS w w.heap.size A xs ∧ Below w0.heap.size w0 w ∧ ((A = none ∧ n = 0 ∧ c = 0) ∨ (∃ g, A = some ⟨g, 0, none⟩ ∧ n ≤ c)) := by
  obtain ⟨A2, c2, e⟩ := h.form
  injection e with e1 e2 e3
  subst e1 e2 e3
  obtain ⟨h1, h2, h3⟩ := own_is h.own
  refine ⟨rfl, h1, h.below, ?_⟩
  rcases h.own.2 with ⟨e, hn⟩ | ⟨g, cap, cur, e, _⟩
  · injection e with e1 e2 e3
    exact .inl ⟨e1, e2, e3⟩
  · injection e with e1 e2 e3
    exact .inr ⟨g, e1, h3⟩
/-- a number more: what the walk is asked at an append -/
theorem Mine.app {w0 w : World} {v : Value} {xs : List Int} (h : Mine w0 w v xs) {ops : Array Oper} {rest : List Oper} {o : Oper} {a : Act} {Q : Exit → Act → World → Prop} {n : Nat} (hn : xs.length = n) (hn2 : n ≤ 1000000)
    (hg : o.guard = none) (s t : Operand) (hop : o.op = Op.call { callee := Callee.builtin Builtin.append, args := #[s, t], argTypes := #[24, 24] }) (hs : a.eval s = v) (y : Int) (c : Nat) (hx : a.eval t = .slice (some ⟨w.heap.size, 0, none⟩) 1 c)
    (hK : ∀ A' c' w', Mine w0 w' (.slice A' (n + 1) c') (xs ++ [y]) → wpList Try.prog ops Q rest (a.put o.dst (.slice A' (n + 1) c')) w') :
    wpList Try.prog ops Q (o :: rest) a (w.alloc (.cells #[vI y] 3)) := by
  obtain ⟨i0, hi, hz0, hz1, hz2⟩ := info_parts infoI2
  have hsz := h.below.size
  refine wpList_append_own _ hg _ _ 24 hop w0.heap.size 3 i0 (.int .i64 0) 1 8 Try.underlying24 hi hz0 hz1 hz2 rfl (by decide) _ _ _ hs (h.own.alloc _) ⟨w.heap.size, 0, none⟩ 1 c [vI y] hx rfl (cell_one_new _ _ _) (by simp [Value.oneCell']) (by unfold maxLen; omega) (by omega) (by simp; omega) ?_
  intro v' w4 hown4 hgrow4 _
  have hlen : (xs ++ [y]).length = n + 1 := by simp [hn]
  rw [hn] at hown4
  obtain ⟨A', c', rfl⟩ := own_form hown4
  exact hK A' c' w4 ⟨by rw [hlen]; simpa using hown4, (h.below.alloc hsz _).grown hgrow4 (by simp; omega) (fun j e => (h.own.lt j e).1)⟩
theorem Mine.nil {w0 w : World} (h : Below w0.heap.size w0 w) : Mine w0 w (.slice none 0 0) [] := ⟨World.ownsRow_nil _ _ _ _, h⟩

set_option maxHeartbeats 400000 in
theorem ints_any (A A2 : Option Addr) (c c2 : Nat) (xs ys : List Int) (w : World) (h : IS w w.heap.size A xs) (h2 : IS w w.heap.size A2 ys) (hl : xs.length ≤ 1000000) :
    Calls Try.prog 19 #[.slice A xs.length c, .slice A2 ys.length c2] w (fun e w' => e = .returned (.bool (decide (xs = ys))) ∧ Below w.heap.size w w') := by
  by_cases he : xs.length = ys.length
  · have He := Lib.hid he
    rw [← he]
    clear he
    go_enter Try.func19, Try.ntmps19
    go_wp2
    go_loopw [5] (fun i wr => ∃ k : Nat, k ≤ xs.length ∧ i = .int .i64 k ∧ xs.take k = ys.take k ∧ Below w.heap.size w wr) (fun i _ => xs.length - (intOf i).toNat)
    case atStart => exact ⟨0, Nat.zero_le _, rfl, rfl, Below.refl _ _⟩
    case round =>
      obtain ⟨k, hk, rfl, hr, hB⟩ := hrel
      have Hr := Lib.hid hr
      clear hr
      by_cases hlt : k < xs.length
      · obtain ⟨x, hx⟩ := num_some hlt
        obtain ⟨y, hy⟩ := num_some (xs := ys) (k := k) (by rw [← He.out]; exact hlt)
        obtain ⟨b, off, rfl, _, hd1⟩ := (h.below hB) k _ hx
        obtain ⟨b2, off2, rfl, _, hd2⟩ := (h2.below hB) k _ hy
        have Hx := Lib.hid hx
        have Hy := Lib.hid hy
        clear hx hy
        have hk1 : (k : Int) < (xs.length : Int) := by omega
        by_cases hq : x = y
        · have hq2 : (x != y) = false := by simpa using hq
          have Hq := Lib.hid hq
          clear hq
          go_wp2
          go_quiet (fail)
          go_wp2
          go_roundw
          case rel => exact ⟨k + 1, by omega, by go_num, take_eq Hr.out Hx.out Hy.out Hq.out, bdrew hB _⟩
          case measure => simp [intOf]; omega
        · have hq2 : (x != y) = true := by simpa using hq
          have Hq := Lib.hid hq
          clear hq
          go_wp2
          go_quiet (fail)
          go_wp2
          go_ret
          refine ⟨ret_bool (decide_eq_false ?_).symm, bdrew hB _⟩
          intro e
          have h3 := Hx.out
          rw [e, Hy.out] at h3
          injection h3 with h3
          exact Hq.out h3.symm
      · obtain rfl : k = xs.length := by omega
        go_wp2
        go_ret
        refine ⟨ret_bool (decide_eq_true ?_).symm, hB⟩
        have h3 := Hr.out
        rwa [List.take_length, He.out, List.take_length] at h3
  · have hn : ((xs.length : Int) != (ys.length : Int)) = true := by rw [bne_iff_ne]; omega
    have hn2 : (xs.length != ys.length) = true := by rw [bne_iff_ne]; omega
    have Hf := Lib.hid (decide_eq_false (show ¬ xs = ys from fun e => he (by rw [e])))
    clear he
    go_enter Try.func19, Try.ntmps19
    go_wp2
    go_ret
    exact ⟨ret_bool Hf.out.symm, Below.refl _ _⟩

end Go.Proofs.Ytgeddciipcbepaa
