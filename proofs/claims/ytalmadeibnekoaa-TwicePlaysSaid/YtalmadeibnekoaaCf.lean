/- What a conf is; what the program's functions on it, and on a part, answer; nothing that was there changes. -/
import Derived.Test.YtalmadeibnekoaaKit
namespace Go.Proofs.Ytalmadeibnekoaa
open Go.RowKit
attribute [local go_sem ↓] Go.wp_at_zero Go.wp_at_succ

/-- how many of all there are -/
structure Cf where
  wo : Int
  sl : Int
  st : Int
  wa : Int
  us : Int
def wiB (n l m : Int) : Bool := decide (l ≤ n) && decide (n ≤ m)
/-- is it right -/
def rcB (c : Cf) : Bool := wiB c.wo 1 8 && wiB c.sl 1 16 && wiB c.st 0 8 && wiB c.wa 0 8 && wiB c.us 1 60
structure Rc (c : Cf) : Prop where
  wo : 1 ≤ c.wo ∧ c.wo ≤ 8
  sl : 1 ≤ c.sl ∧ c.sl ≤ 16
  st : 0 ≤ c.st ∧ c.st ≤ 8
  wa : 0 ≤ c.wa ∧ c.wa ≤ 8
  us : 1 ≤ c.us ∧ c.us ≤ 60
theorem rcB_iff {c : Cf} : rcB c = true ↔ Rc c := by
  simp only [rcB, wiB, Bool.and_eq_true, decide_eq_true_eq]
  constructor
  · rintro ⟨⟨⟨⟨h1, h2⟩, h3⟩, h4⟩, h5⟩
    exact ⟨h1, h2, h3, h4, h5⟩
  · rintro ⟨h1, h2, h3, h4, h5⟩
    exact ⟨⟨⟨⟨h1, h2⟩, h3⟩, h4⟩, h5⟩

theorem within_any (n l m : Int) (w : World) :
    Calls Try.prog 51 #[.int .i64 n, .int .i64 l, .int .i64 m] w fun e w' => e = .returned (.bool (wiB n l m)) ∧ w = w' := by
  go_enter Try.func51, Try.ntmps51
  go_wp2
  all_goals go_ret
  all_goals exact ⟨ret_bool (by simp [wiB, *]; try omega), rfl⟩

set_option maxRecDepth 100000 in
set_option maxHeartbeats 2000000 in
theorem cright_any (c : Cf) (w : World) :
    Calls Try.prog 41 #[Value.agg #[Value.int .i64 c.wo, Value.int .i64 c.sl, Value.int .i64 c.st, Value.int .i64 c.wa, Value.int .i64 c.us]] w fun e w' => e = .returned (.bool (rcB c)) ∧ Below w.heap.size w w' := by
  have hB : Below w.heap.size w (w.alloc (.cells #[Value.int .i64 c.wo, Value.int .i64 c.sl, Value.int .i64 c.st, Value.int .i64 c.wa, Value.int .i64 c.us] 31)) := (Below.refl _ _).alloc (Nat.le_refl _) _
  go_enter Try.func41, Try.ntmps41
  go_wp2_with fail
  refine (within_any c.wo 1 8 _).mono ?_
  rintro e w1 ⟨rfl, rfl⟩
  cases h0 : wiB c.wo 1 8 with
  | false =>
    go_wp2_with fail
    go_ret
    exact ⟨ret_bool (by simp [rcB, *]), hB⟩
  | true =>
    go_wp2_with fail
    refine (within_any c.sl 1 16 _).mono ?_
    rintro e w2 ⟨rfl, rfl⟩
    cases h1 : wiB c.sl 1 16 with
    | false =>
      go_wp2_with fail
      go_ret
      exact ⟨ret_bool (by simp [rcB, *]), hB⟩
    | true =>
      go_wp2_with fail
      refine (within_any c.st 0 8 _).mono ?_
      rintro e w3 ⟨rfl, rfl⟩
      cases h2 : wiB c.st 0 8 with
      | false =>
        go_wp2_with fail
        go_ret
        exact ⟨ret_bool (by simp [rcB, *]), hB⟩
      | true =>
        go_wp2_with fail
        refine (within_any c.wa 0 8 _).mono ?_
        rintro e w4 ⟨rfl, rfl⟩
        cases h3 : wiB c.wa 0 8 with
        | false =>
          go_wp2_with fail
          go_ret
          exact ⟨ret_bool (by simp [rcB, *]), hB⟩
        | true =>
          go_wp2_with fail
          refine (within_any c.us 1 60 _).mono ?_
          rintro e w5 ⟨rfl, rfl⟩
          cases h4 : wiB c.us 1 60 with
          | false =>
            go_wp2_with fail
            go_ret
            exact ⟨ret_bool (by simp [rcB, *]), hB⟩
          | true =>
            go_wp2_with fail
            go_ret
            exact ⟨ret_bool (by simp [rcB, *]), hB⟩

theorem behind_any (a b : Int) (w : World) (h1 : 0 ≤ a ∧ a ≤ 1000) (h2 : 0 ≤ b ∧ b ≤ 1000) :
    Calls Try.prog 52 #[.agg #[.int .i64 a, .int .i64 b]] w fun e w' => e = .returned (.int .i64 (a + b)) ∧ Below w.heap.size w w' := by
  go_enter Try.func52, Try.ntmps52
  go_wp2
  go_ret
  exact ⟨rfl, (Below.refl _ _).alloc (Nat.le_refl _) _⟩

/-- the cell of one of a part -/
def cellI (f m i : Int) : Int := if wiB i 0 (m - 1) then f + i else -1
set_option maxRecDepth 100000 in
set_option maxHeartbeats 2000000 in
theorem cell_any (f m i : Int) (w : World) (h1 : 0 ≤ f ∧ f ≤ 1000) (h2 : 0 ≤ m ∧ m ≤ 1000) :
    Calls Try.prog 45 #[.agg #[.int .i64 f, .int .i64 m], .int .i64 i] w fun e w' => e = .returned (.int .i64 (cellI f m i)) ∧ Below w.heap.size w w' := by
  have hB : Below w.heap.size w (w.alloc (.cells #[.int .i64 f, .int .i64 m] 84)) := (Below.refl _ _).alloc (Nat.le_refl _) _
  have hw : IntKind.i64.wrap (m - 1) = m - 1 := IntWalk.i64_in _ (by omega)
  go_enter Try.func45, Try.ntmps45
  go_wp2_with fail
  refine (within_any i 0 (m - 1) _).mono ?_
  rintro e w1 ⟨rfl, rfl⟩
  cases h : wiB i 0 (m - 1) with
  | false =>
    go_wp2_with fail
    go_ret
    exact ⟨ret_int (by simp [cellI, h]), hB⟩
  | true =>
    have hi : 0 ≤ i ∧ i ≤ m - 1 := by simpa [wiB] using h
    have H := Lib.hid h
    clear h
    go_wp2_with fail
    go_ret
    exact ⟨ret_int (by rw [cellI, H.out, if_pos rfl]), hB⟩
end Go.Proofs.Ytalmadeibnekoaa
