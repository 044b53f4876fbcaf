/- An operation done, by the program and by the document. -/
import Derived.Test.YthjhjjpgchmmfaaAny
import Derived.Test.YthjhjjpgchmmfaaRef
import Derived.Test.YthjhjjpgchmmfaaSmall
namespace Go.Proofs.Ythjhjjpgchmmfaa
open Go.RowKit
attribute [local go_sem ↓] Go.wp_at_zero Go.wp_at_succ

/-- an operation -/
structure OpT where
  k : Int
  i : Int
  v : Int
  u : Int
def OpT.val (o : OpT) : Value := .agg #[.int .u8 o.k, .int .i64 o.i, .int .i64 o.v, .int .i64 o.u]
def oneI (b : Bool) : Int := if b then 1 else 0
def St.opA (s : St) (o : OpT) : Int :=
  if o.k = 0 then s.loadA o.i else if o.k = 1 then oneI (s.has o.i) else if o.k = 2 then oneI (s.casA o.i o.v) else if o.k = 3 then s.loadA o.i else 0
def St.opS (s : St) (o : OpT) : St :=
  if o.k = 0 then s.loadS o.i else if o.k = 1 then s.storeS o.i o.v else if o.k = 2 then s.casS o.i o.v o.u else if o.k = 3 then s.addS o.i o.v else s

set_option maxHeartbeats 400000 in
theorem do_any (g gw c : Nat) (s : St) (o : OpT) (w : World) (h : MemAt w g gw c s) (ht : s.t < 1000000) :
    Calls Try.prog 12 #[.pointer (some ⟨g, 0, none⟩), o.val] w (Ends w g gw c (s.opS o) (.int .i64 (s.opA o))) := by
  obtain ⟨k, i, v, u⟩ := o
  have hB := (Sp.refl g gw w).alloc (.cells #[.int .u8 k, .int .i64 i, .int .i64 v, .int .i64 u] 34)
  have hA := h.alloc (.cells #[.int .u8 k, .int .i64 i, .int .i64 v, .int .i64 u] 34)
  unfold OpT.val
  rcases (show k = 0 ∨ k = 1 ∨ k = 2 ∨ k = 3 ∨ (k ≠ 0 ∧ k ≠ 1 ∧ k ≠ 2 ∧ k ≠ 3) by omega) with rfl | rfl | rfl | rfl | ⟨k0, k1, k2, k3⟩
  · rw [show s.opS ⟨0, i, v, u⟩ = s.loadS i from rfl, show s.opA ⟨0, i, v, u⟩ = s.loadA i from rfl]
    clear h
    go_enter Try.func12, Try.ntmps12
    go_wp2_with fail
    refine (load_any g gw c s i _ hA ht).mono ?_
    rintro e w1 ⟨rfl, hm, hs⟩
    go_wp2_with fail
    go_ret
    exact ⟨rfl, hm, hB.trans hs⟩
  · rw [show s.opS ⟨1, i, v, u⟩ = s.storeS i v from rfl, show s.opA ⟨1, i, v, u⟩ = oneI (s.has i) from rfl]
    clear h
    go_enter Try.func12, Try.ntmps12
    go_wp2_with fail
    refine (store_any g gw c s i v _ hA ht).mono ?_
    rintro e w1 ⟨rfl, hm, hs⟩
    cases hh : s.has i with
    | true =>
      go_wp2_with fail
      go_ret
      exact ⟨ret_int (by simp [oneI, hh]), hm, hB.trans hs⟩
    | false =>
      go_wp2_with fail
      go_ret
      exact ⟨ret_int (by simp [oneI, hh]), hm, hB.trans hs⟩
  · rw [show s.opS ⟨2, i, v, u⟩ = s.casS i v u from rfl, show s.opA ⟨2, i, v, u⟩ = oneI (s.casA i v) from rfl]
    clear h
    go_enter Try.func12, Try.ntmps12
    go_wp2_with fail
    refine (cas_any g gw c s i v u _ hA ht).mono ?_
    rintro e w1 ⟨rfl, hm, hs⟩
    cases hh : s.casA i v with
    | true =>
      go_wp2_with fail
      go_ret
      exact ⟨ret_int (by simp [oneI, hh]), hm, hB.trans hs⟩
    | false =>
      go_wp2_with fail
      go_ret
      exact ⟨ret_int (by simp [oneI, hh]), hm, hB.trans hs⟩
  · rw [show s.opS ⟨3, i, v, u⟩ = s.addS i v from rfl, show s.opA ⟨3, i, v, u⟩ = s.loadA i from rfl]
    clear h
    go_enter Try.func12, Try.ntmps12
    go_wp2_with fail
    refine (add_any g gw c s i v _ hA ht).mono ?_
    rintro e w1 ⟨rfl, hm, hs⟩
    go_wp2_with fail
    go_ret
    exact ⟨rfl, hm, hB.trans hs⟩
  · rw [show s.opS ⟨k, i, v, u⟩ = s by simp [St.opS, *], show s.opA ⟨k, i, v, u⟩ = 0 by simp [St.opA, *]]
    clear h
    go_enter Try.func12, Try.ntmps12
    go_wp2_with fail
    go_ret
    exact ⟨rfl, hA, hB⟩

set_option maxHeartbeats 400000 in
theorem refDo_any (g gw c : Nat) (s : St) (o : OpT) (w : World) (h : MemAt w g gw c s) (ht : s.t < 1000000) :
    Calls Try.prog 13 #[.pointer (some ⟨g, 0, none⟩), o.val] w (Ends w g gw c (s.opS o) (.int .i64 (s.opA o))) := by
  obtain ⟨k, i, v, u⟩ := o
  have hB := (Sp.refl g gw w).alloc (.cells #[.int .u8 k, .int .i64 i, .int .i64 v, .int .i64 u] 34)
  have hA := h.alloc (.cells #[.int .u8 k, .int .i64 i, .int .i64 v, .int .i64 u] 34)
  unfold OpT.val
  rcases (show k = 0 ∨ k = 1 ∨ k = 2 ∨ k = 3 ∨ (k ≠ 0 ∧ k ≠ 1 ∧ k ≠ 2 ∧ k ≠ 3) by omega) with rfl | rfl | rfl | rfl | ⟨k0, k1, k2, k3⟩
  · rw [show s.opS ⟨0, i, v, u⟩ = s.loadS i from rfl, show s.opA ⟨0, i, v, u⟩ = s.loadA i from rfl]
    clear h
    go_enter Try.func13, Try.ntmps13
    go_wp2_with fail
    refine (refLoad_any g gw c s i _ hA ht).mono ?_
    rintro e w1 ⟨rfl, hm, hs⟩
    go_wp2_with fail
    go_ret
    exact ⟨rfl, hm, hB.trans hs⟩
  · rw [show s.opS ⟨1, i, v, u⟩ = s.storeS i v from rfl, show s.opA ⟨1, i, v, u⟩ = oneI (s.has i) from rfl]
    clear h
    go_enter Try.func13, Try.ntmps13
    go_wp2_with fail
    refine (refStore_any g gw c s i v _ hA ht).mono ?_
    rintro e w1 ⟨rfl, hm, hs⟩
    cases hh : s.has i with
    | true =>
      go_wp2_with fail
      go_ret
      exact ⟨ret_int (by simp [oneI, hh]), hm, hB.trans hs⟩
    | false =>
      go_wp2_with fail
      go_ret
      exact ⟨ret_int (by simp [oneI, hh]), hm, hB.trans hs⟩
  · rw [show s.opS ⟨2, i, v, u⟩ = s.casS i v u from rfl, show s.opA ⟨2, i, v, u⟩ = oneI (s.casA i v) from rfl]
    clear h
    go_enter Try.func13, Try.ntmps13
    go_wp2_with fail
    refine (refCas_any g gw c s i v u _ hA ht).mono ?_
    rintro e w1 ⟨rfl, hm, hs⟩
    cases hh : s.casA i v with
    | true =>
      go_wp2_with fail
      go_ret
      exact ⟨ret_int (by simp [oneI, hh]), hm, hB.trans hs⟩
    | false =>
      go_wp2_with fail
      go_ret
      exact ⟨ret_int (by simp [oneI, hh]), hm, hB.trans hs⟩
  · rw [show s.opS ⟨3, i, v, u⟩ = s.addS i v from rfl, show s.opA ⟨3, i, v, u⟩ = s.loadA i from rfl]
    clear h
    go_enter Try.func13, Try.ntmps13
    go_wp2_with fail
    refine (refAdd_any g gw c s i v _ hA ht).mono ?_
    rintro e w1 ⟨rfl, hm, hs⟩
    go_wp2_with fail
    go_ret
    exact ⟨rfl, hm, hB.trans hs⟩
  · rw [show s.opS ⟨k, i, v, u⟩ = s by simp [St.opS, *], show s.opA ⟨k, i, v, u⟩ = 0 by simp [St.opA, *]]
    clear h
    go_enter Try.func13, Try.ntmps13
    go_wp2_with fail
    go_ret
    exact ⟨rfl, hA, hB⟩
end Go.Proofs.Ythjhjjpgchmmfaa
