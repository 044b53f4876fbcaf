/- What the four tell and leave, whatever the number. -/
import Derived.Test.YthjhjjpgchmmfaaAdd
import Derived.Test.YthjhjjpgchmmfaaCas
namespace Go.Proofs.Ythjhjjpgchmmfaa
open Go.RowKit
attribute [local go_sem ↓] Go.wp_at_zero Go.wp_at_succ

theorem load_any (g gw c : Nat) (s : St) (i : Int) (w : World) (h : MemAt w g gw c s) (ht : s.t < 1000000) :
    Calls Try.prog 19 #[.pointer (some ⟨g, 0, none⟩), .int .i64 i] w (Ends w g gw c (s.loadS i) (.int .i64 (s.loadA i))) := by
  cases hh : s.has i with
  | true =>
    obtain ⟨k, rfl, hk⟩ := St.has_nat hh
    rw [St.loadS, St.loadA, hh]
    exact load_in g gw c s k w h hk ht
  | false =>
    rw [St.loadS, St.loadA, hh]
    exact load_out g gw c s i w h (St.not_has hh)
theorem store_any (g gw c : Nat) (s : St) (i v : Int) (w : World) (h : MemAt w g gw c s) (ht : s.t < 1000000) :
    Calls Try.prog 23 #[.pointer (some ⟨g, 0, none⟩), .int .i64 i, .int .i64 v] w (Ends w g gw c (s.storeS i v) (.bool (s.has i))) := by
  cases hh : s.has i with
  | true =>
    obtain ⟨k, rfl, hk⟩ := St.has_nat hh
    rw [St.storeS, hh]
    exact store_in g gw c s k v w h hk ht
  | false =>
    rw [St.storeS, hh]
    exact store_out g gw c s i v w h (St.not_has hh)
theorem add_any (g gw c : Nat) (s : St) (i v : Int) (w : World) (h : MemAt w g gw c s) (ht : s.t < 1000000) :
    Calls Try.prog 22 #[.pointer (some ⟨g, 0, none⟩), .int .i64 i, .int .i64 v] w (Ends w g gw c (s.addS i v) (.int .i64 (s.loadA i))) := by
  cases hh : s.has i with
  | true =>
    obtain ⟨k, rfl, hk⟩ := St.has_nat hh
    rw [St.addS, St.loadA, hh]
    exact add_in g gw c s k v w h hk ht
  | false =>
    rw [St.addS, St.loadA, hh]
    exact add_out g gw c s i v w h (St.not_has hh)
theorem cas_any (g gw c : Nat) (s : St) (i o n : Int) (w : World) (h : MemAt w g gw c s) (ht : s.t < 1000000) :
    Calls Try.prog 20 #[.pointer (some ⟨g, 0, none⟩), .int .i64 i, .int .i64 o, .int .i64 n] w (Ends w g gw c (s.casS i o n) (.bool (s.casA i o))) := by
  cases hh : s.has i with
  | true =>
    obtain ⟨k, rfl, hk⟩ := St.has_nat hh
    rw [St.casS, St.casA, St.loadS, hh, Bool.true_and]
    have hq := cas_in g gw c s k o n w h hk ht
    simp only [if_true, decide_eq_true_eq]
    exact hq
  | false =>
    rw [St.casS, St.casA, St.loadS, hh, Bool.false_and]
    exact cas_out g gw c s i o n w h (St.not_has hh)
end Go.Proofs.Ythjhjjpgchmmfaa
