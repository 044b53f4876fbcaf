/- What Load, Store, Cas and Add of the program tell and leave. -/
import Derived.Test.YthjhjjpgchmmfaaMem
namespace Go.Proofs.Ythjhjjpgchmmfaa
open Go.RowKit
attribute [local go_sem ↓] Go.wp_at_zero Go.wp_at_succ

def Ends (w : World) (g gw c : Nat) (s : St) (v : Value) (e : Ending) (w' : World) : Prop := e = .returned v ∧ MemAt w' g gw c s ∧ Sp g gw w w'
theorem hmf (fn : Fn) (first cap : Array Value) (w : World) : (Instr.makeFunc fn first cap).run Try.prog w = .ok (.func fn first cap) w := rfl
theorem cell_far {w w' : World} {k : Nat} (hb : Below w.heap.size w w') (j : Nat) (hk : k < w.heap.size) : w'.cell? ⟨k, j, none⟩ = w.cell? ⟨k, j, none⟩ := hb.cell (p := ⟨k, j, none⟩) hk

set_option maxHeartbeats 400000 in
theorem add_clo (gw k b : Nat) (x v : Int) (w : World) (h1 : w.cell? ⟨gw, k, none⟩ = some (.int .i64 x)) (h2 : w.cell? ⟨b, 0, none⟩ = some (.int .i64 v)) (h3 : w.frozen? ⟨gw, k, none⟩ = false) :
    Calls Try.prog 33 #[.pointer (some ⟨gw, k, none⟩), .pointer (some ⟨b, 0, none⟩)] w (fun e w' => e = .returned (.int .i64 x) ∧ ∃ q, w' = (w.drewN q).setCell ⟨gw, k, none⟩ (.int .i64 (wrap64 (x + v)))) := by
  go_enter Try.func33, Try.ntmps33
  go_wp2
  go_region
  all_goals go_wp2
  go_ret
  exact ⟨rfl, _, rfl⟩
set_option maxHeartbeats 400000 in
theorem cas_eq (gw k b b2 : Nat) (x n : Int) (w : World) (h1 : w.cell? ⟨gw, k, none⟩ = some (.int .i64 x)) (h2 : w.cell? ⟨b, 0, none⟩ = some (.int .i64 x)) (h4 : w.cell? ⟨b2, 0, none⟩ = some (.int .i64 n)) (h3 : w.frozen? ⟨gw, k, none⟩ = false) :
    Calls Try.prog 32 #[.pointer (some ⟨gw, k, none⟩), .pointer (some ⟨b, 0, none⟩), .pointer (some ⟨b2, 0, none⟩)] w (fun e w' => e = .returned (.bool true) ∧ ∃ q, w' = (w.drewN q).setCell ⟨gw, k, none⟩ (.int .i64 n)) := by
  go_enter Try.func32, Try.ntmps32
  go_wp2
  go_quiet (fail)
  go_wp2
  go_ret
  exact ⟨rfl, _, rfl⟩
set_option maxHeartbeats 400000 in
theorem cas_ne (gw k b b2 : Nat) (x o : Int) (w : World) (h1 : w.cell? ⟨gw, k, none⟩ = some (.int .i64 x)) (h2 : w.cell? ⟨b, 0, none⟩ = some (.int .i64 o)) (h3 : (x != o) = true) :
    Calls Try.prog 32 #[.pointer (some ⟨gw, k, none⟩), .pointer (some ⟨b, 0, none⟩), .pointer (some ⟨b2, 0, none⟩)] w (fun e w' => e = .returned (.bool false) ∧ ∃ q, w' = w.drewN q) := by
  go_enter Try.func32, Try.ntmps32
  go_wp2
  go_quiet (fail)
  go_wp2
  go_ret
  exact ⟨rfl, _, rfl⟩

set_option maxHeartbeats 400000 in
theorem load_in (g gw c : Nat) (s : St) (k : Nat) (w : World) (h : MemAt w g gw c s) (hk : k < s.ws.length) (ht : s.t < 1000000) :
    Calls Try.prog 19 #[.pointer (some ⟨g, 0, none⟩), .int .i64 k] w (Ends w g gw c ⟨s.ws, s.t + 1⟩ (.int .i64 (s.at k))) := by
  have h0 := h.c0
  have h1 := h.c1
  have h2 := h.fg 1
  have h3 := h.ic k _ (St.at_nat hk)
  have hne := h.ne
  have hne2 := h.ne.symm
  go_enter Try.func19, Try.ntmps19
  go_wp2_with (first | (go_at_call 29; go_in) | (go_at_call 30; go_in))
  go_ret
  exact ⟨rfl, h.touch _, (Sp.refl _ _ _).set1 _ _⟩
set_option maxHeartbeats 400000 in
theorem load_out (g gw c : Nat) (s : St) (i : Int) (w : World) (h : MemAt w g gw c s) (hi : i < 0 ∨ (s.ws.length : Int) ≤ i) :
    Calls Try.prog 19 #[.pointer (some ⟨g, 0, none⟩), .int .i64 i] w (Ends w g gw c s (.int .i64 0)) := by
  have h0 := h.c0
  rcases hi with hi | hi
  · go_enter Try.func19, Try.ntmps19
    go_wp2_with (first | (go_at_call 29; go_in) | (go_at_call 30; go_in))
    go_ret
    exact ⟨rfl, h, (Sp.refl _ _ _)⟩
  · have hi0 : ¬ i < 0 := by omega
    go_enter Try.func19, Try.ntmps19
    go_wp2_with (first | (go_at_call 29; go_in) | (go_at_call 30; go_in))
    go_ret
    exact ⟨rfl, h, (Sp.refl _ _ _)⟩

set_option maxHeartbeats 400000 in
theorem store_in (g gw c : Nat) (s : St) (k : Nat) (v : Int) (w : World) (h : MemAt w g gw c s) (hk : k < s.ws.length) (ht : s.t < 1000000) :
    Calls Try.prog 23 #[.pointer (some ⟨g, 0, none⟩), .int .i64 k, .int .i64 v] w (Ends w g gw c (s.put k v) (.bool true)) := by
  have h0 := h.c0
  have h1 := h.c1
  have h2 := h.fg 1
  have h3 := h.ic k _ (St.at_nat hk)
  have h4 := h.fw k
  have hne := h.ne
  have hne2 := h.ne.symm
  have hlg := h.lg
  have hlw := h.lw
  have hng : g ≠ w.heap.size := by omega
  have hng2 : w.heap.size ≠ g := by omega
  have hnw : gw ≠ w.heap.size := by omega
  have hnw2 : w.heap.size ≠ gw := by omega
  go_enter Try.func23, Try.ntmps23
  go_wp2_with (first | (go_at_call 31; go_in) | (go_at_call 34; go_in))
  go_ret
  exact ⟨rfl, ((h.touch (s.t + 1)).word k v).alloc _, (((Sp.refl _ _ _).set1 _ _).set2 _ _).alloc _⟩
set_option maxHeartbeats 400000 in
theorem store_out (g gw c : Nat) (s : St) (i v : Int) (w : World) (h : MemAt w g gw c s) (hi : i < 0 ∨ (s.ws.length : Int) ≤ i) :
    Calls Try.prog 23 #[.pointer (some ⟨g, 0, none⟩), .int .i64 i, .int .i64 v] w (Ends w g gw c s (.bool false)) := by
  have h0 := (h.alloc (.cells #[.int .i64 v] 3)).c0
  rcases hi with hi | hi
  · go_enter Try.func23, Try.ntmps23
    go_wp2_with (first | (go_at_call 31; go_in) | (go_at_call 34; go_in))
    go_ret
    exact ⟨rfl, h.alloc _, (Sp.refl _ _ _).alloc _⟩
  · have hi0 : ¬ i < 0 := by omega
    have hlg := h.lg
    have hng : g ≠ w.heap.size := by omega
    have h0 := h.c0
    go_enter Try.func23, Try.ntmps23
    go_wp2_with (first | (go_at_call 31; go_in) | (go_at_call 34; go_in))
    go_ret
    exact ⟨rfl, h.alloc _, (Sp.refl _ _ _).alloc _⟩

end Go.Proofs.Ythjhjjpgchmmfaa
