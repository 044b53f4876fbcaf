/- What Add tells and leaves. -/
import Derived.Test.YthjhjjpgchmmfaaOne
namespace Go.Proofs.Ythjhjjpgchmmfaa
open Go.RowKit
attribute [local go_sem ↓] Go.wp_at_zero Go.wp_at_succ

theorem one_new (W : World) (n : Nat) (hn : W.heap.size = n) (v : Value) : (W.alloc (.cells #[v] 3)).cell? ⟨n, 0, none⟩ = some v := by
  subst hn
  exact cell_one_new W v 3 0 v rfl
set_option maxHeartbeats 400000 in
theorem add_in (g gw c : Nat) (s : St) (k : Nat) (v : Int) (w : World) (h : MemAt w g gw c s) (hk : k < s.ws.length) (ht : s.t < 1000000) :
    Calls Try.prog 22 #[.pointer (some ⟨g, 0, none⟩), .int .i64 k, .int .i64 v] w (Ends w g gw c (s.put k (wrap64 (s.at k + v))) (.int .i64 (s.at k))) := by
  have h0 := h.c0
  have h1 := h.c1
  have h2 := h.fg 1
  have h3 := h.ic k _ (St.at_nat hk)
  have h4 := h.fw k
  have hne := h.ne
  have hne2 := h.ne.symm
  have hlg := h.lg
  have hlw := h.lw
  have hng : g ≠ w.heap.size := by omega
  have hng2 : w.heap.size ≠ g := by omega
  have hnw : gw ≠ w.heap.size := by omega
  have hnw2 : w.heap.size ≠ gw := by omega
  go_enter Try.func22, Try.ntmps22
  go_wp2_with (first | (go_at_call 29; go_in) | (go_at_call 33; refine (add_clo gw k w.heap.size (s.at k) v _ (((h.touch (s.t + 1)).alloc _).ic k _ (St.at_nat hk)) (one_new _ _ (by simp) _) (((h.touch (s.t + 1)).alloc _).fw k)).mono ?_; rintro e w1 ⟨rfl, q, rfl⟩))
  go_ret
  exact ⟨rfl, (((h.touch (s.t + 1)).alloc _).drewN _).word k _, ((((Sp.refl _ _ _).set1 _ _).alloc _).drewN _).set2 _ _⟩
set_option maxHeartbeats 400000 in
theorem add_out (g gw c : Nat) (s : St) (i v : Int) (w : World) (h : MemAt w g gw c s) (hi : i < 0 ∨ (s.ws.length : Int) ≤ i) :
    Calls Try.prog 22 #[.pointer (some ⟨g, 0, none⟩), .int .i64 i, .int .i64 v] w (Ends w g gw c s (.int .i64 0)) := by
  have hlg := h.lg
  have hng : g ≠ w.heap.size := by omega
  have h0 := h.c0
  rcases hi with hi | hi
  · go_enter Try.func22, Try.ntmps22
    go_wp2_with (first | (go_at_call 29; go_in) | (go_at_call 33; go_in))
    go_ret
    exact ⟨rfl, h.alloc _, (Sp.refl _ _ _).alloc _⟩
  · have hi0 : ¬ i < 0 := by omega
    go_enter Try.func22, Try.ntmps22
    go_wp2_with (first | (go_at_call 29; go_in) | (go_at_call 33; go_in))
    go_ret
    exact ⟨rfl, h.alloc _, (Sp.refl _ _ _).alloc _⟩

end Go.Proofs.Ythjhjjpgchmmfaa
