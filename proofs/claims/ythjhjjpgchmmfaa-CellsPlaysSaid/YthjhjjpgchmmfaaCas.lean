/- What Cas tells and leaves. -/
import Derived.Test.YthjhjjpgchmmfaaAdd
namespace Go.Proofs.Ythjhjjpgchmmfaa
open Go.RowKit
attribute [local go_sem ↓] Go.wp_at_zero Go.wp_at_succ

set_option maxHeartbeats 400000 in
theorem cas_in (g gw c : Nat) (s : St) (k : Nat) (o n : Int) (w : World) (h : MemAt w g gw c s) (hk : k < s.ws.length) (ht : s.t < 1000000) :
    Calls Try.prog 20 #[.pointer (some ⟨g, 0, none⟩), .int .i64 k, .int .i64 o, .int .i64 n] w (fun e w' => e = .returned (.bool (decide (s.at k = o))) ∧ MemAt w' g gw c (if s.at k = o then s.put k n else ⟨s.ws, s.t + 1⟩) ∧ Sp g gw w w') := by
  have h0 := h.c0
  have h1 := h.c1
  have h2 := h.fg 1
  have h3 := h.ic k _ (St.at_nat hk)
  have h4 := h.fw k
  have hne := h.ne
  have hne2 := h.ne.symm
  have hlg := h.lg
  have hlw := h.lw
  have hng : g ≠ w.heap.size := by omega
  have hng2 : w.heap.size ≠ g := by omega
  have hnw : gw ≠ w.heap.size := by omega
  have hnw2 : w.heap.size ≠ gw := by omega
  have hng3 : g ≠ w.heap.size + 1 := by omega
  have hng4 : w.heap.size + 1 ≠ g := by omega
  have hnw3 : gw ≠ w.heap.size + 1 := by omega
  have hnw4 : w.heap.size + 1 ≠ gw := by omega
  by_cases ho : s.at k = o
  · subst ho
    rw [if_pos rfl]
    go_enter Try.func20, Try.ntmps20
    go_wp2_with (first | (go_at_call 31; go_in) | (go_at_call 32; refine (cas_eq gw k w.heap.size (w.heap.size + 1) (s.at k) n _ ((((h.touch (s.t + 1)).alloc _).alloc _).ic k _ (St.at_nat hk)) ((cell_far ((Below.refl _ _).alloc (Nat.le_refl _) _) 0 (by simp)).trans (one_new _ _ (by simp) _)) (one_new _ _ (by simp) _) ((((h.touch (s.t + 1)).alloc _).alloc _).fw k)).mono ?_; rintro e w1 ⟨rfl, q, rfl⟩))
    go_ret
    exact ⟨ret_bool (by simp), ((((h.touch (s.t + 1)).alloc _).alloc _).drewN _).word k _, (((((Sp.refl _ _ _).set1 _ _).alloc _).alloc _).drewN _).set2 _ _⟩
  · rw [if_neg ho]
    have hob : (s.at k != o) = true := by rw [bne_iff_ne]; exact ho
    have hod : decide (s.at k = o) = false := by simpa using ho
    rw [hod]
    clear hod
    go_enter Try.func20, Try.ntmps20
    go_wp2_with (first | (go_at_call 31; go_in) | (go_at_call 32; refine (cas_ne gw k w.heap.size (w.heap.size + 1) (s.at k) o _ ((((h.touch (s.t + 1)).alloc _).alloc _).ic k _ (St.at_nat hk)) ((cell_far ((Below.refl _ _).alloc (Nat.le_refl _) _) 0 (by simp)).trans (one_new _ _ (by simp) _)) hob).mono ?_; rintro e w1 ⟨rfl, q, rfl⟩))
    go_ret
    exact ⟨rfl, (((h.touch (s.t + 1)).alloc _).alloc _).drewN _, ((((Sp.refl _ _ _).set1 _ _).alloc _).alloc _).drewN _⟩
set_option maxHeartbeats 400000 in
theorem cas_out (g gw c : Nat) (s : St) (i o n : Int) (w : World) (h : MemAt w g gw c s) (hi : i < 0 ∨ (s.ws.length : Int) ≤ i) :
    Calls Try.prog 20 #[.pointer (some ⟨g, 0, none⟩), .int .i64 i, .int .i64 o, .int .i64 n] w (Ends w g gw c s (.bool false)) := by
  have hlg := h.lg
  have hng : g ≠ w.heap.size := by omega
  have hng3 : g ≠ w.heap.size + 1 := by omega
  have h0 := h.c0
  rcases hi with hi | hi
  · go_enter Try.func20, Try.ntmps20
    go_wp2_with (first | (go_at_call 31; go_in) | (go_at_call 32; go_in))
    go_ret
    exact ⟨rfl, (h.alloc _).alloc _, ((Sp.refl _ _ _).alloc _).alloc _⟩
  · have hi0 : ¬ i < 0 := by omega
    go_enter Try.func20, Try.ntmps20
    go_wp2_with (first | (go_at_call 31; go_in) | (go_at_call 32; go_in))
    go_ret
    exact ⟨rfl, (h.alloc _).alloc _, ((Sp.refl _ _ _).alloc _).alloc _⟩

end Go.Proofs.Ythjhjjpgchmmfaa
