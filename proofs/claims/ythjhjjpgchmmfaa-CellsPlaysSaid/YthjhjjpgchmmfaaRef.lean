/- What the document's own Load, Store, Cas and Add tell and leave. -/
import Derived.Test.YthjhjjpgchmmfaaOne
namespace Go.Proofs.Ythjhjjpgchmmfaa
open Go.RowKit
attribute [local go_sem ↓] Go.wp_at_zero Go.wp_at_succ

theorem St.loadS_in {s : St} {i : Int} (h : s.has i = true) : s.loadS i = ⟨s.ws, s.t + 1⟩ := by rw [St.loadS, h]; rfl
theorem St.loadS_out {s : St} {i : Int} (h : s.has i = false) : s.loadS i = s := by rw [St.loadS, h]; rfl
theorem St.storeS_in {s : St} {i v : Int} (h : s.has i = true) : s.storeS i v = s.put i v := by rw [St.storeS, h]; rfl
theorem St.storeS_out {s : St} {i v : Int} (h : s.has i = false) : s.storeS i v = s := by rw [St.storeS, h]; rfl
theorem St.addS_in {s : St} {i v : Int} (h : s.has i = true) : s.addS i v = s.put i (wrap64 (s.at i + v)) := by rw [St.addS, h]; rfl
theorem St.addS_out {s : St} {i v : Int} (h : s.has i = false) : s.addS i v = s := by rw [St.addS, h]; rfl
theorem St.loadA_in {s : St} {i : Int} (h : s.has i = true) : s.loadA i = s.at i := by rw [St.loadA, h]; rfl
theorem St.loadA_out {s : St} {i : Int} (h : s.has i = false) : s.loadA i = 0 := by rw [St.loadA, h]; rfl
theorem St.casA_eq {s : St} {i o : Int} (h : s.has i = true) (h2 : s.at i = o) : s.casA i o = true := by rw [St.casA, h, decide_eq_true h2]; rfl
theorem St.casA_ne {s : St} {i o : Int} (h2 : s.at i ≠ o) : s.casA i o = false := by rw [St.casA, decide_eq_false h2, Bool.and_false]
theorem St.casA_out {s : St} {i o : Int} (h : s.has i = false) : s.casA i o = false := by rw [St.casA, h]; rfl
theorem St.casS_go {s : St} {i o n : Int} (h : s.casA i o = true) : s.casS i o n = s.put i n := by rw [St.casS, h]; rfl
theorem St.casS_no {s : St} {i o n : Int} (h : s.casA i o = false) : s.casS i o n = s.loadS i := by rw [St.casS, h]; rfl

set_option maxHeartbeats 400000 in
theorem is_any (g gw c : Nat) (s : St) (i : Int) (w : World) (h : MemAt w g gw c s) (ht : s.t < 1000000) :
    Calls Try.prog 35 #[.pointer (some ⟨g, 0, none⟩), .int .i64 i] w (Ends w g gw c (s.loadS i) (.bool (s.has i))) := by
  have h0 := h.c0
  have h1 := h.c1
  have h2 := h.fg 1
  cases hh : s.has i with
  | true =>
    rw [St.loadS_in hh]
    obtain ⟨k, rfl, hk⟩ := St.has_nat hh
    clear hh
    go_enter Try.func35, Try.ntmps35
    go_wp2
    go_ret
    exact ⟨rfl, h.touch _, (Sp.refl _ _ _).set1 _ _⟩
  | false =>
    rw [St.loadS_out hh]
    have hi := St.not_has hh
    clear hh
    rcases hi with hi | hi
    · go_enter Try.func35, Try.ntmps35
      go_wp2
      go_ret
      exact ⟨rfl, h, Sp.refl _ _ _⟩
    · have hi0 : ¬ i < 0 := by omega
      go_enter Try.func35, Try.ntmps35
      go_wp2
      go_ret
      exact ⟨rfl, h, Sp.refl _ _ _⟩

set_option maxHeartbeats 400000 in
theorem refLoad_any (g gw c : Nat) (s : St) (i : Int) (w : World) (h : MemAt w g gw c s) (ht : s.t < 1000000) :
    Calls Try.prog 24 #[.pointer (some ⟨g, 0, none⟩), .int .i64 i] w (Ends w g gw c (s.loadS i) (.int .i64 (s.loadA i))) := by
  cases hh : s.has i with
  | true =>
    obtain ⟨k, rfl, hk⟩ := St.has_nat hh
    rw [St.loadA_in hh, St.loadS_in hh]
    go_enter Try.func24, Try.ntmps24
    go_wp2_with fail
    refine (is_any g gw c s k _ h ht).mono ?_
    rw [St.loadS_in hh, hh]
    rintro e w1 ⟨rfl, hm, hs⟩
    clear hh h
    have hc0 := hm.c0
    have hc1 := hm.ic k (s.at k) (St.at_nat hk)
    go_wp2
    go_ret
    exact ⟨rfl, hm, hs⟩
  | false =>
    rw [St.loadA_out hh, St.loadS_out hh]
    go_enter Try.func24, Try.ntmps24
    go_wp2_with fail
    refine (is_any g gw c s i _ h ht).mono ?_
    rw [St.loadS_out hh, hh]
    rintro e w1 ⟨rfl, hm, hs⟩
    go_wp2
    go_ret
    exact ⟨rfl, hm, hs⟩
set_option maxHeartbeats 400000 in
theorem refStore_any (g gw c : Nat) (s : St) (i v : Int) (w : World) (h : MemAt w g gw c s) (ht : s.t < 1000000) :
    Calls Try.prog 25 #[.pointer (some ⟨g, 0, none⟩), .int .i64 i, .int .i64 v] w (Ends w g gw c (s.storeS i v) (.bool (s.has i))) := by
  cases hh : s.has i with
  | true =>
    obtain ⟨k, rfl, hk⟩ := St.has_nat hh
    rw [St.storeS_in hh]
    go_enter Try.func25, Try.ntmps25
    go_wp2_with fail
    refine (is_any g gw c s k _ h ht).mono ?_
    rw [St.loadS_in hh, hh]
    rintro e w1 ⟨rfl, hm, hs⟩
    clear hh h
    have hc0 := hm.c0
    have hc1 := hm.ic k (s.at k) (St.at_nat hk)
    have hc2 := hm.fw k
    go_wp2
    go_ret
    exact ⟨rfl, hm.word k v, hs.set2 _ _⟩
  | false =>
    rw [St.storeS_out hh]
    go_enter Try.func25, Try.ntmps25
    go_wp2_with fail
    refine (is_any g gw c s i _ h ht).mono ?_
    rw [St.loadS_out hh, hh]
    rintro e w1 ⟨rfl, hm, hs⟩
    go_wp2
    go_ret
    exact ⟨rfl, hm, hs⟩
set_option maxHeartbeats 400000 in
theorem refCas_any (g gw c : Nat) (s : St) (i o n : Int) (w : World) (h : MemAt w g gw c s) (ht : s.t < 1000000) :
    Calls Try.prog 26 #[.pointer (some ⟨g, 0, none⟩), .int .i64 i, .int .i64 o, .int .i64 n] w (Ends w g gw c (s.casS i o n) (.bool (s.casA i o))) := by
  cases hh : s.has i with
  | true =>
    obtain ⟨k, rfl, hk⟩ := St.has_nat hh
    by_cases ho : s.at k = o
    · rw [St.casS_go (St.casA_eq hh ho), St.casA_eq hh ho]
      subst ho
      go_enter Try.func26, Try.ntmps26
      go_wp2_with fail
      refine (is_any g gw c s k _ h ht).mono ?_
      rw [St.loadS_in hh, hh]
      rintro e w1 ⟨rfl, hm, hs⟩
      clear hh h
      have hc0 := hm.c0
      have hc1 := hm.ic k (s.at k) (St.at_nat hk)
      have hc2 := hm.fw k
      go_wp2
      go_ret
      exact ⟨rfl, hm.word k n, hs.set2 _ _⟩
    · rw [St.casS_no (St.casA_ne ho), St.casA_ne ho, St.loadS_in hh]
      have hob : (s.at k != o) = true := by rw [bne_iff_ne]; exact ho
      clear ho
      go_enter Try.func26, Try.ntmps26
      go_wp2_with fail
      refine (is_any g gw c s k _ h ht).mono ?_
      rw [St.loadS_in hh, hh]
      rintro e w1 ⟨rfl, hm, hs⟩
      clear hh h
      have hc0 := hm.c0
      have hc1 := hm.ic k (s.at k) (St.at_nat hk)
      have hc2 := hm.fw k
      go_wp2
      go_ret
      exact ⟨rfl, hm, hs⟩
  | false =>
    rw [St.casS_no (St.casA_out hh), St.casA_out hh, St.loadS_out hh]
    go_enter Try.func26, Try.ntmps26
    go_wp2_with fail
    refine (is_any g gw c s i _ h ht).mono ?_
    rw [St.loadS_out hh, hh]
    rintro e w1 ⟨rfl, hm, hs⟩
    go_wp2
    go_ret
    exact ⟨rfl, hm, hs⟩
set_option maxHeartbeats 400000 in
theorem refAdd_any (g gw c : Nat) (s : St) (i v : Int) (w : World) (h : MemAt w g gw c s) (ht : s.t < 1000000) :
    Calls Try.prog 27 #[.pointer (some ⟨g, 0, none⟩), .int .i64 i, .int .i64 v] w (Ends w g gw c (s.addS i v) (.int .i64 (s.loadA i))) := by
  cases hh : s.has i with
  | true =>
    obtain ⟨k, rfl, hk⟩ := St.has_nat hh
    rw [St.addS_in hh, St.loadA_in hh]
    go_enter Try.func27, Try.ntmps27
    go_wp2_with fail
    refine (is_any g gw c s k _ h ht).mono ?_
    rw [St.loadS_in hh, hh]
    rintro e w1 ⟨rfl, hm, hs⟩
    clear hh h
    have hc0 := hm.c0
    have hc1 := hm.ic k (s.at k) (St.at_nat hk)
    have hc2 := hm.fw k
    go_wp2
    go_ret
    exact ⟨rfl, hm.word k _, hs.set2 _ _⟩
  | false =>
    rw [St.addS_out hh, St.loadA_out hh]
    go_enter Try.func27, Try.ntmps27
    go_wp2_with fail
    refine (is_any g gw c s i _ h ht).mono ?_
    rw [St.loadS_out hh, hh]
    rintro e w1 ⟨rfl, hm, hs⟩
    go_wp2
    go_ret
    exact ⟨rfl, hm, hs⟩
end Go.Proofs.Ythjhjjpgchmmfaa
