/- The law CellsOne, walked. -/
import Derived.Test.YthjhjjpgchmmfaaOpen
namespace Go.Proofs.Ythjhjjpgchmmfaa
open Go.RowKit
attribute [local go_sem ↓] Go.wp_at_zero Go.wp_at_succ

theorem newRun_len (N : Nat) (l : List OpT) : ((St.new N).run l).ws.length = N := by rw [(St.run_len _ _).1]; simp [St.new]
theorem newRun_t (N : Nat) (l : List OpT) (h : l.length ≤ 60) : ((St.new N).run l).t ≤ 60 := by have := (St.run_len (St.new N) l).2.2; simp [St.new] at this ⊢; omega

theorem St.has_lt {s : St} {k : Nat} (h : k < s.ws.length) : s.has k = true := by simp [St.has, h]
theorem St.at_put {s : St} {k : Nat} (v : Int) (h : k < s.ws.length) : (s.put k v).at k = v := by simp [St.put, St.at, h]
theorem St.put_len (s : St) (i v : Int) : (s.put i v).ws.length = s.ws.length := by simp [St.put]

set_option maxRecDepth 100000 in
set_option maxHeartbeats 1000000 in
theorem lone_long (m : Int) (A : Option Addr) (n c : Nat) (t : Int) (a b : Int) (w : World) (hl : 60 < n) :
    Calls Try.prog 4 #[.int .u8 m, .slice A n c, .int .u8 t, .int .i64 a, .int .i64 b] w (fun e w' => e = .returned (.bool true) ∧ Below w.heap.size w w') := by
  go_enter Try.func4, Try.ntmps4
  go_wp2_with fail
  refine (awake_any _).mono ?_
  rintro e w1 ⟨rfl, hB1⟩
  go_wp2_with fail
  go_ret
  exact ⟨rfl, hB1⟩
set_option maxRecDepth 100000 in
set_option maxHeartbeats 1000000 in
theorem lone_go (m : Nat) (A : Option Addr) (c : Nat) (l : List OpT) (t : Nat) (a b : Int) (w : World) (hm : m < 256) (ht : t < 256) (hl : l.length ≤ 60) (hO : OS w w.heap.size A l) :
    Calls Try.prog 4 #[.int .u8 m, .slice A l.length c, .int .u8 t, .int .i64 a, .int .i64 b] w (fun e w' => e = .returned (.bool true) ∧ Below w.heap.size w w') := by
  go_enter Try.func4, Try.ntmps4
  go_wp2_with fail
  refine (awake_any _).mono ?_
  rintro e w1 ⟨rfl, hB1⟩
  go_wp2_with fail
  refine (some_any m A _ c l _ hm rfl (by omega) (hO.on hB1)).mono ?_
  rintro e w2 ⟨g, gw, c2, rfl, hg1, hgw1, hM, hB2⟩
  have hg : w.heap.size ≤ g := Nat.le_trans hB1.size hg1
  have hgw : w.heap.size ≤ gw := Nat.le_trans hB1.size hgw1
  have hB := hB1.trans (hB2.mono hB1.size)
  clear hg1 hgw1 hB1 hB2 hO
  obtain ⟨s, es⟩ : ∃ s, s = (St.new (manyN m)).run l := ⟨_, rfl⟩
  have hlen : s.ws.length = manyN m := by rw [es]; exact newRun_len _ _
  have hst : s.t ≤ 60 := by rw [es]; exact newRun_t _ _ hl
  have hN1 : 1 ≤ manyN m := by unfold manyN; omega
  rw [← es] at hM
  clear es
  go_wp2_with fail
  refine (many_any g gw _ _ _ hM).mono ?_
  rw [hlen]
  rintro e w3 ⟨rfl, rfl⟩
  go_wp2_with fail
  rw [show ((t : Int) % ((manyN m : Nat) : Int)) = ((t % manyN m : Nat) : Int) from (Int.natCast_emod _ _).symm]
  have hk : t % manyN m < s.ws.length := by rw [hlen]; exact Nat.mod_lt _ hN1
  obtain ⟨k, ek⟩ : ∃ k, k = t % manyN m := ⟨_, rfl⟩
  rw [← ek] at hk ⊢
  clear ek hN1 hlen ht hm
  have hin := St.has_lt hk
  refine (load_in g gw _ s k _ hM hk (by omega)).mono ?_
  rintro e w4 ⟨rfl, hM4, hs4⟩
  have hB4 := Sp.below hB hs4 hB.size hg hgw
  clear hB hs4 hM
  by_cases ha : a = s.at k
  · have hab : (a == s.at k) = true := by simpa using ha
    have had : decide (a = s.at k) = true := by simpa using ha
    clear ha
    go_wp2_with fail
    go_ret
    exact ⟨rfl, hB4⟩
  · have hab : (a == s.at k) = false := by simpa using ha
    have had : decide (a = s.at k) = false := by simpa using ha
    have ha2 : s.at k ≠ a := fun e => ha e.symm
    clear ha
    go_wp2_with fail
    refine (cas_any g gw _ _ k (s.at k) a _ hM4 (by simp only; omega)).mono ?_
    have e1 : (⟨s.ws, s.t + 1⟩ : St).casA k (s.at k) = true := St.casA_eq hin rfl
    rw [St.casS_go e1, e1]
    rintro e w5 ⟨rfl, hM5, hs5⟩
    have hB5 := Sp.below hB4 hs5 hB4.size hg hgw
    go_wp2_with fail
    refine (cas_any g gw _ _ k (s.at k) b _ hM5 (by simp only [St.put]; omega)).mono ?_
    have e2 : ((⟨s.ws, s.t + 1⟩ : St).put k a).casA k (s.at k) = false := St.casA_ne (fun e => ha2 (e.symm.trans (St.at_put (s := ⟨s.ws, s.t + 1⟩) a hk)))
    have e3 : ((⟨s.ws, s.t + 1⟩ : St).put k a).has k = true := St.has_lt (by rw [St.put_len]; exact hk)
    have e4 : ((⟨s.ws, s.t + 1⟩ : St).put k a).at k = a := St.at_put (s := ⟨s.ws, s.t + 1⟩) a hk
    rw [St.casS_no e2, e2, St.loadS_in e3]
    rintro e w6 ⟨rfl, hM6, hs6⟩
    have hB6 := Sp.below hB5 hs6 hB5.size hg hgw
    go_wp2_with fail
    refine (load_any g gw _ _ k _ hM6 (by simp only [St.put]; omega)).mono ?_
    rw [St.loadA_in (show St.has ⟨((⟨s.ws, s.t + 1⟩ : St).put k a).ws, ((⟨s.ws, s.t + 1⟩ : St).put k a).t + 1⟩ k = true from e3), show St.at ⟨((⟨s.ws, s.t + 1⟩ : St).put k a).ws, ((⟨s.ws, s.t + 1⟩ : St).put k a).t + 1⟩ k = a from e4]
    rintro e w7 ⟨rfl, hM7, hs7⟩
    have hB7 := Sp.below hB6 hs7 hB6.size hg hgw
    clear e1 e2 e3 e4
    go_wp2_with fail
    go_ret
    exact ⟨ret_bool (by simp), hB7⟩
theorem lone_any (m : Int) (A : Option Addr) (n c : Nat) (l : List OpT) (t a b : Int) (w : World) (hn : l.length = n) (_hc : n ≤ c) (hO : OS w w.heap.size A l) (h1 : 0 ≤ m ∧ m ≤ 255) (h2 : 0 ≤ t ∧ t ≤ 255) :
    Calls Try.prog 4 #[.int .u8 m, .slice A n c, .int .u8 t, .int .i64 a, .int .i64 b] w (fun e w' => e = .returned (.bool true) ∧ Below w.heap.size w w') := by
  subst hn
  by_cases hl : 60 < l.length
  · exact lone_long m A _ c t a b w hl
  · obtain ⟨m, rfl⟩ := Int.eq_ofNat_of_zero_le h1.1
    obtain ⟨t, rfl⟩ := Int.eq_ofNat_of_zero_le h2.1
    exact lone_go m A c l t a b w (by omega) (by omega) (by omega) hO
end Go.Proofs.Ythjhjjpgchmmfaa
