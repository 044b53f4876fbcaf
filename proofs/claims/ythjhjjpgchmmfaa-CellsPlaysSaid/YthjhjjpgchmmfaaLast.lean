/- The law CellsLast, walked. -/
import Derived.Test.YthjhjjpgchmmfaaLOne
namespace Go.Proofs.Ythjhjjpgchmmfaa
open Go.RowKit
attribute [local go_sem ↓] Go.wp_at_zero Go.wp_at_succ

/-- every way an operation leaves a memory: nothing, one touch, or one put at its own number -/
theorem St.opS_cases (s : St) (o : OpT) : s.opS o = s ∨ s.opS o = ⟨s.ws, s.t + 1⟩ ∨ (s.has o.i = true ∧ o.k ≠ 0 ∧ ∃ x, s.opS o = s.put o.i x) := by
  have hload : s.loadS o.i = s ∨ s.loadS o.i = ⟨s.ws, s.t + 1⟩ := by
    cases h : s.has o.i with
    | true => exact .inr (St.loadS_in h)
    | false => exact .inl (St.loadS_out h)
  unfold St.opS
  split
  · rcases hload with h | h <;> simp [h]
  split
  · cases h : s.has o.i with
    | true => exact .inr (.inr ⟨rfl, by omega, _, St.storeS_in h⟩)
    | false => exact .inl (St.storeS_out h)
  split
  · cases h : s.casA o.i o.v with
    | true => exact .inr (.inr ⟨by unfold St.casA at h; simp at h; exact h.1, by omega, _, St.casS_go h⟩)
    | false => rw [St.casS_no h]; rcases hload with h | h <;> simp [h]
  split
  · cases h : s.has o.i with
    | true => exact .inr (.inr ⟨rfl, by omega, _, St.addS_in h⟩)
    | false => exact .inl (St.addS_out h)
  · exact .inl rfl
theorem St.opS_far {s : St} {o : OpT} {k : Nat} (h : o.i ≠ k) : (s.opS o).ws[k]? = s.ws[k]? := by
  rcases s.opS_cases o with h1 | h1 | ⟨h1, _, x, h2⟩
  · rw [h1]
  · rw [h1]
  · obtain ⟨j, hj, _⟩ := St.has_nat h1
    rw [h2, St.put, List.getElem?_set_ne (by omega)]
theorem St.at_ws {s s' : St} {k : Nat} (h : s'.ws[k]? = s.ws[k]?) : s'.at k = s.at k := by
  simp only [St.at, Int.toNat_natCast, List.getD_eq_getElem?_getD, h]

set_option maxRecDepth 100000 in
set_option maxHeartbeats 1000000 in
theorem last_long (m : Int) (A : Option Addr) (n c : Nat) (A2 : Option Addr) (n2 c2 : Nat) (t v : Int) (w : World) (hl : 60 < n ∨ (n ≤ 60 ∧ 60 < n2)) :
    Calls Try.prog 9 #[.int .u8 m, .slice A n c, .slice A2 n2 c2, .int .u8 t, .int .i64 v] w (fun e w' => e = .returned (.bool true) ∧ Below w.heap.size w w') := by
  rcases hl with hl | ⟨hl, hl2⟩
  · go_enter Try.func9, Try.ntmps9
    go_wp2_with fail
    refine (awake_any _).mono ?_
    rintro e w1 ⟨rfl, hB1⟩
    go_wp2_with fail
    go_ret
    exact ⟨rfl, hB1⟩
  · go_enter Try.func9, Try.ntmps9
    go_wp2_with fail
    refine (awake_any _).mono ?_
    rintro e w1 ⟨rfl, hB1⟩
    go_wp2_with fail
    go_ret
    exact ⟨rfl, hB1⟩
set_option maxRecDepth 100000 in
set_option maxHeartbeats 1000000 in
theorem last_go (m : Nat) (A : Option Addr) (c : Nat) (l : List OpT) (A2 : Option Addr) (c2 : Nat) (l2 : List OpT) (t : Nat) (v : Int) (w : World) (hm : m < 256) (ht : t < 256) (hl : l.length ≤ 60) (hO : OS w w.heap.size A l) (hl2 : l2.length ≤ 60) (hO2 : OS w w.heap.size A2 l2) :
    Calls Try.prog 9 #[.int .u8 m, .slice A l.length c, .slice A2 l2.length c2, .int .u8 t, .int .i64 v] w (fun e w' => e = .returned (.bool true) ∧ Below w.heap.size w w') := by
  go_enter Try.func9, Try.ntmps9
  go_wp2_with fail
  refine (awake_any _).mono ?_
  rintro e w1 ⟨rfl, hB1⟩
  go_wp2_with fail
  refine (some_any m A _ c l _ hm rfl (by omega) (hO.on hB1)).mono ?_
  rintro e w2 ⟨g, gw, c3, rfl, hg1, hgw1, hM, hB2⟩
  have hg : w.heap.size ≤ g := Nat.le_trans hB1.size hg1
  have hgw : w.heap.size ≤ gw := Nat.le_trans hB1.size hgw1
  have hB := hB1.trans (hB2.mono hB1.size)
  clear hg1 hgw1 hB1 hB2 hO
  obtain ⟨s, es⟩ : ∃ s, s = (St.new (manyN m)).run l := ⟨_, rfl⟩
  have hlen : s.ws.length = manyN m := by rw [es]; exact newRun_len _ _
  have hst : s.t ≤ 60 := by rw [es]; exact newRun_t _ _ hl
  have hN1 : 1 ≤ manyN m := by unfold manyN; omega
  rw [← es] at hM
  clear es
  go_wp2_with fail
  refine (many_any g gw _ _ _ hM).mono ?_
  rw [hlen]
  rintro e w3 ⟨rfl, rfl⟩
  go_wp2_with fail
  rw [show ((t : Int) % ((manyN m : Nat) : Int)) = ((t % manyN m : Nat) : Int) from (Int.natCast_emod _ _).symm]
  have hk : t % manyN m < s.ws.length := by rw [hlen]; exact Nat.mod_lt _ hN1
  obtain ⟨i, ei⟩ : ∃ i, i = t % manyN m := ⟨_, rfl⟩
  rw [← ei] at hk ⊢
  clear ei hN1 hlen ht hm
  refine (store_in g gw _ s i v _ hM hk (by omega)).mono ?_
  rintro e w4 ⟨rfl, hM4, hs4⟩
  have hB4 := Sp.below hB hs4 hB.size hg hgw
  have hr : (s.put i v).ws.length = s.ws.length ∧ (s.put i v).at i = v ∧ (s.put i v).t ≤ 61 + 0 := ⟨St.put_len _ _ _, St.at_put v hk, by simp [St.put]; omega⟩
  obtain ⟨s4, es4⟩ : ∃ s4, s4 = s.put i v := ⟨_, rfl⟩
  rw [← es4] at hM4 hr
  obtain ⟨L, hL⟩ : ∃ L, L = s.ws.length := ⟨_, rfl⟩
  rw [← hL] at hr hk
  clear es4 hB hs4 hM hL hst
  have HR := Lib.hid hr
  clear hr
  go_wp2_with fail
  go_loopw [15] (fun j wr => ∃ (k : Nat) (s5 : St), k ≤ l2.length ∧ j = .int .i64 k ∧ MemAt wr g gw c3 s5 ∧ (s5.ws.length = L ∧ s5.at i = v ∧ s5.t ≤ 61 + k) ∧ Below w.heap.size w wr) (fun j _ => l2.length - (intOf j).toNat)
  case atStart => exact ⟨0, s4, Nat.zero_le _, rfl, hM4, HR.out, hB4⟩
  case round =>
    obtain ⟨k, s5, hk5, rfl, hM5, hr5, hB5⟩ := hrel
    clear hM4 hB4 HR
    have HR5 := Lib.hid hr5
    clear hr5
    have ht5 : s5.t < 1000000 := by have := HR5.out.2.2; omega
    by_cases hlt : k < l2.length
    · obtain ⟨o, ho⟩ := op_some hlt
      have Ho := Lib.hid ho
      obtain ⟨b, off, rfl, hbl, d1, d2, d3, d4⟩ := (hO2.below hB5) k o ho
      clear ho
      have hk1 : (k : Int) < (l2.length : Int) := by omega
      by_cases hoi : o.i = i
      · have hoib : (o.i != (i : Int)) = false := by simpa using hoi
        clear hoi
        go_wp2_with fail
        go_roundw
        case rel => exact ⟨k + 1, s5, by omega, by go_num, hM5, ⟨HR5.out.1, HR5.out.2.1, by have := HR5.out.2.2; omega⟩, hB5⟩
        case measure => simp [intOf]; omega
      · have hoib : (o.i != (i : Int)) = true := by simpa using hoi
        have Hoi := Lib.hid hoi
        clear hoi
        go_wp2_with fail
        refine (do_any g gw _ s5 o _ hM5 ht5).mono ?_
        rintro e w6 ⟨rfl, hM6, hs6⟩
        have hB6 := Sp.below hB5 hs6 hB5.size hg hgw
        go_wp2_with fail
        go_roundw
        case rel => exact ⟨k + 1, _, by omega, by go_num, hM6, ⟨(s5.opS_len o).1.trans HR5.out.1, (St.at_ws (St.opS_far Hoi.out)).trans HR5.out.2.1, by have := (s5.opS_len o).2.2; have := HR5.out.2.2; omega⟩, hB6⟩
        case measure => simp [intOf]; omega
    · obtain rfl : k = l2.length := by omega
      have hin : s5.has i = true := St.has_lt (by rw [HR5.out.1]; exact hk)
      have hat : s5.at i = v := HR5.out.2.1
      have Hin := Lib.hid hin
      have Hat := Lib.hid hat
      clear hin hat
      go_wp2_with fail
      refine (load_any g gw _ s5 i _ hM5 ht5).mono ?_
      rw [St.loadA_in Hin.out, Hat.out, St.loadS_in Hin.out]
      rintro e w6 ⟨rfl, hM6, hs6⟩
      have hB6 := Sp.below hB5 hs6 hB5.size hg hgw
      go_wp2_with fail
      refine (cas_any g gw _ _ i v v _ hM6 (by have := HR5.out.2.2; simp only; omega)).mono ?_
      rw [St.casA_eq (show St.has ⟨s5.ws, s5.t + 1⟩ i = true from Hin.out) Hat.out]
      rintro e w7 ⟨rfl, hM7, hs7⟩
      have hB7 := Sp.below hB6 hs7 hB6.size hg hgw
      go_wp2_with fail
      go_ret
      exact ⟨ret_bool (by simp), hB7⟩
theorem last_any (m : Int) (A : Option Addr) (n c : Nat) (l : List OpT) (A2 : Option Addr) (n2 c2 : Nat) (l2 : List OpT) (t v : Int) (w : World) (hn : l.length = n) (_hc : n ≤ c) (hO : OS w w.heap.size A l) (hn2 : l2.length = n2) (_hc2 : n2 ≤ c2) (hO2 : OS w w.heap.size A2 l2) (h1 : 0 ≤ m ∧ m ≤ 255) (h2 : 0 ≤ t ∧ t ≤ 255) :
    Calls Try.prog 9 #[.int .u8 m, .slice A n c, .slice A2 n2 c2, .int .u8 t, .int .i64 v] w (fun e w' => e = .returned (.bool true) ∧ Below w.heap.size w w') := by
  subst hn hn2
  by_cases hl : 60 < l.length ∨ (l.length ≤ 60 ∧ 60 < l2.length)
  · exact last_long m A _ c A2 _ c2 t v w hl
  · obtain ⟨m, rfl⟩ := Int.eq_ofNat_of_zero_le h1.1
    obtain ⟨t, rfl⟩ := Int.eq_ofNat_of_zero_le h2.1
    exact last_go m A c l A2 c2 l2 t v w (by omega) (by omega) (by omega) hO (by omega) hO2
end Go.Proofs.Ythjhjjpgchmmfaa
