/- What a ring's calls tell and leave (of bools). -/
import Derived.Test.YtdhdacpnlfojeaaRing
namespace Go.Proofs.Ytdhdacpnlfojeaa
open Go.RowKit
attribute [local go_sem ↓] Go.wp_at_zero Go.wp_at_succ

set_option maxHeartbeats 400000 in
theorem placeB_any (g n first k p : Nat) (A : Option Addr) (w : World) (h0 : w.cell? ⟨g, 0, none⟩ = some (.slice A n n)) (h1 : w.cell? ⟨g, 1, none⟩ = some (.int .i64 first)) (hn : 0 < n) (h2 : first < n) (hm : n ≤ 1000000) (hk : k ≤ 1000000) (hp : (first + k) % n = p) :
    Calls Try.prog 25 #[.pointer (some ⟨g, 0, none⟩), .int .i64 k] w (fun e w' => e = .returned (.int .i64 p) ∧ ∃ q, w' = w.drewN q) := by
  subst hp
  go_enter Try.func25, Try.ntmps25
  go_wp2
  go_quiet (fail)
  go_wp2
  go_ret
  exact ⟨rfl, _, rfl⟩

set_option maxHeartbeats 400000 in
theorem popB_none (g gb n first room : Nat) (A : Option Addr) (w : World) (h : RingAt w g gb n first room A []) :
    Calls Try.prog 21 #[.pointer (some ⟨g, 0, none⟩)] w (fun e w' => e = .returned (.tuple #[.bool false, .bool false]) ∧ w' = w) := by
  have h2 := h.c2
  go_enter Try.func21, Try.ntmps21
  go_wp2
  go_ret2
  exact ⟨rfl, rfl⟩

set_option maxHeartbeats 400000 in
theorem popB_some (g gb n first room : Nat) (A : Option Addr) (x : Value) (xs : List Value) (w : World) (h : RingAt w g gb n first room A (x :: xs)) :
    Calls Try.prog 21 #[.pointer (some ⟨g, 0, none⟩)] w (fun e w' => e = .returned (.tuple #[x, .bool true]) ∧ Turns w g gb room xs w') := by
  have hxn := h.xn
  simp at hxn
  have hn : 0 < n := by omega
  obtain ⟨rfl, hf, hb, hne, hz⟩ := h.pl hn
  have h0 := h.c0
  have h1 := h.c1
  have h2 := h.c2
  have h3 := h.nr
  have h4 := h.rm
  have hx := h.ic 0 x rfl
  rw [Nat.add_zero, Nat.mod_eq_of_lt hf] at hx
  have hzf := hz first
  simp only [List.length_cons] at h2
  go_enter Try.func21, Try.ntmps21
  go_wp2
  go_quiet (fail)
  go_wp2_with fail
  go_region
  go_wp2_with fail
  have hp := (h.drewN (nq + 1)).pop (.bool false)
  have d : ∀ j, ((w.drewN (nq + 1)).setCell ⟨gb, first, none⟩ (.bool false)).cell? ⟨g, j, none⟩ = w.cell? ⟨g, j, none⟩ := fun j => World.cell?_setCell_other _ _ _ _ (by intro e; injection e with e _; exact hne e.symm)
  have d0 := (d 0).trans h0
  have d1 := (d 1).trans h1
  have d2 := (d 2).trans h2
  have df : ∀ j, ((w.drewN (nq + 1)).setCell ⟨gb, first, none⟩ (.bool false)).frozen? ⟨g, j, none⟩ = false := fun j => by simpa using h.fg j
  have hs := ((Sp.refl g gb w).drewN (nq + 1)).set2 first (.bool false)
  clear d h0 h1 h2 hx hzf hz h
  obtain ⟨W, eW⟩ : ∃ W, W = (w.drewN (nq + 1)).setCell ⟨gb, first, none⟩ (.bool false) := ⟨_, rfl⟩
  rw [← eW] at d0 d1 d2 df hp hs ⊢
  clear eW
  have d3 := df 1
  have d4 := df 2
  refine (placeB_any g n first 1 _ _ _ d0 d1 hn hf (by omega) (by omega) rfl).mono ?_
  rintro e w2 ⟨rfl, q, rfl⟩
  go_wp2_with fail
  go_ret2
  exact ⟨rfl, gb, ⟨n, _, _, hp q, fun e => by omega⟩, ((hs.drewN q).set1 _ _).set1 _ _, .inl rfl⟩
def IsB (x : Value) : Prop := ∃ i, x = .bool i
theorem infoB : (Try.prog.info? 4).map (fun i => (i.zero, i.size, i.bytes)) = some (some (.bool false), 1, 1) := by kernel_rfl
theorem makeB_run (n : Nat) (h2 : n ≤ 1000000) (W : World) : (Instr.makeSlice 27 (.int .i64 n) (.int .i64 n)).run Try.prog W = .ok (.slice (some ⟨W.heap.size, 0, none⟩) n n) (W.alloc (.cells (madeCells #[.bool false] n) 4)) := by
  obtain ⟨i0, hi, hz0, hz1, hz2⟩ := info_parts infoB
  have h := run_make (P := Try.prog) W 27 4 i0 (.bool false) Try.underlying27 hi hz0 .i64 .i64 n n (by omega) (by omega) (by rw [hz2]; omega) (by omega)
  rw [hz1, Nat.mul_one, Int.toNat_natCast] at h
  exact h

set_option maxHeartbeats 400000 in
theorem widenB_any (g gb n first room : Nat) (A : Option Addr) (xs : List Value) (w : World) (h : RingAt w g gb n first room A xs) (hl : xs.length = n) (hr : n < room) (ht : ∀ x ∈ xs, IsB x) :
    Calls Try.prog 24 #[.pointer (some ⟨g, 0, none⟩)] w (fun e w' => e = .returned (.tuple #[]) ∧ RingAt w' g w.heap.size (min (2 * n + 1) room) 0 room (some ⟨w.heap.size, 0, none⟩) xs ∧ Sp g g w w') := by
  have h0 := h.c0
  have h3 := h.c3
  have h5 := h.rm
  go_enter Try.func24, Try.ntmps24
  go_wp2_with fail
  by_cases hm : 2 * n + 1 ≤ room
  · have hk := makeB_run (2 * n + 1) (by omega)
    rw [show (((2 * n + 1 : Nat)) : Int) = 2 * (n : Int) + 1 from by omega] at hk
    go_region
    have hR := (h.alloc (.cells (madeCells #[.bool false] (2 * n + 1)) 4)).drew
    have hH := (Half.made w (.bool false) (2 * n + 1) xs 4).on (w' := (w.alloc (.cells (madeCells #[.bool false] (2 * n + 1)) 4)).drew) rfl (Nat.le_refl _)
    have hs := ((Sp.refl g g w).alloc (.cells (madeCells #[.bool false] (2 * n + 1)) 4)).drew
    obtain ⟨W, eW⟩ : ∃ W, W = (w.alloc (.cells (madeCells #[.bool false] (2 * n + 1)) 4)).drew := ⟨_, rfl⟩
    rw [← eW] at hR hH hs ⊢
    clear eW hk
    obtain ⟨m, em⟩ : ∃ m, m = 2 * n + 1 := ⟨_, rfl⟩
    rw [← em] at hH ⊢
    have hm1 : n < m := by omega
    have hm2 : m ≤ room := by omega
    have Em := Lib.hid (show m = min (2 * n + 1) room by omega)
    clear em
    obtain ⟨b, eb⟩ : ∃ b, b = w.heap.size := ⟨_, rfl⟩
    rw [← eb] at hH ⊢
    have hgb : g < b := by rw [eb]; exact h.lg
    have hgb2 : 0 < n → gb < b := by rw [eb]; exact fun hn => (h.pl hn).2.2.1
    have Eb := Lib.hid eb
    clear h0 h3 h eb
    have h2 := hR.c2
    go_wp2_with fail
    go_loopw [21] (fun i wr => ∃ k : Nat, k ≤ n ∧ i = .int .i64 k ∧ RingAt wr g gb n first room A xs ∧ Half wr b m k xs ∧ Sp g g w wr) (fun i _ => n - (intOf i).toNat)
    case atStart => exact ⟨0, Nat.zero_le _, rfl, hR, hH, hs⟩
    case round =>
      obtain ⟨k, hk, rfl, hR2, hH2, hs2⟩ := hrel
      clear hR hH hs h2
      by_cases hlt : k < n
      · obtain ⟨rfl, hf, hb3, hne, hz⟩ := hR2.pl (by omega)
        obtain ⟨x, hx⟩ : ∃ x, xs[k]? = some x := ⟨xs[k]'(by omega), by simp⟩
        obtain ⟨x1, rfl⟩ := ht x (List.mem_of_getElem? hx)
        have h0 := hR2.c0
        have h1 := hR2.c1
        have hc := hR2.ic k _ hx
        obtain ⟨p, ep⟩ : ∃ p, p = (first + k) % n := ⟨_, rfl⟩
        have hmod : p < n := by rw [ep]; exact Nat.mod_lt _ (by omega)
        have hmod2 : (p : Int) < (n : Int) := by omega
        have hp0 : (0 : Int) ≤ (p : Int) := by omega
        have hk0 : (0 : Int) ≤ (k : Int) := by omega
        have hk1 : (k : Int) < (m : Int) := by omega
        rw [← ep] at hc
        have Ep := Lib.hid ep.symm
        clear ep
        have hfr := hH2.free k
        obtain ⟨v0, hv0⟩ := hH2.has k (by omega)
        have Hx := Lib.hid hx
        clear hx
        have hn1 : b ≠ g := by omega
        have hn2 : g ≠ b := by omega
        have hn3 : b ≠ gb := by have := hgb2 (by omega); omega
        have hn4 : gb ≠ b := by have := hgb2 (by omega); omega
        go_wp2_with fail
        go_region_held3 (fun w' => w'.cell? ⟨g, 0, none⟩ = some (.slice (some ⟨gb, 0, none⟩) n n) ∧ w'.cell? ⟨gb, p, none⟩ = some (.bool x1)) (go_keep)
          (first | (go_at_call 25; refine (placeB_any g n first k p _ wr.drew h0 h1 (by omega) hf (by omega) (by omega) Ep.out).mono ?_; rintro e w1 ⟨rfl, q, rfl⟩))
        have hR3 : RingAt ((wr.drewN (1 + q)).setCell ⟨b, k, none⟩ (.bool x1)) g gb n first room (some ⟨gb, 0, none⟩) xs :=
          (hR2.drewN (1 + q)).of_blocks (by simp [World.setCell]) (Below.heap_setCell _ _ _ _ hn2) fun _ => Below.heap_setCell _ _ _ _ hn4
        have hH3 := (hH2.drewN (1 + q)).put (by omega) Hx.out
        have hs3 : Sp g g w ((wr.drewN (1 + q)).setCell ⟨b, k, none⟩ (.bool x1)) :=
          ⟨hs2.os, hs2.tape, hs2.output, by have := hs2.size; simpa [World.setCell] using this, fun i hi h1 h2 => (Below.heap_setCell _ _ _ _ (by have := Eb.out; show i ≠ b; omega)).trans (hs2.block i hi h1 h2)⟩
        go_wp2
        go_roundw
        case rel => exact ⟨k + 1, by omega, by go_num, hR3, hH3, hs3⟩
        case measure => simp [intOf]; omega
      · obtain rfl : k = n := by omega
        have hh : Half wr b m xs.length xs := by rw [hl]; exact hH2
        have hR3 := hR2.wider hh (by omega) (by omega) (by omega) hm2
        have h0 := hR2.c0
        have h1 := hR2.c1
        have f0 := hR2.fg 0
        have f1 := hR2.fg 1
        clear hR2 hH2 hh
        go_wp2
        go_end0
        exact ⟨rfl, by rw [← Em.out, ← Eb.out]; exact hR3, (hs2.set1 _ _).set1 _ _⟩
  · have hk := makeB_run room (by omega)
    go_region
    have hR := (h.alloc (.cells (madeCells #[.bool false] (room)) 4)).drew
    have hH := (Half.made w (.bool false) (room) xs 4).on (w' := (w.alloc (.cells (madeCells #[.bool false] (room)) 4)).drew) rfl (Nat.le_refl _)
    have hs := ((Sp.refl g g w).alloc (.cells (madeCells #[.bool false] (room)) 4)).drew
    obtain ⟨W, eW⟩ : ∃ W, W = (w.alloc (.cells (madeCells #[.bool false] (room)) 4)).drew := ⟨_, rfl⟩
    rw [← eW] at hR hH hs ⊢
    clear eW hk
    obtain ⟨m, em⟩ : ∃ m, m = room := ⟨_, rfl⟩
    rw [← em] at hH ⊢
    have hm1 : n < m := by omega
    have hm2 : m ≤ room := by omega
    have Em := Lib.hid (show m = min (2 * n + 1) room by omega)
    clear em
    obtain ⟨b, eb⟩ : ∃ b, b = w.heap.size := ⟨_, rfl⟩
    rw [← eb] at hH ⊢
    have hgb : g < b := by rw [eb]; exact h.lg
    have hgb2 : 0 < n → gb < b := by rw [eb]; exact fun hn => (h.pl hn).2.2.1
    have Eb := Lib.hid eb
    clear h0 h3 h eb
    have h2 := hR.c2
    go_wp2_with fail
    go_loopw [21] (fun i wr => ∃ k : Nat, k ≤ n ∧ i = .int .i64 k ∧ RingAt wr g gb n first room A xs ∧ Half wr b m k xs ∧ Sp g g w wr) (fun i _ => n - (intOf i).toNat)
    case atStart => exact ⟨0, Nat.zero_le _, rfl, hR, hH, hs⟩
    case round =>
      obtain ⟨k, hk, rfl, hR2, hH2, hs2⟩ := hrel
      clear hR hH hs h2
      by_cases hlt : k < n
      · obtain ⟨rfl, hf, hb3, hne, hz⟩ := hR2.pl (by omega)
        obtain ⟨x, hx⟩ : ∃ x, xs[k]? = some x := ⟨xs[k]'(by omega), by simp⟩
        obtain ⟨x1, rfl⟩ := ht x (List.mem_of_getElem? hx)
        have h0 := hR2.c0
        have h1 := hR2.c1
        have hc := hR2.ic k _ hx
        obtain ⟨p, ep⟩ : ∃ p, p = (first + k) % n := ⟨_, rfl⟩
        have hmod : p < n := by rw [ep]; exact Nat.mod_lt _ (by omega)
        have hmod2 : (p : Int) < (n : Int) := by omega
        have hp0 : (0 : Int) ≤ (p : Int) := by omega
        have hk0 : (0 : Int) ≤ (k : Int) := by omega
        have hk1 : (k : Int) < (m : Int) := by omega
        rw [← ep] at hc
        have Ep := Lib.hid ep.symm
        clear ep
        have hfr := hH2.free k
        obtain ⟨v0, hv0⟩ := hH2.has k (by omega)
        have Hx := Lib.hid hx
        clear hx
        have hn1 : b ≠ g := by omega
        have hn2 : g ≠ b := by omega
        have hn3 : b ≠ gb := by have := hgb2 (by omega); omega
        have hn4 : gb ≠ b := by have := hgb2 (by omega); omega
        go_wp2_with fail
        go_region_held3 (fun w' => w'.cell? ⟨g, 0, none⟩ = some (.slice (some ⟨gb, 0, none⟩) n n) ∧ w'.cell? ⟨gb, p, none⟩ = some (.bool x1)) (go_keep)
          (first | (go_at_call 25; refine (placeB_any g n first k p _ wr.drew h0 h1 (by omega) hf (by omega) (by omega) Ep.out).mono ?_; rintro e w1 ⟨rfl, q, rfl⟩))
        have hR3 : RingAt ((wr.drewN (1 + q)).setCell ⟨b, k, none⟩ (.bool x1)) g gb n first room (some ⟨gb, 0, none⟩) xs :=
          (hR2.drewN (1 + q)).of_blocks (by simp [World.setCell]) (Below.heap_setCell _ _ _ _ hn2) fun _ => Below.heap_setCell _ _ _ _ hn4
        have hH3 := (hH2.drewN (1 + q)).put (by omega) Hx.out
        have hs3 : Sp g g w ((wr.drewN (1 + q)).setCell ⟨b, k, none⟩ (.bool x1)) :=
          ⟨hs2.os, hs2.tape, hs2.output, by have := hs2.size; simpa [World.setCell] using this, fun i hi h1 h2 => (Below.heap_setCell _ _ _ _ (by have := Eb.out; show i ≠ b; omega)).trans (hs2.block i hi h1 h2)⟩
        go_wp2
        go_roundw
        case rel => exact ⟨k + 1, by omega, by go_num, hR3, hH3, hs3⟩
        case measure => simp [intOf]; omega
      · obtain rfl : k = n := by omega
        have hh : Half wr b m xs.length xs := by rw [hl]; exact hH2
        have hR3 := hR2.wider hh (by omega) (by omega) (by omega) hm2
        have h0 := hR2.c0
        have h1 := hR2.c1
        have f0 := hR2.fg 0
        have f1 := hR2.fg 1
        clear hR2 hH2 hh
        go_wp2
        go_end0
        exact ⟨rfl, by rw [← Em.out, ← Eb.out]; exact hR3, (hs2.set1 _ _).set1 _ _⟩


set_option maxHeartbeats 400000 in
theorem pushB_full (g gb n first room : Nat) (A : Option Addr) (x : Value) (xs : List Value) (w : World) (h : RingAt w g gb n first room A xs) (hl : xs.length = room) :
    Calls Try.prog 20 #[.pointer (some ⟨g, 0, none⟩), x] w (fun e w' => e = .returned (.bool false) ∧ ∃ q, w' = w.drewN q) := by
  have h2 := h.c2
  have h3 := h.c3
  rw [hl] at h2
  clear hl
  go_enter Try.func20, Try.ntmps20
  go_wp2
  go_quiet (fail)
  go_wp2
  go_ret
  exact ⟨rfl, _, rfl⟩
set_option maxHeartbeats 800000 in
theorem pushB_room (g gb n first room : Nat) (A : Option Addr) (x : Value) (xs : List Value) (w : World) (h : RingAt w g gb n first room A xs) (hl : xs.length < room) (ht : ∀ x ∈ xs, IsB x) (hx : IsB x) :
    Calls Try.prog 20 #[.pointer (some ⟨g, 0, none⟩), x] w (fun e w' => e = .returned (.bool true) ∧ Turns w g gb room (xs ++ [x]) w') := by
  obtain ⟨x1, rfl⟩ := hx
  have h2 := h.c2
  have h3 := h.c3
  have h4 := h.rm
  have hxn := h.xn
  have hnr := h.nr
  have hq1 : ((xs.length : Int) == (room : Int)) = false := by simp; omega
  have hq2 : (xs.length == room) = false := by simp; omega
  have h0 := h.c0
  by_cases hw : xs.length = n
  · have hq3 : ((xs.length : Int) == (n : Int)) = true := by simp; omega
    have hq4 : (xs.length == n) = true := by simp; omega
    have Hl := Lib.hid hw
    clear hw
    go_enter Try.func20, Try.ntmps20
    go_wp2
    go_quiet (fail)
    go_wp2_with fail
    go_quiet (fail)
    go_wp2_with fail
    refine (widenB_any g gb n first room A xs _ (h.drewN _) Hl.out (by have := Hl.out; omega) ht).mono ?_
    rintro e w1 ⟨rfl, hR, hs⟩
    have Hs : Sp g gb w w1 := (((Sp.refl g g w).drewN _).trans hs).wide gb
    clear hs h h0 h2 h3
    obtain ⟨m, em⟩ : ∃ m, m = min (2 * n + 1) room := ⟨_, rfl⟩
    obtain ⟨b, eb⟩ : ∃ b, b = w.heap.size := ⟨_, rfl⟩
    rw [← em] at hR
    change RingAt w1 g w.heap.size m 0 room (some ⟨w.heap.size, 0, none⟩) xs at hR
    rw [← eb] at hR
    have hlm : xs.length < m := by have := Hl.out; omega
    have Hb := Lib.hid (show b = gb ∨ w.heap.size ≤ b from .inr (by omega))
    clear em eb hq3 hq4
    obtain ⟨A1, eA⟩ : ∃ A1 : Option Addr, A1 = some ⟨b, 0, none⟩ := ⟨_, rfl⟩
    rw [← eA] at hR
    clear eA
    obtain ⟨f, ef⟩ : ∃ f : Nat, f = 0 := ⟨_, rfl⟩
    rw [← ef] at hR
    clear ef
    obtain ⟨rfl, hf, hb, hne, hz⟩ := hR.pl (by omega)
    have hP := hR.push hlm (.bool x1)
    have d0 := hR.c0
    have d1 := hR.c1
    have d2 := hR.c2
    have hm4 := hR.nr
    obtain ⟨p, ep⟩ : ∃ p, p = (f + xs.length) % m := ⟨_, rfl⟩
    have hp1 : p < m := by rw [ep]; exact Nat.mod_lt _ (by omega)
    have hp2 : (p : Int) < (m : Int) := by omega
    have hp0 : (0 : Int) ≤ (p : Int) := by omega
    have hfr := hz p
    have hfg := hR.fg 2
    obtain ⟨v0, hv0⟩ := hR.has p hp1
    have hP2 := fun (q : Nat) => (hR.drewN q).push hlm (.bool x1)
    have hn1 : b ≠ g := fun e => hne e.symm
    rw [← ep] at hP2
    have Ep := Lib.hid ep.symm
    clear ep hP
    go_wp2_with fail
    go_region_held3 (fun w' => w'.cell? ⟨g, 0, none⟩ = some (.slice (some ⟨b, 0, none⟩) m m) ∧ w'.cell? ⟨g, 2, none⟩ = some (.int .i64 xs.length)) (go_keep)
      (first | (go_at_call 25; refine (placeB_any g m f xs.length p _ w1.drew d0 d1 (by omega) hf (by omega) (by omega) Ep.out).mono ?_; rintro e w2 ⟨rfl, q, rfl⟩))
    have hP3 := hP2 (1 + q)
    have e2 : ((w1.drewN (1 + q)).setCell ⟨b, p, none⟩ (.bool x1)).cell? ⟨g, 2, none⟩ = some (.int .i64 xs.length) := (World.cell?_setCell_other _ _ _ _ (by intro e; injection e with e _; exact hn1 e)).trans d2
    have f2 : ((w1.drewN (1 + q)).setCell ⟨b, p, none⟩ (.bool x1)).frozen? ⟨g, 2, none⟩ = false := by simpa using hfg
    have hs3 : Sp g b w1 ((w1.drewN (1 + q)).setCell ⟨b, p, none⟩ (.bool x1)) := ((Sp.refl g b w1).drewN (1 + q)).set2 p _
    clear hP2 hR d0 d1 d2 hfr hv0 hz hfg
    obtain ⟨W, eW⟩ : ∃ W, W = (w1.drewN (1 + q)).setCell ⟨b, p, none⟩ (.bool x1) := ⟨_, rfl⟩
    rw [← eW] at hP3 e2 f2 hs3 ⊢
    clear eW
    go_wp2_with fail
    go_ret
    exact ⟨rfl, b, ⟨m, f, _, hP3, fun e => by omega⟩, Hs.next (hs3.set1 _ _) Hb.out, Hb.out⟩
  · have hq3 : ((xs.length : Int) == (n : Int)) = false := by simp; omega
    have hq4 : (xs.length == n) = false := by simp; omega
    have hlm : xs.length < n := by omega
    clear hw
    go_enter Try.func20, Try.ntmps20
    go_wp2
    go_quiet (fail)
    have ha := h.drewN nq
    have sa := (Sp.refl g gb w).drewN nq
    obtain ⟨wa, ewa⟩ : ∃ wa, wa = w.drewN nq := ⟨_, rfl⟩
    rw [← ewa] at ha sa ⊢
    clear ewa h h0 h2 h3
    have h0 := ha.c0
    have h2 := ha.c2
    go_wp2_with fail
    go_quiet (fail)
    have hR := ha.drewN nq
    have Hs := sa.drewN nq
    obtain ⟨w1, e1⟩ : ∃ w1, w1 = wa.drewN nq := ⟨_, rfl⟩
    rw [← e1] at hR Hs ⊢
    clear e1 ha sa h0 h2 hq1 hq2
    clear hxn hnr hl
    obtain ⟨b, eb⟩ : ∃ b, b = gb := ⟨_, rfl⟩
    obtain ⟨m, em⟩ : ∃ m, m = n := ⟨_, rfl⟩
    obtain ⟨f, ef⟩ : ∃ f, f = first := ⟨_, rfl⟩
    have Hb := Lib.hid (show b = gb ∨ w.heap.size ≤ b from .inl eb)
    rw [← eb, ← em, ← ef] at hR
    rw [← em] at hlm
    clear eb em ef hq3 hq4
    obtain ⟨rfl, hf, hb, hne, hz⟩ := hR.pl (by omega)
    have hP := hR.push hlm (.bool x1)
    have d0 := hR.c0
    have d1 := hR.c1
    have d2 := hR.c2
    have hm4 := hR.nr
    obtain ⟨p, ep⟩ : ∃ p, p = (f + xs.length) % m := ⟨_, rfl⟩
    have hp1 : p < m := by rw [ep]; exact Nat.mod_lt _ (by omega)
    have hp2 : (p : Int) < (m : Int) := by omega
    have hp0 : (0 : Int) ≤ (p : Int) := by omega
    have hfr := hz p
    have hfg := hR.fg 2
    obtain ⟨v0, hv0⟩ := hR.has p hp1
    have hP2 := fun (q : Nat) => (hR.drewN q).push hlm (.bool x1)
    have hn1 : b ≠ g := fun e => hne e.symm
    rw [← ep] at hP2
    have Ep := Lib.hid ep.symm
    clear ep hP
    go_wp2_with fail
    go_region_held3 (fun w' => w'.cell? ⟨g, 0, none⟩ = some (.slice (some ⟨b, 0, none⟩) m m) ∧ w'.cell? ⟨g, 2, none⟩ = some (.int .i64 xs.length)) (go_keep)
      (first | (go_at_call 25; refine (placeB_any g m f xs.length p _ w1.drew d0 d1 (by omega) hf (by omega) (by omega) Ep.out).mono ?_; rintro e w2 ⟨rfl, q, rfl⟩))
    have hP3 := hP2 (1 + q)
    have e2 : ((w1.drewN (1 + q)).setCell ⟨b, p, none⟩ (.bool x1)).cell? ⟨g, 2, none⟩ = some (.int .i64 xs.length) := (World.cell?_setCell_other _ _ _ _ (by intro e; injection e with e _; exact hn1 e)).trans d2
    have f2 : ((w1.drewN (1 + q)).setCell ⟨b, p, none⟩ (.bool x1)).frozen? ⟨g, 2, none⟩ = false := by simpa using hfg
    have hs3 : Sp g b w1 ((w1.drewN (1 + q)).setCell ⟨b, p, none⟩ (.bool x1)) := ((Sp.refl g b w1).drewN (1 + q)).set2 p _
    clear hP2 hR d0 d1 d2 hfr hv0 hz hfg
    obtain ⟨W, eW⟩ : ∃ W, W = (w1.drewN (1 + q)).setCell ⟨b, p, none⟩ (.bool x1) := ⟨_, rfl⟩
    rw [← eW] at hP3 e2 f2 hs3 ⊢
    clear eW
    go_wp2_with fail
    go_ret
    exact ⟨rfl, b, ⟨m, f, _, hP3, fun e => by omega⟩, Hs.next (hs3.set1 _ _) Hb.out, Hb.out⟩

theorem newB_any (r : Int) (w : World) :
    Calls Try.prog 16 #[.int .i64 r] w (TellsNew w (roomN r)) := by
  have hB : ∀ o, Below w.heap.size w (w.alloc o) := fun o => (Below.refl _ _).alloc (Nat.le_refl _) _
  by_cases h1 : r < 0
  · have hr : roomN r = 0 := by unfold roomN; omega
    have hR := ring_new w 0 48 (by omega)
    rw [hr]
    clear hr
    go_enter Try.func16, Try.ntmps16
    go_wp2
    go_ret
    exact ⟨_, rfl, Nat.le_refl _, ⟨0, 0, none, hR, fun _ => rfl⟩, hB _⟩
  by_cases h2 : 1000000 < r
  · have hr : roomN r = 1000000 := by unfold roomN; omega
    have hR := ring_new w 1000000 48 (by omega)
    rw [hr]
    clear hr
    go_enter Try.func16, Try.ntmps16
    go_wp2
    go_ret
    exact ⟨_, rfl, Nat.le_refl _, ⟨0, 0, none, hR, fun _ => rfl⟩, hB _⟩
  · obtain ⟨n, rfl⟩ := Int.eq_ofNat_of_zero_le (show 0 ≤ r by omega)
    have hr : roomN (n : Int) = n := by unfold roomN; omega
    have hR := ring_new w n 48 (by omega)
    rw [hr]
    clear hr
    go_enter Try.func16, Try.ntmps16
    go_wp2
    go_ret
    exact ⟨_, rfl, Nat.le_refl _, ⟨0, 0, none, hR, fun _ => rfl⟩, hB _⟩
theorem pushB_any (g gb room : Nat) (x : Value) (xs : List Value) (w : World) (h : Ring w g gb room xs) (ht : ∀ x ∈ xs, IsB x) (hx : IsB x) :
    Calls Try.prog 20 #[.pointer (some ⟨g, 0, none⟩), x] w (fun e w' => e = .returned (.bool (decide (xs.length < room))) ∧ Turns w g gb room (pushA room xs x) w') := by
  have hR := h
  obtain ⟨n, f, A, h, e⟩ := h
  by_cases hl : xs.length < room
  · rw [pushA_room hl, decide_eq_true hl]
    exact pushB_room g gb n f room A x xs w h hl ht hx
  · rw [pushA_full hl, decide_eq_false hl]
    refine (pushB_full g gb n f room A x xs w h (by have := hR.le; omega)).mono ?_
    rintro e w' ⟨rfl, q, rfl⟩
    exact ⟨rfl, hR.same q⟩
theorem popB_any (g gb room : Nat) (xs : List Value) (w : World) (h : Ring w g gb room xs) :
    Calls Try.prog 21 #[.pointer (some ⟨g, 0, none⟩)] w (fun e w' => e = .returned (.tuple #[xs.headD (.bool false), .bool (!xs.isEmpty)]) ∧ Turns w g gb room xs.tail w') := by
  have hR := h
  obtain ⟨n, f, A, h, e⟩ := h
  cases xs with
  | nil =>
    refine (popB_none g gb n f room A w h).mono ?_
    rintro e w' ⟨rfl, rfl⟩
    exact ⟨rfl, hR.same 0⟩
  | cons x xs => exact popB_some g gb n f room A x xs w h
end Go.Proofs.Ytdhdacpnlfojeaa
