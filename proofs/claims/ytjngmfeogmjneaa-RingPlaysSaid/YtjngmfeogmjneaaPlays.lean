/- The law RingPlays, walked. -/
import Derived.Test.YtjngmfeogmjneaaRef
import Derived.Test.YtjngmfeogmjneaaLeft
namespace Go.Proofs.Ytjngmfeogmjneaa
open Go.RowKit
attribute [local go_sem ↓] Go.wp_at_zero Go.wp_at_succ

/-- a ring and the document's own, both made since w0 -/
structure Both (w0 w : World) (g gb room : Nat) (q : List Int) (h hb : Nat) (L : List Int) : Prop where
  r1 : Line w g gb room q
  r2 : Ref w h hb room L
  b1 : w0.heap.size ≤ g ∧ w0.heap.size ≤ gb
  b2 : w0.heap.size ≤ h ∧ w0.heap.size ≤ hb
  ne : h ≠ g ∧ h ≠ gb ∧ hb ≠ g ∧ hb ≠ gb
  below : Below w0.heap.size w0 w
theorem Both.turn1 {w0 w w' : World} {g gb room h hb : Nat} {q q' L : List Int} (t : Both w0 w g gb room q h hb L) (k : TurnsL w g gb room q' w') : ∃ gb', Both w0 w' g gb' room q' h hb L := by
  obtain ⟨gb', h1, h2, h3⟩ := k
  have z := t.below.size
  obtain ⟨n1, n2, n3, n4⟩ := t.ne
  have l := t.r2.lt
  have b := t.b1
  exact ⟨gb', h1, t.r2.sp h2 n1 n2 n3 n4, ⟨b.1, by omega⟩, t.b2, ⟨n1, by omega, n3, by omega⟩, Sp.below t.below h2 z b.1 b.2⟩
theorem Both.turn2 {w0 w w' : World} {g gb room h hb : Nat} {q L L' : List Int} (t : Both w0 w g gb room q h hb L) (k : TurnsR w h hb room L' w') : ∃ hb', Both w0 w' g gb room q h hb' L' := by
  obtain ⟨hb', h1, h2, h3⟩ := k
  have z := t.below.size
  obtain ⟨n1, n2, n3, n4⟩ := t.ne
  have l := t.r1.lt
  have b := t.b2
  exact ⟨hb', t.r1.sp h2 n1.symm n3.symm n2.symm n4.symm, h1, t.b1, ⟨b.1, by omega⟩, ⟨n1, n2, by omega, by omega⟩, Sp.below t.below h2 z b.1 b.2⟩
theorem Both.on {w0 w w' : World} {g gb room h hb : Nat} {q L : List Int} (t : Both w0 w g gb room q h hb L) (k : Below w.heap.size w w') : Both w0 w' g gb room q h hb L :=
  ⟨t.r1.on k, t.r2.on k, t.b1, t.b2, t.ne, t.below.trans (k.mono t.below.size)⟩
theorem Both.drewN {w0 w : World} {g gb room h hb : Nat} {q L : List Int} (t : Both w0 w g gb room q h hb L) (n : Nat) : Both w0 (w.drewN n) g gb room q h hb L :=
  ⟨t.r1.drewN n, t.r2.drewN n, t.b1, t.b2, t.ne, bdrew t.below n⟩
theorem pushL_le (R : Nat) (q : List Int) (x : Int) {k : Nat} (h : q.length ≤ k) : (pushL R q x).length ≤ k + 1 := by
  unfold pushL
  split
  · rw [List.length_append]; exact Nat.succ_le_succ h
  · omega
theorem RefAt.is {w : World} {h bl off c room : Nat} {A : Option Addr} {L : List Int} (r : RefAt w h bl off c room A L) : IS w w.heap.size A L := by
  intro k x hk
  obtain ⟨a, b, _⟩ := r.pl (fun hA => by rw [r.nil hA] at hk; simp at hk)
  exact ⟨bl, off, a, b, r.ic k x hk⟩

set_option maxRecDepth 100000 in
set_option maxHeartbeats 1000000 in
theorem plays_long (room : Int) (A : Option Addr) (n c : Nat) (w : World) (hl : 80 < n) :
    Calls Try.prog 3 #[.int .i64 room, .slice A n c] w (fun e w' => e = .returned (.bool true) ∧ Below w.heap.size w w') := by
  go_enter Try.func3, Try.ntmps3
  go_wp2_with fail
  refine (awake_any _).mono ?_
  rintro e w1 ⟨rfl, hB1⟩
  go_wp2_with fail
  go_ret
  exact ⟨rfl, hB1⟩
set_option maxRecDepth 100000 in
set_option maxHeartbeats 4000000 in
theorem plays_go (room : Int) (A : Option Addr) (c : Nat) (l : List Int) (w : World) (hl : l.length ≤ 80) (hI : IS w w.heap.size A l) :
    Calls Try.prog 3 #[.int .i64 room, .slice A l.length c] w (fun e w' => e = .returned (.bool true) ∧ Below w.heap.size w w') := by
  go_enter Try.func3, Try.ntmps3
  go_wp2_with fail
  refine (awake_any _).mono ?_
  rintro e w1 ⟨rfl, hB1⟩
  go_wp2_with fail
  refine (new_mine _ w _ hB1).mono ?_
  rintro e w2 ⟨g, rfl, hM⟩
  clear hB1
  go_wp2_with fail
  refine (refNew_any _ _).mono ?_
  rintro e w3 ⟨h, rfl, hh, hR, hB3⟩
  obtain ⟨R, eR⟩ : ∃ R, R = roomN room := ⟨_, rfl⟩
  rw [← eR] at hM hR
  have hRl : R ≤ 1000000 := by rw [eR]; exact roomN_le _
  clear eR
  have hO : Both w w3 g g R [] h h [] := by
    have := hM.below.size
    have := hM.g0
    have := hM.line.lt.1
    exact ⟨hM.line.on hB3, hR, ⟨by omega, by omega⟩, ⟨by omega, by omega⟩, ⟨by omega, by omega, by omega, by omega⟩, hM.below.trans (hB3.mono hM.below.size)⟩
  clear hM hR hB3 hh
  go_wp2_with fail
  have h1 : w3.cell? ⟨h, 1, none⟩ = some (.int .i64 R) := by
    obtain ⟨_, _, _, r, _⟩ := hO.r2
    exact r.c1
  go_quiet (first | (go_at_call 12; refine Calls.quiet_of_same (room_line g g R [] _ (hO.drewN _).r1)))
  have hO1 := hO.drewN nq
  clear hO h1
  obtain ⟨W, eW⟩ : ∃ W, W = w3.drewN nq := ⟨_, rfl⟩
  rw [← eW] at hO1 ⊢
  clear eW
  go_wp2_with fail
  go_loopw [8] (fun i wr => ∃ (k gb hb : Nat) (q : List Int), k ≤ l.length ∧ i = .int .i64 k ∧ q.length ≤ k ∧ Both w wr g gb R q h hb q) (fun i _ => l.length - (intOf i).toNat)
  case atStart => exact ⟨0, g, h, [], Nat.zero_le _, rfl, Nat.zero_le _, hO1⟩
  case round =>
    obtain ⟨k, gb, hb, q, hk, rfl, hqk, hO2⟩ := hrel
    clear hO1
    by_cases hlt : k < l.length
    · obtain ⟨x, hx⟩ := num_some hlt
      obtain ⟨bx, off, rfl, _, hd1⟩ := (hI.below hO2.below) k _ hx
      have Hx := Lib.hid hx
      clear hx
      have hk1 : (k : Int) < (l.length : Int) := by omega
      by_cases hneg : x < 0
      · go_wp2_with fail
        refine (pop_line g gb R q _ hO2.r1).mono ?_
        rintro e w3 ⟨rfl, hT⟩
        obtain ⟨gb4, hO3⟩ := hO2.turn1 hT
        clear hT hO2 hd1
        go_wp2_with fail
        refine (refPop_any h hb R q _ hO3.r2).mono ?_
        rintro e w4 ⟨rfl, hT⟩
        obtain ⟨hb4, hO4⟩ := hO3.turn2 hT
        clear hT hO3
        have hq1 : q.tail.length ≤ k + 1 := by rw [List.length_tail]; omega
        obtain ⟨q1, eq1⟩ : ∃ q1, q1 = q.tail := ⟨_, rfl⟩
        rw [← eq1] at hO4 hq1
        clear eq1
        obtain ⟨ro, rc, rA, hrA, _⟩ := hO4.r2
        have hS := hrA.c0
        have hIS := hrA.is
        have hlh := hrA.lh
        have ht100 : q1.take 100 = q1 := List.take_of_length_le (by omega)
        clear hrA
        go_wp2_with fail
        have hOd := hO4.drewN 1
        have hISd : IS w4.drew w4.drew.heap.size rA q1 := hIS
        go_region_held3 (fun w' => w'.cell? ⟨h, 0, none⟩ = some (.slice rA q1.length rc)) (go_keep) (first
          | (go_at_call 17; refine (len_line g gb4 R q1 _ hOd.r1).mono ?_; rintro e w7 ⟨rfl, rfl⟩)
          | (go_at_call 19; refine (all_any g gb4 R 100 q1 _ hOd.r1 (by omega)).mono ?_; rw [ht100]; rintro e w7 ⟨A7, n7, c7, rfl, hn7, hc7, hI7, hB7⟩; have hO7 := hOd.on hB7; subst hn7; have hx7 : w7.cell? ⟨h, 0, none⟩ = some (.slice rA q1.length rc) := ((hB7.cell (p := ⟨h, 0, none⟩) hlh).trans hS); have hIS7 := ((hISd.below hB7).more hB7.size))
          | (go_at_call 18; refine (ints_same A7 rA _ c7 _ rc q1 q1 _ rfl rfl hI7 hIS7 (by omega) rfl).mono ?_; rintro e w8 ⟨rfl, hB8⟩; have hO8 := hO7.on hB8; have hx8 : w8.cell? ⟨h, 0, none⟩ = some (.slice rA q1.length rc) := ((hB8.cell (p := ⟨h, 0, none⟩) (Nat.lt_of_lt_of_le hlh hB7.size)).trans hx7)))
        go_wp2_with fail
        go_roundw
        case rel => exact ⟨k + 1, gb4, hb4, q1, by omega, by go_num, by omega, hO8⟩
        case measure => simp [intOf]; omega
      · go_wp2_with fail
        refine (push_line g gb R x q _ hO2.r1).mono ?_
        rintro e w3 ⟨rfl, hT⟩
        have hqR : q.length ≤ R := by have := hO2.r1.le; rw [List.length_map] at this; exact this
        obtain ⟨gb4, hO3⟩ := hO2.turn1 hT
        clear hT hO2 hd1
        obtain ⟨_, _, hA, _, hd2⟩ := (hI.below hO3.below) k _ Hx.out
        injection hA with hA
        injection hA with hA1 hA2
        subst hA1 hA2
        go_wp2_with fail
        refine (refPush_any h hb R x q _ hO3.r2 hqR hRl).mono ?_
        rintro e w4 ⟨rfl, hT⟩
        obtain ⟨hb4, hO4⟩ := hO3.turn2 hT
        clear hT hO3 hd2
        have hq1 : (pushL R q x).length ≤ k + 1 := pushL_le R q x hqk
        obtain ⟨q1, eq1⟩ : ∃ q1, q1 = pushL R q x := ⟨_, rfl⟩
        rw [← eq1] at hO4 hq1
        clear eq1
        obtain ⟨ro, rc, rA, hrA, _⟩ := hO4.r2
        have hS := hrA.c0
        have hIS := hrA.is
        have hlh := hrA.lh
        have ht100 : q1.take 100 = q1 := List.take_of_length_le (by omega)
        clear hrA
        go_wp2_with fail
        have hOd := hO4.drewN 1
        have hISd : IS w4.drew w4.drew.heap.size rA q1 := hIS
        go_region_held3 (fun w' => w'.cell? ⟨h, 0, none⟩ = some (.slice rA q1.length rc)) (go_keep) (first
          | (go_at_call 17; refine (len_line g gb4 R q1 _ hOd.r1).mono ?_; rintro e w7 ⟨rfl, rfl⟩)
          | (go_at_call 19; refine (all_any g gb4 R 100 q1 _ hOd.r1 (by omega)).mono ?_; rw [ht100]; rintro e w7 ⟨A7, n7, c7, rfl, hn7, hc7, hI7, hB7⟩; have hO7 := hOd.on hB7; subst hn7; have hx7 : w7.cell? ⟨h, 0, none⟩ = some (.slice rA q1.length rc) := ((hB7.cell (p := ⟨h, 0, none⟩) hlh).trans hS); have hIS7 := ((hISd.below hB7).more hB7.size))
          | (go_at_call 18; refine (ints_same A7 rA _ c7 _ rc q1 q1 _ rfl rfl hI7 hIS7 (by omega) rfl).mono ?_; rintro e w8 ⟨rfl, hB8⟩; have hO8 := hO7.on hB8; have hx8 : w8.cell? ⟨h, 0, none⟩ = some (.slice rA q1.length rc) := ((hB8.cell (p := ⟨h, 0, none⟩) (Nat.lt_of_lt_of_le hlh hB7.size)).trans hx7)))
        go_wp2_with fail
        go_roundw
        case rel => exact ⟨k + 1, gb4, hb4, q1, by omega, by go_num, by omega, hO8⟩
        case measure => simp [intOf]; omega
    · obtain rfl : k = l.length := by omega
      have hk1 : ¬ (l.length : Int) < (l.length : Int) := by omega
      go_wp2_with fail
      go_ret
      exact ⟨rfl, hO2.below⟩
theorem plays_any (room : Int) (A : Option Addr) (n c : Nat) (l : List Int) (w : World) (hn : l.length = n) (_hc : n ≤ c) (hI : IS w w.heap.size A l) :
    Calls Try.prog 3 #[.int .i64 room, .slice A n c] w (fun e w' => e = .returned (.bool true) ∧ Below w.heap.size w w') := by
  subst hn
  by_cases hl : 80 < l.length
  · exact plays_long room A _ c w hl
  · exact plays_go room A c l w (by omega) hI
end Go.Proofs.Ytjngmfeogmjneaa
