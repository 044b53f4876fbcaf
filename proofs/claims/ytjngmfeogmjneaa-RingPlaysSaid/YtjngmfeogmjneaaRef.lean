/- What the document's own New, Push and Pop tell and leave. -/
import Derived.Test.YtjngmfeogmjneaaRoom
import Derived.Deep.AppendLies
import Derived.ArgAppend
namespace Go.Proofs.Ytjngmfeogmjneaa
open Go.RowKit
attribute [local go_sem ↓] Go.wp_at_zero Go.wp_at_succ

/-- the document's own ring in block h: a window of c places from off on in block bl -/
structure RefAt (w : World) (h bl off c room : Nat) (A : Option Addr) (L : List Int) : Prop where
  lh : h < w.heap.size
  c0 : w.cell? ⟨h, 0, none⟩ = some (.slice A L.length c)
  c1 : w.cell? ⟨h, 1, none⟩ = some (.int .i64 room)
  fh : ∀ j, w.frozen? ⟨h, j, none⟩ = false
  nc : L.length ≤ c
  nn : A = none → c = 0
  pl : A ≠ none → A = some ⟨bl, off, none⟩ ∧ bl < w.heap.size ∧ bl ≠ h ∧ (∀ j, w.frozen? ⟨bl, j, none⟩ = false) ∧ ∀ j, j < c → ∃ v, w.cell? ⟨bl, off + j, none⟩ = some v
  ic : ∀ (k : Nat) x, L[k]? = some x → w.cell? ⟨bl, off + k, none⟩ = some (.int .i64 x)
def Ref (w : World) (h bl room : Nat) (L : List Int) : Prop := ∃ off c A, RefAt w h bl off c room A L ∧ (A = none → bl = h)
def TurnsR (w : World) (h bl room : Nat) (L : List Int) (w' : World) : Prop := ∃ bl', Ref w' h bl' room L ∧ Sp h bl w w' ∧ (bl' = bl ∨ w.heap.size ≤ bl')

theorem RefAt.nil {w : World} {h bl off c room : Nat} {A : Option Addr} {L : List Int} (r : RefAt w h bl off c room A L) (hA : A = none) : L = [] :=
  List.eq_nil_of_length_eq_zero (by have := r.nn hA; have := r.nc; omega)
theorem RefAt.of_blocks {w w' : World} {h bl off c room : Nat} {A : Option Addr} {L : List Int} (r : RefAt w h bl off c room A L)
    (hz : w.heap.size ≤ w'.heap.size) (h1 : w'.heap[h]? = w.heap[h]?) (h2 : A ≠ none → w'.heap[bl]? = w.heap[bl]?) : RefAt w' h bl off c room A L := by
  have e1 : ∀ j, w'.cell? ⟨h, j, none⟩ = w.cell? ⟨h, j, none⟩ := fun j => World.cell?_of_block (w := w) h1
  have e2 : A ≠ none → ∀ j, w'.cell? ⟨bl, j, none⟩ = w.cell? ⟨bl, j, none⟩ := fun hn j => World.cell?_of_block (w := w) (h2 hn)
  refine ⟨Nat.lt_of_lt_of_le r.lh hz, (e1 0).trans r.c0, (e1 1).trans r.c1, fun j => (World.frozen?_of_block (w := w) (a := ⟨h, j, none⟩) h1).trans (r.fh j), r.nc, r.nn, fun hn => ?_, fun k x hk => ?_⟩
  · obtain ⟨a, b, d, e, f⟩ := r.pl hn
    exact ⟨a, Nat.lt_of_lt_of_le b hz, d, fun j => (World.frozen?_of_block (w := w) (a := ⟨bl, j, none⟩) (h2 hn)).trans (e j), fun j hj => by rw [e2 hn]; exact f j hj⟩
  · rw [e2 (fun hA => by rw [r.nil hA] at hk; simp at hk)]
    exact r.ic k x hk
theorem Ref.lt {w : World} {h bl room : Nat} {L : List Int} (r : Ref w h bl room L) : h < w.heap.size ∧ bl < w.heap.size := by
  obtain ⟨off, c, A, r, e⟩ := r
  refine ⟨r.lh, ?_⟩
  by_cases hA : A = none
  · rw [e hA]; exact r.lh
  · exact (r.pl hA).2.1
theorem Ref.of_blocks {w w' : World} {h bl room : Nat} {L : List Int} (r : Ref w h bl room L) (hz : w.heap.size ≤ w'.heap.size) (h1 : w'.heap[h]? = w.heap[h]?) (h2 : w'.heap[bl]? = w.heap[bl]?) : Ref w' h bl room L := by
  obtain ⟨off, c, A, r, e⟩ := r
  exact ⟨off, c, A, r.of_blocks hz h1 fun _ => h2, e⟩
theorem Ref.on {w w' : World} {h bl room : Nat} {L : List Int} (r : Ref w h bl room L) (hb : Below w.heap.size w w') : Ref w' h bl room L := r.of_blocks hb.size (hb.block _ r.lt.1) (hb.block _ r.lt.2)
theorem Ref.sp {w w' : World} {h bl room g2 gb2 : Nat} {L : List Int} (r : Ref w h bl room L) (hs : Sp g2 gb2 w w') (h1 : h ≠ g2) (h2 : h ≠ gb2) (h3 : bl ≠ g2) (h4 : bl ≠ gb2) : Ref w' h bl room L :=
  r.of_blocks hs.size (hs.block _ r.lt.1 h1 h2) (hs.block _ r.lt.2 h3 h4)
theorem Ref.drewN {w : World} {h bl room : Nat} {L : List Int} (r : Ref w h bl room L) (q : Nat) : Ref (w.drewN q) h bl room L := r.of_blocks (Nat.le_refl _) rfl rfl
theorem Ref.same {w : World} {h bl room : Nat} {L : List Int} (r : Ref w h bl room L) (q : Nat) : TurnsR w h bl room L (w.drewN q) := ⟨bl, r.drewN q, (Sp.refl _ _ _).drewN q, .inl rfl⟩

theorem ref_box (w : World) (room : Nat) (T : TypeId) : RefAt (w.alloc (.cells #[.slice none 0 0, .int .i64 room] T)) w.heap.size w.heap.size 0 0 room none [] := by
  have hb : (w.alloc (.cells #[.slice none 0 0, .int .i64 room] T)).heap[w.heap.size]? = some (.cells #[.slice none 0 0, .int .i64 room] T (0, 0)) := heap_alloc_new w _
  exact ⟨(Array.getElem?_eq_some_iff.1 hb).1, cell_of_row _ _ 0 _ T (0, 0) hb, cell_of_row _ _ 1 _ T (0, 0) hb, fun j => frozen_row hb j, Nat.le_refl _, fun _ => rfl, fun h => absurd rfl h, fun k x h => by simp at h⟩
theorem refNew_any (r : Int) (w : World) :
    Calls Try.prog 11 #[.int .i64 r] w (fun e w' => ∃ h, e = .returned (.pointer (some ⟨h, 0, none⟩)) ∧ w.heap.size ≤ h ∧ Ref w' h h (roomN r) [] ∧ Below w.heap.size w w') := by
  have hB : ∀ o, Below w.heap.size w (w.alloc o) := fun o => (Below.refl _ _).alloc (Nat.le_refl _) _
  by_cases h1 : r < 0
  · have hr : roomN r = 0 := by unfold roomN; omega
    have hR := ref_box w 0 30
    rw [hr]
    clear hr
    go_enter Try.func11, Try.ntmps11
    go_wp2
    go_ret
    exact ⟨_, rfl, Nat.le_refl _, ⟨0, 0, none, hR, fun _ => rfl⟩, hB _⟩
  by_cases h2 : 1000000 < r
  · have hr : roomN r = 1000000 := by unfold roomN; omega
    have hR := ref_box w 1000000 30
    rw [hr]
    clear hr
    go_enter Try.func11, Try.ntmps11
    go_wp2
    go_ret
    exact ⟨_, rfl, Nat.le_refl _, ⟨0, 0, none, hR, fun _ => rfl⟩, hB _⟩
  · obtain ⟨n, rfl⟩ := Int.eq_ofNat_of_zero_le (show 0 ≤ r by omega)
    have hr : roomN (n : Int) = n := by unfold roomN; omega
    have hR := ref_box w n 30
    rw [hr]
    clear hr
    go_enter Try.func11, Try.ntmps11
    go_wp2
    go_ret
    exact ⟨_, rfl, Nat.le_refl _, ⟨0, 0, none, hR, fun _ => rfl⟩, hB _⟩

/-- the window moves on by one place -/
theorem RefAt.moved {w : World} {h bl off c room : Nat} {x : Int} {L : List Int} (r : RefAt w h bl off c room (some ⟨bl, off, none⟩) (x :: L)) :
    (c = 1 → RefAt (w.setCell ⟨h, 0, none⟩ (.slice (some ⟨bl, off, none⟩) L.length 0)) h bl off 0 room (some ⟨bl, off, none⟩) L) ∧
    RefAt (w.setCell ⟨h, 0, none⟩ (.slice (some ⟨bl, off + 1, none⟩) L.length (c - 1))) h bl (off + 1) (c - 1) room (some ⟨bl, off + 1, none⟩) L := by
  obtain ⟨_, hb, hne, hz, hh⟩ := r.pl (by simp)
  have hn := r.nc
  simp at hn
  have e1 : ∀ v, (w.setCell ⟨h, 0, none⟩ v).cell? ⟨h, 0, none⟩ = some v := fun v => World.cell?_setCell_same' _ _ _ (by rw [r.c0]; rfl)
  have e2 : ∀ v, (w.setCell ⟨h, 0, none⟩ v).cell? ⟨h, 1, none⟩ = some (.int .i64 room) := fun v => (World.cell?_setCell_other _ _ _ _ (by intro e; injection e with _ e; cases e)).trans r.c1
  have e3 : ∀ j v, (w.setCell ⟨h, 0, none⟩ v).cell? ⟨bl, j, none⟩ = w.cell? ⟨bl, j, none⟩ := fun j v => World.cell?_setCell_other _ _ _ _ (by intro e; injection e with e _; exact hne e.symm)
  refine ⟨fun hc => ?_, ?_⟩
  · have hL : L.length = 0 := by omega
    refine ⟨by simpa [World.setCell] using r.lh, e1 _, e2 _, fun j => by simpa using r.fh j, by omega, fun h => by simp at h, fun _ => ⟨rfl, by simpa [World.setCell] using hb, hne, fun j => by simpa using hz j, fun j hj => by omega⟩, fun k x hk => ?_⟩
    have := (List.getElem?_eq_some_iff.1 hk).1
    omega
  · refine ⟨by simpa [World.setCell] using r.lh, e1 _, e2 _, fun j => by simpa using r.fh j, by omega, fun h => by simp at h, fun _ => ⟨rfl, by simpa [World.setCell] using hb, hne, fun j => by simpa using hz j, fun j hj => ?_⟩, fun k x hk => ?_⟩
    · rw [e3, Nat.add_assoc]; exact hh (1 + j) (by omega)
    · rw [e3, Nat.add_assoc, Nat.add_comm 1 k]; exact r.ic (k + 1) x hk
theorem refPop_none (h bl room : Nat) (w : World) (r : Ref w h bl room []) :
    Calls Try.prog 14 #[.pointer (some ⟨h, 0, none⟩)] w (fun e w' => e = .returned (.tuple #[.int .i64 0, .bool false]) ∧ w' = w) := by
  obtain ⟨off, c, A, r, _⟩ := r
  have h0 := r.c0
  go_enter Try.func14, Try.ntmps14
  go_wp2
  go_ret2
  exact ⟨rfl, rfl⟩
set_option maxHeartbeats 400000 in
theorem refPop_some (h bl room : Nat) (x : Int) (L : List Int) (w : World) (r : Ref w h bl room (x :: L)) :
    Calls Try.prog 14 #[.pointer (some ⟨h, 0, none⟩)] w (fun e w' => e = .returned (.tuple #[.int .i64 x, .bool true]) ∧ TurnsR w h bl room L w') := by
  obtain ⟨off, c, A, r, _⟩ := r
  obtain ⟨rfl, hb, hne, hz, hh⟩ := r.pl (fun hA => by have := r.nil hA; cases this)
  have h0 := r.c0
  have hx := r.ic 0 x rfl
  have hf := r.fh 0
  have hn := r.nc
  rw [List.length_cons] at h0 hn
  rw [Nat.add_zero] at hx
  have hs := (Sp.refl h bl w)
  by_cases hc : c = 1
  · have hm := r.moved.1 hc
    subst hc
    obtain rfl : L = [] := List.eq_nil_of_length_eq_zero (by omega)
    go_enter Try.func14, Try.ntmps14
    go_wp2
    go_ret2
    exact ⟨rfl, bl, ⟨_, _, _, hm, fun hA => by simp at hA⟩, hs.set1 _ _, .inl rfl⟩
  · have hm := r.moved.2
    have hc2 : ((1 : Int) == (c : Int)) = false := by simp; omega
    have hc3 : (1 == c) = false := by simp; omega
    go_enter Try.func14, Try.ntmps14
    go_wp2
    go_ret2
    exact ⟨rfl, bl, ⟨_, _, _, hm, fun hA => by simp at hA⟩, hs.set1 _ _, .inl rfl⟩

/-- a place written behind the window's last one -/
theorem RefAt.put {w : World} {h bl off c room : Nat} {L : List Int} (r : RefAt w h bl off c room (some ⟨bl, off, none⟩) L) (hl : L.length < c) (x : Int) (o : Obj) :
    RefAt (((w.alloc o).setCell ⟨bl, off + L.length, none⟩ (.int .i64 x)).setCell ⟨h, 0, none⟩ (.slice (some ⟨bl, off, none⟩) (L.length + 1) c)) h bl off c room (some ⟨bl, off, none⟩) (L ++ [x]) := by
  replace r := r.of_blocks (w' := w.alloc o) (by simp) (Below.heap_alloc _ _ _ r.lh) (fun hn => Below.heap_alloc _ _ _ (r.pl hn).2.1)
  obtain ⟨W, eW⟩ : ∃ W, W = w.alloc o := ⟨_, rfl⟩
  rw [← eW] at r ⊢
  clear eW
  obtain ⟨_, hb, hne, hz, hh⟩ := r.pl (by simp)
  have e0 : ∀ j, (W.setCell ⟨bl, off + L.length, none⟩ (.int .i64 x)).cell? ⟨h, j, none⟩ = W.cell? ⟨h, j, none⟩ := fun j => World.cell?_setCell_other _ _ _ _ (by intro e; injection e with e _; exact hne e)
  have e3 : ∀ j v, ((W.setCell ⟨bl, off + L.length, none⟩ (.int .i64 x)).setCell ⟨h, 0, none⟩ v).cell? ⟨bl, j, none⟩ = (W.setCell ⟨bl, off + L.length, none⟩ (.int .i64 x)).cell? ⟨bl, j, none⟩ := fun j v => World.cell?_setCell_other _ _ _ _ (by intro e; injection e with e _; exact hne e.symm)
  obtain ⟨v0, hv0⟩ := hh L.length hl
  have e4 : (W.setCell ⟨bl, off + L.length, none⟩ (.int .i64 x)).cell? ⟨bl, off + L.length, none⟩ = some (.int .i64 x) := World.cell?_setCell_same' _ _ _ (by rw [hv0]; rfl)
  have e5 : ∀ j, j ≠ off + L.length → (W.setCell ⟨bl, off + L.length, none⟩ (.int .i64 x)).cell? ⟨bl, j, none⟩ = W.cell? ⟨bl, j, none⟩ := fun j hj => World.cell?_setCell_other _ _ _ _ (by intro e'; injection e' with _ e'; exact hj e'.symm)
  refine ⟨by simpa [World.setCell] using r.lh, ?_, ?_, fun j => by simpa using r.fh j, by simp; omega, fun h => by simp at h, fun _ => ⟨rfl, by simpa [World.setCell] using hb, hne, fun j => by simpa using hz j, fun j hj => ?_⟩, fun k y hk => ?_⟩
  · rw [List.length_append]
    exact World.cell?_setCell_same' _ _ _ (by rw [e0, r.c0]; rfl)
  · rw [World.cell?_setCell_other _ _ _ _ (by intro e; injection e with _ e; cases e), e0]; exact r.c1
  · rw [e3]
    by_cases e : j = L.length
    · subst e; exact ⟨_, e4⟩
    · rw [e5 _ (by omega)]; exact hh j hj
  · rw [e3]
    have hkl := (List.getElem?_eq_some_iff.1 hk).1
    simp at hkl
    by_cases e : k = L.length
    · subst e
      rw [List.getElem?_append_right (Nat.le_refl _)] at hk
      simp at hk
      subst hk
      exact e4
    · rw [List.getElem?_append_left (by omega)] at hk
      rw [e5 _ (by omega)]
      exact r.ic k y hk
/-- a wider row instead -/
theorem RefAt.grown {w w4 : World} {h bl off c room : Nat} {A : Option Addr} {L : List Int} {x : Int} {B : Nat} {v : Value} (r : RefAt w h bl off c room A L) (hB : w.heap.size ≤ B)
    (hown : w4.ownsRow B 3 1 v (L.length + 1) (L.map vI ++ [vI x])) (hg : w4.heap[h]? = w.heap[h]?) (hz : w.heap.size ≤ w4.heap.size) :
    ∃ G cap, v = .slice (some ⟨G, 0, none⟩) (L.length + 1) cap ∧ w.heap.size ≤ G ∧ RefAt (w4.setCell ⟨h, 0, none⟩ v) h G 0 cap room (some ⟨G, 0, none⟩) (L ++ [x]) := by
  rcases hown.2 with ⟨_, h0⟩ | ⟨G, cap, cur, rfl, hG, hb, hcap, _, hcs, _⟩
  · omega
  have hlt := r.lh
  have hGh : G ≠ h := by omega
  have e1 : ∀ j, w4.cell? ⟨h, j, none⟩ = w.cell? ⟨h, j, none⟩ := fun j => World.cell?_of_block (w := w) hg
  have e3 : ∀ j v, (w4.setCell ⟨h, 0, none⟩ v).cell? ⟨G, j, none⟩ = w4.cell? ⟨G, j, none⟩ := fun j v => World.cell?_setCell_other _ _ _ _ (by intro e; injection e with e _; exact hGh e.symm)
  refine ⟨G, cap, rfl, by omega, ?_⟩
  refine ⟨by simp [World.setCell]; omega, ?_, ?_, fun j => ?_, by simp; omega, fun h => by simp at h, fun _ => ⟨rfl, ?_, hGh, fun j => ?_, fun j hj => ?_⟩, fun k y hk => ?_⟩
  · rw [List.length_append]
    exact World.cell?_setCell_same' _ _ _ (by rw [e1, r.c0]; rfl)
  · rw [World.cell?_setCell_other _ _ _ _ (by intro e; injection e with _ e; cases e), e1]; exact r.c1
  · have := (World.frozen?_of_block (w := w) (w' := w4) (a := ⟨h, j, none⟩) hg).trans (r.fh j)
    simpa using this
  · have := (Array.getElem?_eq_some_iff.1 hb).1
    simpa [World.setCell] using this
  · have := frozen_row hb j
    simpa using this
  · rw [e3, Nat.zero_add, cell_of_row w4 G j cur 3 (0, 0) hb]
    rw [Nat.mul_one] at hcs
    exact ⟨cur[j]'(by omega), by simp⟩
  · rw [e3]
    have := hown.cells (g := G) rfl k (vI y) (by rw [← List.map_singleton, ← List.map_append, List.getElem?_map, hk]; rfl)
    have ha : (⟨G, 0, none⟩ : Addr).add k = ⟨G, 0 + k, none⟩ := by unfold Addr.add; split <;> simp_all
    rw [ha] at this
    exact this
set_option maxHeartbeats 400000 in
theorem refPush_full (h bl room : Nat) (x : Int) (L : List Int) (w : World) (r : Ref w h bl room L) (hl : room ≤ L.length) :
    Calls Try.prog 16 #[.pointer (some ⟨h, 0, none⟩), .int .i64 x] w (fun e w' => e = .returned (.bool false) ∧ ∃ q, w' = w.drewN q) := by
  obtain ⟨off, c, A, r, _⟩ := r
  have h0 := r.c0
  have h1 := r.c1
  have hl2 : (room : Int) ≤ (L.length : Int) := by omega
  go_enter Try.func16, Try.ntmps16
  go_wp2
  go_quiet (fail)
  go_wp2
  go_ret
  exact ⟨rfl, _, rfl⟩
set_option maxRecDepth 100000 in
set_option maxHeartbeats 1000000 in
theorem refPush_room (h bl room : Nat) (x : Int) (L : List Int) (w : World) (r : Ref w h bl room L) (hl : L.length < room) (h80 : L.length ≤ 1000000) :
    Calls Try.prog 16 #[.pointer (some ⟨h, 0, none⟩), .int .i64 x] w (fun e w' => e = .returned (.bool true) ∧ TurnsR w h bl room (L ++ [x]) w') := by
  obtain ⟨i0, hi, hz0, hz1, hz2⟩ := info_parts infoI2
  obtain ⟨off, c, A, r, hA⟩ := r
  have h0 := r.c0
  have h1 := r.c1
  have hl2 : ¬ (room : Int) ≤ (L.length : Int) := by omega
  go_enter Try.func16, Try.ntmps16
  go_wp2
  go_quiet (fail)
  have r2 := r.of_blocks (w' := w.drewN nq) (Nat.le_refl _) rfl (fun _ => rfl)
  have hs := (Sp.refl h bl w).drewN nq
  obtain ⟨W, eW⟩ : ∃ W, W = w.drewN nq := ⟨_, rfl⟩
  have HWz := Lib.hid (show W.heap.size = w.heap.size by rw [eW]; rfl)
  rw [← eW] at r2 hs ⊢
  clear eW h0 h1 r
  have h0 := r2.c0
  have hf := r2.fh 0
  have hlh := r2.lh
  cases A with
  | none =>
    obtain rfl := r2.nil rfl
    have hc := r2.nn rfl
    subst hc
    go_wp2_with (first
      | (at_builtin; refine wpList_append_lies _ rfl _ _ 22 rfl W.heap.size 3 i0 (.int .i64 0) 1 8 Try.underlying22 hi hz0 hz1 hz2 rfl (by decide) _ _ _ rfl (World.ownsRow_nil _ _ _ _) ⟨W.heap.size, 0, none⟩ 1 1 [vI x] rfl rfl ?c1 ?c2 (by decide) ?c3 ?c4 ?c5 _ (World.size_alloc _ _) ?_))
    case c2 => simp [Value.oneCell']
    case c3 => unfold maxLen; omega
    intro G cap w4 hown hgrow hx1 hx2
    clear hx1 hx2
    have hB4 : Below W.heap.size W w4 := ((Below.refl _ W).alloc (Nat.le_refl _) _).grown hgrow (by simp) (fun j e => by simp [Value.ownBlock] at e)
    have hg := hB4.block h hlh
    obtain ⟨G', cap', ev, hG, hm⟩ := r2.grown (Nat.le_refl _) hown hg hB4.size
    injection ev with e1 e2 e3
    injection e1 with e1
    injection e1 with e1 e4 e5
    clear e2 e4 e5
    subst e1 e3
    have d0 := (World.cell?_of_block (w := W) (w' := w4) (a := ⟨h, 0, none⟩) hg).trans h0
    have df := (World.frozen?_of_block (w := W) (w' := w4) (a := ⟨h, 0, none⟩) hg).trans hf
    have hs4 := hs.trans (.of_below hB4)
    clear hown hgrow hB4 hg r2 h0 hf hs hl2 hl h80 hA
    have Hm := Lib.hid hm
    have HG := Lib.hid hG
    have Hs4 := Lib.hid hs4
    clear hm hG hs4
    go_wp2_with fail
    go_ret
    exact ⟨rfl, G, ⟨0, cap, _, Hm.out, fun hA => by simp at hA⟩, Hs4.out.set1 _ _, .inr (by have := HWz.out; have := HG.out; omega)⟩
  | some ad =>
    obtain ⟨e, hb, hne, hz, hh⟩ := r2.pl (by simp)
    injection e with e
    subst e
    have rW := r2.of_blocks (w' := W.alloc (.cells #[vI x] 3)) (by simp) (Below.heap_alloc _ _ _ hlh) (fun _ => Below.heap_alloc _ _ _ hb)
    have hnc := r2.nc
    go_wp2_with (first
      | (at_builtin; refine wpList_append_arg _ rfl _ _ 22 rfl 3 i0 (.int .i64 0) 1 8 Try.underlying22 hi hz0 hz1 hz2 rfl (by decide) bl off L.length c (L.map vI) rfl ?lo ?olds ⟨W.heap.size, 0, none⟩ 1 1 [vI x] rfl rfl ?c1 ?c2 ?spare ?ml ?by8 ?room ?grow))
    case lo => simp
    case olds =>
      intro j u hu
      rw [List.getElem?_map] at hu
      cases hj : L[j]? with
      | none => rw [hj] at hu; cases hu
      | some y =>
        rw [hj] at hu
        injection hu with hu
        subst hu
        exact rW.ic j y hj
    case c2 => simp [Value.oneCell']
    case spare =>
      intro hr j hj
      obtain rfl : j = 0 := by simpa using hj
      obtain ⟨_, _, _, hz2, hh2⟩ := rW.pl (by simp)
      obtain ⟨v, hv⟩ := hh2 L.length (by omega)
      rw [Nat.mul_one, Nat.add_zero]
      exact ⟨by rw [hv]; rfl, hz2 _⟩
    case ml => unfold maxLen; omega
    case by8 => omega
    case room =>
      intro hr
      have hm := r2.put (by omega) x (.cells #[vI x] 3)
      simp only [World.setCells]
      have d0 : ((W.alloc (.cells #[vI x] 3)).setCell ⟨bl, off + L.length, none⟩ (vI x)).cell? ⟨h, 0, none⟩ = some (.slice (some ⟨bl, off, none⟩) L.length c) :=
        (World.cell?_setCell_other _ _ _ _ (by intro e; injection e with e _; exact hne e)).trans rW.c0
      have df : ((W.alloc (.cells #[vI x] 3)).setCell ⟨bl, off + L.length, none⟩ (vI x)).frozen? ⟨h, 0, none⟩ = false := by simpa using rW.fh 0
      have hs4 := (hs.alloc (.cells #[vI x] 3)).set2 (off + L.length) (vI x)
      clear rW r2 h0 hf hs
      obtain ⟨W4, eW4⟩ : ∃ W4, W4 = (W.alloc (.cells #[vI x] 3)).setCell ⟨bl, off + L.length, none⟩ (vI x) := ⟨_, rfl⟩
      rw [← eW4] at hm d0 df hs4 ⊢
      clear eW4
      go_wp2_with fail
      go_ret
      exact ⟨rfl, bl, ⟨off, c, _, hm, fun hA => by simp at hA⟩, hs4.set1 _ _, .inl rfl⟩
    case grow =>
      intro hr v' w4 hown hgrow
      have hB4 : Below W.heap.size W w4 := ((Below.refl _ W).alloc (Nat.le_refl _) _).grown hgrow (by simp) (fun j e => by cases e)
      have hg := hB4.block h hlh
      obtain ⟨G, cap, rfl, hG, hm⟩ := r2.grown (Nat.le_succ _) hown hg hB4.size
      have d0 := (World.cell?_of_block (w := W) (w' := w4) (a := ⟨h, 0, none⟩) hg).trans h0
      have df := (World.frozen?_of_block (w := W) (w' := w4) (a := ⟨h, 0, none⟩) hg).trans hf
      have hs4 := hs.trans (.of_below hB4)
      clear hown hgrow hB4 hg rW r2 h0 hf hs
      go_wp2_with fail
      go_ret
      exact ⟨rfl, G, ⟨0, cap, _, hm, fun hA => by simp at hA⟩, hs4.set1 _ _, .inr (by have := HWz.out; omega)⟩
theorem refPush_any (h bl room : Nat) (x : Int) (L : List Int) (w : World) (r : Ref w h bl room L) (hL : L.length ≤ room) (hr : room ≤ 1000000) :
    Calls Try.prog 16 #[.pointer (some ⟨h, 0, none⟩), .int .i64 x] w (fun e w' => e = .returned (.bool (decide (L.length < room))) ∧ TurnsR w h bl room (pushL room L x) w') := by
  by_cases hl : L.length < room
  · rw [pushL_room hl, decide_eq_true hl]
    exact refPush_room h bl room x L w r hl (by omega)
  · rw [pushL_full hl, decide_eq_false hl]
    refine (refPush_full h bl room x L w r (by omega)).mono ?_
    rintro e w' ⟨rfl, q, rfl⟩
    exact ⟨rfl, r.same q⟩
theorem refPop_any (h bl room : Nat) (L : List Int) (w : World) (r : Ref w h bl room L) :
    Calls Try.prog 14 #[.pointer (some ⟨h, 0, none⟩)] w (fun e w' => e = .returned (.tuple #[.int .i64 (L.headD 0), .bool (!L.isEmpty)]) ∧ TurnsR w h bl room L.tail w') := by
  cases L with
  | nil =>
    refine (refPop_none h bl room w r).mono ?_
    rintro e w' ⟨rfl, rfl⟩
    exact ⟨rfl, r.same 0⟩
  | cons x L => exact refPop_some h bl room x L w r
end Go.Proofs.Ytjngmfeogmjneaa
