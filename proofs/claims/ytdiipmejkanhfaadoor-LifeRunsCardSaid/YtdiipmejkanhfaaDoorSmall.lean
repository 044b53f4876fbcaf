/- The program's small functions on a change; nothing that was there changes. -/
import Derived.Test.YtdiipmejkanhfaaDoorRightW
import Derived.Deep.QuietTactic
import Derived.BigQuiet
namespace Go.Proofs.YtdiipmejkanhfaaDoor
open Go.RowKit
attribute [local go_sem ↓] Go.wp_at_zero Go.wp_at_succ

/-- what becomes of a slot -/
def Sl.becm (s : Sl) (a z : Int) : Sl := ⟨z, a, s.sr, s.br, false, s.us, s.ge, s.ep, s.ve⟩
def Sl.bare (s : Sl) (z : Int) : Sl := ⟨z, 0, 0, false, false, 0, s.ge, 0, 0⟩
def Sl.limb (s : Sl) (mo : Int) : Sl := ⟨6, 0, 0, false, false, 0, s.ge, mo, 0⟩
def nge (n : Int) : Int := (n + 1) % 4096
def nve (n : Int) : Int := (n + 1) % 32768
def nus (n : Int) : Int := if n + 1 ≤ 63 then n + 1 else 63
theorem nus_le {n : Int} (h : n + 1 ≤ 63) : n + 1 = nus n := by simp [nus, h]
theorem nus_gt {n : Int} (h : ¬ n + 1 ≤ 63) : 63 = nus n := by simp [nus, h]
def Sl.leas (s : Sl) (a : Int) : Sl := ⟨3, a, s.sr, s.br, false, nus s.us, nge s.ge, s.ep, s.ve⟩
def minB (s : Sl) (a z : Int) : Bool := s.st == z && s.ow == a
def souB (s : Sl) : Bool := s.st == 2 && !s.br
def epoB (mo : Int) : Bool := decide (0 ≤ mo) && decide (mo ≤ 4095)
theorem new2 (w : World) (o : Obj) (t : TypeId) (vs : Array Value) : RowAt ((w.alloc o).alloc (.cells vs t)) (w.heap.size + 1) t vs := by
  have h := RowAt.new (w.alloc o) t vs
  simpa using h
/-- a slot that is a function's only result, in its second box -/
theorem ret_slot {fn : Func} {p : Tmp} (h : fn.results = #[.cell p 23]) (tmps : Array Value) (W : World) (b : Nat) (vs : Array Value) (hp : tmps.getD p undef = .pointer (some ⟨b, 0, none⟩)) (r : RowAt W b 23 vs) (hs : vs.size = 9) :
    (results fn tmps).run Tryd.prog W = .ok (.agg vs) W :=
  results_cell_row (p := p) (ty := 23) h _ _ b 23 _ (0, 0) _ hp r Tryd.underlying23 rfl (by rw [hs]; kernel_rfl)

theorem afterV (n : Int) (w : World) (h0 : 0 ≤ n) (h1 : n ≤ 32767) :
    Calls Tryd.prog 15 #[.int .i64 n, .int .i64 32767] w fun e w' => e = .returned (.int .i64 (nve n)) ∧ w = w' := by
  go_enter Tryd.func15, Tryd.ntmps15
  go_wp2
  go_ret
  exact ⟨rfl, rfl⟩
theorem afterG (n : Int) (w : World) (h0 : 0 ≤ n) (h1 : n ≤ 4095) :
    Calls Tryd.prog 15 #[.int .i64 n, .int .i64 4095] w fun e w' => e = .returned (.int .i64 (nge n)) ∧ w = w' := by
  go_enter Tryd.func15, Tryd.ntmps15
  go_wp2
  go_ret
  exact ⟨rfl, rfl⟩
theorem mine_any (s : Sl) (a mo z : Int) (w : World) :
    Calls Tryd.prog 48 #[Value.agg #[Value.int .i64 s.st, Value.int .i64 s.ow, Value.int .i64 s.sr, Value.bool s.br, Value.bool s.ma, Value.int .i64 s.us, Value.int .i64 s.ge, Value.int .i64 s.ep, Value.int .i64 s.ve, Value.int .i64 a, Value.int .i64 mo], .int .i64 z] w fun e w' => e = .returned (.bool (minB s a z)) ∧ Below w.heap.size w w' := by
  go_enter Tryd.func48, Tryd.ntmps48
  go_wp2
  all_goals go_ret
  all_goals exact ⟨ret_bool (by simp [minB, *]), (Below.refl _ _).alloc (Nat.le_refl _) _⟩
theorem sound_any (s : Sl) (a mo : Int) (w : World) :
    Calls Tryd.prog 50 #[Value.agg #[Value.int .i64 s.st, Value.int .i64 s.ow, Value.int .i64 s.sr, Value.bool s.br, Value.bool s.ma, Value.int .i64 s.us, Value.int .i64 s.ge, Value.int .i64 s.ep, Value.int .i64 s.ve, Value.int .i64 a, Value.int .i64 mo]] w fun e w' => e = .returned (.bool (souB s)) ∧ Below w.heap.size w w' := by
  go_enter Tryd.func50, Tryd.ntmps50
  cases hb : s.br
  all_goals go_wp2
  all_goals go_ret
  all_goals exact ⟨ret_bool (by simp [souB, *]), (Below.refl _ _).alloc (Nat.le_refl _) _⟩
theorem epoch_any (s : Sl) (a mo : Int) (w : World) :
    Calls Tryd.prog 52 #[Value.agg #[Value.int .i64 s.st, Value.int .i64 s.ow, Value.int .i64 s.sr, Value.bool s.br, Value.bool s.ma, Value.int .i64 s.us, Value.int .i64 s.ge, Value.int .i64 s.ep, Value.int .i64 s.ve, Value.int .i64 a, Value.int .i64 mo]] w fun e w' => e = .returned (.bool (epoB mo)) ∧ Below w.heap.size w w' := by
  go_enter Tryd.func52, Tryd.ntmps52
  go_wp2
  all_goals go_ret
  all_goals exact ⟨ret_bool (by first | (simp [epoB, *]; done) | (simp [epoB, *]; omega)), (Below.refl _ _).alloc (Nat.le_refl _) _⟩
set_option maxHeartbeats 800000 in
theorem become_any (s : Sl) (a mo z : Int) (w : World) :
    Calls Tryd.prog 46 #[Value.agg #[Value.int .i64 s.st, Value.int .i64 s.ow, Value.int .i64 s.sr, Value.bool s.br, Value.bool s.ma, Value.int .i64 s.us, Value.int .i64 s.ge, Value.int .i64 s.ep, Value.int .i64 s.ve, Value.int .i64 a, Value.int .i64 mo], .int .i64 z] w fun e w' => e = .returned (.agg #[Value.int .i64 (s.becm a z).st, Value.int .i64 (s.becm a z).ow, Value.int .i64 (s.becm a z).sr, Value.bool (s.becm a z).br, Value.bool (s.becm a z).ma, Value.int .i64 (s.becm a z).us, Value.int .i64 (s.becm a z).ge, Value.int .i64 (s.becm a z).ep, Value.int .i64 (s.becm a z).ve]) ∧ Below w.heap.size w w' := by
  go_enter Tryd.func46, Tryd.ntmps46
  go_wp2
  refine bodyPost_ret (ret_slot (p := 4) rfl _ _ _ _ rfl (new2 _ _ _ _) rfl) rfl ⟨rfl, ((Below.refl _ _).alloc (Nat.le_refl _) _).alloc (by simp) _⟩
set_option maxHeartbeats 800000 in
theorem bare_any (s : Sl) (a mo z : Int) (w : World) :
    Calls Tryd.prog 49 #[Value.agg #[Value.int .i64 s.st, Value.int .i64 s.ow, Value.int .i64 s.sr, Value.bool s.br, Value.bool s.ma, Value.int .i64 s.us, Value.int .i64 s.ge, Value.int .i64 s.ep, Value.int .i64 s.ve, Value.int .i64 a, Value.int .i64 mo], .int .i64 z] w fun e w' => e = .returned (.agg #[Value.int .i64 (s.bare z).st, Value.int .i64 (s.bare z).ow, Value.int .i64 (s.bare z).sr, Value.bool (s.bare z).br, Value.bool (s.bare z).ma, Value.int .i64 (s.bare z).us, Value.int .i64 (s.bare z).ge, Value.int .i64 (s.bare z).ep, Value.int .i64 (s.bare z).ve]) ∧ Below w.heap.size w w' := by
  go_enter Tryd.func49, Tryd.ntmps49
  go_wp2
  refine bodyPost_ret (ret_slot (p := 4) rfl _ _ _ _ rfl (new2 _ _ _ _) rfl) rfl ⟨rfl, ((Below.refl _ _).alloc (Nat.le_refl _) _).alloc (by simp) _⟩
set_option maxHeartbeats 800000 in
theorem limbo_any (s : Sl) (a mo : Int) (w : World) :
    Calls Tryd.prog 51 #[Value.agg #[Value.int .i64 s.st, Value.int .i64 s.ow, Value.int .i64 s.sr, Value.bool s.br, Value.bool s.ma, Value.int .i64 s.us, Value.int .i64 s.ge, Value.int .i64 s.ep, Value.int .i64 s.ve, Value.int .i64 a, Value.int .i64 mo]] w fun e w' => e = .returned (.agg #[Value.int .i64 (s.limb mo).st, Value.int .i64 (s.limb mo).ow, Value.int .i64 (s.limb mo).sr, Value.bool (s.limb mo).br, Value.bool (s.limb mo).ma, Value.int .i64 (s.limb mo).us, Value.int .i64 (s.limb mo).ge, Value.int .i64 (s.limb mo).ep, Value.int .i64 (s.limb mo).ve]) ∧ Below w.heap.size w w' := by
  go_enter Tryd.func51, Tryd.ntmps51
  go_wp2_with fail
  have hB0 : Below w.heap.size w ((w.alloc (.cells #[Value.int .i64 s.st, Value.int .i64 s.ow, Value.int .i64 s.sr, Value.bool s.br, Value.bool s.ma, Value.int .i64 s.us, Value.int .i64 s.ge, Value.int .i64 s.ep, Value.int .i64 s.ve, Value.int .i64 a, Value.int .i64 mo] 39)).alloc (.cells #[Value.int .i64 0, Value.int .i64 0, Value.int .i64 0, Value.bool false, Value.bool false, Value.int .i64 0, Value.int .i64 0, Value.int .i64 0, Value.int .i64 0] 23)) := ((Below.refl _ _).alloc (Nat.le_refl _) _).alloc (by simp) _
  have r0 := new2 w (.cells #[Value.int .i64 s.st, Value.int .i64 s.ow, Value.int .i64 s.sr, Value.bool s.br, Value.bool s.ma, Value.int .i64 s.us, Value.int .i64 s.ge, Value.int .i64 s.ep, Value.int .i64 s.ve, Value.int .i64 a, Value.int .i64 mo] 39) 23 #[Value.int .i64 0, Value.int .i64 0, Value.int .i64 0, Value.bool false, Value.bool false, Value.int .i64 0, Value.int .i64 0, Value.int .i64 0, Value.int .i64 0]
  refine (bare_any _ _ _ _ _).mono ?_
  rintro e w1 ⟨rfl, hb⟩
  have r1 := r0.below hb r0.lt
  obtain ⟨hbc, hbf, hz, hB⟩ := bstep (w0 := w) hB0 hb
  simp at hbc hbf hz
  have hz1 : w.heap.size < w1.heap.size := by omega
  have hz2 : w.heap.size + 1 < w1.heap.size := by omega
  clear hb hB0 r0
  go_wp2_with (refine wpList_store_row rfl 23 _ _ rfl _ #[Value.int .i64 (s.limb mo).st, Value.int .i64 (s.limb mo).ow, Value.int .i64 (s.limb mo).sr, Value.bool (s.limb mo).br, Value.bool (s.limb mo).ma, Value.int .i64 (s.limb mo).us, Value.int .i64 (s.limb mo).ge, Value.int .i64 (s.limb mo).ep, Value.int .i64 (s.limb mo).ve] rfl rfl 23 _ (r1.alloc _) (by kernel_rfl) rfl (by simp [Value.oneCell']) ?_)
  refine bodyPost_ret (ret_slot (p := 2) rfl _ _ _ _ rfl ((r1.alloc _).set _) rfl) rfl ⟨rfl, below_setRow (hB.alloc hB.size _) (by omega) _⟩
set_option maxHeartbeats 800000 in
theorem leased_any (s : Sl) (a mo : Int) (w : World) (h0 : 0 ≤ s.us) (h1 : s.us ≤ 63) (h2 : 0 ≤ s.ge) (h3 : s.ge ≤ 4095) :
    Calls Tryd.prog 47 #[Value.agg #[Value.int .i64 s.st, Value.int .i64 s.ow, Value.int .i64 s.sr, Value.bool s.br, Value.bool s.ma, Value.int .i64 s.us, Value.int .i64 s.ge, Value.int .i64 s.ep, Value.int .i64 s.ve, Value.int .i64 a, Value.int .i64 mo]] w fun e w' => e = .returned (.agg #[Value.int .i64 (s.leas a).st, Value.int .i64 (s.leas a).ow, Value.int .i64 (s.leas a).sr, Value.bool (s.leas a).br, Value.bool (s.leas a).ma, Value.int .i64 (s.leas a).us, Value.int .i64 (s.leas a).ge, Value.int .i64 (s.leas a).ep, Value.int .i64 (s.leas a).ve]) ∧ Below w.heap.size w w' := by
  go_enter Tryd.func47, Tryd.ntmps47
  by_cases h : s.us + 1 ≤ 63
  · have Hn := Lib.hid (nus_le h)
    go_wp2_with (first | (go_at_call 15; refine (afterG _ _ (by omega) (by omega)).mono ?_; rintro e w1 ⟨rfl, rfl⟩) | fail)
    have hB0 : Below w.heap.size w ((w.alloc (.cells #[Value.int .i64 s.st, Value.int .i64 s.ow, Value.int .i64 s.sr, Value.bool s.br, Value.bool s.ma, Value.int .i64 (s.us + 1), Value.int .i64 (nge s.ge), Value.int .i64 s.ep, Value.int .i64 s.ve, Value.int .i64 a, Value.int .i64 mo] 39)).alloc (.cells #[Value.int .i64 0, Value.int .i64 0, Value.int .i64 0, Value.bool false, Value.bool false, Value.int .i64 0, Value.int .i64 0, Value.int .i64 0, Value.int .i64 0] 23)) := ((Below.refl _ _).alloc (Nat.le_refl _) _).alloc (by simp) _
    have r0 := new2 w (.cells #[Value.int .i64 s.st, Value.int .i64 s.ow, Value.int .i64 s.sr, Value.bool s.br, Value.bool s.ma, Value.int .i64 (s.us + 1), Value.int .i64 (nge s.ge), Value.int .i64 s.ep, Value.int .i64 s.ve, Value.int .i64 a, Value.int .i64 mo] 39) 23 #[Value.int .i64 0, Value.int .i64 0, Value.int .i64 0, Value.bool false, Value.bool false, Value.int .i64 0, Value.int .i64 0, Value.int .i64 0, Value.int .i64 0]
    refine (become_any ⟨s.st, s.ow, s.sr, s.br, s.ma, (s.us + 1), nge s.ge, s.ep, s.ve⟩ a mo 3 _).mono ?_
    rintro e w1 ⟨rfl, hb⟩
    have r1 := r0.below hb r0.lt
    obtain ⟨hbc, hbf, hz, hB⟩ := bstep (w0 := w) hB0 hb
    simp at hbc hbf hz
    have hz1 : w.heap.size < w1.heap.size := by omega
    have hz2 : w.heap.size + 1 < w1.heap.size := by omega
    clear hb hB0 r0
    rw [Hn.out]
    go_wp2_with (refine wpList_store_row rfl 23 _ _ rfl _ #[Value.int .i64 (s.leas a).st, Value.int .i64 (s.leas a).ow, Value.int .i64 (s.leas a).sr, Value.bool (s.leas a).br, Value.bool (s.leas a).ma, Value.int .i64 (s.leas a).us, Value.int .i64 (s.leas a).ge, Value.int .i64 (s.leas a).ep, Value.int .i64 (s.leas a).ve] rfl rfl 23 _ r1 (by kernel_rfl) rfl (by simp [Value.oneCell']) ?_)
    refine bodyPost_ret (ret_slot (p := 2) rfl _ _ _ _ rfl (r1.set _) rfl) rfl ⟨rfl, below_setRow hB (by omega) _⟩
  · have Hn := Lib.hid (nus_gt h)
    go_wp2_with (first | (go_at_call 15; refine (afterG _ _ (by omega) (by omega)).mono ?_; rintro e w1 ⟨rfl, rfl⟩) | fail)
    have hB0 : Below w.heap.size w ((w.alloc (.cells #[Value.int .i64 s.st, Value.int .i64 s.ow, Value.int .i64 s.sr, Value.bool s.br, Value.bool s.ma, Value.int .i64 63, Value.int .i64 (nge s.ge), Value.int .i64 s.ep, Value.int .i64 s.ve, Value.int .i64 a, Value.int .i64 mo] 39)).alloc (.cells #[Value.int .i64 0, Value.int .i64 0, Value.int .i64 0, Value.bool false, Value.bool false, Value.int .i64 0, Value.int .i64 0, Value.int .i64 0, Value.int .i64 0] 23)) := ((Below.refl _ _).alloc (Nat.le_refl _) _).alloc (by simp) _
    have r0 := new2 w (.cells #[Value.int .i64 s.st, Value.int .i64 s.ow, Value.int .i64 s.sr, Value.bool s.br, Value.bool s.ma, Value.int .i64 63, Value.int .i64 (nge s.ge), Value.int .i64 s.ep, Value.int .i64 s.ve, Value.int .i64 a, Value.int .i64 mo] 39) 23 #[Value.int .i64 0, Value.int .i64 0, Value.int .i64 0, Value.bool false, Value.bool false, Value.int .i64 0, Value.int .i64 0, Value.int .i64 0, Value.int .i64 0]
    refine (become_any ⟨s.st, s.ow, s.sr, s.br, s.ma, 63, nge s.ge, s.ep, s.ve⟩ a mo 3 _).mono ?_
    rintro e w1 ⟨rfl, hb⟩
    have r1 := r0.below hb r0.lt
    obtain ⟨hbc, hbf, hz, hB⟩ := bstep (w0 := w) hB0 hb
    simp at hbc hbf hz
    have hz1 : w.heap.size < w1.heap.size := by omega
    have hz2 : w.heap.size + 1 < w1.heap.size := by omega
    clear hb hB0 r0
    rw [Hn.out]
    go_wp2_with (refine wpList_store_row rfl 23 _ _ rfl _ #[Value.int .i64 (s.leas a).st, Value.int .i64 (s.leas a).ow, Value.int .i64 (s.leas a).sr, Value.bool (s.leas a).br, Value.bool (s.leas a).ma, Value.int .i64 (s.leas a).us, Value.int .i64 (s.leas a).ge, Value.int .i64 (s.leas a).ep, Value.int .i64 (s.leas a).ve] rfl rfl 23 _ r1 (by kernel_rfl) rfl (by simp [Value.oneCell']) ?_)
    refine bodyPost_ret (ret_slot (p := 2) rfl _ _ _ _ rfl (r1.set _) rfl) rfl ⟨rfl, below_setRow hB (by omega) _⟩
/-- the library's table of trailing noughts lies in the third variable -/
def tzL : List Int := [0, 1, 56, 2, 57, 49, 28, 3, 61, 58, 42, 50, 38, 29, 17, 4, 62, 47, 59, 36, 45, 43, 51, 22, 53, 39, 33, 30, 24, 18, 12, 5, 63, 55, 48, 27, 60, 41, 37, 16, 46, 35, 44, 21, 52, 32, 23, 11, 54, 26, 40, 15, 34, 20, 31, 10, 25, 14, 19, 9, 13, 8, 7, 6]
def TzAt (W : World) : Prop := ∃ t fr, W.heap[2]? = some (.cells (tzL.map (Value.int .u8)).toArray t fr)
theorem TzAt.lt {W : World} (h : TzAt W) : 2 < W.heap.size := by
  obtain ⟨t, fr, h⟩ := h
  exact (Array.getElem?_eq_some_iff.1 h).1
theorem TzAt.drew {W : World} (h : TzAt W) : TzAt W.drew := h
theorem TzAt.below {W W1 : World} {n : Nat} (h : TzAt W) (hB : Below n W W1) (hn : 2 < n) : TzAt W1 := by
  obtain ⟨t, fr, h⟩ := h
  exact ⟨t, fr, (hB.block 2 hn).trans h⟩
theorem tz_at {k : Nat} (hk : k < 64) : (tzL.map (Value.int .u8)).toArray[k]? = some (Value.int .u8 (tzL.getD k 0)) := by
  have h : k < tzL.length := hk
  simp [h]
theorem TzAt.cell {W : World} (h : TzAt W) {k : Nat} (hk : k < 64) : W.cell? ⟨2, k, none⟩ = some (Value.int .u8 (tzL.getD k 0)) := by
  obtain ⟨t, fr, h⟩ := h
  rw [cell_of_row W 2 k _ t fr h]
  exact tz_at hk
def tzX (x : Int) : Int := IntKind.u64.wrap (bits .and .u64 x (IntKind.u64.wrap (-x)) * 285870213051353865) / 288230376151711744
theorem tzX_bd (x : Int) : ∃ k : Nat, k < 64 ∧ tzX x = k := by
  refine ⟨(tzX x).toNat, ?_, ?_⟩ <;> unfold tzX <;> rw [IntKind.wrap_u64] <;> omega
def tzI (x : Int) : Int := tzL.getD (tzX x).toNat 0
theorem tzL_bd : ∀ k : Fin 64, 0 ≤ tzL.getD k.val 0 ∧ tzL.getD k.val 0 ≤ 63 := by decide +kernel
theorem tzI_bd (x : Int) : 0 ≤ tzI x ∧ tzI x ≤ 63 := by
  obtain ⟨k, hk, e⟩ := tzX_bd x
  unfold tzI
  rw [e]
  exact tzL_bd ⟨k, hk⟩
set_option maxHeartbeats 800000 in
theorem tz_any (x : Int) (w : World) (hT : TzAt w) (h0 : 0 < x) (h1 : x ≤ 18446744073709551615) :
    Calls Tryd.prog 53 #[.int .u64 x] w fun e w' => e = .returned (.int .i64 (tzI x)) ∧ w = w' := by
  go_enter Tryd.func53, Tryd.ntmps53
  obtain ⟨k, hk, ek⟩ := tzX_bd x
  have Hk := Lib.hid ek
  have hc := hT.cell hk
  have hb := tzL_bd ⟨k, hk⟩
  unfold tzX at ek
  have hx : (x == 0) = false := by simp; omega
  go_wp2
  go_ret
  refine ⟨ret_int ?_, rfl⟩
  have hb2 : 0 ≤ tzL[k]?.getD 0 ∧ tzL[k]?.getD 0 ≤ 63 := by simpa using hb
  have e : tzI x = tzL[k]?.getD 0 := by unfold tzI; rw [Hk.out]; simp
  rw [e]
  unfold wrap64
  omega
end Go.Proofs.YtdiipmejkanhfaaDoor
