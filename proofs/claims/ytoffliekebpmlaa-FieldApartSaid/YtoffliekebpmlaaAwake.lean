/- What the laws' own 'awake' answers: true; nothing that was there changes. No condition. -/
import Derived.Test.YtoffliekebpmlaaPack
namespace Go.Proofs.Ytoffliekebpmlaa
open Go.RowKit

theorem put_5 : putI 0 4 3 5 = 80 := by decide +kernel
theorem get_5 : getI 80 4 3 = 5 := by decide +kernel
theorem get_2 : getI 80 5 2 = 2 := by decide +kernel
theorem max_7 : maxI 3 = 7 := by decide +kernel
theorem pack_80 : packI [(4, 3)] [5] = 80 := by decide +kernel
theorem pack_ok : packOk [(4, 3)] [5] = true := by decide +kernel
theorem parts_5 : partsI 80 [(4, 3)] = [5] := by decide +kernel
theorem apart_1 : apartB [(4, 3)] = true := by decide +kernel
theorem right_1 : rightB 4 3 = true := by decide +kernel
theorem ints_5 : intsB [5] [5] = true := by decide +kernel

/-- the first new block is the box of the example's field -/
structure Aw (w W : World) : Prop where
  c0 : W.cell? ⟨w.heap.size, 0, none⟩ = some (.int .i64 4)
  c1 : W.cell? ⟨w.heap.size, 1, none⟩ = some (.int .i64 3)
  lt : w.heap.size < W.heap.size
  below : Below w.heap.size w W
theorem Aw.alloc {w W : World} (h : Aw w W) (o : Obj) : Aw w (W.alloc o) :=
  ⟨(World.cell?_alloc_lt _ _ _ h.lt).trans h.c0, (World.cell?_alloc_lt _ _ _ h.lt).trans h.c1, by have := h.lt; simp; omega, h.below.alloc (Nat.le_of_lt h.lt) _⟩
theorem Aw.call {w W W1 : World} (h : Aw w W) (hb : Below W.heap.size W W1) : Aw w W1 :=
  ⟨(hb.cell (p := ⟨w.heap.size, 0, none⟩) h.lt).trans h.c0, (hb.cell (p := ⟨w.heap.size, 1, none⟩) h.lt).trans h.c1, Nat.lt_of_lt_of_le h.lt hb.size, h.below.trans (hb.mono (Nat.le_of_lt h.lt))⟩
theorem Fds.one {W : World} {b : Nat} {x y : Int} (h0 : W.cell? ⟨b, 0, none⟩ = some (.int .i64 x)) (h1 : W.cell? ⟨b, 1, none⟩ = some (.int .i64 y)) (hb : b < W.heap.size) : Fds W W.heap.size (some ⟨b, 0, none⟩) [(x, y)] := by
  refine .inr ⟨b, 0, rfl, hb, fun k p q hk => ?_⟩
  match k, hk with
  | 0, hk => simp at hk; obtain ⟨rfl, rfl⟩ := hk; exact ⟨h0, h1⟩
theorem IS.one {W : World} {b : Nat} {x : Int} (h0 : W.cell? ⟨b, 0, none⟩ = some (.int .i64 x)) (hb : b < W.heap.size) : IS W W.heap.size (some ⟨b, 0, none⟩) [x] := by
  refine .inr ⟨b, 0, rfl, hb, fun k p hk => ?_⟩
  match k, hk with
  | 0, hk => simp at hk; subst hk; exact h0

theorem pack_ex (b b2 : Nat) (W : World) (h0 : W.cell? ⟨b, 0, none⟩ = some (.int .i64 4)) (h1 : W.cell? ⟨b, 1, none⟩ = some (.int .i64 3)) (h2 : W.cell? ⟨b2, 0, none⟩ = some (.int .i64 5)) (hb : b < W.heap.size) (hb2 : b2 < W.heap.size) :
    Calls Try.prog 20 #[.slice (some ⟨b, 0, none⟩) 1 1, .slice (some ⟨b2, 0, none⟩) 1 1] W fun e w' => e = .returned (.tuple #[.int .i64 80, .bool true]) ∧ Below W.heap.size W w' :=
  (pack_any _ _ 1 1 1 1 [(4, 3)] [5] W rfl rfl (by omega) (by omega) (by omega) (Fds.one h0 h1 hb) (IS.one h2 hb2)).mono fun _ _ ⟨h3, h4⟩ => ⟨h3.trans (ret_pack pack_80 pack_ok), h4⟩
theorem parts_ex (b : Nat) (W : World) (h0 : W.cell? ⟨b, 0, none⟩ = some (.int .i64 4)) (h1 : W.cell? ⟨b, 1, none⟩ = some (.int .i64 3)) (hb : b < W.heap.size) :
    Calls Try.prog 25 #[.int .i64 80, .slice (some ⟨b, 0, none⟩) 1 1] W (RetInts W [5]) := by
  have h := parts_any 80 (some ⟨b, 0, none⟩) 1 1 [(4, 3)] W (by omega) (by omega) rfl (by omega) (Fds.one h0 h1 hb)
  rwa [parts_5] at h
theorem apart_ex (b : Nat) (W : World) (h0 : W.cell? ⟨b, 0, none⟩ = some (.int .i64 4)) (h1 : W.cell? ⟨b, 1, none⟩ = some (.int .i64 3)) (hb : b < W.heap.size) :
    Calls Try.prog 22 #[.slice (some ⟨b, 0, none⟩) 1 1] W fun e w' => e = .returned (.bool true) ∧ Below W.heap.size W w' :=
  (apart_any _ 1 1 [(4, 3)] W rfl (by omega) (by omega) (Fds.one h0 h1 hb)).mono fun _ _ ⟨h3, h4⟩ => ⟨h3.trans (ret_bool apart_1), h4⟩
theorem ints_ex (A : Option Addr) (n c b : Nat) (W : World) (hl : [(5 : Int)].length = n) (hx : IS W W.heap.size A [5]) (h2 : W.cell? ⟨b, 0, none⟩ = some (.int .i64 5)) (hb : b < W.heap.size) :
    Calls Try.prog 24 #[.slice A n c, .slice (some ⟨b, 0, none⟩) 1 1] W fun e w' => e = .returned (.bool true) ∧ Below W.heap.size W w' :=
  (ints_any A _ n c 1 1 [5] [5] W hl rfl (by rw [← hl]; decide) hx (IS.one h2 hb)).mono fun _ _ ⟨h3, h4⟩ => ⟨h3.trans (ret_bool ints_5), h4⟩
theorem put_ex (W : World) : Calls Try.prog 18 #[.int .i64 0, .agg #[.int .i64 4, .int .i64 3], .int .i64 5] W fun e w' => e = .returned (.int .i64 80) ∧ Below W.heap.size W w' :=
  (put_any 0 4 3 5 W (by omega) (by omega) (by omega)).mono fun _ _ ⟨h3, h4⟩ => ⟨h3.trans (ret_int put_5), h4⟩
theorem get_ex (W : World) : Calls Try.prog 16 #[.int .i64 80, .agg #[.int .i64 4, .int .i64 3]] W fun e w' => e = .returned (.int .i64 5) ∧ Below W.heap.size W w' :=
  (get_any 80 4 3 W (by omega) (by omega) (by omega) (by omega) (by omega)).mono fun _ _ ⟨h3, h4⟩ => ⟨h3.trans (ret_int get_5), h4⟩
theorem get_ex2 (W : World) : Calls Try.prog 16 #[.int .i64 80, .agg #[.int .i64 5, .int .i64 2]] W fun e w' => e = .returned (.int .i64 2) ∧ Below W.heap.size W w' :=
  (get_any 80 5 2 W (by omega) (by omega) (by omega) (by omega) (by omega)).mono fun _ _ ⟨h3, h4⟩ => ⟨h3.trans (ret_int get_2), h4⟩
theorem max_ex (W : World) : Calls Try.prog 14 #[.agg #[.int .i64 4, .int .i64 3]] W fun e w' => e = .returned (.int .i64 7) ∧ Below W.heap.size W w' :=
  (max_any 4 3 W (by omega) (by omega)).mono fun _ _ ⟨h3, h4⟩ => ⟨h3.trans (ret_int max_7), h4⟩
theorem right_ex (W : World) : Calls Try.prog 13 #[.agg #[.int .i64 4, .int .i64 3]] W fun e w' => e = .returned (.bool true) ∧ Below W.heap.size W w' :=
  (right_any 4 3 W).mono fun _ _ ⟨h3, h4⟩ => ⟨h3.trans (ret_bool right_1), h4⟩

set_option maxRecDepth 100000 in
set_option maxHeartbeats 2000000 in
theorem awake_any (w : World) : Calls Try.prog 11 #[] w fun e w' => e = .returned (.bool true) ∧ Below w.heap.size w w' := by
  have hA : Aw w (w.alloc (.cells #[.int .i64 4, .int .i64 3] 23)) := ⟨by simp, by simp, by simp, (Below.refl _ _).alloc (Nat.le_refl _) _⟩
  go_enter Try.func11, Try.ntmps11
  go_wp2_with fail
  have f1 := (FBox.new (w.alloc (.cells #[.int .i64 4, .int .i64 3] 23)) 4 3).alloc (.cells #[.int .i64 5] 3)
  have f2 := Boxed.new ((w.alloc (.cells #[.int .i64 4, .int .i64 3] 23)).alloc (.cells #[.int .i64 4, .int .i64 3] 23)) 3 (.int .i64 5)
  simp only [World.size_alloc] at f1 f2
  have hP := pack_ex _ _ _ f1.cell0 f1.cell1 f2.cell f1.lt f2.lt
  clear f1 f2
  refine hP.mono ?_
  clear hP
  rintro e w1 ⟨rfl, hb⟩
  replace hA := ((hA.alloc _).alloc _).call hb
  clear hb
  have k0 := hA.c0
  have k1 := hA.c1
  have k2 := hA.lt
  go_wp2_with fail
  refine (put_ex _).mono ?_
  rintro e w2 ⟨rfl, hb⟩
  replace hA := hA.call hb
  clear hb k0 k1 k2
  have k0 := hA.c0
  have k1 := hA.c1
  have k2 := hA.lt
  go_wp2_with fail
  refine (get_ex _).mono ?_
  rintro e w3 ⟨rfl, hb⟩
  replace hA := hA.call hb
  clear hb k0 k1 k2
  have k0 := hA.c0
  have k1 := hA.c1
  have k2 := hA.lt
  go_wp2_with fail
  refine (get_ex2 _).mono ?_
  rintro e w4 ⟨rfl, hb⟩
  replace hA := hA.call hb
  clear hb k0 k1 k2
  have k0 := hA.c0
  have k1 := hA.c1
  have k2 := hA.lt
  go_wp2_with fail
  refine (max_ex _).mono ?_
  rintro e w5 ⟨rfl, hb⟩
  replace hA := hA.call hb
  clear hb k0 k1 k2
  have k0 := hA.c0
  have k1 := hA.c1
  have k2 := hA.lt
  go_wp2_with fail
  refine (parts_ex _ _ (by simp) (by simp) (by simp)).mono ?_
  rintro e w6 ⟨A, n, c, rfl, hn, hc, hI, hb⟩
  replace hA := (hA.alloc _).call hb
  clear hb k0 k1 k2
  have k0 := hA.c0
  have k1 := hA.c1
  have k2 := hA.lt
  go_wp2_with fail
  refine (ints_ex A n c _ _ hn ((hI.below ((Below.refl _ _).alloc (Nat.le_refl _) _)).more (by simp)) (by simp) (by simp)).mono ?_
  rintro e w7 ⟨rfl, hb⟩
  replace hA := (hA.alloc _).call hb
  clear hb k0 k1 k2 hI hn hc
  have k0 := hA.c0
  have k1 := hA.c1
  have k2 := hA.lt
  go_wp2_with fail
  refine (apart_ex _ _ (by simp) (by simp) (by simp)).mono ?_
  rintro e w8 ⟨rfl, hb⟩
  replace hA := (hA.alloc _).call hb
  clear hb k0 k1 k2
  have k0 := hA.c0
  have k1 := hA.c1
  have k2 := hA.lt
  go_wp2_with fail
  refine (right_ex _).mono ?_
  rintro e w9 ⟨rfl, hb⟩
  replace hA := hA.call hb
  go_wp2_with fail
  go_ret
  exact ⟨rfl, hA.below⟩
end Go.Proofs.Ytoffliekebpmlaa
