/- A number put into two bytes of a piece; the sum's parts. -/
import Derived.Test.YtbkaiffecnomjaaBits
namespace Go.Proofs.Ytbkaiffecnomjaa
open Go.RowKit
attribute [local go_sem ↓] Go.wp_at_zero Go.wp_at_succ

set_option maxRecDepth 100000 in
set_option maxHeartbeats 2000000 in
theorem put_6 (n : Int) (b : Nat) (p : Pc) (w : World) (hr : RowAt w b 43 #[Value.int .u8 p.b0, Value.int .u8 p.b1, Value.int .u8 p.b2, Value.int .u8 p.b3, Value.int .u8 p.b4, Value.int .u8 p.b5, Value.int .u8 p.b6, Value.int .u8 p.b7, Value.int .u8 p.b8, Value.int .u8 p.b9, Value.int .u8 p.b10, Value.int .u8 p.b11]) :
    Calls Try.prog 22 #[.pointer (some ⟨b, 0, none⟩), .int .i64 6, .int .i64 n] w fun e w' => e = .returned (.tuple #[]) ∧ RowAt w' b 43 #[Value.int .u8 ({ p with b6 := n % 256, b7 := n / 256 % 256 }).b0, Value.int .u8 ({ p with b6 := n % 256, b7 := n / 256 % 256 }).b1, Value.int .u8 ({ p with b6 := n % 256, b7 := n / 256 % 256 }).b2, Value.int .u8 ({ p with b6 := n % 256, b7 := n / 256 % 256 }).b3, Value.int .u8 ({ p with b6 := n % 256, b7 := n / 256 % 256 }).b4, Value.int .u8 ({ p with b6 := n % 256, b7 := n / 256 % 256 }).b5, Value.int .u8 ({ p with b6 := n % 256, b7 := n / 256 % 256 }).b6, Value.int .u8 ({ p with b6 := n % 256, b7 := n / 256 % 256 }).b7, Value.int .u8 ({ p with b6 := n % 256, b7 := n / 256 % 256 }).b8, Value.int .u8 ({ p with b6 := n % 256, b7 := n / 256 % 256 }).b9, Value.int .u8 ({ p with b6 := n % 256, b7 := n / 256 % 256 }).b10, Value.int .u8 ({ p with b6 := n % 256, b7 := n / 256 % 256 }).b11] ∧ Below b w w' := by
  have k6 := hr.cell 6 rfl
  have k7 := hr.cell 7 rfl
  have f6 := hr.frozen 6
  have f7 := hr.frozen 7
  go_enter Try.func22, Try.ntmps22
  go_wp2_with fail
  go_region_with (fail)
  all_goals go_wp2
  all_goals go_end0
  all_goals exact ⟨rfl, ((hr.put 6 (vB (n % 256))).put 7 (vB (n / 256 % 256))).drew, bdrew1 (((Below.refl _ _).setCell (p := ⟨b, 6, none⟩) (Nat.le_refl _) _).setCell (p := ⟨b, 7, none⟩) (Nat.le_refl _) _)⟩
set_option maxRecDepth 100000 in
set_option maxHeartbeats 2000000 in
theorem put_8 (n : Int) (b : Nat) (p : Pc) (w : World) (hr : RowAt w b 43 #[Value.int .u8 p.b0, Value.int .u8 p.b1, Value.int .u8 p.b2, Value.int .u8 p.b3, Value.int .u8 p.b4, Value.int .u8 p.b5, Value.int .u8 p.b6, Value.int .u8 p.b7, Value.int .u8 p.b8, Value.int .u8 p.b9, Value.int .u8 p.b10, Value.int .u8 p.b11]) :
    Calls Try.prog 22 #[.pointer (some ⟨b, 0, none⟩), .int .i64 8, .int .i64 n] w fun e w' => e = .returned (.tuple #[]) ∧ RowAt w' b 43 #[Value.int .u8 ({ p with b8 := n % 256, b9 := n / 256 % 256 }).b0, Value.int .u8 ({ p with b8 := n % 256, b9 := n / 256 % 256 }).b1, Value.int .u8 ({ p with b8 := n % 256, b9 := n / 256 % 256 }).b2, Value.int .u8 ({ p with b8 := n % 256, b9 := n / 256 % 256 }).b3, Value.int .u8 ({ p with b8 := n % 256, b9 := n / 256 % 256 }).b4, Value.int .u8 ({ p with b8 := n % 256, b9 := n / 256 % 256 }).b5, Value.int .u8 ({ p with b8 := n % 256, b9 := n / 256 % 256 }).b6, Value.int .u8 ({ p with b8 := n % 256, b9 := n / 256 % 256 }).b7, Value.int .u8 ({ p with b8 := n % 256, b9 := n / 256 % 256 }).b8, Value.int .u8 ({ p with b8 := n % 256, b9 := n / 256 % 256 }).b9, Value.int .u8 ({ p with b8 := n % 256, b9 := n / 256 % 256 }).b10, Value.int .u8 ({ p with b8 := n % 256, b9 := n / 256 % 256 }).b11] ∧ Below b w w' := by
  have k6 := hr.cell 8 rfl
  have k7 := hr.cell 9 rfl
  have f6 := hr.frozen 8
  have f7 := hr.frozen 9
  go_enter Try.func22, Try.ntmps22
  go_wp2_with fail
  go_region_with (fail)
  all_goals go_wp2
  all_goals go_end0
  all_goals exact ⟨rfl, ((hr.put 8 (vB (n % 256))).put 9 (vB (n / 256 % 256))).drew, bdrew1 (((Below.refl _ _).setCell (p := ⟨b, 8, none⟩) (Nat.le_refl _) _).setCell (p := ⟨b, 9, none⟩) (Nat.le_refl _) _)⟩
set_option maxRecDepth 100000 in
set_option maxHeartbeats 2000000 in
theorem put_10 (n : Int) (b : Nat) (p : Pc) (w : World) (hr : RowAt w b 43 #[Value.int .u8 p.b0, Value.int .u8 p.b1, Value.int .u8 p.b2, Value.int .u8 p.b3, Value.int .u8 p.b4, Value.int .u8 p.b5, Value.int .u8 p.b6, Value.int .u8 p.b7, Value.int .u8 p.b8, Value.int .u8 p.b9, Value.int .u8 p.b10, Value.int .u8 p.b11]) :
    Calls Try.prog 22 #[.pointer (some ⟨b, 0, none⟩), .int .i64 10, .int .i64 n] w fun e w' => e = .returned (.tuple #[]) ∧ RowAt w' b 43 #[Value.int .u8 ({ p with b10 := n % 256, b11 := n / 256 % 256 }).b0, Value.int .u8 ({ p with b10 := n % 256, b11 := n / 256 % 256 }).b1, Value.int .u8 ({ p with b10 := n % 256, b11 := n / 256 % 256 }).b2, Value.int .u8 ({ p with b10 := n % 256, b11 := n / 256 % 256 }).b3, Value.int .u8 ({ p with b10 := n % 256, b11 := n / 256 % 256 }).b4, Value.int .u8 ({ p with b10 := n % 256, b11 := n / 256 % 256 }).b5, Value.int .u8 ({ p with b10 := n % 256, b11 := n / 256 % 256 }).b6, Value.int .u8 ({ p with b10 := n % 256, b11 := n / 256 % 256 }).b7, Value.int .u8 ({ p with b10 := n % 256, b11 := n / 256 % 256 }).b8, Value.int .u8 ({ p with b10 := n % 256, b11 := n / 256 % 256 }).b9, Value.int .u8 ({ p with b10 := n % 256, b11 := n / 256 % 256 }).b10, Value.int .u8 ({ p with b10 := n % 256, b11 := n / 256 % 256 }).b11] ∧ Below b w w' := by
  have k6 := hr.cell 10 rfl
  have k7 := hr.cell 11 rfl
  have f6 := hr.frozen 10
  have f7 := hr.frozen 11
  go_enter Try.func22, Try.ntmps22
  go_wp2_with fail
  go_region_with (fail)
  all_goals go_wp2
  all_goals go_end0
  all_goals exact ⟨rfl, ((hr.put 10 (vB (n % 256))).put 11 (vB (n / 256 % 256))).drew, bdrew1 (((Below.refl _ _).setCell (p := ⟨b, 10, none⟩) (Nat.le_refl _) _).setCell (p := ⟨b, 11, none⟩) (Nat.le_refl _) _)⟩

def bI (b : Bool) (m : Int) : Int := if b then m else 0
set_option maxRecDepth 100000 in
set_option maxHeartbeats 2000000 in
theorem sum_any (m : Int) (so : Bool) (b : Nat) (p : Pc) (w : World) (hr : RowAt w b 43 #[Value.int .u8 p.b0, Value.int .u8 p.b1, Value.int .u8 p.b2, Value.int .u8 p.b3, Value.int .u8 p.b4, Value.int .u8 p.b5, Value.int .u8 p.b6, Value.int .u8 p.b7, Value.int .u8 p.b8, Value.int .u8 p.b9, Value.int .u8 p.b10, Value.int .u8 p.b11]) (h0 : 0 ≤ p.b3) (h1 : 0 ≤ m) (h2 : p.b3 + m ≤ 255) :
    Calls Try.prog 21 #[.pointer (some ⟨b, 0, none⟩), .int .u8 m, .bool so] w fun e w' => e = .returned (.tuple #[]) ∧ RowAt w' b 43 #[Value.int .u8 ({ p with b3 := p.b3 + bI so m }).b0, Value.int .u8 ({ p with b3 := p.b3 + bI so m }).b1, Value.int .u8 ({ p with b3 := p.b3 + bI so m }).b2, Value.int .u8 ({ p with b3 := p.b3 + bI so m }).b3, Value.int .u8 ({ p with b3 := p.b3 + bI so m }).b4, Value.int .u8 ({ p with b3 := p.b3 + bI so m }).b5, Value.int .u8 ({ p with b3 := p.b3 + bI so m }).b6, Value.int .u8 ({ p with b3 := p.b3 + bI so m }).b7, Value.int .u8 ({ p with b3 := p.b3 + bI so m }).b8, Value.int .u8 ({ p with b3 := p.b3 + bI so m }).b9, Value.int .u8 ({ p with b3 := p.b3 + bI so m }).b10, Value.int .u8 ({ p with b3 := p.b3 + bI so m }).b11] ∧ Below b w w' := by
  have k3 := hr.cell 3 rfl
  have f3 := hr.frozen 3
  have hw : IntKind.u8.wrap (p.b3 + m) = p.b3 + m := by rw [IntKind.wrap_u8]; omega
  cases so with
  | false =>
    have Hb := Lib.hid (show p.b3 + bI false m = p.b3 by simp [bI])
    go_enter Try.func21, Try.ntmps21
    go_wp2
    go_end0
    rw [Hb.out]
    exact ⟨rfl, hr, Below.refl _ _⟩
  | true =>
    go_enter Try.func21, Try.ntmps21
    go_wp2_with fail
    go_region_with (fail)
    all_goals go_wp2
    all_goals go_end0
    all_goals exact ⟨rfl, (hr.put 3 (vB (p.b3 + m))).drew, bdrew1 ((Below.refl _ _).setCell (p := ⟨b, 3, none⟩) (Nat.le_refl _) _)⟩
end Go.Proofs.Ytbkaiffecnomjaa
